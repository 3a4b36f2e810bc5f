/-
  auction: candidates.
-/
import Derived.Test.YtbhddfcdnpidkaaV19
namespace Go.Proofs.Ytbhddfcdnpidkaa
set_option linter.unusedVariables false
set_option linter.unusedSimpArgs false
open Go.RowKit Go.Great

theorem infoI : (Try.prog.info? 2).map (fun i => (i.zero, i.size, i.bytes)) = some (some (.int .i64 0), 1, 8) := by kernel_rfl
theorem buildI_run {op : Oper} {a : Act} {p : Int} (x : Operand) (ho : op.op = .buildSlice 73 1 #[(0, x)]) (hx : a.eval x = .int .i64 p) (w : World) : (execOp a.eval op).run Try.prog w = .ok (.value (.slice (some ⟨w.heap.size, 0, none⟩) 1 1)) (w.alloc (.cells #[.int .i64 p] 2)) := by
  unfold execOp
  simp only [ho, List.map_toArray, List.map_cons, List.map_nil, hx]
  kernel_rfl
theorem build86_run {op : Oper} {a : Act} {a1 a2 : Option Addr} {n1 n2 c1 c2 : Nat} (x y : Operand) (ho : op.op = .buildSlice 86 2 #[(0, x), (1, y)]) (hx : a.eval x = .slice a1 n1 c1) (hy : a.eval y = .slice a2 n2 c2) (w : World) : (execOp a.eval op).run Try.prog w = .ok (.value (.slice (some ⟨w.heap.size, 0, none⟩) 2 2)) (w.alloc (.cells #[.slice a1 n1 c1, .slice a2 n2 c2] 58)) := by
  unfold execOp
  simp only [ho, List.map_toArray, List.map_cons, List.map_nil, hx, hy]
  kernel_rfl
theorem ix86_run {op : Oper} {a : Act} {g i : Nat} (x y : Operand) (ho : op.op = .indexAddr 86 x y) (hx : a.eval x = .slice (some ⟨g, 0, none⟩) 2 2) (hy : a.eval y = .int .i64 (i : Int)) (hi : i < 2) (w : World) : (execOp a.eval op).run Try.prog w = .ok (.value (.pointer (some ⟨g, i, none⟩))) w := by
  unfold execOp
  simp only [ho, hx, hy]
  obtain rfl | rfl : i = 0 ∨ i = 1 := by omega
  · kernel_rfl
  · kernel_rfl
theorem ld58_run {op : Oper} {a : Act} {w : World} {g o : Nat} {v : Value} (x : Operand) (ho : op.op = .load 58 x) (hx : a.eval x = .pointer (some ⟨g, o, none⟩)) (h : w.cell? ⟨g, o, none⟩ = some v) : (execOp a.eval op).run Try.prog w = .ok (.value v) w := by
  unfold execOp
  simp only [ho, hx]
  go_simp
theorem lenW_run {op : Oper} {a : Act} {v : Value} {ao : Option Addr} {n c : Nat} (hv : v = .slice ao n c) (x : Operand) (ho : op.op = .call { callee := .builtin .len, args := #[x], argTypes := #[58] }) (hx : a.eval x = v) (w : World) : (execOp a.eval op).run Try.prog w = .ok (.value (.int .i64 (n : Int))) w := by
  subst hv
  unfold execOp
  simp only [ho, resolve, invoke, builtin, Sem.run_bind, Sem.run_pure, Result.andThen_ok, List.map_toArray, List.map_cons, List.map_nil, hx]
  go_simp
theorem row_rangeW {w : World} {g o c i n : Nat} {l : List Wn} {p : Wn} (h : RowAt w 69 4 (.slice (some ⟨g, o, none⟩) n c) n (flatL wL l)) (hp : l[i]? = some p) : w.rangeAt g (o + i * 4) p.cs.toList := fun j u hu => by
  have hj : j < 4 := (List.getElem?_eq_some_iff.1 hu).1
  have := h.cell rfl (j := i * 4 + j) (u := u) (by rw [flatL_get wL_len hp hj]; exact hu)
  rw [← Nat.add_assoc] at this
  exact this
/-- The prices so far; the two rows that they come of. -/
structure CP (w W : World) (v : Value) (D : List Int) (g2 : Nat) (cs : Array Value) : Prop where
  row : RowAt W 2 1 v D.length (D.map eI)
  bel : Below w.heap.size w W
  own : ∀ q, v.ownBlock = some q → w.heap.size ≤ q ∧ q ≠ g2
  blk : Blk W g2 58 cs
  lo : w.heap.size ≤ g2
theorem CP.below {w W W' : World} {v : Value} {D : List Int} {g2 : Nat} {cs : Array Value} (h : CP w W v D g2 cs) (hb : Below W.heap.size W W') : CP w W' v D g2 cs := ⟨h.row.fr (Fr.of_below hb (fun _ => False)) fun _ _ => id, below_step h.bel hb, h.own, h.blk.below hb h.blk.lt, h.lo⟩
theorem CP.app {w W W' : World} {v v' : Value} {D : List Int} {p : Int} {g2 : Nat} {cs : Array Value} (h : CP w W v D g2 cs) (hrow : RowAt W' 2 1 v' (D.length + 1) (D.map eI ++ [eI p])) (hfr : Fr W W' (fun b => v.ownBlock = some b)) (hnew : v'.ownBlock = v.ownBlock ∨ v'.ownBlock = some W.heap.size ∧ ∀ k, k < W.heap.size → W'.heap[k]? = W.heap[k]?) : CP w W' v' (D ++ [p]) g2 cs := by
  refine ⟨?_, ⟨hfr.os.trans h.bel.os, hfr.tape.trans h.bel.tape, hfr.output.trans h.bel.output, Nat.le_trans h.bel.size hfr.size, fun q hq => (hfr.block q (Nat.lt_of_lt_of_le hq h.bel.size) (fun e => by have := (h.own q e).1; omega)).trans (h.bel.block q hq)⟩, fun q hq => ?_, ?_, h.lo⟩
  · rw [List.length_append, List.map_append]
    exact hrow
  · rcases hnew with h1 | ⟨h1, _⟩
    · exact h.own q (h1 ▸ hq)
    · rw [h1] at hq
      injection hq with hq
      have := h.bel.size
      have := h.blk.lt
      omega
  · exact (hfr.block g2 h.blk.lt (fun e => (h.own g2 e).2 rfl)).trans h.blk
/-- What has been gathered ahead of each of the two rows. -/
def gat (ref : Int) (B S : List Wn) (r : Nat) : List Int := ref :: ((if 0 < r then B.map Wn.p else []) ++ if 1 < r then S.map Wn.p else [])
theorem gat_next (ref : Int) (B S : List Wn) {r : Nat} (h : r < 2) : gat ref B S (r + 1) = gat ref B S r ++ (if r = 0 then B else S).map Wn.p := by
  obtain rfl | rfl : r = 0 ∨ r = 1 := by omega
  · simp [gat]
  · simp [gat]
theorem gat_len (ref : Int) (B S : List Wn) (r : Nat) : (gat ref B S r).length ≤ 1 + B.length + S.length := by
  unfold gat
  split <;> split <;> simp <;> omega
set_option maxRecDepth 100000 in
set_option maxHeartbeats 4000000 in
theorem candidates_any {w : World} {B S : List Wn} {a a' : Option Addr} {c c' : Nat} (hb : RowAt w 69 4 (.slice a B.length c) B.length (flatL wL B)) (hs : RowAt w 69 4 (.slice a' S.length c') S.length (flatL wL S)) (hbl : B.length ≤ 4398046511104) (hsl : S.length ≤ 4398046511104) (ref : Int) :
    Calls Try.prog 44 #[.slice a B.length c, .slice a' S.length c', .int .i64 ref] w fun e w' => ∃ v, e = .returned v ∧ Hid (RowAt w' 2 1 v (cndL (gat ref B S 2)).length ((cndL (gat ref B S 2)).map eI) ∧ Below w.heap.size w w' ∧ ∀ q, v.ownBlock = some q → w.heap.size ≤ q) := by
  obtain ⟨i0, hi0, hz0, hz1, hz2⟩ := info_parts infoI
  have HI : Hid (Try.prog.info? 2 = some i0 ∧ i0.zero = some (.int .i64 0) ∧ i0.size = 1 ∧ i0.bytes = 8) := ⟨hi0, hz0, hz1, hz2⟩
  clear hi0 hz0 hz1 hz2
  obtain ⟨nb, hnb⟩ : ∃ nb, nb = B.length := ⟨_, rfl⟩
  obtain ⟨ns, hns⟩ : ∃ ns, ns = S.length := ⟨_, rfl⟩
  have HR : Hid (RowAt w 69 4 (.slice a nb c) nb (flatL wL B) ∧ RowAt w 69 4 (.slice a' ns c') ns (flatL wL S) ∧ nb = B.length ∧ ns = S.length ∧ nb ≤ 4398046511104 ∧ ns ≤ 4398046511104) := ⟨by rw [hnb]; exact hb, by rw [hns]; exact hs, hnb, hns, by omega, by omega⟩
  rw [← hnb, ← hns]
  clear hb hs hbl hsl hnb hns
  generalize hXX : (fun (e : Ending) (w' : World) => ∃ v, e = .returned v ∧ Hid (RowAt w' 2 1 v (cndL (gat ref B S 2)).length ((cndL (gat ref B S 2)).map eI) ∧ Below w.heap.size w w' ∧ ∀ q, v.ownBlock = some q → w.heap.size ≤ q)) = X
  have HXX : Hid (∀ (e : Ending) (w' : World), (∃ v, e = .returned v ∧ RowAt w' 2 1 v (cndL (gat ref B S 2)).length ((cndL (gat ref B S 2)).map eI) ∧ Below w.heap.size w w' ∧ ∀ q, v.ownBlock = some q → w.heap.size ≤ q) → X e w') := fun e w' h => by rw [← hXX]; exact h
  clear hXX
  go_enter Try.func44, Try.ntmps44
  go_upto_region 1 with fail
  rename_i K hK
  refine wp_region_lit ?_
  refine wpList_runTo rfl (some 12) rfl (.int .i64 ref) w (by kernel_rfl) ?_
  simp only [Act.put, List.setIfInBounds_toArray, List.set_cons_zero, List.set_cons_succ]
  refine wpList_runTo rfl (some 13) rfl (.slice (some ⟨w.heap.size, 0, none⟩) 1 1) (w.alloc (.cells #[.int .i64 ref] 2)) (by exact buildI_run (.tmp 12) rfl (by kernel_rfl) _) ?_
  simp only [Act.put, List.setIfInBounds_toArray, List.set_cons_zero, List.set_cons_succ]
  refine wpList_runTo rfl (some 7) rfl (.slice (some ⟨w.heap.size, 0, none⟩) 1 1) (w.alloc (.cells #[.int .i64 ref] 2)) (by kernel_rfl) ?_
  simp only [Act.put, List.setIfInBounds_toArray, List.set_cons_zero, List.set_cons_succ]
  refine wpList_nil ?_
  refine hK _ _ ?_
  clear hK
  have HA : Hid (RowAt (w.alloc (.cells #[.int .i64 ref] 2)) 2 1 (.slice (some ⟨w.heap.size, 0, none⟩) 1 1) 1 [eI ref] ∧ Below w.heap.size w (w.alloc (.cells #[.int .i64 ref] 2)) ∧ w.heap.size < (w.alloc (.cells #[.int .i64 ref] 2)).heap.size) := ⟨⟨rfl, .inr ⟨w.heap.size, 0, 1, _, rfl, heap_alloc_new w _, Nat.le_refl _, by unfold maxLen; omega, by simp, rfl⟩⟩, (Below.refl _ w).alloc (Nat.le_refl _) _, by simp⟩
  generalize w.alloc (.cells #[.int .i64 ref] 2) = w1 at *
  obtain ⟨b1, hb1⟩ : ∃ b1, b1 = w.heap.size := ⟨_, rfl⟩
  have HA1 : Hid (RowAt w1 2 1 (.slice (some ⟨b1, 0, none⟩) 1 1) 1 [eI ref] ∧ Below w.heap.size w w1 ∧ b1 < w1.heap.size ∧ b1 = w.heap.size) := by rw [hb1]; exact ⟨HA.out.1, HA.out.2.1, HA.out.2.2, rfl⟩
  rw [← hb1]
  clear HA hb1
  go_upto_region 2 with fail
  rename_i K hK
  refine wp_region_lit ?_
  refine wpList_runTo rfl (some 14) rfl (.slice a nb c) w1 (by kernel_rfl) ?_
  simp only [Act.put, List.setIfInBounds_toArray, List.set_cons_zero, List.set_cons_succ]
  refine wpList_runTo rfl (some 15) rfl (.slice a' ns c') w1 (by kernel_rfl) ?_
  simp only [Act.put, List.setIfInBounds_toArray, List.set_cons_zero, List.set_cons_succ]
  refine wpList_runTo rfl (some 16) rfl (.slice (some ⟨w1.heap.size, 0, none⟩) 2 2) (w1.alloc (.cells #[.slice a nb c, .slice a' ns c'] 58)) (by exact build86_run (.tmp 14) (.tmp 15) rfl (by kernel_rfl) (by kernel_rfl) _) ?_
  simp only [Act.put, List.setIfInBounds_toArray, List.set_cons_zero, List.set_cons_succ]
  refine wpList_runTo rfl (some 17) rfl (.int .i64 2) (w1.alloc (.cells #[.slice a nb c, .slice a' ns c'] 58)) (by kernel_rfl) ?_
  simp only [Act.put, List.setIfInBounds_toArray, List.set_cons_zero, List.set_cons_succ]
  refine wpList_runTo rfl (some 18) rfl (.int .i64 0) (w1.alloc (.cells #[.slice a nb c, .slice a' ns c'] 58)) (by kernel_rfl) ?_
  simp only [Act.put, List.setIfInBounds_toArray, List.set_cons_zero, List.set_cons_succ]
  refine wpList_nil ?_
  refine hK _ _ ?_
  clear hK
  have HB0 : Hid (CP w (w1.alloc (.cells #[.slice a nb c, .slice a' ns c'] 58)) (.slice (some ⟨b1, 0, none⟩) 1 1) (gat ref B S 0) w1.heap.size #[.slice a nb c, .slice a' ns c']) := by
    have hal : Below w1.heap.size w1 (w1.alloc (.cells #[.slice a nb c, .slice a' ns c'] 58)) := (Below.refl _ w1).alloc (Nat.le_refl _) _
    refine ⟨HA1.out.1.fr (Fr.of_below hal (fun _ => False)) fun _ _ => id, below_step HA1.out.2.1 hal, fun q hq => ?_, Blk.new w1 _ _, HA1.out.2.1.size⟩
    have e : b1 = q := by simpa [Value.ownBlock] using hq
    have h1 := HA1.out.2.2.1
    have h2 := HA1.out.2.2.2
    omega
  generalize w1.alloc (.cells #[.slice a nb c, .slice a' ns c'] 58) = w2 at *
  generalize w1.heap.size = g2 at *
  clear HA1
  go_wp2
  go_loopw [7, 18] (fun x7 x18 wr => ∃ (r : Nat) (xv : Value), xv = x7 ∧ r ≤ 2 ∧ x18 = .int .i64 (r : Int) ∧ Hid (CP w wr xv (gat ref B S r) g2 #[.slice a nb c, .slice a' ns c'])) (fun _ x18 _ => 2 - (RowKit.intOf x18).toNat)
  case atStart => exact ⟨0, _, rfl, by omega, rfl, HB0.out⟩
  case round => as_aux_lemma =>
    clear HB0
    obtain ⟨r, xv, rfl, hr, rfl, HB⟩ := hrel
    by_cases hr2 : r < 2
    · have hr2' : (r : Int) < 2 := by omega
      -- the row of this round
      obtain ⟨Y, ay, ny, cy, HY⟩ : ∃ (Y : List Wn) (ay : Option Addr) (ny cy : Nat), Hid (gat ref B S (r + 1) = gat ref B S r ++ Y.map Wn.p ∧ (∀ W, Blk W g2 58 #[.slice a nb c, .slice a' ns c'] → W.cell? ⟨g2, r, none⟩ = some (.slice ay ny cy)) ∧ RowAt w 69 4 (.slice ay ny cy) ny (flatL wL Y) ∧ ny = Y.length ∧ ny ≤ 4398046511104 ∧ (gat ref B S r).length ≤ 8796093022209) := by
        have hlen := gat_len ref B S r
        have h5 := HR.out.2.2
        obtain rfl | rfl : r = 0 ∨ r = 1 := by omega
        · exact ⟨B, a, nb, c, gat_next ref B S (by omega), fun W h => h.cell 0, HR.out.1, h5.1, h5.2.2.1, by omega⟩
        · exact ⟨S, a', ns, c', gat_next ref B S (by omega), fun W h => h.cell 1, HR.out.2.1, h5.2.1, h5.2.2.2, by omega⟩
      have hny9 : ny ≤ 4398046511104 := HY.out.2.2.2.2.1
      obtain ⟨G, hG⟩ : ∃ G, G = gat ref B S r := ⟨_, rfl⟩
      have HG : Hid (gat ref B S (r + 1) = G ++ Y.map Wn.p ∧ G.length ≤ 8796093022209) := by rw [hG]; exact ⟨HY.out.1, HY.out.2.2.2.2.2⟩
      rw [← hG] at HB
      clear hG
      have hcl := HY.out.2.1 _ HB.out.blk
      go_upto_region 4 with fail
      rename_i K hK
      refine wp_region_lit ?_
      refine wpList_runTo rfl (some 20) rfl (.pointer (some ⟨g2, r, none⟩)) wr (by exact ix86_run (.tmp 16) (.tmp 18) rfl (by kernel_rfl) (by kernel_rfl) hr2 _) ?_
      simp only [Act.put, List.setIfInBounds_toArray, List.set_cons_zero, List.set_cons_succ]
      refine wpList_runTo rfl (some 21) rfl (.slice ay ny cy) wr (by exact ld58_run (.tmp 20) rfl (by kernel_rfl) hcl) ?_
      simp only [Act.put, List.setIfInBounds_toArray, List.set_cons_zero, List.set_cons_succ]
      refine wpList_runTo rfl (some 9) rfl (.slice ay ny cy) wr (by kernel_rfl) ?_
      simp only [Act.put, List.setIfInBounds_toArray, List.set_cons_zero, List.set_cons_succ]
      refine wpList_nil ?_
      refine hK _ _ ?_
      clear hK hcl
      go_upto_region 5 with fail
      rename_i K hK
      refine wp_region_lit ?_
      refine wpList_runTo rfl (some 22) rfl (.slice ay ny cy) wr (by kernel_rfl) ?_
      simp only [Act.put, List.setIfInBounds_toArray, List.set_cons_zero, List.set_cons_succ]
      refine wpList_runTo rfl (some 23) rfl (.int .i64 (ny : Int)) wr (by exact lenW_run (v := .slice ay ny cy) (ao := ay) (n := ny) (c := cy) rfl (.tmp 22) rfl (by kernel_rfl) _) ?_
      simp only [Act.put, List.setIfInBounds_toArray, List.set_cons_zero, List.set_cons_succ]
      refine wpList_runTo rfl (some 24) rfl (.int .i64 0) wr (by kernel_rfl) ?_
      simp only [Act.put, List.setIfInBounds_toArray, List.set_cons_zero, List.set_cons_succ]
      refine wpList_nil ?_
      refine hK _ _ ?_
      clear hK
      have HB1 : Hid (CP w wr xv (G ++ (Y.take 0).map Wn.p) g2 #[.slice a nb c, .slice a' ns c']) := by
        show CP w wr xv (G ++ (Y.take 0).map Wn.p) g2 #[.slice a nb c, .slice a' ns c']
        rw [List.take_zero, List.map_nil, List.append_nil]
        exact HB.out
      clear HB
      go_wp2
      go_loopw [7, 24] (fun x7 x24 wr => ∃ (i : Nat) (xv : Value), xv = x7 ∧ i ≤ ny ∧ x24 = .int .i64 (i : Int) ∧ Hid (CP w wr xv (G ++ (Y.take i).map Wn.p) g2 #[.slice a nb c, .slice a' ns c'])) (fun _ x24 _ => ny - (RowKit.intOf x24).toNat)
      case atStart => exact ⟨0, xv, rfl, Nat.zero_le _, rfl, HB1.out⟩
      case round => as_aux_lemma =>
        clear HB1
        obtain ⟨i, xv, rfl, hi, rfl, HB⟩ := hrel
        by_cases hlt : i < ny
        · have hlt' : (i : Int) < (ny : Int) := by omega
          obtain ⟨v, hv⟩ : ∃ v, Y[i]? = some v := ⟨_, List.getElem?_eq_getElem (by rw [← HY.out.2.2.2.1]; exact hlt)⟩
          obtain ⟨g, o, cx, cur, ea, _⟩ := HY.out.2.2.1.more (by omega)
          injection ea with ea1 _ ea2
          subst ea1 ea2
          have hrg : wr.rangeAt g (o + i * 4) v.cs.toList := row_rangeW (HY.out.2.2.1.fr (Fr.of_below HB.out.bel (fun _ => False)) fun _ _ => id) hv
          have HW : Hid (G ++ (Y.take (i + 1)).map Wn.p = (G ++ (Y.take i).map Wn.p) ++ [v.p] ∧ (G ++ (Y.take i).map Wn.p).length ≤ 8796093022209 + i) := by
            refine ⟨by rw [List.take_add_one, hv]; simp, ?_⟩
            rw [List.length_append, List.length_map, List.length_take]
            have := HG.out.2
            omega
          generalize G ++ (Y.take i).map Wn.p = D at *
          clear hv
          go_upto_region 7 with fail
          rename_i K hK
          refine wp_region_lit ?_
          refine wpList_runTo rfl (some 26) rfl (.pointer (some ⟨g, o + i * 4, none⟩)) wr (by exact ixW_run (n := ny) (c := cy) (.tmp 22) (.tmp 24) rfl (by kernel_rfl) (by kernel_rfl) hlt _) ?_
          simp only [Act.put, List.setIfInBounds_toArray, List.set_cons_zero, List.set_cons_succ]
          refine wpList_runTo rfl (some 27) rfl (.agg v.cs) wr (by exact ldA_run hrg Try.underlying69 rfl infoW (.tmp 26) rfl (by kernel_rfl)) ?_
          simp only [Act.put, List.setIfInBounds_toArray, List.set_cons_zero, List.set_cons_succ]
          refine wpList_runTo rfl (some 11) rfl (.pointer (some ⟨wr.heap.size, 0, none⟩)) (wr.alloc (.cells #[.int .i64 0, .bool false, .int .i64 0, .int .i64 0] 69)) (by kernel_rfl) ?_
          simp only [Act.put, List.setIfInBounds_toArray, List.set_cons_zero, List.set_cons_succ]
          refine wpList_plain rfl fun K1 hK1 => ?_
          refine wp_store_row 69 (.tmp 11) (.tmp 27) rfl wr.heap.size v.cs (by kernel_rfl) (by kernel_rfl) 69 #[.int .i64 0, .bool false, .int .i64 0, .int .i64 0] (heap_alloc_new wr _) (by kernel_rfl) (by first | rfl | kernel_rfl | (simp [Wn.cs, Value.oneCell'])) (by first | rfl | kernel_rfl | (simp [Wn.cs, Value.oneCell'])) ?_
          rw [World.setRow_alloc_new]
          refine hK1 _ _ ?_
          clear hK1
          refine wpList_nil ?_
          refine hK _ _ ?_
          clear hK hrg
          have hk0 : Blk (wr.alloc (.cells v.cs 69)) wr.heap.size 69 v.cs := Blk.new wr _ _
          have q2 : (wr.alloc (.cells v.cs 69)).cell? ⟨wr.heap.size, 2, none⟩ = some (.int .i64 v.p) := hk0.cell 2
          have HB1 : Hid (CP w (wr.alloc (.cells v.cs 69)) xv D g2 #[.slice a nb c, .slice a' ns c']) := HB.out.below ((Below.refl _ wr).alloc (Nat.le_refl _) _)
          clear HB hk0
          generalize wr.alloc (.cells v.cs 69) = w3 at *
          generalize wr.heap.size = bx at *
          generalize v.p = pr at *
          go_upto_region 8 with fail
          rename_i K hK
          refine wp_region_lit ?_
          refine wpList_runTo rfl (some 28) rfl (xv) w3 (by kernel_rfl) ?_
          simp only [Act.put, List.setIfInBounds_toArray, List.set_cons_zero, List.set_cons_succ]
          refine wpList_runTo rfl (some 29) rfl (.pointer (some ⟨bx, 2, none⟩)) w3 (by kernel_rfl) ?_
          simp only [Act.put, List.setIfInBounds_toArray, List.set_cons_zero, List.set_cons_succ]
          refine wpList_runTo rfl (some 30) rfl (.int .i64 pr) w3 (by exact ldN_run (.inl rfl) (.tmp 29) rfl (by kernel_rfl) q2) ?_
          simp only [Act.put, List.setIfInBounds_toArray, List.set_cons_zero, List.set_cons_succ]
          refine wpList_runTo rfl (some 31) rfl (.slice (some ⟨w3.heap.size, 0, none⟩) 1 1) (w3.alloc (.cells #[.int .i64 pr] 2)) (by exact buildI_run (.tmp 30) rfl (by kernel_rfl) _) ?_
          simp only [Act.put, List.setIfInBounds_toArray, List.set_cons_zero, List.set_cons_succ]
          have hrA : RowAt (w3.alloc (.cells #[.int .i64 pr] 2)) 2 1 xv D.length (D.map eI) := HB1.out.row.fr (Fr.alloc w3 _ (fun _ => False)) fun _ _ => id
          refine wpList_append_row _ rfl (.tmp 28) (.tmp 31) 73 rfl 2 i0 _ 1 8 Try.underlying73 HI.out.1 HI.out.2.1 HI.out.2.2.1 HI.out.2.2.2 (by rfl) xv D.length (D.map eI) (by kernel_rfl) hrA ⟨w3.heap.size, 0, none⟩ 1 1 [eI pr] (by kernel_rfl) (by rfl) (fun j u hj => by rw [Addr.add_mid, Nat.zero_add, (Blk.new w3 2 #[.int .i64 pr]).cell]; simpa [eI] using hj) (fun u hu => by rw [List.mem_singleton.1 hu]; rfl) (Or.inl (by omega)) (by have := HW.out.2; have := HY.out.2.2.2.2.1; unfold maxLen; omega) (by have := HW.out.2; have := HY.out.2.2.2.2.1; omega) ?_
          intro v5 w5 hrow hfr hnew
          have HF : Hid (CP w w5 v5 (G ++ (Y.take (i + 1)).map Wn.p) g2 #[.slice a nb c, .slice a' ns c']) := by
            show CP w w5 v5 (G ++ (Y.take (i + 1)).map Wn.p) g2 #[.slice a nb c, .slice a' ns c']
            rw [HW.out.1]
            exact (HB1.out.below ((Below.refl _ w3).alloc (Nat.le_refl _) _)).app hrow hfr hnew
          clear hrow hfr hnew hrA HB1 HW
          simp only [Act.put, List.setIfInBounds_toArray, List.set_cons_zero, List.set_cons_succ]
          refine wpList_runTo rfl (some 7) rfl (v5) w5 (by kernel_rfl) ?_
          simp only [Act.put, List.setIfInBounds_toArray, List.set_cons_zero, List.set_cons_succ]
          refine wpList_nil ?_
          refine hK _ _ ?_
          clear hK
          go_wp2
          exact ⟨⟨i + 1, _, rfl, by omega, by go_num, HF.out⟩, by simp [RowKit.intOf]; omega⟩
        · have e : i = ny := by omega
          subst e
          have HF : Hid (CP w wr xv (gat ref B S (r + 1)) g2 #[.slice a nb c, .slice a' ns c']) := by
            have := HB.out
            rw [HY.out.2.2.2.1, List.take_length, ← HG.out.1] at this
            exact this
          clear HB HY HG
          go_wp2
          exact ⟨⟨r + 1, _, rfl, by omega, by go_num, HF.out⟩, by simp [RowKit.intOf]; omega⟩
    · have e : r = 2 := by omega
      subst e
      obtain ⟨D, hD⟩ : ∃ D, D = gat ref B S 2 := ⟨_, rfl⟩
      have HD : Hid (D.length ≤ 8796093022209) := by
        have := gat_len ref B S 2
        have h5 := HR.out.2.2
        rw [hD]
        show _ ≤ _
        omega
      have hpos : 0 < D.length := by rw [hD]; simp [gat]
      rw [← hD] at HB HXX
      clear hD
      obtain ⟨g, off, cap, cur, exv, _⟩ := HB.out.row.more hpos
      subst exv
      have hc1 := SortI_any D g off cap wr HB.out.row (by have := HD.out; omega)
      go_upto_region 11 with fail
      rename_i K hK
      refine wp_region_lit ?_
      refine wpList_runTo rfl (some 35) rfl (.slice (some ⟨g, off, none⟩) D.length cap) wr (by kernel_rfl) ?_
      simp only [Act.put, List.setIfInBounds_toArray, List.set_cons_zero, List.set_cons_succ]
      refine wpList_callW rfl (some 36) rfl 55 #[.slice (some ⟨g, off, none⟩) D.length cap] (by kernel_rfl) hc1 ?_
      clear hc1
      rintro e w4 ⟨rfl, H4⟩
      refine ⟨_, rfl, ?_⟩
      simp only [Act.put, List.setIfInBounds_toArray, List.set_cons_zero, List.set_cons_succ]
      refine wpList_nil ?_
      refine hK _ _ ?_
      clear hK
      have hsl : (srtL D).length = D.length := (srtL_perm D).length_eq
      have hr4 := H4.out.1
      rw [← hsl] at hr4
      have hc2 := CompactI_any (srtL D) g off cap w4 hr4 (by have := HD.out; omega)
      rw [hsl] at hc2
      clear hr4
      go_upto_region 12 with fail
      rename_i K hK
      refine wp_region_lit ?_
      refine wpList_runTo rfl (some 37) rfl (.slice (some ⟨g, off, none⟩) D.length cap) w4 (by kernel_rfl) ?_
      simp only [Act.put, List.setIfInBounds_toArray, List.set_cons_zero, List.set_cons_succ]
      refine wpList_callW rfl (some 38) rfl 57 #[.slice (some ⟨g, off, none⟩) D.length cap] (by kernel_rfl) hc2 ?_
      clear hc2
      rintro e w5 ⟨rfl, H5⟩
      refine ⟨_, rfl, ?_⟩
      simp only [Act.put, List.setIfInBounds_toArray, List.set_cons_zero, List.set_cons_succ]
      have hcl := cptL_len (srtL D)
      have hc3 := DeleteI_any (cptL (srtL D)) g off cap w5 H5.out.1 (by have := HD.out; omega)
      refine wpList_callW rfl (some 39) rfl 56 #[.slice (some ⟨g, off, none⟩) (cptL (srtL D)).length cap, .func (.func 58) #[] #[]] (by kernel_rfl) hc3 ?_
      clear hc3
      rintro e w6 ⟨rfl, H6⟩
      refine ⟨_, rfl, ?_⟩
      simp only [Act.put, List.setIfInBounds_toArray, List.set_cons_zero, List.set_cons_succ]
      have HF : Hid (X (.returned (.slice (some ⟨g, off, none⟩) ((cptL (srtL D)).filter fun x => !decide (x = 0)).length cap)) w6) := by
        have hw0 := (HB.out.own g rfl).1
        have f1 : Fr wr w6 (fun b => b = g) := ((H4.out.2.trans H5.out.2 fun _ _ h => h.elim id id).trans H6.out.2 fun _ _ h => h.elim id id)
        have hb := HB.out.bel
        exact HXX.out _ _ ⟨_, rfl, H6.out.1, ⟨f1.os.trans hb.os, f1.tape.trans hb.tape, f1.output.trans hb.output, Nat.le_trans hb.size f1.size, fun q hq => (f1.block q (Nat.lt_of_lt_of_le hq hb.size) (fun e => by omega)).trans (hb.block q hq)⟩, fun q hq => by
          have e : g = q := by simpa [Value.ownBlock] using hq
          omega⟩
      clear H4 H5 H6 HB HXX hsl hcl HD hpos
      generalize ((cptL (srtL D)).filter fun x => !decide (x = 0)).length = nn at *
      generalize (cptL (srtL D)).length = nm at *
      generalize D.length = nd at *
      refine wpList_runTo rfl (some 6) rfl (.slice (some ⟨g, off, none⟩) nn cap) w6 (by kernel_rfl) ?_
      simp only [Act.put, List.setIfInBounds_toArray, List.set_cons_zero, List.set_cons_succ]
      refine wpList_nil ?_
      refine hK _ _ ?_
      clear hK
      apply wp_ret
      try simp only [Exit.inBlock, Exit.then]
      show bodyPost Try.prog Try.f44 X Exit.ret _ _
      refine bodyPost_ret (results_tmp (t := 6) rfl _ _ _) rfl ?_
      exact HF.out
end Go.Proofs.Ytbhddfcdnpidkaa
