/-
  auction: the nearest of points.
-/
import Derived.Test.YtbhddfcdnpidkaaV5
import Derived.Test.YtbhddfcdnpidkaaU4
namespace Go.Proofs.Ytbhddfcdnpidkaa
set_option linter.unusedVariables false
set_option linter.unusedSimpArgs false
open Go.RowKit Go.Great

theorem below_setRow {B : Nat} {w W : World} {g : Nat} (h : Below B w W) (hg : B ≤ g) (cs : Array Value) : Below B w (W.setRow g cs) := ⟨h.os, h.tape, h.output, by have := h.size; simpa [World.setRow] using this, fun q hq => by
  have e : (W.setRow g cs).heap[q]? = W.heap[q]? := by
    simp only [World.setRow, Array.getElem?_modify]
    rw [if_neg (by omega)]
  exact e.trans (h.block q hq)⟩
theorem blk_other {w : World} {g q : Nat} {T : TypeId} {cs : Array Value} (h : Blk w q T cs) (hne : g ≠ q) (vs : Array Value) : Blk (w.setRow g vs) q T cs := by
  unfold Blk at *
  rw [← h]
  simp only [World.setRow, Array.getElem?_modify]
  rw [if_neg hne]
def pL (p : Pt) : List Value := [.int .i64 p.c, .int .i64 p.x, .int .i64 p.y]
theorem pL_len (p : Pt) : (pL p).length = 3 := rfl
theorem ixP_run {op : Oper} {a : Act} {g o n c i : Nat} (x y : Operand) (ho : op.op = .indexAddr 55 x y) (hx : a.eval x = .slice (some ⟨g, o, none⟩) n c) (hy : a.eval y = .int .i64 (i : Int)) (hi : i < n) (w : World) : (execOp a.eval op).run Try.prog w = .ok (.value (.pointer (some ⟨g, o + i * 3, none⟩))) w := by
  have h1 : (i : Int) < (n : Int) := by omega
  have h2 : ¬ (n : Int) ≤ (i : Int) := by omega
  unfold execOp
  simp only [ho, hx, hy]
  go_simp
theorem lenP_run {op : Oper} {a : Act} {v : Value} {ao : Option Addr} {n c : Nat} (hv : v = .slice ao n c) (x : Operand) (ho : op.op = .call { callee := .builtin .len, args := #[x], argTypes := #[55] }) (hx : a.eval x = v) (w : World) : (execOp a.eval op).run Try.prog w = .ok (.value (.int .i64 (n : Int))) w := by
  subst hv
  unfold execOp
  simp only [ho, resolve, invoke, builtin, Sem.run_bind, Sem.run_pure, Result.andThen_ok, List.map_toArray, List.map_cons, List.map_nil, hx]
  go_simp
theorem row_rangeP {w : World} {g o c i n : Nat} {l : List Pt} {p : Pt} (h : RowAt w 61 3 (.slice (some ⟨g, o, none⟩) n c) n (flatL pL l)) (hp : l[i]? = some p) : w.rangeAt g (o + i * 3) p.cs.toList := fun j u hu => by
  have hj : j < 3 := (List.getElem?_eq_some_iff.1 hu).1
  have := h.cell rfl (j := i * 3 + j) (u := u) (by rw [flatL_get pL_len hp hj]; exact hu)
  rw [← Nat.add_assoc] at this
  exact this
theorem leqP_run {op : Oper} {a : Act} {p q : Int} {r : Bool} (x y : Operand) (ho : op.op = .binOp .leq 2 x y 2) (hx : a.eval x = .int .i64 p) (hy : a.eval y = .int .i64 q) (hr : decide (p ≤ q) = r) (w : World) : (execOp a.eval op).run Try.prog w = .ok (.value (.bool r)) w := by
  subst hr
  unfold execOp
  simp only [ho, hx, hy]
  go_simp
def inP (p : Pt) : Prop := 0 ≤ p.c ∧ p.c ≤ 1000000000
/-- Where nearest stands. -/
structure NS (w W : World) (b4 b5 : Nat) (z : Array Value) (near : Pt) : Prop where
  bel : Below w.heap.size w W
  lo4 : w.heap.size ≤ b4
  lo5 : w.heap.size ≤ b5
  ne : b4 ≠ b5
  k4 : Blk W b4 61 z
  k5 : Blk W b5 61 near.cs
theorem NS.below {w W W' : World} {b4 b5 : Nat} {z : Array Value} {near : Pt} (h : NS w W b4 b5 z near) (hb : Below W.heap.size W W') : NS w W' b4 b5 z near := ⟨below_step h.bel hb, h.lo4, h.lo5, h.ne, h.k4.below hb h.k4.lt, h.k5.below hb h.k5.lt⟩
theorem NS.put {w W : World} {b4 b5 : Nat} {z : Array Value} {near : Pt} (h : NS w W b4 b5 z near) (p : Pt) : NS w (W.setRow b5 p.cs) b4 b5 z p := ⟨below_setRow h.bel h.lo5 _, h.lo4, h.lo5, h.ne, blk_other h.k4 h.ne.symm _, setRow_heap _ _ _ _ _ _ h.k5⟩
theorem blk_range {w : World} {g : Nat} {T : TypeId} {cs : Array Value} (h : Blk w g T cs) : w.rangeAt g 0 cs.toList := fun z u hu => by rw [Nat.zero_add, h.cell]; simpa using hu
set_option maxRecDepth 100000 in
set_option maxHeartbeats 1000000 in
theorem nearest_any {w : World} {l : List Pt} {p0 : Pt} {a : Option Addr} {c : Nat} (hr : RowAt w 61 3 (.slice a l.length c) l.length (flatL pL l)) (h0 : l[0]? = some p0) (hin : ∀ p ∈ l, inP p) (hl : l.length ≤ 9223372036854775807) (ref : Int) (href : 0 ≤ ref ∧ ref ≤ 1000000000) :
    Calls Try.prog 49 #[.slice a l.length c, .int .i64 ref] w fun e w' => e = .returned (.agg (nearF ref l p0).cs) ∧ Hid (Below w.heap.size w w') := by
  obtain ⟨n, hn⟩ : ∃ n, n = l.length := ⟨_, rfl⟩
  have hpos : 0 < n := by rw [hn]; exact (List.getElem?_eq_some_iff.1 h0).1
  rw [← hn] at hr hl ⊢
  obtain ⟨g, o, c', cur, ea, _⟩ := hr.more hpos
  injection ea with ea1 _ ea2
  subst ea1 ea2
  have HR : Hid (RowAt w 61 3 (.slice (some ⟨g, o, none⟩) n c) n (flatL pL l) ∧ (∀ p ∈ l, inP p) ∧ n = l.length ∧ 0 ≤ ref ∧ ref ≤ 1000000000) := ⟨hr, hin, hn, href⟩
  have hrg := row_rangeP hr h0
  have HP0 : Hid (l[0]? = some p0) := h0
  obtain ⟨R, hR⟩ : ∃ R, R = nearF ref l p0 := ⟨_, rfl⟩
  have HN : Hid (R = nearF ref l p0) := hR
  rw [← hR]
  clear hr hin hn href h0 hR
  have hrg1 : (w.alloc (.cells #[.int .i64 0, .int .i64 0, .int .i64 0] 61)).rangeAt g (o + 0 * 3) p0.cs.toList := fun j u hu => (Fr.of_below ((Below.refl _ w).alloc (Nat.le_refl _) _) (fun _ => False)).cell (hrg j u hu) id
  have HNS0 : Hid (NS w (((w.alloc (.cells #[.int .i64 0, .int .i64 0, .int .i64 0] 61)).alloc (.cells p0.cs 61))) w.heap.size (w.alloc (.cells #[.int .i64 0, .int .i64 0, .int .i64 0] 61)).heap.size #[.int .i64 0, .int .i64 0, .int .i64 0] p0) := ⟨((Below.refl _ w).alloc (Nat.le_refl _) _).alloc (by simp) _, Nat.le_refl _, by simp, by simp, (Blk.new w _ _).alloc _, Blk.new _ _ _⟩
  clear hrg
  go_enter Try.func49, Try.ntmps49
  go_upto_region 0 with fail
  rename_i K hK
  refine wp_region_lit ?_
  refine wpList_runTo rfl (some 4) rfl (.pointer (some ⟨w.heap.size, 0, none⟩)) (w.alloc (.cells #[.int .i64 0, .int .i64 0, .int .i64 0] 61)) (by kernel_rfl) ?_
  simp only [Act.put, List.setIfInBounds_toArray, List.set_cons_zero, List.set_cons_succ]
  refine wpList_nil ?_
  refine hK _ _ ?_
  clear hK
  generalize hw1 : w.alloc (.cells #[.int .i64 0, .int .i64 0, .int .i64 0] 61) = w1 at *
  go_upto_region 1 with fail
  rename_i K hK
  refine wp_region_lit ?_
  refine wpList_runTo rfl (some 8) rfl (.slice (some ⟨g, o, none⟩) n c) w1 (by kernel_rfl) ?_
  simp only [Act.put, List.setIfInBounds_toArray, List.set_cons_zero, List.set_cons_succ]
  refine wpList_runTo rfl (some 9) rfl (.pointer (some ⟨g, o + 0 * 3, none⟩)) w1 (by exact ixP_run (i := 0) (n := n) (c := c) (.tmp 8) (.const (.int .i64 0)) rfl (by kernel_rfl) rfl hpos _) ?_
  simp only [Act.put, List.setIfInBounds_toArray, List.set_cons_zero, List.set_cons_succ]
  refine wpList_runTo rfl (some 10) rfl (.agg p0.cs) w1 (by exact ldA_run hrg1 Try.underlying61 rfl infoP (.tmp 9) rfl (by kernel_rfl)) ?_
  simp only [Act.put, List.setIfInBounds_toArray, List.set_cons_zero, List.set_cons_succ]
  refine wpList_runTo rfl (some 5) rfl (.pointer (some ⟨w1.heap.size, 0, none⟩)) (w1.alloc (.cells #[.int .i64 0, .int .i64 0, .int .i64 0] 61)) (by kernel_rfl) ?_
  simp only [Act.put, List.setIfInBounds_toArray, List.set_cons_zero, List.set_cons_succ]
  refine wpList_plain rfl fun K1 hK1 => ?_
  refine wp_store_row 61 (.tmp 5) (.tmp 10) rfl w1.heap.size p0.cs (by kernel_rfl) (by kernel_rfl) 61 #[.int .i64 0, .int .i64 0, .int .i64 0] (heap_alloc_new w1 _) infoP rfl (by first | rfl | kernel_rfl | (simp [Pt.cs, Value.oneCell'])) ?_
  rw [World.setRow_alloc_new]
  refine hK1 _ _ ?_
  clear hK1
  refine wpList_nil ?_
  refine hK _ _ ?_
  clear hK hrg1
  generalize w1.alloc (.cells p0.cs 61) = w2 at *
  generalize w1.heap.size = b5 at *
  clear hw1
  obtain ⟨b4, hb4⟩ : ∃ b4, b4 = w.heap.size := ⟨_, rfl⟩
  rw [← hb4] at HNS0 ⊢
  have HB4 : Hid (b4 = w.heap.size) := hb4
  clear hb4
  go_upto_region 2 with fail
  rename_i K hK
  refine wp_region_lit ?_
  refine wpList_runTo rfl (some 11) rfl (.slice (some ⟨g, o, none⟩) n c) w2 (by kernel_rfl) ?_
  simp only [Act.put, List.setIfInBounds_toArray, List.set_cons_zero, List.set_cons_succ]
  refine wpList_runTo rfl (some 12) rfl (.int .i64 (n : Int)) w2 (by exact lenP_run (v := .slice (some ⟨g, o, none⟩) n c) rfl (.tmp 11) rfl (by kernel_rfl) _) ?_
  simp only [Act.put, List.setIfInBounds_toArray, List.set_cons_zero, List.set_cons_succ]
  refine wpList_runTo rfl (some 13) rfl (.int .i64 0) w2 (by kernel_rfl) ?_
  simp only [Act.put, List.setIfInBounds_toArray, List.set_cons_zero, List.set_cons_succ]
  refine wpList_nil ?_
  refine hK _ _ ?_
  clear hK
  have HST : Hid (NS w w2 b4 b5 #[.int .i64 0, .int .i64 0, .int .i64 0] p0 ∧ inP p0 ∧ nearF ref (l.drop 0) p0 = R) := ⟨HNS0.out, HR.out.2.1 p0 (List.mem_of_getElem? HP0.out), HN.out.symm⟩
  clear HNS0 HN HP0
  go_upto_region 3 with fail
  go_loopw [13] (fun x13 wr => ∃ (i : Nat) (near : Pt), i ≤ n ∧ x13 = .int .i64 (i : Int) ∧ Hid (NS w wr b4 b5 #[.int .i64 0, .int .i64 0, .int .i64 0] near ∧ inP near ∧ nearF ref (l.drop i) near = R)) (fun x13 _ => n - (RowKit.intOf x13).toNat)
  case atStart => exact ⟨0, p0, Nat.zero_le _, rfl, HST.out⟩
  case round =>
    clear HST
    obtain ⟨i, near, hi, rfl, HB⟩ := hrel
    by_cases hlt : i < n
    · have hlt' : (i : Int) < (n : Int) := by omega
      obtain ⟨p, hp⟩ : ∃ p, l[i]? = some p := ⟨_, List.getElem?_eq_getElem (by rw [← HR.out.2.2.1]; exact hlt)⟩
      have hin := HR.out.2.1 p (List.mem_of_getElem? hp)
      have hrg : wr.rangeAt g (o + i * 3) p.cs.toList := fun j u hu => (Fr.of_below HB.out.1.bel (fun _ => False)).cell (row_rangeP HR.out.1 hp j u hu) id
      have hdr : l.drop i = p :: l.drop (i + 1) := by
        obtain ⟨h1, h2⟩ := List.getElem?_eq_some_iff.1 hp
        rw [List.drop_eq_getElem_cons h1, h2]
      have HD : Hid (nearF ref (l.drop (i + 1)) (if far p.c ref ≤ far near.c ref then p else near) = R) := by
        have h := HB.out.2.2
        rw [hdr] at h
        exact h
      clear hdr hp
      have hal : Below wr.heap.size wr (wr.alloc (.cells p.cs 61)) := (Below.refl _ wr).alloc (Nat.le_refl _) _
      have HB1 : Hid (NS w (wr.alloc (.cells p.cs 61)) b4 b5 #[.int .i64 0, .int .i64 0, .int .i64 0] near ∧ inP near ∧ inP p ∧ Blk (wr.alloc (.cells p.cs 61)) wr.heap.size 61 p.cs ∧ b5 ≠ wr.heap.size) := ⟨HB.out.1.below hal, HB.out.2.1, hin, Blk.new wr _ _, by have := HB.out.1.k5.lt; omega⟩
      clear hal HB hin
      go_upto_region 4 with fail
      rename_i K hK
      refine wp_region_lit ?_
      refine wpList_runTo rfl (some 15) rfl (.pointer (some ⟨g, o + i * 3, none⟩)) wr (by exact ixP_run (n := n) (c := c) (.tmp 11) (.tmp 13) rfl (by kernel_rfl) (by kernel_rfl) hlt _) ?_
      simp only [Act.put, List.setIfInBounds_toArray, List.set_cons_zero, List.set_cons_succ]
      refine wpList_runTo rfl (some 16) rfl (.agg p.cs) wr (by exact ldA_run hrg Try.underlying61 rfl infoP (.tmp 15) rfl (by kernel_rfl)) ?_
      simp only [Act.put, List.setIfInBounds_toArray, List.set_cons_zero, List.set_cons_succ]
      refine wpList_runTo rfl (some 7) rfl (.pointer (some ⟨wr.heap.size, 0, none⟩)) (wr.alloc (.cells #[.int .i64 0, .int .i64 0, .int .i64 0] 61)) (by kernel_rfl) ?_
      simp only [Act.put, List.setIfInBounds_toArray, List.set_cons_zero, List.set_cons_succ]
      refine wpList_plain rfl fun K1 hK1 => ?_
      refine wp_store_row 61 (.tmp 7) (.tmp 16) rfl wr.heap.size p.cs (by kernel_rfl) (by kernel_rfl) 61 #[.int .i64 0, .int .i64 0, .int .i64 0] (heap_alloc_new wr _) infoP rfl (by first | rfl | kernel_rfl | (simp [Pt.cs, Value.oneCell'])) ?_
      rw [World.setRow_alloc_new]
      refine hK1 _ _ ?_
      clear hK1
      refine wpList_nil ?_
      refine hK _ _ ?_
      clear hK hrg
      generalize wr.alloc (.cells p.cs 61) = w3 at *
      generalize wr.heap.size = b7 at *
      obtain ⟨pc, hpc⟩ : ∃ x, x = p.c := ⟨_, rfl⟩
      obtain ⟨nc, hnc⟩ : ∃ x, x = near.c := ⟨_, rfl⟩
      have hfp := far_any w3.drew pc ref (by rw [hpc]; exact HB1.out.2.2.1) HR.out.2.2.2
      have hfn := far_any w3.drew nc ref (by rw [hnc]; exact HB1.out.2.1) HR.out.2.2.2
      have HC : Hid (pc = p.c ∧ nc = near.c) := ⟨hpc, hnc⟩
      have HD2 : Hid (nearF ref (l.drop (i + 1)) (if far pc ref ≤ far nc ref then p else near) = R) := by rw [hpc, hnc]; exact HD.out
      clear hpc hnc HD
      generalize far pc ref = fp at *
      generalize far nc ref = fn at *
      go_upto_region 5 with fail
      rename_i K hK
      refine wp_region_held (S := fun w' => Blk w' b7 61 p.cs ∧ Blk w' b5 61 near.cs) (by kernel_rfl) ?_
      change wpAnyH _ _ _ _ _ _ _ _ (World.drew _)
      have hd : Below w3.heap.size w3 w3.drew := (Below.refl _ w3).drew
      have hS : Blk w3.drew b7 61 p.cs ∧ Blk w3.drew b5 61 near.cs := ⟨HB1.out.2.2.2.1.below hd HB1.out.2.2.2.1.lt, HB1.out.1.k5.below hd HB1.out.1.k5.lt⟩
      have HB2 : Hid (NS w w3.drew b4 b5 #[.int .i64 0, .int .i64 0, .int .i64 0] near ∧ inP near ∧ inP p ∧ Blk w3.drew b7 61 p.cs ∧ b5 ≠ b7) := ⟨HB1.out.1.below hd, HB1.out.2.1, HB1.out.2.2.1, hS.1, HB1.out.2.2.2.2⟩
      clear HB1 hd
      generalize w3.drew = Z at *
      refine takeR (i := 0) (v := .pointer (some ⟨b7, 0, none⟩)) (some 17) rfl rfl (by kernel_rfl) (by kernel_rfl) (by kernel_rfl) (fun _ _ _ h => h) (Or.inl ⟨by kernel_rfl, fun w' hSw => by kernel_rfl⟩) hS ?_
      simp only [Act.put, List.setIfInBounds_toArray, List.set_cons_zero, List.set_cons_succ]
      refine takeR (i := 1) (v := .int .i64 pc) (some 18) rfl rfl (by kernel_rfl) (by kernel_rfl) (by kernel_rfl) (fun _ _ _ h => h) (Or.inl ⟨by kernel_rfl, fun w' hSw => by have q9 : w'.cell? ⟨b7, 0, none⟩ = some (.int .i64 pc) := (by rw [HC.out.1]; exact hSw.1.cell 0); clear hSw; go_simp⟩) hS ?_
      simp only [Act.put, List.setIfInBounds_toArray, List.set_cons_zero, List.set_cons_succ]
      refine takeR (i := 2) (v := .int .i64 ref) (some 19) rfl rfl (by kernel_rfl) (by kernel_rfl) (by kernel_rfl) (fun _ _ _ h => h) (Or.inl ⟨by kernel_rfl, fun w' hSw => by kernel_rfl⟩) hS ?_
      simp only [Act.put, List.setIfInBounds_toArray, List.set_cons_zero, List.set_cons_succ]
      refine takeR (i := 4) (v := .pointer (some ⟨b5, 0, none⟩)) (some 21) rfl rfl (by kernel_rfl) (by kernel_rfl) (by kernel_rfl) (fun _ _ _ h => h) (Or.inl ⟨by kernel_rfl, fun w' hSw => by kernel_rfl⟩) hS ?_
      simp only [Act.put, List.setIfInBounds_toArray, List.set_cons_zero, List.set_cons_succ]
      refine takeR (i := 5) (v := .int .i64 nc) (some 22) rfl rfl (by kernel_rfl) (by kernel_rfl) (by kernel_rfl) (fun _ _ _ h => h) (Or.inl ⟨by kernel_rfl, fun w' hSw => by have q9 : w'.cell? ⟨b5, 0, none⟩ = some (.int .i64 nc) := (by rw [HC.out.2]; exact hSw.2.cell 0); clear hSw; go_simp⟩) hS ?_
      simp only [Act.put, List.setIfInBounds_toArray, List.set_cons_zero, List.set_cons_succ]
      refine takeR (i := 6) (v := .int .i64 ref) (some 23) rfl rfl (by kernel_rfl) (by kernel_rfl) (by kernel_rfl) (fun _ _ _ h => h) (Or.inl ⟨by kernel_rfl, fun w' hSw => by kernel_rfl⟩) hS ?_
      simp only [Act.put, List.setIfInBounds_toArray, List.set_cons_zero, List.set_cons_succ]
      refine wpAnyH_ready (rs := [3]) (by kernel_rfl) (by simp) ?_
      refine AllReadyH.cons rfl (fun K1 hK1 => ?_) AllReadyH.nil
      rw [if_pos (by kernel_rfl)]
      refine callR (d := some 20) rfl 64 #[.int .i64 pc, .int .i64 ref] (by kernel_rfl) hfp ?_
      rintro e Y1 ⟨rfl, ew⟩
      replace ew := ew.symm
      subst ew
      refine ⟨_, rfl, ?_⟩
      refine hK1.out _ _ hS (fun _ => ?_)
      clear hK1
      simp only [Act.put, List.setIfInBounds_toArray, List.set_cons_zero, List.set_cons_succ]
      refine wpAnyH_ready (rs := [7]) (by kernel_rfl) (by simp) ?_
      refine AllReadyH.cons rfl (fun K1 hK1 => ?_) AllReadyH.nil
      rw [if_pos (by kernel_rfl)]
      refine callR (d := some 24) rfl 64 #[.int .i64 nc, .int .i64 ref] (by kernel_rfl) hfn ?_
      rintro e Y1 ⟨rfl, ew⟩
      replace ew := ew.symm
      subst ew
      refine ⟨_, rfl, ?_⟩
      refine hK1.out _ _ hS (fun _ => ?_)
      clear hK1
      simp only [Act.put, List.setIfInBounds_toArray, List.set_cons_zero, List.set_cons_succ]
      by_cases hc : fp ≤ fn
      · skip
        refine takeR (i := 8) (v := .bool true) (some 25) rfl rfl (by kernel_rfl) (by kernel_rfl) (by kernel_rfl) (fun _ _ _ h => h) (Or.inl ⟨by kernel_rfl, fun w' hSw => by exact leqP_run (p := fp) (q := fn) (.tmp 20) (.tmp 24) rfl (by kernel_rfl) (by kernel_rfl) (by simp [hc]) _⟩) hS ?_
        simp only [Act.put, List.setIfInBounds_toArray, List.set_cons_zero, List.set_cons_succ]
        refine wpAnyH_done (by kernel_rfl) ?_ _
        refine hK _ _ ?_
        clear hK hfp hfn
        have HE : Hid (NS w (Z.setRow b5 p.cs) b4 b5 #[.int .i64 0, .int .i64 0, .int .i64 0] p ∧ inP p ∧ nearF ref (l.drop (i + 1)) p = R) := ⟨HB2.out.1.put p, HB2.out.2.2.1, by have h := HD2.out; rw [if_pos hc] at h; exact h⟩
        have hk5 := hS.2
        have hrg7 := blk_range hS.1
        clear hS HB2 HD2 HC hc
        go_upto_region 6 with fail
        refine wp_region_lit ?_
        refine wpList_runTo rfl (some 26) rfl (.agg p.cs) Z (by exact ldA_run hrg7 Try.underlying61 rfl infoP (.tmp 7) rfl (by kernel_rfl)) ?_
        simp only [Act.put, List.setIfInBounds_toArray, List.set_cons_zero, List.set_cons_succ]
        refine wpList_plain rfl fun K1 hK1 => ?_
        refine wp_store_row 61 (.tmp 5) (.tmp 26) rfl b5 p.cs (by kernel_rfl) (by kernel_rfl) 61 near.cs hk5 infoP rfl (by first | rfl | kernel_rfl | (simp [Pt.cs, Value.oneCell'])) ?_
        refine hK1 _ _ ?_
        clear hK1 hk5 hrg7
        refine wpList_nil ?_
        go_wp2
        exact ⟨⟨i + 1, p, by omega, by go_num, HE.out⟩, by simp [RowKit.intOf]; omega⟩
      · skip
        refine takeR (i := 8) (v := .bool false) (some 25) rfl rfl (by kernel_rfl) (by kernel_rfl) (by kernel_rfl) (fun _ _ _ h => h) (Or.inl ⟨by kernel_rfl, fun w' hSw => by exact leqP_run (p := fp) (q := fn) (.tmp 20) (.tmp 24) rfl (by kernel_rfl) (by kernel_rfl) (by simp; omega) _⟩) hS ?_
        simp only [Act.put, List.setIfInBounds_toArray, List.set_cons_zero, List.set_cons_succ]
        refine wpAnyH_done (by kernel_rfl) ?_ _
        refine hK _ _ ?_
        clear hK hfp hfn hS
        have HE : Hid (NS w Z b4 b5 #[.int .i64 0, .int .i64 0, .int .i64 0] near ∧ inP near ∧ nearF ref (l.drop (i + 1)) near = R) := ⟨HB2.out.1, HB2.out.2.1, by have h := HD2.out; rw [if_neg hc] at h; exact h⟩
        clear HB2 HD2 HC hc
        go_wp2
        exact ⟨⟨i + 1, near, by omega, by go_num, HE.out⟩, by simp [RowKit.intOf]; omega⟩
    · have hin : i = n := by omega
      subst hin
      have hR : near = R := by
        have h := HB.out.2.2
        rw [List.drop_eq_nil_of_le (by have := HR.out.2.2.1; omega)] at h
        exact h
      subst hR
      have HS : Hid (NS w wr b4 b5 #[.int .i64 0, .int .i64 0, .int .i64 0] near) := HB.out.1
      have hk4 := HB.out.1.k4
      have hrg5 := blk_range HB.out.1.k5
      clear HB
      go_upto_region 8 with fail
      rename_i K hK
      refine wp_region_lit ?_
      refine wpList_runTo rfl (some 28) rfl (.agg near.cs) wr (by exact ldA_run hrg5 Try.underlying61 rfl infoP (.tmp 5) rfl (by kernel_rfl)) ?_
      simp only [Act.put, List.setIfInBounds_toArray, List.set_cons_zero, List.set_cons_succ]
      refine wpList_plain rfl fun K1 hK1 => ?_
      refine wp_store_row 61 (.tmp 4) (.tmp 28) rfl b4 near.cs (by kernel_rfl) (by kernel_rfl) 61 #[.int .i64 0, .int .i64 0, .int .i64 0] hk4 infoP rfl (by first | rfl | kernel_rfl | (simp [Pt.cs, Value.oneCell'])) ?_
      refine hK1 _ _ ?_
      clear hK1 hrg5
      refine wpList_nil ?_
      refine hK _ _ ?_
      clear hK
      apply wp_ret
      show bodyPost Try.prog Try.f49 _ Exit.ret _ _
      refine bodyPost_ret (results_cell_row (fn := Try.f49) (p := 4) (ty := 61) rfl _ _ b4 61 near.cs (0, 0) _ (by kernel_rfl) (setRow_heap _ _ _ _ _ _ hk4) Try.underlying61 rfl infoP) (by kernel_rfl) ⟨rfl, below_setRow HS.out.bel HS.out.lo4 _⟩
end Go.Proofs.Ytbhddfcdnpidkaa
