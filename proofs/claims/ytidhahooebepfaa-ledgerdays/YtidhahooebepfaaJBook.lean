/-
  ledger: bookings are added one behind the other.
-/
import Derived.Test.YtidhahooebepfaaJBears
import Derived.Defers
namespace Go.Proofs.Ytidhahooebepfaa
set_option linter.unusedVariables false
set_option linter.unusedSimpArgs false
open Go.RowKit Go.Great Go.Maps

def addsL (G : Lg) (l : List Bk) : Lg := l.foldl Lg.add G
theorem addsL_app (G : Lg) (l k : List Bk) : addsL G (l ++ k) = addsL (addsL G l) k := List.foldl_append
theorem addsL_take (G : Lg) {l : List Bk} {k : Nat} {b : Bk} (h : l[k]? = some b) : addsL G (l.take (k + 1)) = (addsL G (l.take k)).add b := by
  have hk := List.getElem?_eq_some_iff.1 h
  rw [List.take_succ_eq_append_getElem hk.1, hk.2, addsL_app]; rfl
theorem addsL_same (G : Lg) : ∀ (l : List Bk), (addsL G l).g = G.g ∧ (∀ x, (addsL G l).own x ↔ G.own x) ∧ (addsL G l).tv = G.tv ∧ (addsL G l).bv = G.bv ∧ (addsL G l).ts = G.ts ∧ (addsL G l).bs = G.bs ∧ (addsL G l).ma = G.ma ∧ (addsL G l).mt = G.mt ∧ (addsL G l).mo = G.mo := by
  intro l
  induction l generalizing G with
  | nil => exact ⟨rfl, fun _ => Iff.rfl, rfl, rfl, rfl, rfl, rfl, rfl, rfl⟩
  | cons b l ih => exact ih (G.add b)
theorem Bd.adds {G : Lg} {B M : Int} {n : Nat} {l : List Bk} (h : Bd G B n) (hb : ∀ b ∈ l, b.inn M) (hM : 0 ≤ M) : ∀ k, k ≤ l.length → Bd (addsL G (l.take k)) (B + k * M) (n + k)
  | 0, _ => by
    simp only [List.take_zero]
    have e : B + ((0 : Nat) : Int) * M = B := by simp
    rw [e]; exact h
  | k + 1, hk => by
    have hkl : k < l.length := hk
    have e := addsL_take G (List.getElem?_eq_getElem hkl)
    rw [e]
    have h1 := (h.adds hb hM k (Nat.le_of_lt hkl)).add (hb _ (List.getElem_mem hkl)) hM
    have e2 : B + ((k + 1 : Nat) : Int) * M = B + (k : Int) * M + M := by
      rw [Int.natCast_add, Int.add_mul]; simp; omega
    rw [e2]
    exact h1
theorem Bd.br {G : Lg} {B : Int} {n : Nat} (h : Bd G B n) (hB : B ≤ 1000000000000000000) (ac sy : ByteArray) : brB (amt G.A ac sy) (tot G.O ac).1 (tot G.O ac).2 = true := by
  obtain ⟨h1, h2, h3, h4, h5, h6⟩ := h.a ac sy
  obtain ⟨k1, k2, k3, k4⟩ := h.o ac
  unfold brB inS
  simp only [Bool.and_eq_true, wiB_iff]
  exact ⟨⟨⟨⟨⟨by omega, by omega⟩, by omega, by omega⟩, by omega, by omega⟩, by omega, by omega⟩, by omega, by omega⟩
set_option maxRecDepth 100000 in
theorem book1_ok (eb sb cb lb : Nat) (u : FrameMode) (w : World) (hc : w.cell? ⟨eb, 0, none⟩ = some (.int .i64 0)) :
    CallsD Try.prog 37 #[.pointer (some ⟨eb, 0, none⟩), .pointer (some ⟨sb, 0, none⟩), .pointer (some ⟨cb, 0, none⟩), .pointer (some ⟨lb, 0, none⟩)] u w fun e u' w' => u' = u ∧ (e = .returned (.tuple #[]) ∧ w' = w) := by
  go_enter_d Try.func37, Try.ntmps37
  go_wp2
  first | go_end0 | (simp only [Exit.inBlock, Exit.then]; refine bodyPost_ret (results_none rfl _ _ _) rfl ?_) | refine bodyPost_ret (results_none rfl _ _ _) rfl ?_
  exact ⟨rfl, rfl⟩
/-- Where the loop stands: k are added, c are counted. -/
structure BL (w W : World) (G : Lg) (l : List Bk) (v : Value) (lb sb eb cb k : Nat) (c : Int) : Prop where
  at' : LgAt W (addsL G (l.take k))
  fr : Fr w W G.own
  row : RowAt W 42 5 v l.length (flatL Bk.cl l)
  bl : Blk W lb 23 #[.pointer (some ⟨G.g, 0, none⟩)]
  bs : Blk W sb 39 #[v]
  be : Blk W eb 25 #[.int .i64 0]
  bc : Blk W cb 3 #[.int .i64 c]
  low : w.heap.size ≤ cb ∧ w.heap.size ≤ eb
section
variable {w W W' : World} {G : Lg} {l : List Bk} {v : Value} {lb sb eb cb k : Nat} {c : Int}
theorem BL.own (h : BL w W G l v lb sb eb cb k c) (x : Nat) : (addsL G (l.take k)).own x ↔ G.own x := (addsL_same G _).2.1 x
theorem BL.below (h : BL w W G l v lb sb eb cb k c) (hb : Below W.heap.size W W') : BL w W' G l v lb sb eb cb k c :=
  ⟨h.at'.below hb, h.fr.both (Fr.of_below hb _), h.row.fr (Fr.of_below hb (fun _ => False)) fun _ _ => id, h.bl.below hb h.bl.lt, h.bs.below hb h.bs.lt, h.be.below hb h.be.lt, h.bc.below hb h.bc.lt, h.low⟩
theorem BL.ne_row (h : BL w W G l v lb sb eb cb k c) (q : Nat) (hq : v.ownBlock = some q) : ¬ (addsL G (l.take k)).own q := by
  obtain ⟨_, cur, hc⟩ := h.row.lt hq
  exact h.at'.ne_blk (T := 42) (cs := cur) hc (by decide) (by decide) (by decide)
theorem BL.added (h : BL w W G l v lb sb eb cb k c) (hat : LgAt W' (addsL G (l.take (k + 1)))) (hf : Fr W W' (addsL G (l.take k)).own) : BL w W' G l v lb sb eb cb (k + 1) c :=
  ⟨hat, h.fr.both (hf.mono fun i _ e => (h.own i).1 e), h.row.fr hf fun q hq => h.ne_row q hq, h.bl.fr hf (h.at'.ne_blk h.bl (by decide) (by decide) (by decide)), h.bs.fr hf (h.at'.ne_blk h.bs (by decide) (by decide) (by decide)), h.be.fr hf (h.at'.ne_blk h.be (by decide) (by decide) (by decide)), h.bc.fr hf (h.at'.ne_blk h.bc (by decide) (by decide) (by decide)), h.low⟩
theorem BL.count (h : BL w W G l v lb sb eb cb k c) (x : Int) : BL w (W.setCell ⟨cb, 0, none⟩ (.int .i64 x)) G l v lb sb eb cb k x := by
  have hf := Fr.setCell W ⟨cb, 0, none⟩ (.int .i64 x) (fun b => b = cb) rfl
  have hno := h.at'.ne_blk h.bc (by decide) (by decide) (by decide)
  refine ⟨h.at'.fr hf (fun b hb e => hno (e ▸ hb)), h.fr.trans hf (fun i hi q => ?_), h.row.fr hf (fun q hq e => ?_), h.bl.other (h.bl.ne_type h.bc (by decide)) _ _, h.bs.other (h.bs.ne_type h.bc (by decide)) _ _, h.be.other (h.be.ne_type h.bc (by decide)) _ _, h.bc.set 0 _, h.low⟩
  · rcases q with q | q
    · exact q
    · have := h.low.1; omega
  · subst e
    exact h.row.ne_type h.bc (by decide) hq
theorem BL.err (h : BL w W G l v lb sb eb cb k c) : BL w (W.setCell ⟨eb, 0, none⟩ (.int .i64 0)) G l v lb sb eb cb k c := by
  have hf := Fr.setCell W ⟨eb, 0, none⟩ (.int .i64 0) (fun b => b = eb) rfl
  have hno := h.at'.ne_blk h.be (by decide) (by decide) (by decide)
  refine ⟨h.at'.fr hf (fun b hb e => hno (e ▸ hb)), h.fr.trans hf (fun i hi q => ?_), h.row.fr hf (fun q hq e => ?_), h.bl.other (h.bl.ne_type h.be (by decide)) _ _, h.bs.other (h.bs.ne_type h.be (by decide)) _ _, h.be.set 0 _, h.bc.other (h.bc.ne_type h.be (by decide)) _ _, h.low⟩
  · rcases q with q | q
    · exact q
    · have := h.low.2; omega
  · subst e
    exact h.row.ne_type h.be (by decide) hq
end
set_option maxRecDepth 100000 in
set_option maxHeartbeats 4000000 in
theorem book_yes (G : Lg) (l : List Bk) (v : Value) (w : World) (h : LgAt w G) (hr : RowAt w 42 5 v l.length (flatL Bk.cl l)) {B M : Int} {n : Nat} (hd : Bd G B n) (hb : ∀ b ∈ l, b.inn M) (hs : ∀ b ∈ l, b.sz) (hM : 0 ≤ M) (hB0 : 0 ≤ B) (hBM : B + l.length * M ≤ 1000000000000000000) (hn : n + l.length < maxLen) (hl : l.length ≤ 1000) :
    Calls Try.prog 24 #[.pointer (some ⟨G.g, 0, none⟩), v] w fun e w' => e = .returned (.int .i64 0) ∧ Hid (LgAt w' (addsL G l) ∧ Fr w w' G.own) := by
  obtain ⟨ao, cap, rfl, _⟩ := hr.form
  have hmf : ∀ (fn : Fn) (first cap : Array Value) (w : World), (Instr.makeFunc fn first cap).run Try.prog w = .ok (.func fn first cap) w := fun _ _ _ _ => rfl
  have HSt : Hid (∀ k b, l[k]? = some b → AddOk (addsL G (l.take k)) b ∧ brB (amt (addsL G (l.take (k + 1))).A b.ac b.sy) (tot (addsL G (l.take (k + 1))).O b.ac).1 (tot (addsL G (l.take (k + 1))).O b.ac).2 = true ∧ b.sz) := fun k b hk => by
    have hkl := (List.getElem?_eq_some_iff.1 hk).1
    have hbl : b ∈ l := List.mem_of_getElem? hk
    have hmul : ∀ j : Nat, j ≤ l.length → B + (j : Int) * M ≤ 1000000000000000000 := fun j hj => by
      have : (j : Int) * M ≤ (l.length : Int) * M := Int.mul_le_mul_of_nonneg_right (by omega) hM
      omega
    have hnn : ∀ j : Nat, 0 ≤ (j : Int) * M := fun j => Int.mul_nonneg (by omega) hM
    have h1 := hmul (k + 1) hkl
    have e2 : ((k + 1 : Nat) : Int) * M = (k : Int) * M + M := by rw [Int.natCast_add, Int.add_mul]; simp
    rw [e2] at h1
    have h2 := hnn k
    exact ⟨(hd.adds hb hM k (Nat.le_of_lt hkl)).ok (hb b hbl) (hs b hbl) hM (by omega) (by omega) (by omega), (hd.adds hb hM (k + 1) hkl).br (hmul _ hkl) b.ac b.sy, hs b hbl⟩
  have hG := (addsL_same G)
  have H0 : Hid (∀ W : World, Below w.heap.size w W → LgAt W G ∧ RowAt W 42 5 (.slice ao l.length cap) l.length (flatL Bk.cl l)) := fun W hb => ⟨h.below hb, hr.fr (Fr.of_below hb (fun _ => False)) fun _ _ => id⟩
  have HFin : Hid (l.take l.length = l) := List.take_length
  clear h hr hd hb hs hM hB0 hBM hn hG
  generalize hN : l.length = N at *
  go_enter_defers Try.func24, Try.ntmps24
  go_upto_region 3 with fail
  have HB0 : Hid (BL w ((((w.alloc (.cells #[.pointer (some ⟨G.g, 0, none⟩)] 23)).alloc (.cells #[.slice ao N cap] 39)).alloc (.cells #[.int .i64 0] 25)).alloc (.cells #[.int .i64 0] 3)) G l (.slice ao N cap) w.heap.size (w.heap.size + 1) (w.heap.size + 1 + 1) (w.heap.size + 1 + 1 + 1) 0 0) := by
    have b1 : Below w.heap.size w (w.alloc (.cells #[.pointer (some ⟨G.g, 0, none⟩)] 23)) := (Below.refl _ w).alloc (Nat.le_refl _) _
    have b2 := b1.alloc b1.size (.cells #[.slice ao N cap] 39)
    have b3 := b2.alloc b2.size (.cells #[.int .i64 0] 25)
    have b4 := b3.alloc b3.size (.cells #[.int .i64 0] 3)
    have h0 := H0.out _ b4
    refine ⟨h0.1, Fr.of_below b4 _, ?_, ?_, ?_, ?_, ?_, by omega, by omega⟩
    · rw [hN]; exact h0.2
    · exact (((Blk.new w _ _).alloc _).alloc _).alloc _
    · exact ((Blk.new' _ _ _ (by simp)).alloc _).alloc _
    · exact (Blk.new' _ _ _ (by simp)).alloc _
    · exact Blk.new' _ _ _ (by simp)
  clear H0
  generalize ((((w.alloc (.cells #[.pointer (some ⟨G.g, 0, none⟩)] 23)).alloc (.cells #[.slice ao N cap] 39)).alloc (.cells #[.int .i64 0] 25)).alloc (.cells #[.int .i64 0] 3)) = W0 at *
  generalize w.heap.size + 1 + 1 + 1 = cb at *
  generalize w.heap.size + 1 + 1 = eb at *
  generalize w.heap.size + 1 = sb at *
  generalize hlb : w.heap.size = lb at *
  clear hlb
  have sl : W0.cell? ⟨sb, 0, none⟩ = some (.slice ao N cap) := HB0.out.bs.cell 0
  go_wp2
  clear sl
  go_loopw [11] (fun i wr => ∃ k : Nat, k ≤ N ∧ i = .int .i64 k ∧ Hid (BL w wr G l (.slice ao N cap) lb sb eb cb k k)) (fun i _ => N - (intOf i).toNat)
  case atStart => exact ⟨0, by omega, rfl, HB0.out⟩
  case round =>
    obtain ⟨k, hk, rfl, HR⟩ := hrel
    clear HB0
    by_cases hlt : k < N
    · have hlt' : (k : Int) < (N : Int) := by omega
      obtain ⟨b, hbk⟩ : ∃ b, l[k]? = some b := ⟨l[k]'(by omega), List.getElem?_eq_getElem (by omega)⟩
      have HBk : Hid (l[k]? = some b) := hbk
      obtain ⟨lg, lo, capv, _, hv, _⟩ := HR.out.row.more (by omega)
      injection hv with hv1 hv2 hv3
      subst hv1 hv3
      have HRg : Hid (wr.rangeAt lg (lo + k * 5) b.cs.toList) := fun j u hu => by
        have hj : j < 5 := (List.getElem?_eq_some_iff.1 hu).1
        rw [Nat.add_assoc]
        exact HR.out.row.cell (by rw [hN]) ((flatL_get Bk.cl_len hbk hj).trans hu)
      clear hbk hv2
      go_upto_region 5 with fail
      rename_i K5 hK5
      refine wp_region_lit ?_
      refine wpList_runTo rfl (some 13) rfl (.pointer (some ⟨lg, lo + k * 5, none⟩)) wr (by exact ixB_run (n := N) (c := cap) (.tmp 9) (.tmp 11) rfl (by kernel_rfl) (by kernel_rfl) hlt wr) ?_
      simp only [Act.put, List.setIfInBounds_toArray, List.set_cons_zero, List.set_cons_succ]
      refine wpList_runTo rfl (some 14) rfl (.agg b.cs) wr (by exact ldK_run HRg.out rfl (.tmp 13) rfl (by kernel_rfl)) ?_
      simp only [Act.put, List.setIfInBounds_toArray, List.set_cons_zero, List.set_cons_succ]
      refine wpList_runTo rfl (some 7) rfl (.pointer (some ⟨wr.heap.size, 0, none⟩)) (wr.alloc (.cells #[.string ⟨#[]⟩, .string ⟨#[]⟩, .int .i64 0, .int .i64 0, .int .i64 0] 42)) (by kernel_rfl) ?_
      simp only [Act.put, List.setIfInBounds_toArray, List.set_cons_zero, List.set_cons_succ]
      refine wpList_store_row rfl 42 (.tmp 7) (.tmp 14) rfl wr.heap.size b.cs (by kernel_rfl) (by kernel_rfl) 42 _ (Blk.new _ _ _) (by kernel_rfl) rfl (by kernel_rfl) ?_
      refine wpList_nil ?_
      refine hK5 _ _ ?_
      simp only [Act.put, List.setIfInBounds_toArray, List.set_cons_zero, List.set_cons_succ]
      have HX : Hid (BL w ((wr.alloc (.cells #[.string ⟨#[]⟩, .string ⟨#[]⟩, .int .i64 0, .int .i64 0, .int .i64 0] 42)).setRow wr.heap.size b.cs) G l (.slice (some ⟨lg, lo, none⟩) N cap) lb sb eb cb k k ∧ Blk ((wr.alloc (.cells #[.string ⟨#[]⟩, .string ⟨#[]⟩, .int .i64 0, .int .i64 0, .int .i64 0] 42)).setRow wr.heap.size b.cs) wr.heap.size 42 b.cs) := ⟨HR.out.below (below_alloc_set _ _), setRow_heap _ _ _ _ _ _ (Blk.new _ _ _)⟩
      clear HR HRg hK5
      generalize (wr.alloc (.cells #[.string ⟨#[]⟩, .string ⟨#[]⟩, .int .i64 0, .int .i64 0, .int .i64 0] 42)).setRow wr.heap.size b.cs = X at *
      generalize wr.heap.size = bb at *
      have x1 : X.cell? ⟨lb, 0, none⟩ = some (.pointer (some ⟨G.g, 0, none⟩)) := HX.out.1.bl.cell 0
      go_upto_region 6 with fail
      rename_i K6 hK6
      refine wp_region_lit ?_
      refine wpList_runTo rfl (some 15) rfl (.pointer (some ⟨G.g, 0, none⟩)) X (by go_simp) ?_
      simp only [Act.put, List.setIfInBounds_toArray, List.set_cons_zero, List.set_cons_succ]
      refine wpList_runTo rfl (some 16) rfl (.agg b.cs) X (by exact ldK_run HX.out.2.range rfl (.tmp 7) rfl (by kernel_rfl)) ?_
      simp only [Act.put, List.setIfInBounds_toArray, List.set_cons_zero, List.set_cons_succ]
      have hadd := add_any (addsL G (l.take k)) b X HX.out.1.at' (HSt.out k b HBk.out).1
      rw [(addsL_same G _).1, ← addsL_take G HBk.out] at hadd
      refine wpList_callW rfl (some 17) rfl 38 #[.pointer (some ⟨G.g, 0, none⟩), .agg b.cs] (by kernel_rfl) hadd ?_
      rintro e w2 ⟨rfl, hat, hf⟩
      refine ⟨_, rfl, ?_⟩
      refine wpList_nil ?_
      refine hK6 _ _ ?_
      simp only [Act.put, List.setIfInBounds_toArray, List.set_cons_zero, List.set_cons_succ]
      have HY : Hid (BL w w2 G l (.slice (some ⟨lg, lo, none⟩) N cap) lb sb eb cb (k + 1) k ∧ Blk w2 bb 42 b.cs) := ⟨HX.out.1.added hat hf, HX.out.2.fr hf (HX.out.1.at'.ne_blk HX.out.2 (by decide) (by decide) (by decide))⟩
      clear HX x1 hat hf hadd hK6
      have y1 : w2.cell? ⟨cb, 0, none⟩ = some (.int .i64 k) := HY.out.1.bc.cell 0
      have y2 : w2.frozen? ⟨cb, 0, none⟩ = false := HY.out.1.bc.frozen 0
      go_upto_region 8 with fail
      have HZ : Hid (BL w (w2.setCell ⟨cb, 0, none⟩ (.int .i64 ((k : Int) + 1))) G l (.slice (some ⟨lg, lo, none⟩) N cap) lb sb eb cb (k + 1) ((k : Int) + 1) ∧ Blk (w2.setCell ⟨cb, 0, none⟩ (.int .i64 ((k : Int) + 1))) bb 42 b.cs) := ⟨HY.out.1.count _, HY.out.2.other (HY.out.2.ne_type HY.out.1.bc (by decide)) _ _⟩
      clear HY y1 y2
      generalize w2.setCell ⟨cb, 0, none⟩ (.int .i64 ((k : Int) + 1)) = w3 at *
      have z1 : w3.cell? ⟨lb, 0, none⟩ = some (.pointer (some ⟨G.g, 0, none⟩)) := HZ.out.1.bl.cell 0
      have z2 : w3.cell? ⟨bb, 0, none⟩ = some (.string b.ac) := HZ.out.2.cell 0
      have z3 : w3.cell? ⟨bb, 1, none⟩ = some (.string b.sy) := HZ.out.2.cell 1
      have hbr := bears_any (addsL G (l.take (k + 1))) b.ac b.sy w3 HZ.out.1.at' (HSt.out k b HBk.out).2.2.1 (HSt.out k b HBk.out).2.2.2
      rw [(HSt.out k b HBk.out).2.1, (addsL_same G _).1] at hbr
      go_wp2_with (go_at_call 39; fail)
      refine hbr.mono ?_
      rintro e w4 ⟨rfl, hb4⟩
      have HF : Hid (BL w w4 G l (.slice (some ⟨lg, lo, none⟩) N cap) lb sb eb cb (k + 1) ((k + 1 : Nat) : Int)) := HZ.out.1.below hb4
      clear HZ z1 z2 z3 hbr hb4
      go_wp2
      exact ⟨⟨k + 1, by omega, by go_num, HF⟩, by simp [intOf]; omega⟩
    · have hkN : k = N := by omega
      have hstop : ¬ (k : Int) < (N : Int) := by omega
      have HE : Hid (BL w (wr.setCell ⟨eb, 0, none⟩ (.int .i64 0)) G l (.slice ao N cap) lb sb eb cb N N) := by
        have := HR.out.err
        rw [hkN] at this
        exact this
      have e1 : wr.cell? ⟨eb, 0, none⟩ = some (.int .i64 0) := HR.out.be.cell 0
      have e2 : wr.frozen? ⟨eb, 0, none⟩ = false := HR.out.be.frozen 0
      clear HR hlt hkN
      go_wp2
      generalize wr.setCell ⟨eb, 0, none⟩ (.int .i64 0) = wE at *
      refine leaves_cons (f := 37) (args := #[.pointer (some ⟨eb, 0, none⟩), .pointer (some ⟨sb, 0, none⟩), .pointer (some ⟨cb, 0, none⟩), .pointer (some ⟨lb, 0, none⟩)]) (by simp) (by simp [go_sem]) ?_
      refine (book1_ok eb sb cb lb .returning wE (HE.out.be.cell 0)).mono ?_
      rintro e u' w'' ⟨rfl, rfl, rfl⟩
      have hc := HE.out.be.cell 0
      refine ⟨.int .i64 0, ?_, rfl, ?_⟩
      · have hc' : w''.cell? ⟨eb, 0, none⟩ = some (.int .i64 0) := hc
        clear hc
        simp [results, Try.results24, go_sem, hc']
      · have h1 := HE.out.at'
        rw [HFin.out] at h1
        exact ⟨h1, HE.out.fr⟩
end Go.Proofs.Ytidhahooebepfaa
