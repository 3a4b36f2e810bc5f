/-
  The law's mark, lent, still, of fields.
-/
import Derived.Test.YtfgfjkchcnpakaaDoorFSame
import Derived.Laws.CopyRow
import Derived.Laws.CopyOwn
import Derived.Laws.IdiomCopy
import Derived.Laws.OwnMore
namespace Go.Proofs.YtfgfjkchcnpakaaDoor
set_option linter.unusedVariables false
open Go.RowKit

def mineL : List UInt8 := [109, 105, 110, 101]
def mk (n : Int) : Fld := (-n, mineL)
set_option maxRecDepth 100000 in
theorem mark_any (n : Int) (w : World) (h0 : -9223372036854775807 ≤ n) (h1 : n ≤ 9223372036854775807) :
    Calls Tryd.prog 45 #[.int .i64 n] w fun x w' => x = .returned (.agg #[.int .i64 (-n), .string ⟨#[109, 105, 110, 101]⟩]) ∧ Below w.heap.size w w' := by
  go_enter Tryd.func45, Tryd.ntmps45
  go_wp2
  try simp only [Exit.inBlock, Exit.then]
  refine bodyPost_ret (results_cell_row (fn := Tryd.f45) (p := 2) (ty := 36) rfl _ _ w.heap.size 36 _ (0, 0) _ (by rfl) (heap_alloc_new w _) Tryd.underlying36 rfl (by kernel_rfl)) rfl ?_
  exact ⟨rfl, (Below.refl _ w).alloc (Nat.le_refl _) _⟩

/-- A block that holds fields. -/
def BlkF (w : World) (g : Nat) (gs : List Fld) : Prop := w.heap[g]? = some (.cells (fcs gs).toArray 36 (0, 0))
theorem BlkF.lt {w : World} {g : Nat} {gs : List Fld} (h : BlkF w g gs) : g < w.heap.size := by
  rcases Nat.lt_or_ge g w.heap.size with h' | h'
  · exact h'
  · unfold BlkF at h; rw [Array.getElem?_eq_none h'] at h; cases h
theorem BlkF.below {w w' : World} {g B : Nat} {gs : List Fld} (h : BlkF w g gs) (hb : Below B w w') (hg : g < B) : BlkF w' g gs := (hb.block g hg).trans h
theorem BlkF.src {w : World} {g c : Nat} {gs fs : List Fld} (h : BlkF w g gs) (hf : ∃ t, gs = fs ++ t) (hc : fs.length ≤ c) : SrcF w (.slice (some ⟨g, 0, none⟩) fs.length c) fs := by
  obtain ⟨t, rfl⟩ := hf
  refine ⟨_, c, rfl, hc, .inr ⟨g, 0, rfl, fun j f hj => ?_⟩⟩
  have hj' : (fs ++ t)[j]? = some f := by rw [List.getElem?_append_left (List.getElem?_eq_some_iff.1 hj).1]; exact hj
  obtain ⟨e1, e2⟩ := fcs_at (fs ++ t) j f hj'
  rw [Nat.zero_add, cell_of_row w g _ _ _ _ h, cell_of_row w g _ _ _ _ h]
  exact ⟨by simpa using e1, by simpa using e2⟩
theorem BlkF.cells {w : World} {g : Nat} {gs : List Fld} (h : BlkF w g gs) (j : Nat) (f : Fld) (hj : gs[j]? = some f) :
    w.cell? ⟨g, j * 2, none⟩ = some (.int .i64 f.1) ∧ w.cell? ⟨g, j * 2 + 1, none⟩ = some (.string (bs f.2)) ∧ w.frozen? ⟨g, j * 2, none⟩ = false ∧ w.frozen? ⟨g, j * 2 + 1, none⟩ = false := by
  obtain ⟨e1, e2⟩ := fcs_at gs j f hj
  have h' := h
  unfold BlkF at h'
  refine ⟨?_, ?_, by simp [World.frozen?, h'], by simp [World.frozen?, h']⟩
  · rw [cell_of_row w g _ _ _ _ h]; simpa using e1
  · rw [cell_of_row w g _ _ _ _ h]; simpa using e2
theorem fcs_set : ∀ (gs : List Fld) (k : Nat) (f : Fld), fcs (gs.set k f) = ((fcs gs).set (k * 2) (.int .i64 f.1)).set (k * 2 + 1) (.string (bs f.2))
  | [], k, f => rfl
  | g :: gs, 0, f => rfl
  | g :: gs, k + 1, f => by
    show ([_, _] : List Value) ++ fcs (gs.set k f) = _
    rw [fcs_set gs k f, show (k + 1) * 2 = k * 2 + 1 + 1 by omega]
    rfl
theorem BlkF.set {w : World} {g : Nat} {gs : List Fld} (h : BlkF w g gs) (k : Nat) (f : Fld) : BlkF ((w.setCell ⟨g, k * 2, none⟩ (.int .i64 f.1)).setCell ⟨g, k * 2 + 1, none⟩ (.string (bs f.2))) g (gs.set k f) := by
  unfold BlkF at *
  have h1 : (w.setCell ⟨g, k * 2, none⟩ (.int .i64 f.1)).heap[g]? = some (.cells ((fcs gs).toArray.setIfInBounds (k * 2) (.int .i64 f.1)) 36 (0, 0)) := by
    rw [setCell_eq_setRow w g _ _ 36 (0, 0) _ h]
    exact setRow_heap w g _ _ 36 (0, 0) h
  rw [setCell_eq_setRow _ g _ _ 36 (0, 0) _ h1]
  rw [setRow_heap _ g _ _ 36 (0, 0) h1, fcs_set]
  congr 2
  apply Array.ext'
  simp
theorem sizeF : (Tryd.prog.info? 36).map (·.size) = some 2 := by kernel_rfl
theorem run_copy_two {P : Program} (w : World) (dT sT ty elem : TypeId) (g o dLen dCap : Nat) (a : Addr) (sLen sCap : Nat) (cur : Array Value) (t : TypeId) (cs : List Value)
    (hu : P.underlying dT = some (.slice elem)) (hs : (P.info? elem).map (·.size) = some 2)
    (hg : w.heap[g]? = some (.cells cur t (0, 0))) (hn : cs.length = Nat.min sLen dLen * 2)
    (hsrc : ∀ j v, cs[j]? = some v → w.cell? (a.add j) = some v) (hfit : o + cs.length ≤ cur.size) (h1 : ∀ v ∈ cs, v.oneCell' = true) :
    (Builtin.copy_ #[dT, sT] ty #[.slice (some ⟨g, o, none⟩) dLen dCap, .slice (some a) sLen sCap]).run P w =
      .ok (goInt (Nat.min sLen dLen)) (w.setRow g (cur.toList.take o ++ cs ++ cur.toList.drop (o + cs.length)).toArray) := by
  have hl := run_loadCells_list (P := P) w a cs hsrc
  have hst := run_storeCells_at P g o t cs 0 cur w hg (by simpa using hfit) h1
  cases hq : P.info? elem with
  | none => simp [hq] at hs
  | some i =>
    have hi : i.size = 2 := by simpa [hq] using hs
    simp [Builtin.copy_, run_underlying hu, Builtin.lenOf, Builtin.firstCells, sizeOf, typeInfo, hq, hi, ← hn, hl, hst]
theorem run_copy_zero {P : Program} (w : World) (dT sT ty elem : TypeId) (d a : Option Addr) (dLen dCap sCap : Nat) (hu : P.underlying dT = some (.slice elem)) (hs : (P.info? elem).map (·.size) = some 2) :
    (Builtin.copy_ #[dT, sT] ty #[.slice d dLen dCap, .slice a 0 sCap]).run P w = .ok (goInt 0) w := by
  have hn : Nat.min 0 dLen = 0 := by simp
  cases hq : P.info? elem with
  | none => simp [hq] at hs
  | some i =>
    have hl : ∀ (x : Addr), (loadCells x 0).run P w = .ok #[] w := fun x => by simpa using run_loadCells_list (P := P) w x [] (by simp)
    cases d <;> cases a <;> simp [Builtin.copy_, run_underlying hu, Builtin.lenOf, Builtin.firstCells, sizeOf, typeInfo, hq, hn, storeCells, hl]
def z0 : Fld := (0, [])
theorem fcs_rep : ∀ n : Nat, fcs (List.replicate n z0) = (madeCells #[.int .i64 0, .string ⟨#[]⟩] (n * 2)).toList := by
  intro n
  have hl : (fcs (List.replicate n z0)).length = (madeCells #[.int .i64 0, .string ⟨#[]⟩] (n * 2)).toList.length := by
    rw [fcs_length, List.length_replicate]; simp [size_madeCells]
  apply List.ext_getElem?
  intro j
  by_cases hj : j < n * 2
  · have e1 : (madeCells #[Value.int .i64 0, .string ⟨#[]⟩] (n * 2)).toList[j]? = some (#[Value.int .i64 0, .string ⟨#[]⟩][j % 2]!) := by
      simp [madeCells, hj]
    rw [e1]
    have hd := fcs_at (List.replicate n z0) (j / 2) z0 (by rw [List.getElem?_replicate, if_pos (by omega)])
    by_cases hm : j % 2 = 0
    · rw [hm]
      have e : j / 2 * 2 = j := by omega
      rw [e] at hd
      rw [hd.1]; rfl
    · have hm1 : j % 2 = 1 := by omega
      rw [hm1]
      have e : j / 2 * 2 + 1 = j := by omega
      rw [e] at hd
      rw [hd.2]; rfl
  · rw [List.getElem?_eq_none (by rw [fcs_length, List.length_replicate]; omega), List.getElem?_eq_none (by rw [← hl, fcs_length, List.length_replicate]; omega)]
theorem copy_flds (v : Value) (fs : List Fld) (g m : Nat) (W : World) (hs : SrcF W v fs) (ho : BlkF W g (List.replicate m z0)) (hn : fs.length ≤ m) (B : Nat) (w0 : World) (hb : Below B w0 W) (hBg : B ≤ g) :
    ∃ W2, (Builtin.copy_ #[22, 22] 3 #[.slice (some ⟨g, 0, none⟩) m m, v]).run Tryd.prog W = .ok (.int .i64 (fs.length : Int)) W2 ∧ BlkF W2 g (fs ++ List.replicate (m - fs.length) z0) ∧ Below B w0 W2 := by
  obtain ⟨ao, cap, rfl, hc, h⟩ := hs
  rcases h with rfl | ⟨b, off, rfl, hr⟩
  · refine ⟨W, run_copy_zero (P := Tryd.prog) W 22 22 3 36 _ ao m m cap Tryd.underlying22 sizeF, ?_, hb⟩
    simpa using ho
  · have hcs : ∀ (j : Nat) (u : Value), (fcs fs)[j]? = some u → W.cell? ((⟨b, off, none⟩ : Addr).add j) = some u := fun j u e => by
      rw [addr_add]
      have hjl : j < fs.length * 2 := by rw [← fcs_length]; exact (List.getElem?_eq_some_iff.1 e).1
      have hj2 : j / 2 < fs.length := by omega
      have hf := List.getElem?_eq_getElem hj2
      obtain ⟨c1, c2⟩ := hr (j / 2) _ hf
      obtain ⟨d1, d2⟩ := fcs_at fs (j / 2) _ hf
      by_cases hm : j % 2 = 0
      · have ej : j / 2 * 2 = j := by omega
        rw [ej] at c1 d1
        rw [c1, ← e, d1]
      · have ej : j / 2 * 2 + 1 = j := by omega
        rw [ej] at d2
        rw [show off + j / 2 * 2 + 1 = off + j by omega] at c2
        rw [c2, ← e, d2]
    have hmin : Nat.min fs.length m = fs.length := Nat.min_eq_left hn
    have h := run_copy_two (P := Tryd.prog) W 22 22 3 36 g 0 m m ⟨b, off, none⟩ fs.length cap (fcs (List.replicate m z0)).toArray 36 (fcs fs) Tryd.underlying22 sizeF ho (by rw [hmin, fcs_length]) hcs
      (by simp [fcs_length]; omega) (fcs_one fs)
    rw [hmin] at h
    refine ⟨_, by simpa [goInt] using h, ?_, below_setRow hb hBg _⟩
    unfold BlkF
    rw [setRow_heap W g _ _ 36 (0, 0) ho]
    refine congrArg (fun a : Array Value => some (Obj.cells a 36 (0, 0))) (Array.ext' ?_)
    have e2 : List.replicate m z0 = List.replicate fs.length z0 ++ List.replicate (m - fs.length) z0 := by rw [List.replicate_append_replicate, Nat.add_sub_cancel' hn]
    show fcs fs ++ List.drop (fcs fs).length (fcs (List.replicate m z0)) = fcs (fs ++ List.replicate (m - fs.length) z0)
    rw [e2, fcs_app, fcs_app, List.drop_left']
    rw [fcs_length, fcs_length, List.length_replicate]

/-- What lent makes, at its n-th round. -/
def lentL (fs : List Fld) (k : Nat) : List Fld := fs ++ List.replicate k (mk 999) ++ List.replicate (8 - k) z0
theorem lentL_length (fs : List Fld) (k : Nat) (h : k ≤ 8) : (lentL fs k).length = fs.length + 8 := by simp [lentL]; omega
theorem lentL_set (fs : List Fld) (k : Nat) (h : k < 8) : (lentL fs k).set (fs.length + k) (mk 999) = lentL fs (k + 1) := by
  unfold lentL
  have e : List.replicate (8 - k) z0 = z0 :: List.replicate (8 - (k + 1)) z0 := by rw [show 8 - k = (8 - (k + 1)) + 1 by omega, List.replicate_succ]
  rw [List.set_append, if_neg (by simp)]
  have el : fs.length + k - (fs ++ List.replicate k (mk 999)).length = 0 := by simp
  rw [el, e, List.set_cons_zero, List.replicate_succ']
  simp
set_option maxRecDepth 100000 in
set_option maxHeartbeats 400000 in
theorem lent_any (v : Value) (fs : List Fld) (w : World) (hn : fs.length ≤ 5864062014634) (hs : SrcF w v fs) :
    Calls Tryd.prog 13 #[v] w fun e w' => e = .returned (.slice (some ⟨w.heap.size, 0, none⟩) (fs.length + 8) (fs.length + 8)) ∧ BlkF w' w.heap.size (lentL fs 8) ∧ Below w.heap.size w w' := by
  obtain ⟨i0, hi, hz0, hz1, hz2⟩ := info_parts infoF
  have HS : Hid (SrcF w v fs) := hs
  obtain ⟨ao, cap, rfl, hc, _⟩ := hs
  go_enter Tryd.func13, Tryd.ntmps13
  go_upto_region 2 with (at_make; refine wpList_make_full _ rfl _ _ 22 rfl w.heap.size 36 i0 (.agg #[.int .i64 0, .string ⟨#[]⟩]) 2 Tryd.underlying22 hi hz0 hz1 _ _ _ _ (fs.length + 8) rfl rfl (by omega) (by omega) (by rw [hz2]; omega) (by unfold maxLen; omega) (Nat.le_refl _) ?_; intro w1 ho1 hg1)
  have hb1 : Below w.heap.size w w1 := (Below.refl _ w).grown hg1 (Nat.le_refl _) (fun k hk => by cases hk)
  have hbk : BlkF w1 w.heap.size (List.replicate (fs.length + 8) z0) := by
    rcases ho1.2 with ⟨e, _⟩ | ⟨g, c, cur, e, _, r2, _, _, r5, r6⟩
    · cases e
    · injection e with e1 _ e3
      injection e1 with e1
      injection e1 with e1
      subst e1 e3
      unfold BlkF
      rw [r2, fcs_rep]
      have : cur.toList.take ((fs.length + 8) * 2) = cur.toList := List.take_of_length_le (by simp [r5])
      rw [this] at r6
      have r7 : cur.toList = (madeCells #[.int .i64 0, .string ⟨#[]⟩] ((fs.length + 8) * 2)).toList := r6
      rw [← r7]
  obtain ⟨W2, hcp, hbk2, hb2⟩ := copy_flds _ fs w.heap.size (fs.length + 8) w1 (HS.out.below hb1) hbk (by omega) w.heap.size w hb1 (Nat.le_refl _)
  rw [show fs.length + 8 - fs.length = 8 by omega] at hbk2
  have HB2 : Hid (BlkF W2 w.heap.size (lentL fs 0) ∧ Below w.heap.size w W2) := ⟨by unfold lentL; simpa using hbk2, hb2⟩
  clear ho1 hg1 hb1 hbk hbk2 hb2
  go_wp2
  go_loopw [4] (fun i wr => ∃ k : Nat, k ≤ 8 ∧ i = .int .i64 ((fs.length + k : Nat) : Int) ∧ BlkF wr w.heap.size (lentL fs k) ∧ Below w.heap.size w wr) (fun i _ => fs.length + 8 - (intOf i).toNat)
  case atStart => exact ⟨0, Nat.zero_le _, rfl, HB2.out.1, HB2.out.2⟩
  case round =>
    obtain ⟨k, hk, rfl, hbk, hbl⟩ := hrel
    have HB : Hid (BlkF wr w.heap.size (lentL fs k) ∧ Below w.heap.size w wr) := ⟨hbk, hbl⟩
    clear hbk hbl
    by_cases hlt : k < 8
    · obtain ⟨m, hm⟩ : ∃ m, fs.length + k = m := ⟨_, rfl⟩
      rw [hm]
      have hlt' : (m : Int) < (fs.length : Int) + 8 := by omega
      have h1 := mark_any 999 wr (by decide) (by decide)
      go_wp2_with (go_at_call 45; fail)
      refine h1.mono ?_
      rintro e w3 ⟨rfl, hb3⟩
      have hbk3 : BlkF w3 w.heap.size (lentL fs k) := HB.out.1.below hb3 HB.out.1.lt
      obtain ⟨f, hf⟩ : ∃ f, (lentL fs k)[m]? = some f := ⟨_, List.getElem?_eq_getElem (by rw [lentL_length fs k hk]; omega)⟩
      obtain ⟨c0, c1, z0', z1'⟩ := hbk3.cells m f hf
      have HB3 : Hid (BlkF ((w3.setCell ⟨w.heap.size, m * 2, none⟩ (.int .i64 (-999))).setCell ⟨w.heap.size, m * 2 + 1, none⟩ (.string ⟨#[109, 105, 110, 101]⟩)) w.heap.size (lentL fs (k + 1)) ∧ Below w.heap.size w ((w3.setCell ⟨w.heap.size, m * 2, none⟩ (.int .i64 (-999))).setCell ⟨w.heap.size, m * 2 + 1, none⟩ (.string ⟨#[109, 105, 110, 101]⟩))) := by
        refine ⟨?_, ((HB.out.2.trans (hb3.mono HB.out.2.size)).setCell (Nat.le_refl _) _).setCell (Nat.le_refl _) _⟩
        rw [← lentL_set fs k hlt, hm]
        exact hbk3.set m (mk 999)
      clear hb3 hbk3 hf h1 HB
      go_wp2
      exact ⟨⟨k + 1, by omega, by go_num, HB3.out.1, HB3.out.2⟩, by simp [intOf]; omega⟩
    · obtain rfl : k = 8 := by omega
      go_wp2
      go_ret
      exact ⟨rfl, HB.out.1, HB.out.2⟩
theorem lentL_lo (fs : List Fld) (j : Nat) (h : j < fs.length) : (lentL fs 8)[j]? = fs[j]? := by
  unfold lentL
  rw [List.append_assoc, List.getElem?_append_left h]
theorem lentL_hi (fs : List Fld) (j : Nat) (h : fs.length ≤ j) (h2 : j < fs.length + 8) : (lentL fs 8)[j]? = some (mk 999) := by
  unfold lentL
  rw [List.append_assoc, List.getElem?_append_right h, List.getElem?_append_left (by simp; omega), List.getElem?_replicate, if_pos (by omega)]
theorem takeD {P : Program} {md : Region.Mode} {ops : Array Oper} {Q : Exit → Act → World → Prop} {S : World → Prop} {i : Nat} {oi : Oper} {v : Value} {fuel : Nat} {listed : Array Bool} {a : Act} {w : World} (d : Option Tmp) (hi : ops[i]? = some oi) (hd : oi.dst = d)
    (hs : Region.noSelect ops = true) (hf : Region.free md ops listed i = true) (hr : (Region.ready md ops listed).contains i = true)
    (hQ : ∀ c a w, Q (.panic c) (a.put d v) w → Q (.panic c) a w) (hy : YieldsIf P ops S oi v a) (hS : S w)
    (h : wpAnyH P md ops Q S fuel (listed.setIfInBounds i true) (a.put d v) w) : wpAnyH P md ops Q S (fuel + 1) listed a w := by
  subst hd
  exact wpAnyH_take hi hs hf hr hQ hy hS h
theorem callOp {P : Program} {op : Oper} {a : Act} {w : World} {K : Act → World → Prop} {Q : Exit → Act → World → Prop} {d : Option Tmp} (hd : op.dst = d)
    (f : FuncId) (args : Array Value) (hrun : (execOp a.eval op).run P w = .ok (.enter f args) w) {R : Ending → World → Prop} (hc : Calls P f args w R)
    (h : ∀ e w', R e w' → ∃ v, e = .returned v ∧ K (a.put d v) w') : op.wp P a w K Q := by
  subst hd
  unfold Oper.wp
  rw [hrun, Oper.upon_enter]
  refine hc.mono fun e w'' hh => ?_
  obtain ⟨v, rfl, hw⟩ := h _ _ hh
  exact hw
set_option maxRecDepth 100000 in
set_option maxHeartbeats 800000 in
theorem still_any (g c : Nat) (u : Value) (fs : List Fld) (w : World) (hn : fs.length ≤ 5864062014634) (hc8 : fs.length + 8 ≤ c) (hb : BlkF w g (lentL fs 8)) (hu : SrcF w u fs) :
    Calls Tryd.prog 14 #[.slice (some ⟨g, 0, none⟩) (fs.length + 8) c, u] w fun e w' => e = .returned (.bool true) ∧ Below w.heap.size w w' := by
  have HS : Hid (BlkF w g (lentL fs 8) ∧ SrcF w u fs) := ⟨hb, hu⟩
  obtain ⟨ao, cap, rfl, hc, _⟩ := hu
  clear hb
  go_enter Tryd.func14, Tryd.ntmps14
  go_wp2
  go_loopw [5] (fun i wr => ∃ k : Nat, k ≤ fs.length + 8 ∧ i = .int .i64 (k : Int) ∧ Below w.heap.size w wr) (fun i _ => fs.length + 8 - (intOf i).toNat)
  case atStart => exact ⟨0, Nat.zero_le _, rfl, Below.refl _ _⟩
  case round =>
    obtain ⟨k, hk, rfl, hbl⟩ := hrel
    have HB : Hid (Below w.heap.size w wr) := hbl
    by_cases hlt : k < fs.length + 8
    · have hlt' : (k : Int) < (fs.length : Int) + 8 := by omega
      have hblk := HS.out.1.below hbl HS.out.1.lt
      by_cases hkn : k < fs.length
      · have hkn' : (k : Int) < (fs.length : Int) := by omega
        have hfk : fs[k]? = some fs[k] := List.getElem?_eq_getElem hkn
        obtain ⟨c0, c1, _, _⟩ := hblk.cells k fs[k] (by rw [lentL_lo fs k hkn]; exact hfk)
        obtain ⟨ao', cap', e1, _, h0 | ⟨b, off, e2, hcell⟩⟩ := HS.out.2.below hbl
        · rw [h0] at hkn; simp at hkn
        injection e1 with e1 _ e3
        subst e1 e2 e3
        obtain ⟨d0, d1⟩ := hcell k _ hfk
        clear hcell hfk hbl hblk
        generalize fs[k] = f at *
        obtain ⟨t, V⟩ := f
        generalize bs V = S at *
        have hge : decide ((fs.length : Int) ≤ (k : Int)) = false := decide_eq_false (by omega)
        have hge2 : decide (fs.length ≤ k) = false := decide_eq_false (by omega)
        go_wp2
        go_quiet (fail)
        go_wp2
        exact ⟨⟨k + 1, by omega, by go_num, below_drewN HB.out _⟩, by simp [intOf]; omega⟩
      · have hge' : (fs.length : Int) ≤ (k : Int) := by omega
        have hkn' : decide ((k : Int) < (fs.length : Int)) = false := decide_eq_false (by omega)
        have hkn2 : decide (k < fs.length) = false := decide_eq_false (by omega)
        have hcell := fun w' (hb' : Below wr.heap.size wr w') => (hblk.below hb' hblk.lt).cells k (mk 999) (lentL_hi fs k (by omega) hlt)
        have HK : Hid (∀ w', Below wr.heap.size wr w' → w'.cell? ⟨g, k * 2, none⟩ = some (.int .i64 (-999)) ∧ w'.cell? ⟨g, k * 2 + 1, none⟩ = some (.string ⟨#[109, 105, 110, 101]⟩)) := fun w' hb' => ⟨(hcell w' hb').1, (hcell w' hb').2.1⟩
        clear hcell hblk hbl
        have h1 := fun w' => mark_any 999 w' (by decide) (by decide)
        have hB1 : Below wr.heap.size wr wr.drew := (Below.refl _ wr).drew
        go_upto_region 4 with fail
        rename_i KK hKK
        refine wp_region_held (S := fun w' => Below wr.heap.size wr w' ∧ w'.cell? ⟨g, k * 2, none⟩ = some (.int .i64 (-999)) ∧ w'.cell? ⟨g, k * 2 + 1, none⟩ = some (.string ⟨#[109, 105, 110, 101]⟩)) (by kernel_rfl) ?_
        have HS7 : Hid (Below wr.heap.size wr wr.drew ∧ wr.drew.cell? ⟨g, k * 2, none⟩ = some (.int .i64 (-999)) ∧ wr.drew.cell? ⟨g, k * 2 + 1, none⟩ = some (.string ⟨#[109, 105, 110, 101]⟩)) := ⟨hB1, HK.out _ hB1⟩
        change wpAnyH _ _ _ _ _ _ _ _ (World.drew _)
        generalize wr.drew = w7 at *
        refine takeD (i := 0) (v := .int .i64 (k : Int)) (some 12) rfl rfl (by kernel_rfl) (by kernel_rfl) (by kernel_rfl) (fun _ _ _ h => h) (Or.inl ⟨by kernel_rfl, fun _ _ => by kernel_rfl⟩) HS7.out ?_
        simp only [Act.put, List.setIfInBounds_toArray, List.set_cons_zero, List.set_cons_succ]
        refine takeD (i := 1) (v := .slice ao fs.length cap) (some 13) rfl rfl (by kernel_rfl) (by kernel_rfl) (by kernel_rfl) (fun _ _ _ h => h) (Or.inl ⟨by kernel_rfl, fun _ _ => by kernel_rfl⟩) HS7.out ?_
        simp only [Act.put, List.setIfInBounds_toArray, List.set_cons_zero, List.set_cons_succ]
        refine takeD (i := 2) (v := .int .i64 (fs.length : Int)) (some 14) rfl rfl (by kernel_rfl) (by kernel_rfl) (by kernel_rfl) (fun _ _ _ h => h) (Or.inl ⟨by kernel_rfl, fun w' hSw => by clear hSw; go_simp⟩) HS7.out ?_
        simp only [Act.put, List.setIfInBounds_toArray, List.set_cons_zero, List.set_cons_succ]
        refine takeD (i := 3) (v := .bool false) (some 15) rfl rfl (by kernel_rfl) (by kernel_rfl) (by kernel_rfl) (fun _ _ _ h => h) (Or.inl ⟨by kernel_rfl, fun w' hSw => by clear hSw; go_simp⟩) HS7.out ?_
        simp only [Act.put, List.setIfInBounds_toArray, List.set_cons_zero, List.set_cons_succ]
        refine takeD (i := 4) (v := .bool false) (some 16) rfl rfl (by kernel_rfl) (by kernel_rfl) (by kernel_rfl) (fun _ _ _ h => h) (Or.inl ⟨by kernel_rfl, fun _ _ => by kernel_rfl⟩) HS7.out ?_
        simp only [Act.put, List.setIfInBounds_toArray, List.set_cons_zero, List.set_cons_succ]
        refine takeD (i := 5) (v := undef) (some 17) rfl rfl (by kernel_rfl) (by kernel_rfl) (by kernel_rfl) (fun _ _ _ h => h) (Or.inr ⟨by kernel_rfl, rfl⟩) HS7.out ?_
        simp only [Act.put, List.setIfInBounds_toArray, List.set_cons_zero, List.set_cons_succ]
        refine takeD (i := 6) (v := undef) (some 18) rfl rfl (by kernel_rfl) (by kernel_rfl) (by kernel_rfl) (fun _ _ _ h => h) (Or.inr ⟨by kernel_rfl, rfl⟩) HS7.out ?_
        simp only [Act.put, List.setIfInBounds_toArray, List.set_cons_zero, List.set_cons_succ]
        refine takeD (i := 7) (v := undef) (some 19) rfl rfl (by kernel_rfl) (by kernel_rfl) (by kernel_rfl) (fun _ _ _ h => h) (Or.inr ⟨by kernel_rfl, rfl⟩) HS7.out ?_
        simp only [Act.put, List.setIfInBounds_toArray, List.set_cons_zero, List.set_cons_succ]
        refine takeD (i := 8) (v := undef) (some 20) rfl rfl (by kernel_rfl) (by kernel_rfl) (by kernel_rfl) (fun _ _ _ h => h) (Or.inr ⟨by kernel_rfl, rfl⟩) HS7.out ?_
        simp only [Act.put, List.setIfInBounds_toArray, List.set_cons_zero, List.set_cons_succ]
        refine takeD (i := 9) (v := undef) (some 21) rfl rfl (by kernel_rfl) (by kernel_rfl) (by kernel_rfl) (fun _ _ _ h => h) (Or.inr ⟨by kernel_rfl, rfl⟩) HS7.out ?_
        simp only [Act.put, List.setIfInBounds_toArray, List.set_cons_zero, List.set_cons_succ]
        refine takeD (i := 10) (v := undef) (some 22) rfl rfl (by kernel_rfl) (by kernel_rfl) (by kernel_rfl) (fun _ _ _ h => h) (Or.inr ⟨by kernel_rfl, rfl⟩) HS7.out ?_
        simp only [Act.put, List.setIfInBounds_toArray, List.set_cons_zero, List.set_cons_succ]
        refine takeD (i := 11) (v := undef) (some 23) rfl rfl (by kernel_rfl) (by kernel_rfl) (by kernel_rfl) (fun _ _ _ h => h) (Or.inr ⟨by kernel_rfl, rfl⟩) HS7.out ?_
        simp only [Act.put, List.setIfInBounds_toArray, List.set_cons_zero, List.set_cons_succ]
        refine takeD (i := 12) (v := undef) (some 24) rfl rfl (by kernel_rfl) (by kernel_rfl) (by kernel_rfl) (fun _ _ _ h => h) (Or.inr ⟨by kernel_rfl, rfl⟩) HS7.out ?_
        simp only [Act.put, List.setIfInBounds_toArray, List.set_cons_zero, List.set_cons_succ]
        refine takeD (i := 13) (v := undef) (some 25) rfl rfl (by kernel_rfl) (by kernel_rfl) (by kernel_rfl) (fun _ _ _ h => h) (Or.inr ⟨by kernel_rfl, rfl⟩) HS7.out ?_
        simp only [Act.put, List.setIfInBounds_toArray, List.set_cons_zero, List.set_cons_succ]
        refine takeD (i := 14) (v := .bool false) (some 26) rfl rfl (by kernel_rfl) (by kernel_rfl) (by kernel_rfl) (fun _ _ _ h => h) (Or.inl ⟨by kernel_rfl, fun _ _ => by kernel_rfl⟩) HS7.out ?_
        simp only [Act.put, List.setIfInBounds_toArray, List.set_cons_zero, List.set_cons_succ]
        refine takeD (i := 15) (v := .bool false) (some 27) rfl rfl (by kernel_rfl) (by kernel_rfl) (by kernel_rfl) (fun _ _ _ h => h) (Or.inl ⟨by kernel_rfl, fun _ _ => by kernel_rfl⟩) HS7.out ?_
        simp only [Act.put, List.setIfInBounds_toArray, List.set_cons_zero, List.set_cons_succ]
        refine takeD (i := 16) (v := .int .i64 (k : Int)) (some 28) rfl rfl (by kernel_rfl) (by kernel_rfl) (by kernel_rfl) (fun _ _ _ h => h) (Or.inl ⟨by kernel_rfl, fun _ _ => by kernel_rfl⟩) HS7.out ?_
        simp only [Act.put, List.setIfInBounds_toArray, List.set_cons_zero, List.set_cons_succ]
        refine takeD (i := 17) (v := .slice ao fs.length cap) (some 29) rfl rfl (by kernel_rfl) (by kernel_rfl) (by kernel_rfl) (fun _ _ _ h => h) (Or.inl ⟨by kernel_rfl, fun _ _ => by kernel_rfl⟩) HS7.out ?_
        simp only [Act.put, List.setIfInBounds_toArray, List.set_cons_zero, List.set_cons_succ]
        refine takeD (i := 18) (v := .int .i64 (fs.length : Int)) (some 30) rfl rfl (by kernel_rfl) (by kernel_rfl) (by kernel_rfl) (fun _ _ _ h => h) (Or.inl ⟨by kernel_rfl, fun w' hSw => by clear hSw; go_simp⟩) HS7.out ?_
        simp only [Act.put, List.setIfInBounds_toArray, List.set_cons_zero, List.set_cons_succ]
        refine takeD (i := 19) (v := .bool true) (some 31) rfl rfl (by kernel_rfl) (by kernel_rfl) (by kernel_rfl) (fun _ _ _ h => h) (Or.inl ⟨by kernel_rfl, fun w' hSw => by clear hSw; go_simp⟩) HS7.out ?_
        simp only [Act.put, List.setIfInBounds_toArray, List.set_cons_zero, List.set_cons_succ]
        refine takeD (i := 20) (v := .bool true) (some 32) rfl rfl (by kernel_rfl) (by kernel_rfl) (by kernel_rfl) (fun _ _ _ h => h) (Or.inl ⟨by kernel_rfl, fun _ _ => by kernel_rfl⟩) HS7.out ?_
        simp only [Act.put, List.setIfInBounds_toArray, List.set_cons_zero, List.set_cons_succ]
        refine takeD (i := 21) (v := .slice (some ⟨g, 0, none⟩) (fs.length + 8) c) (some 33) rfl rfl (by kernel_rfl) (by kernel_rfl) (by kernel_rfl) (fun _ _ _ h => h) (Or.inl ⟨by kernel_rfl, fun _ _ => by kernel_rfl⟩) HS7.out ?_
        simp only [Act.put, List.setIfInBounds_toArray, List.set_cons_zero, List.set_cons_succ]
        refine takeD (i := 22) (v := .int .i64 (k : Int)) (some 34) rfl rfl (by kernel_rfl) (by kernel_rfl) (by kernel_rfl) (fun _ _ _ h => h) (Or.inl ⟨by kernel_rfl, fun _ _ => by kernel_rfl⟩) HS7.out ?_
        simp only [Act.put, List.setIfInBounds_toArray, List.set_cons_zero, List.set_cons_succ]
        refine takeD (i := 23) (v := .pointer (some ⟨g, k * 2, none⟩)) (some 35) rfl rfl (by kernel_rfl) (by kernel_rfl) (by kernel_rfl) (fun _ _ _ h => h) (Or.inl ⟨by kernel_rfl, fun w' hSw => by clear hSw; go_simp⟩) HS7.out ?_
        simp only [Act.put, List.setIfInBounds_toArray, List.set_cons_zero, List.set_cons_succ]
        refine takeD (i := 24) (v := .agg #[.int .i64 (-999), .string ⟨#[109, 105, 110, 101]⟩]) (some 36) rfl rfl (by kernel_rfl) (by kernel_rfl) (by kernel_rfl) (fun _ _ _ h => h) (Or.inl ⟨by kernel_rfl, fun w' hSw => by obtain ⟨_, q0, q1⟩ := hSw; go_simp⟩) HS7.out ?_
        simp only [Act.put, List.setIfInBounds_toArray, List.set_cons_zero, List.set_cons_succ]
        refine wpAnyH_ready (rs := [25]) (by kernel_rfl) (by simp) ?_
        refine AllReadyH.cons rfl (fun K' hK' => ?_) AllReadyH.nil
        rw [if_pos (by kernel_rfl)]
        refine callOp (d := some 37) rfl 45 #[.int .i64 999] (by kernel_rfl) (h1 w7) ?_
        rintro e w8 ⟨rfl, hb8⟩
        refine ⟨_, rfl, ?_⟩
        have hB8 : Below wr.heap.size wr w8 := HS7.out.1.trans (hb8.mono HS7.out.1.size)
        refine hK'.out _ _ ⟨hB8, HK.out _ hB8⟩ (fun hs8 => ?_)
        have HS8 : Hid (Below wr.heap.size wr w8 ∧ w8.cell? ⟨g, k * 2, none⟩ = some (.int .i64 (-999)) ∧ w8.cell? ⟨g, k * 2 + 1, none⟩ = some (.string ⟨#[109, 105, 110, 101]⟩)) := hs8
        clear hK' hs8 HS7 hb8
        simp only [Act.put, List.setIfInBounds_toArray, List.set_cons_zero, List.set_cons_succ]
        refine takeD (i := 26) (v := .bool false) (some 38) rfl rfl (by kernel_rfl) (by kernel_rfl) (by kernel_rfl) (fun _ _ _ h => h) (Or.inl ⟨by kernel_rfl, fun w' hSw => by clear hSw; go_simp⟩) HS8.out ?_
        simp only [Act.put, List.setIfInBounds_toArray, List.set_cons_zero, List.set_cons_succ]
        refine takeD (i := 27) (v := .bool false) (some 39) rfl rfl (by kernel_rfl) (by kernel_rfl) (by kernel_rfl) (fun _ _ _ h => h) (Or.inl ⟨by kernel_rfl, fun _ _ => by kernel_rfl⟩) HS8.out ?_
        simp only [Act.put, List.setIfInBounds_toArray, List.set_cons_zero, List.set_cons_succ]
        refine takeD (i := 28) (v := .bool false) (some 40) rfl rfl (by kernel_rfl) (by kernel_rfl) (by kernel_rfl) (fun _ _ _ h => h) (Or.inl ⟨by kernel_rfl, fun _ _ => by kernel_rfl⟩) HS8.out ?_
        simp only [Act.put, List.setIfInBounds_toArray, List.set_cons_zero, List.set_cons_succ]
        refine wpAnyH_done (by kernel_rfl) ?_ _
        refine hKK _ _ ?_
        clear hKK KK
        have HB2 : Hid (Below w.heap.size w w8) := HB.out.trans (hB8.mono HB.out.size)
        clear hB8 HS8 HK
        go_wp2
        exact ⟨⟨k + 1, by omega, by go_num, HB2.out⟩, by simp [intOf]; omega⟩
    · obtain rfl : k = fs.length + 8 := by omega
      go_wp2
      go_ret
      exact ⟨rfl, HB.out⟩
end Go.Proofs.YtfgfjkchcnpakaaDoor
