/-
  ListingTicks: good.
-/
import Derived.Test.YtnhkmfofkhhnaaaDoorLShown
import Derived.Deep.RegionLaw
import Derived.Deep.CutBlock
namespace Go.Proofs.YtnhkmfofkhhnaaaDoor
set_option linter.unusedVariables false
set_option linter.unusedSimpArgs false
open Go.Shelf Go.RowKit Go.Sort Go.Lib

theorem app_at {T : List (Int × Int)} {x : Int × Int} {j : Nat} : (j < T.length → fN (T ++ [x]) j = fN T j ∧ gN (T ++ [x]) j = gN T j) ∧ (j = T.length → fN (T ++ [x]) j = x.1 ∧ gN (T ++ [x]) j = x.2) := by
  constructor
  · intro h
    unfold fN gN
    rw [List.getD_eq_getElem?_getD, List.getD_eq_getElem?_getD, List.getElem?_append_left h]
    exact ⟨rfl, rfl⟩
  · intro h
    subst h
    unfold fN gN
    rw [List.getD_eq_getElem?_getD, List.getElem?_append_right (Nat.le_refl _)]
    simp
/-- Steps that are made one behind the other; where the next one begins. -/
structure GS (l : List (Int × Int)) (fr : Int) : Prop where
  len : l.length ≤ 5
  t : ∀ j, j < l.length → 1 ≤ gN l j ∧ gN l j ≤ 50
  f0 : 0 < l.length → fN l 0 = 0
  up : ∀ j, j + 1 < l.length → fN l j < fN l (j + 1) ∧ (fN l (j + 1) - fN l j) % gN l j = 0
  z : l.length = 0 → fr = 0
  nx : ∀ j, j + 1 = l.length → fN l j < fr ∧ (fr - fN l j) % gN l j = 0
  b0 : 0 ≤ fr ∧ fr ≤ 15000 * l.length
  b1 : ∀ j, j < l.length → fN l j ≤ 15000 * l.length
theorem GS.nil : GS [] 0 := ⟨by decide, fun j hj => by simp at hj, fun h => by simp at h, fun j hj => by simp at hj, fun _ => rfl, fun j hj => by simp at hj, ⟨by decide, by decide⟩, fun j hj => by simp at hj⟩
theorem GS.app {l : List (Int × Int)} {fr t c : Int} (h : GS l fr) (hl : l.length < 5) (t0 : 1 ≤ t) (t1 : t ≤ 50) (c0 : 1 ≤ c) (c1 : c ≤ 300) : GS (l ++ [(fr, t)]) (fr + t * c) := by
  have el : (l ++ [(fr, t)]).length = l.length + 1 := by simp
  have e0 := fun j => (app_at (T := l) (x := (fr, t)) (j := j)).1
  have e1 := (app_at (T := l) (x := (fr, t)) (j := l.length)).2 rfl
  have m0 : 1 ≤ t * c := by
    have : 1 * 1 ≤ t * c := Int.mul_le_mul t0 c0 (by omega) (by omega)
    omega
  have m1 : t * c ≤ 15000 := by
    have : t * c ≤ 50 * 300 := Int.mul_le_mul t1 c1 (by omega) (by omega)
    omega
  have hb := h.b0
  refine ⟨by rw [el]; omega, fun j hj => ?_, fun _ => ?_, fun j hj => ?_, fun h0 => by rw [el] at h0; omega, fun j hj => ?_, ⟨by omega, by rw [el]; push_cast; omega⟩, fun j hj => ?_⟩
  · rw [el] at hj
    rcases Nat.lt_or_ge j l.length with h1 | h1
    · rw [(e0 j h1).2]; exact h.t j h1
    · rw [show j = l.length by omega, e1.2]; exact ⟨t0, t1⟩
  · rcases Nat.eq_zero_or_pos l.length with h1 | h1
    · have := e1.1
      rw [h1] at this
      rw [this]; exact h.z h1
    · rw [(e0 0 h1).1]; exact h.f0 h1
  · rw [el] at hj
    rcases Nat.lt_or_ge (j + 1) l.length with h1 | h1
    · rw [(e0 j (by omega)).1, (e0 (j + 1) h1).1, (e0 j (by omega)).2]; exact h.up j h1
    · rw [show j + 1 = l.length by omega, e1.1, (e0 j (by omega)).1, (e0 j (by omega)).2]; exact h.nx j (by omega)
  · rw [el] at hj
    rw [show j = l.length by omega, e1.1, e1.2]
    refine ⟨by omega, ?_⟩
    rw [show fr + t * c - fr = t * c by omega]
    exact Int.mul_emod_right _ _
  · rw [el] at hj ⊢
    rcases Nat.lt_or_ge j l.length with h1 | h1
    · rw [(e0 j h1).1]; have := h.b1 j h1; push_cast; omega
    · rw [show j = l.length by omega, e1.1]; push_cast; omega
theorem GS.ok {l : List (Int × Int)} {fr : Int} (h : GS l fr) (hl : 0 < l.length) : OkS (fN l) (gN l) l.length := by
  have := h.len
  exact ⟨hl, by omega, h.f0 hl, fun j hj => by have := h.t j hj; omega, fun j hj => by
    have h1 := h.b1 j hj
    have h2 : (l.length : Int) ≤ 5 := by omega
    omega, h.up⟩
theorem callR {P : Program} {op : Oper} {a : Act} {w : World} {K : Act → World → Prop} {Q : Exit → Act → World → Prop} {d : Option Tmp} (hd : op.dst = d)
    (f : FuncId) (args : Array Value) (hrun : (execOp a.eval op).run P w = .ok (.enter f args) w) {R : Ending → World → Prop} (hc : Calls P f args w R)
    (h : ∀ e w', R e w' → ∃ v, e = .returned v ∧ K (a.put d v) w') : op.wp P a w K Q := by
  subst hd
  unfold Oper.wp
  rw [hrun, Oper.upon_enter]
  refine hc.mono fun e w'' hh => ?_
  obtain ⟨v, rfl, hw⟩ := h _ _ hh
  exact hw
/-- A raw number, if there is one. -/
def atV (n : Nat) (d : Nat → Int) (i : Nat) (m : Int) : Int := if i < n then pkN (d i) m else 0
theorem atV_bd {n : Nat} {d : Nat → Int} {i : Nat} {m : Int} (h : 0 < m) : 0 ≤ atV n d i m ∧ atV n d i m < m := by
  unfold atV
  split
  · exact pkN_bd h
  · omega
set_option maxRecDepth 100000 in
set_option maxHeartbeats 1000000 in
theorem at_any (B : Nat) (a : Option Addr) (n c : Nat) (d : Nat → Int) (x : Int) (i : Nat) (m : Int) (w : World) (hx : x = i) (hs : SrcI w a n d) (hB : w.cell? ⟨B, 0, none⟩ = some (.slice a n c)) (hm : 0 < m) (hm1 : m ≤ 100000) :
    Calls Tryd.prog 31 #[.int .i64 x, .int .i64 m, .pointer (some ⟨B, 0, none⟩)] w fun e w' => e = .returned (.int .i64 (atV n d i m)) ∧ w' = w := by
  subst hx
  unfold atV
  by_cases hi : i < n
  · rw [if_pos hi]
    have h1 : ¬ (n : Int) ≤ (i : Int) := by omega
    have h2 : (i : Int) < (n : Int) := by omega
    rcases hs with h | ⟨b, off, rfl, hr⟩
    · omega
    obtain ⟨hc, d0, d1⟩ := hr i hi
    clear hr
    generalize d i = dk at *
    have hp := fun w => pick_any dk m w d0 d1 hm (by omega)
    generalize pkN dk m = pk at *
    go_enter Tryd.func31, Tryd.ntmps31
    go_wp2_with (go_at_call 8; fail)
    refine (hp _).mono ?_
    rintro e w1 ⟨rfl, rfl⟩
    go_wp2
    go_ret
    exact ⟨rfl, rfl⟩
  · rw [if_neg hi]
    have h1 : (n : Int) ≤ (i : Int) := by omega
    clear hs
    go_enter Tryd.func31, Tryd.ntmps31
    go_wp2
    go_ret
    exact ⟨rfl, rfl⟩
theorem goodI_ok {l : List (Int × Int)} {fr lot q band mk tk : Int} (h : GS l fr) (hl : 0 < l.length) (l0 : 1 ≤ lot) (l1 : lot ≤ 20) (q0 : 1 ≤ q) (q1 : lot * q ≤ 20000) (b0 : 0 ≤ band) (b1 : band ≤ 10000) (m0 : -100 ≤ mk) (m1 : mk ≤ 0) (t0 : 100 ≤ tk) (t1 : tk ≤ 200) :
    insB ⟨⟨#[88]⟩, lot, lot * q, l, band, gN l 0, [], mk, tk⟩ = true := by
  have hok := h.ok hl
  have hT := h.t 0 hl
  have hle : lot ≤ lot * q := by
    have : lot * 1 ≤ lot * q := Int.mul_le_mul_of_nonneg_left q0 (by omega)
    omega
  unfold insB lotB feeB
  simp only [Bool.and_eq_true, decide_eq_true_eq, wiB_iff]
  refine ⟨⟨⟨⟨⟨⟨by kernel_rfl, ⟨⟨by omega, by omega⟩, ⟨hle, by omega⟩⟩, Int.mul_emod_right _ _⟩, areB_of hok⟩, b0, b1⟩, ?_⟩, by kernel_rfl⟩, ⟨⟨by omega, by omega⟩, by omega, by omega⟩, by omega⟩
  refine (hok.may_iff _).2 (hok.may_of (s := 0) hl hT.1 (by omega) (by rw [hok.f0]; omega) (by rw [hok.f0, Int.sub_zero]; exact Int.emod_self) (fun h1 => ?_))
  obtain ⟨u1, u2⟩ := hok.up 0 h1
  rw [hok.f0] at u1 u2
  rw [Int.sub_zero] at u2
  exact Int.le_of_dvd u1 (Int.dvd_of_emod_eq_zero u2)
/-- What stands while steps are made. -/
structure GW (w wx : World) (va : Value) (g : Nat) (lot most band mk tk : Int) (aS : Option Addr) (cS : Nat) (l : List (Int × Int)) : Prop where
  below : Below w.heap.size w wx
  low : w.heap.size ≤ g
  ne : g ≠ w.heap.size + 1
  box : Blk wx w.heap.size 22 #[va]
  res : Blk wx (w.heap.size + 1) 31 #[.string ⟨#[]⟩, .int .i64 0, .int .i64 0, .slice none 0 0, .int .i64 0, .int .i64 0, .slice none 0 0, .int .i64 0, .int .i64 0]
  blk : Blk wx g 31 #[.string ⟨#[88]⟩, .int .i64 lot, .int .i64 most, (.slice aS l.length cS), .int .i64 band, .int .i64 0, .slice none 0 0, .int .i64 mk, .int .i64 tk]
  own : OwnT 55 wx w.heap.size (.slice aS l.length cS) l
theorem OwnT.ne_blk' {T T' : TypeId} {w : World} {B g : Nat} {v : Value} {l : List (Int × Int)} {cs : Array Value} (h : OwnT T w B v l) (hb : Blk w g T' cs) (hne : T ≠ T') : v.ownBlock ≠ some g := fun e => by
  obtain ⟨_, h2⟩ := h
  rcases h2 with ⟨rfl, _⟩ | ⟨g', cap, cur, rfl, r1, r2, _⟩
  · cases e
  · have : g' = g := by simpa [Value.ownBlock] using e
    subst this
    rw [show w.heap[g']? = some (.cells cs T' (0, 0)) from hb] at r2
    injection r2 with r2
    injection r2 with _ r2
    exact hne r2.symm
theorem GW.app {w wx w2 : World} {va : Value} {g g2 cap : Nat} {lot most band mk tk f t : Int} {aS : Option Addr} {cS : Nat} {l : List (Int × Int)} {o : Obj} (h : GW w wx va g lot most band mk tk aS cS l)
    (ho : w2.ownsRow w.heap.size 55 2 (.slice (some ⟨g2, 0, none⟩) (l.length + 1) cap) (l.length + 1) (tcs l ++ [.int .i64 f, .int .i64 t])) (hg : (wx.alloc o).grownBy w2 (Value.slice aS l.length cS).ownBlock) :
    GW w (w2.setCell ⟨g, 3, none⟩ (.slice (some ⟨g2, 0, none⟩) (l.length + 1) cap)) va g lot most band mk tk (some ⟨g2, 0, none⟩) cap (l ++ [(f, t)]) ∧ w2.cell? ⟨g, 3, none⟩ = some (.slice aS l.length cS) ∧ w2.frozen? ⟨g, 3, none⟩ = false := by
  have hsz := h.below.size
  have k : ∀ {q : Nat} {T' : TypeId} {cs : Array Value}, Blk wx q T' cs → 55 ≠ T' → Blk w2 q T' cs := fun {q T' cs} hb hne => (hg.block q (by have := hb.lt; simp; omega) (fun e => h.own.ne_blk' hb hne e.symm)).trans (hb.alloc _)
  have hb2 := k h.blk (by decide)
  have hB : Below w.heap.size w w2 := Below.grown (h.below.alloc hsz _) hg (by simp; omega) (fun q hq => (h.own.lt q hq).1)
  have hel : (l ++ [(f, t)]).length = l.length + 1 := by simp
  have ho' : OwnT 55 w2 w.heap.size (.slice (some ⟨g2, 0, none⟩) (l.length + 1) cap) (l ++ [(f, t)]) := by
    unfold OwnT; rw [hel, tcs_app]; exact ho
  have hne2 := ho'.ne_blk' hb2 (by decide)
  have hgb : w.heap.size ≠ g := fun e => by
    have h1 := h.box
    rw [e] at h1
    have h2 : some (Obj.cells #[va] 22 (0, 0)) = some (Obj.cells #[.string ⟨#[88]⟩, .int .i64 lot, .int .i64 most, (.slice aS l.length cS), .int .i64 band, .int .i64 0, .slice none 0 0, .int .i64 mk, .int .i64 tk] 31 (0, 0)) := h1.symm.trans h.blk
    injection h2 with h2
    injection h2 with _ h2
    exact absurd h2 (by decide)
  refine ⟨⟨below_set hB h.low _ _, h.low, h.ne, (k h.box (by decide)).other hgb _ _, (k h.res (by decide)).other (fun e => h.ne e.symm) _ _, ?_, ?_⟩, hb2.cell 3, hb2.frozen 3⟩
  · rw [hel]; exact hb2.set 3 _
  · rw [hel]
    refine ownsRow_of_block ho' fun q hq => Below.heap_setCell _ _ _ _ (fun e => ?_)
    have : q = g := e
    subst this
    exact hne2 hq
set_option maxRecDepth 100000 in
set_option maxHeartbeats 4000000 in
theorem good_any (a : Option Addr) (n c : Nat) (d : Nat → Int) (w : World) (hs : SrcI w a n d) (hn : n ≤ maxLen) :
    Calls Tryd.prog 15 #[.slice a n c] w fun e w' => ∃ (I : Ins) (aS : Option Addr) (cS : Nat), e = .returned (.agg (I.cs (.slice aS I.steps.length cS) (.slice none 0 0))) ∧ insB I = true ∧ I.turns = [] ∧ OwnT 55 w' w.heap.size (.slice aS I.steps.length cS) I.steps ∧ Below w.heap.size w w' := by
  have hmf : ∀ (fn : Fn) (first cap : Array Value) (w : World), (Instr.makeFunc fn first cap).run Tryd.prog w = .ok (.func fn first cap) w := fun _ _ _ _ => rfl
  have HS : Hid (SrcI w a n d) := hs
  clear hs
  go_enter Tryd.func15, Tryd.ntmps15
  have HA : Hid (∀ wx, (Below w.heap.size w wx ∧ wx.cell? ⟨w.heap.size, 0, none⟩ = some (.slice a n c)) → ∀ (x : Int) (i : Nat) (m : Int), x = i → 0 < m → m ≤ 100000 → Calls Tryd.prog 31 #[.int .i64 x, .int .i64 m, .pointer (some ⟨w.heap.size, 0, none⟩)] wx fun e w' => e = .returned (.int .i64 (atV n d i m)) ∧ w' = wx) := fun wx hx x i m h0 h1 h2 => at_any w.heap.size a n c d x i m wx h0 (HS.out.below hx.1) hx.2 h1 h2
  have HB0 : Hid (Below w.heap.size w ((w.alloc (.cells #[.slice a n c] 22)).alloc (.cells #[.string ⟨#[]⟩, .int .i64 0, .int .i64 0, .slice none 0 0, .int .i64 0, .int .i64 0, .slice none 0 0, .int .i64 0, .int .i64 0] 31)) ∧ ((w.alloc (.cells #[.slice a n c] 22)).alloc (.cells #[.string ⟨#[]⟩, .int .i64 0, .int .i64 0, .slice none 0 0, .int .i64 0, .int .i64 0, .slice none 0 0, .int .i64 0, .int .i64 0] 31)).cell? ⟨w.heap.size, 0, none⟩ = some (.slice a n c) ∧ Blk ((w.alloc (.cells #[.slice a n c] 22)).alloc (.cells #[.string ⟨#[]⟩, .int .i64 0, .int .i64 0, .slice none 0 0, .int .i64 0, .int .i64 0, .slice none 0 0, .int .i64 0, .int .i64 0] 31)) w.heap.size 22 #[.slice a n c] ∧ Blk ((w.alloc (.cells #[.slice a n c] 22)).alloc (.cells #[.string ⟨#[]⟩, .int .i64 0, .int .i64 0, .slice none 0 0, .int .i64 0, .int .i64 0, .slice none 0 0, .int .i64 0, .int .i64 0] 31)) (w.heap.size + 1) 31 #[.string ⟨#[]⟩, .int .i64 0, .int .i64 0, .slice none 0 0, .int .i64 0, .int .i64 0, .slice none 0 0, .int .i64 0, .int .i64 0] ∧ ((w.alloc (.cells #[.slice a n c] 22)).alloc (.cells #[.string ⟨#[]⟩, .int .i64 0, .int .i64 0, .slice none 0 0, .int .i64 0, .int .i64 0, .slice none 0 0, .int .i64 0, .int .i64 0] 31)).heap.size = w.heap.size + 2) := ⟨((Below.refl _ w).alloc (Nat.le_refl _) _).alloc (by simp) _, ((Blk.new w 22 #[.slice a n c]).alloc _).cell 0, (Blk.new w 22 #[.slice a n c]).alloc _, Blk.new' _ _ _ (by simp), by simp⟩
  go_upto_region 2 with fail
  generalize ((w.alloc (.cells #[.slice a n c] 22)).alloc (.cells #[.string ⟨#[]⟩, .int .i64 0, .int .i64 0, .slice none 0 0, .int .i64 0, .int .i64 0, .slice none 0 0, .int .i64 0, .int .i64 0] 31)) = W0 at *
  have ha := fun (x : Int) (i : Nat) (m : Int) h0 h1 h2 => HA.out W0 ⟨HB0.out.1, HB0.out.2.1⟩ x i m h0 h1 h2
  have b0 := atV_bd (n := n) (d := d) (i := 0) (m := 20) (by decide)
  have b1 := atV_bd (n := n) (d := d) (i := 1) (m := 10001) (by decide)
  have b2 := atV_bd (n := n) (d := d) (i := 2) (m := 100) (by decide)
  have b3 := atV_bd (n := n) (d := d) (i := 3) (m := 100) (by decide)
  have h0 := ha 0 0 20 rfl (by decide) (by decide)
  have h1 := ha 1 1 10001 rfl (by decide) (by decide)
  have h2 := ha 2 2 100 rfl (by decide) (by decide)
  have h3 := ha 3 3 100 rfl (by decide) (by decide)
  generalize atV n d 0 20 = A0 at *
  generalize atV n d 1 10001 = A1 at *
  generalize atV n d 2 100 = A2 at *
  generalize atV n d 3 100 = A3 at *
  clear ha
  go_wp2_with (go_at_call 31; fail)
  refine h0.mono ?_
  rintro e W0 ⟨rfl, rfl⟩
  go_wp2_with (go_at_call 31; fail)
  refine h1.mono ?_
  rintro e W0 ⟨rfl, rfl⟩
  go_wp2_with (go_at_call 31; fail)
  refine h2.mono ?_
  rintro e W0 ⟨rfl, rfl⟩
  go_wp2_with (go_at_call 31; fail)
  refine h3.mono ?_
  rintro e W0 ⟨rfl, rfl⟩
  clear h0 h1 h2 h3
  go_upto_region 3 with fail
  have b4 := atV_bd (n := n) (d := d) (i := 4) (m := 1000) (by decide)
  have H1 : Hid (Below w.heap.size w (W0.alloc (.cells #[.string ⟨#[88]⟩, .int .i64 (1 + A0), .int .i64 0, .slice none 0 0, .int .i64 A1, .int .i64 0, .slice none 0 0, .int .i64 (-A2), .int .i64 (100 + A3)] 31)) ∧ Blk (W0.alloc (.cells #[.string ⟨#[88]⟩, .int .i64 (1 + A0), .int .i64 0, .slice none 0 0, .int .i64 A1, .int .i64 0, .slice none 0 0, .int .i64 (-A2), .int .i64 (100 + A3)] 31)) w.heap.size 22 #[.slice a n c] ∧ Blk (W0.alloc (.cells #[.string ⟨#[88]⟩, .int .i64 (1 + A0), .int .i64 0, .slice none 0 0, .int .i64 A1, .int .i64 0, .slice none 0 0, .int .i64 (-A2), .int .i64 (100 + A3)] 31)) (w.heap.size + 1) 31 #[.string ⟨#[]⟩, .int .i64 0, .int .i64 0, .slice none 0 0, .int .i64 0, .int .i64 0, .slice none 0 0, .int .i64 0, .int .i64 0] ∧ Blk (W0.alloc (.cells #[.string ⟨#[88]⟩, .int .i64 (1 + A0), .int .i64 0, .slice none 0 0, .int .i64 A1, .int .i64 0, .slice none 0 0, .int .i64 (-A2), .int .i64 (100 + A3)] 31)) W0.heap.size 31 #[.string ⟨#[88]⟩, .int .i64 (1 + A0), .int .i64 0, .slice none 0 0, .int .i64 A1, .int .i64 0, .slice none 0 0, .int .i64 (-A2), .int .i64 (100 + A3)] ∧ w.heap.size + 2 ≤ W0.heap.size) := ⟨HB0.out.1.alloc HB0.out.1.size _, HB0.out.2.2.1.alloc _, HB0.out.2.2.2.1.alloc _, Blk.new _ _ _, by rw [HB0.out.2.2.2.2]; exact Nat.le_refl _⟩
  generalize hW1 : (W0.alloc (.cells #[.string ⟨#[88]⟩, .int .i64 (1 + A0), .int .i64 0, .slice none 0 0, .int .i64 A1, .int .i64 0, .slice none 0 0, .int .i64 (-A2), .int .i64 (100 + A3)] 31)) = W1 at *
  clear hW1 HB0
  have h4 := HA.out W1.drew ⟨below_drewN H1.out.1 1, H1.out.2.1.cell 0⟩ 4 4 1000 rfl (by decide) (by decide)
  generalize atV n d 4 1000 = A4 at *
  generalize W0.heap.size = G at *
  have c1 : W1.cell? ⟨G, 1, none⟩ = some (.int .i64 (1 + A0)) := H1.out.2.2.2.1.cell 1
  have c2 : W1.cell? ⟨G, 2, none⟩ = some (.int .i64 0) := H1.out.2.2.2.1.cell 2
  have f2 : W1.frozen? ⟨G, 2, none⟩ = false := H1.out.2.2.2.1.frozen 2
  obtain ⟨z0, z1⟩ := b0
  obtain ⟨z8, z9⟩ := b4
  have hmu : 1 ≤ (1 + A0) * (1 + A4) ∧ (1 + A0) * (1 + A4) ≤ 20000 := by
    have u1 : 1 * 1 ≤ (1 + A0) * (1 + A4) := Int.mul_le_mul (by omega) (by omega) (by omega) (by omega)
    have u2 : (1 + A0) * (1 + A4) ≤ 20 * 1000 := Int.mul_le_mul (by omega) (by omega) (by omega) (by omega)
    omega
  have w1 : IntKind.i64.wrap (1 + A4) = 1 + A4 := by first | (rw [IntKind.wrap_i64]; omega) | (show wrap64 _ = _; unfold wrap64; omega)
  have w2 : IntKind.i64.wrap ((1 + A0) * (1 + A4)) = (1 + A0) * (1 + A4) := by first | (rw [IntKind.wrap_i64]; omega) | (show wrap64 _ = _; unfold wrap64; omega)
  go_cut [24] (fun _ wx => GW w wx (.slice a n c) G (1 + A0) ((1 + A0) * (1 + A4)) A1 (-A2) (100 + A3) none 0 [])
  case first =>
    go_region_law (rw [if_pos (by kernel_rfl)]; refine callR (d := some 24) rfl 31 #[.int .i64 4, .int .i64 1000, .pointer (some ⟨w.heap.size, 0, none⟩)] (by kernel_rfl) h4 ?_; rintro e w5 ⟨rfl, rfl⟩; refine ⟨_, rfl, ?_⟩)
    all_goals
      have HG : Hid (GW w (W1.setCell ⟨G, 2, none⟩ (.int .i64 ((1 + A0) * (1 + A4)))).drew (.slice a n c) G (1 + A0) ((1 + A0) * (1 + A4)) A1 (-A2) (100 + A3) none 0 []) :=
        ⟨below_drewN (below_set H1.out.1 (by have := H1.out.2.2.2.2; omega) _ _) 1, by have := H1.out.2.2.2.2; omega, by have := H1.out.2.2.2.2; omega, H1.out.2.1.other (by have := H1.out.2.2.2.2; omega) _ _, H1.out.2.2.1.other (by have := H1.out.2.2.2.2; omega) _ _, H1.out.2.2.2.1.set 2 _, OwnT.nil _ _ _⟩
      go_wp2_with fail
      go_meet
      exact HG.out
  case rest =>
    have HG : Hid (GW w wc (.slice a n c) G (1 + A0) ((1 + A0) * (1 + A4)) A1 (-A2) (100 + A3) none 0 []) := hcut
    clear hcut
    generalize wc = W2 at *
    have HQ : Hid (1 ≤ 1 + A0 ∧ 1 + A0 ≤ 20 ∧ 1 ≤ 1 + A4 ∧ (1 + A0) * (1 + A4) ≤ 20000 ∧ 0 ≤ A1 ∧ A1 ≤ 10000 ∧ -100 ≤ -A2 ∧ -A2 ≤ 0 ∧ 100 ≤ 100 + A3 ∧ 100 + A3 ≤ 200) := ⟨by omega, by omega, by omega, hmu.2, by omega, by omega, by omega, by omega, by omega, by omega⟩
    clear hmu w1 w2 c1 c2 f2 z0 z1 z8 z9 b1 b2 b3 h4 H1
    generalize 1 + A0 = lot at *
    generalize 1 + A4 = q at *
    generalize A1 = band at *
    generalize -A2 = mk at *
    generalize 100 + A3 = tk at *
    obtain ⟨v0, v1⟩ := atV_bd (n := n) (d := d) (i := 5) (m := 5) (by decide)
    go_wp2
    go_loopw [5, 6, 7] (fun fr i _ wr => ∃ (l : List (Int × Int)) (aS : Option Addr) (cS : Nat) (f : Int), (l.length : Int) ≤ 1 + atV n d 5 5 ∧ i = .int .i64 (l.length : Int) ∧ fr = .int .i64 f ∧ GS l f ∧ GW w wr (.slice a n c) G lot (lot * q) band mk tk aS cS l) (fun _ i _ _ => 6 - (intOf i).toNat)
    case atStart => exact ⟨[], none, 0, 0, by simp; omega, rfl, rfl, GS.nil, HG.out⟩
    case round =>
      obtain ⟨l, aS, cS, f, hl5, rfl, rfl, hgs, hgw⟩ := hrel
      have HW : Hid (GW w wr (.slice a n c) G lot (lot * q) band mk tk aS cS l) := hgw
      have HGS : Hid (GS l f) := hgs
      have hfb := hgs.b0
      have hl6 : (l.length : Int) ≤ 5 := by omega
      clear hgw hgs HG
      have ha := fun (x : Int) (i : Nat) (m : Int) h0 h1 h2 => HA.out wr ⟨HW.out.below, HW.out.box.cell 0⟩ x i m h0 h1 h2
      have h5 := ha 5 5 5 rfl (by decide) (by decide)
      have h6 := ha (6 + (l.length : Int)) (6 + l.length) 50 (by omega) (by decide) (by decide)
      obtain ⟨x0, x1⟩ := atV_bd (n := n) (d := d) (i := 6 + l.length) (m := 50) (by decide)
      obtain ⟨y0, y1⟩ := atV_bd (n := n) (d := d) (i := 11 + l.length) (m := 300) (by decide)
      generalize atV n d 5 5 = A5 at *
      generalize atV n d (6 + l.length) 50 = tt at *
      have q3 : wr.cell? ⟨G, 3, none⟩ = some (.slice aS l.length cS) := HW.out.blk.cell 3
      by_cases hlt : (l.length : Int) < 1 + A5
      · have hl5' : l.length < 5 := by omega
        obtain ⟨i0, hi, hz0, hz1, hz2⟩ := info_parts infoS
        have HROW : Hid ((wr.alloc (.cells #[.int .i64 f, .int .i64 (1 + tt)] 55)).ownsRow w.heap.size 55 2 (.slice aS l.length cS) l.length (tcs l)) := World.ownsRow.alloc HW.out.own _
        have HNEW : Hid (∀ j u, ([.int .i64 f, .int .i64 (1 + tt)] : List Value)[j]? = some u → (wr.alloc (.cells #[.int .i64 f, .int .i64 (1 + tt)] 55)).cell? ((⟨wr.heap.size, 0, none⟩ : Addr).add j) = some u) := World.news_of_block (heap_alloc_new wr (.cells #[.int .i64 f, .int .i64 (1 + tt)] 55))
        have hsz := HW.out.below.size
        have HAPP : Hid (∀ g2 cap w6, w6.ownsRow w.heap.size 55 2 (.slice (some ⟨g2, 0, none⟩) (l.length + 1) cap) (l.length + 1) (tcs l ++ [.int .i64 f, .int .i64 (1 + tt)]) → (wr.alloc (.cells #[.int .i64 f, .int .i64 (1 + tt)] 55)).grownBy w6 (Value.slice aS l.length cS).ownBlock → GW w (w6.setCell ⟨G, 3, none⟩ (.slice (some ⟨g2, 0, none⟩) (l.length + 1) cap)) (.slice a n c) G lot (lot * q) band mk tk (some ⟨g2, 0, none⟩) cap (l ++ [(f, 1 + tt)]) ∧ w6.cell? ⟨G, 3, none⟩ = some (.slice aS l.length cS) ∧ w6.frozen? ⟨G, 3, none⟩ = false) := fun g2 cap w6 h1 h2 => HW.out.app h1 h2
        go_wp2_with (go_at_call 31; fail)
        refine h5.mono ?_
        rintro e wr ⟨rfl, rfl⟩
        go_wp2_with (go_at_call 31; fail)
        refine h6.mono ?_
        rintro e wr ⟨rfl, rfl⟩
        go_wp2_with (first | (at_builtin; refine wpList_append_lies _ rfl _ _ 28 rfl w.heap.size 55 i0 (.agg #[.int .i64 0, .int .i64 0]) 2 16 Tryd.underlying28 hi hz0 hz1 hz2 rfl (by decide) _ l.length (tcs l) rfl HROW.out ⟨wr.heap.size, 0, none⟩ 1 1 [.int .i64 f, .int .i64 (1 + tt)] rfl rfl HNEW.out (fun x hx => by simp at hx; rcases hx with rfl | rfl <;> rfl) (by decide) (by unfold maxLen; omega) (by omega) (by simp; omega) _ rfl ?_; intro g2 cap w6 hown hgrow hat hlt6; obtain ⟨k0, k1, k2⟩ := HAPP.out _ _ _ hown hgrow) | (go_at_call 31; fail))
        have HK : Hid (GW w (w6.setCell ⟨G, 3, none⟩ (.slice (some ⟨g2, 0, none⟩) (l.length + 1) cap)) (.slice a n c) G lot (lot * q) band mk tk (some ⟨g2, 0, none⟩) cap (l ++ [(f, 1 + tt)])) := k0
        clear k0 k1 k2 hown hgrow hat hlt6
        generalize w6.setCell ⟨G, 3, none⟩ (.slice (some ⟨g2, 0, none⟩) (l.length + 1) cap) = w7 at *
        have h7 := HA.out w7 ⟨HK.out.below, HK.out.box.cell 0⟩ (11 + (l.length : Int)) (11 + l.length) 300 (by omega) (by decide) (by decide)
        generalize atV n d (11 + l.length) 300 = cc at *
        have HN : Hid (GS (l ++ [(f, 1 + tt)]) (f + (1 + tt) * (1 + cc))) := HGS.out.app hl5' (by omega) (by omega) (by omega) (by omega)
        have hb2 := HN.out.b0
        have hel : (l ++ [(f, 1 + tt)]).length = l.length + 1 := by simp
        rw [hel] at hb2
        have hml : 1 ≤ (1 + tt) * (1 + cc) ∧ (1 + tt) * (1 + cc) ≤ 15000 := by
          have u1 : 1 * 1 ≤ (1 + tt) * (1 + cc) := Int.mul_le_mul (by omega) (by omega) (by omega) (by omega)
          have u2 : (1 + tt) * (1 + cc) ≤ 50 * 300 := Int.mul_le_mul (by omega) (by omega) (by omega) (by omega)
          omega
        have e1 : wrap64 ((1 + tt) * (1 + cc)) = (1 + tt) * (1 + cc) := by unfold wrap64; omega
        have e2 : wrap64 (f + (1 + tt) * (1 + cc)) = f + (1 + tt) * (1 + cc) := by unfold wrap64; omega
        refine h7.mono ?_
        rintro e w7 ⟨rfl, rfl⟩
        have HL : Hid ((l ++ [(f, 1 + tt)]).length = l.length + 1) := hel
        clear hel hb2 hml h5 h6 h7 ha
        go_wp2
        exact ⟨⟨l ++ [(f, 1 + tt)], some ⟨g2, 0, none⟩, cap, f + (1 + tt) * (1 + cc), by rw [HL.out]; push_cast; omega, by rw [HL.out]; go_num, by first | rfl | rw [e2], HN.out, HK.out⟩, by simp [intOf]; omega⟩
      · go_wp2_with (go_at_call 31; fail)
        refine h5.mono ?_
        rintro e wr ⟨rfl, rfl⟩
        have hl1 : 0 < l.length := by omega
        have hl1i : (0 : Int) < (l.length : Int) := by omega
        obtain ⟨_, _, bb, off, hab, hq⟩ := HW.out.own.src.at hl1
        obtain ⟨g0, g1⟩ := hq 0 hl1
        rw [Nat.zero_mul, Nat.add_zero] at g0 g1
        subst hab
        clear hq
        have hQ := HQ.out
        have HINS : Hid (insB ⟨⟨#[88]⟩, lot, lot * q, l, band, gN l 0, [], mk, tk⟩ = true) := goodI_ok HGS.out hl1 (by omega) (by omega) (by omega) (by omega) (by omega) (by omega) (by omega) (by omega) (by omega) (by omega)
        have c5 : wr.cell? ⟨G, 5, none⟩ = some (.int .i64 0) := HW.out.blk.cell 5
        have f5 : wr.frozen? ⟨G, 5, none⟩ = false := HW.out.blk.frozen 5
        have H5 : Hid (Blk (wr.setCell ⟨G, 5, none⟩ (.int .i64 (gN l 0))) G 31 #[.string ⟨#[88]⟩, .int .i64 lot, .int .i64 (lot * q), .slice (some ⟨bb, off, none⟩) l.length cS, .int .i64 band, .int .i64 (gN l 0), .slice none 0 0, .int .i64 mk, .int .i64 tk] ∧ Blk (wr.setCell ⟨G, 5, none⟩ (.int .i64 (gN l 0))) (w.heap.size + 1) 31 #[.string ⟨#[]⟩, .int .i64 0, .int .i64 0, .slice none 0 0, .int .i64 0, .int .i64 0, .slice none 0 0, .int .i64 0, .int .i64 0] ∧ OwnT 55 (wr.setCell ⟨G, 5, none⟩ (.int .i64 (gN l 0))) w.heap.size (.slice (some ⟨bb, off, none⟩) l.length cS) l ∧ Below w.heap.size w (wr.setCell ⟨G, 5, none⟩ (.int .i64 (gN l 0)))) := ⟨HW.out.blk.set 5 _, HW.out.res.other (fun e => HW.out.ne e.symm) _ _, ownsRow_of_block HW.out.own fun q hq => Below.heap_setCell _ _ _ _ (fun e => HW.out.own.ne_blk' HW.out.blk (by decide) (by have : q = G := e; rw [← this]; exact hq)), below_set HW.out.below HW.out.low _ _⟩
        go_upto_region 12 with fail
        generalize wr.setCell ⟨G, 5, none⟩ (.int .i64 (gN l 0)) = W5 at *
        have t0 : W5.cell? ⟨G, 0, none⟩ = some (.string ⟨#[88]⟩) := H5.out.1.cell 0
        have t1 : W5.cell? ⟨G, 1, none⟩ = some (.int .i64 lot) := H5.out.1.cell 1
        have t2 : W5.cell? ⟨G, 2, none⟩ = some (.int .i64 (lot * q)) := H5.out.1.cell 2
        have t3 : W5.cell? ⟨G, 3, none⟩ = some (.slice (some ⟨bb, off, none⟩) l.length cS) := H5.out.1.cell 3
        have t4 : W5.cell? ⟨G, 4, none⟩ = some (.int .i64 band) := H5.out.1.cell 4
        have t5 : W5.cell? ⟨G, 5, none⟩ = some (.int .i64 (gN l 0)) := H5.out.1.cell 5
        have t6 : W5.cell? ⟨G, 6, none⟩ = some (.slice none 0 0) := H5.out.1.cell 6
        have t7 : W5.cell? ⟨G, 7, none⟩ = some (.int .i64 mk) := H5.out.1.cell 7
        have t8 : W5.cell? ⟨G, 8, none⟩ = some (.int .i64 tk) := H5.out.1.cell 8
        have s0 : W5.cell? ⟨w.heap.size + 1, 0, none⟩ = some (.string ⟨#[]⟩) := H5.out.2.1.cell 0
        have s1 : W5.cell? ⟨w.heap.size + 1, 1, none⟩ = some (.int .i64 0) := H5.out.2.1.cell 1
        have s2 : W5.cell? ⟨w.heap.size + 1, 2, none⟩ = some (.int .i64 0) := H5.out.2.1.cell 2
        have s3 : W5.cell? ⟨w.heap.size + 1, 3, none⟩ = some (.slice none 0 0) := H5.out.2.1.cell 3
        have s4 : W5.cell? ⟨w.heap.size + 1, 4, none⟩ = some (.int .i64 0) := H5.out.2.1.cell 4
        have s5 : W5.cell? ⟨w.heap.size + 1, 5, none⟩ = some (.int .i64 0) := H5.out.2.1.cell 5
        have s6 : W5.cell? ⟨w.heap.size + 1, 6, none⟩ = some (.slice none 0 0) := H5.out.2.1.cell 6
        have s7 : W5.cell? ⟨w.heap.size + 1, 7, none⟩ = some (.int .i64 0) := H5.out.2.1.cell 7
        have s8 : W5.cell? ⟨w.heap.size + 1, 8, none⟩ = some (.int .i64 0) := H5.out.2.1.cell 8
        have ff : ∀ k, W5.frozen? ⟨w.heap.size + 1, k, none⟩ = false := fun k => H5.out.2.1.frozen k
        clear c5 f5 g0 g1 q3
        go_wp2
        have hn := nine (.string ⟨#[88]⟩) (.int .i64 lot) (.int .i64 (lot * q)) (.slice (some ⟨bb, off, none⟩) l.length cS) (.int .i64 band) (.int .i64 (gN l 0)) (.slice none 0 0) (.int .i64 mk) (.int .i64 tk) H5.out.2.1
        generalize (((((((((W5.setCell ⟨w.heap.size + 1, 0, none⟩ (.string ⟨#[88]⟩)).setCell ⟨w.heap.size + 1, 1, none⟩ (.int .i64 lot)).setCell ⟨w.heap.size + 1, 2, none⟩ (.int .i64 (lot * q))).setCell ⟨w.heap.size + 1, 3, none⟩ (.slice (some ⟨bb, off, none⟩) l.length cS)).setCell ⟨w.heap.size + 1, 4, none⟩ (.int .i64 band)).setCell ⟨w.heap.size + 1, 5, none⟩ (.int .i64 (gN l 0))).setCell ⟨w.heap.size + 1, 6, none⟩ (.slice none 0 0)).setCell ⟨w.heap.size + 1, 7, none⟩ (.int .i64 mk)).setCell ⟨w.heap.size + 1, 8, none⟩ (.int .i64 tk)) = W9 at *
        refine bodyPost_ret (results_cell_row (fn := Tryd.f15) (p := 2) (ty := 31) rfl _ _ (w.heap.size + 1) 31 #[.string ⟨#[88]⟩, .int .i64 lot, .int .i64 (lot * q), .slice (some ⟨bb, off, none⟩) l.length cS, .int .i64 band, .int .i64 (gN l 0), .slice none 0 0, .int .i64 mk, .int .i64 tk] (0, 0) _ (by rfl) hn.1 Tryd.underlying31 rfl (by kernel_rfl)) (by rfl) ?_
        refine ⟨⟨⟨#[88]⟩, lot, lot * q, l, band, gN l 0, [], mk, tk⟩, some ⟨bb, off, none⟩, cS, rfl, HINS.out, rfl, ?_, H5.out.2.2.2.trans (hn.2.2.mono (by omega))⟩
        exact ownsRow_of_block H5.out.2.2.1 fun q hq => hn.2.1 q (fun e => H5.out.2.2.1.ne_blk' H5.out.2.1 (by decide) (by rw [← e]; exact hq))
end Go.Proofs.YtnhkmfofkhhnaaaDoor
