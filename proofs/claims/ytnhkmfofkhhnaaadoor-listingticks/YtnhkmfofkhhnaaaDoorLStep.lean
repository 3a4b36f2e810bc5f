/-
  listing: within, stepOf, onTick, mayBe, roundDown, roundUp.
-/
import Derived.Test.YtnhkmfofkhhnaaaDoorLMem
namespace Go.Proofs.YtnhkmfofkhhnaaaDoor
set_option linter.unusedVariables false
open Go.Shelf Go.RowKit Go.Sort Go.Lib

def wiB (n a b : Int) : Bool := decide (a ≤ n) && decide (n ≤ b)
set_option maxRecDepth 100000 in
set_option maxHeartbeats 400000 in
theorem within64_any (n a b : Int) (w : World) :
    Calls Tryd.prog 41 #[.int .i64 n, .int .i64 a, .int .i64 b] w fun e w' => e = .returned (.bool (wiB n a b)) ∧ w' = w := by
  unfold wiB
  by_cases h1 : a ≤ n
  all_goals
    by_cases h2 : n ≤ b
    all_goals
      go_enter Tryd.func41, Tryd.ntmps41
      go_wp2
      go_ret
      exact ⟨ret_bool (by simp [h1, h2]), rfl⟩
set_option maxRecDepth 100000 in
set_option maxHeartbeats 400000 in
theorem within_any (n a b : Int) (w : World) :
    Calls Tryd.prog 47 #[.int .i64 n, .int .i64 a, .int .i64 b] w fun e w' => e = .returned (.bool (wiB n a b)) ∧ w' = w := by
  unfold wiB
  by_cases h1 : a ≤ n
  all_goals
    by_cases h2 : n ≤ b
    all_goals
      go_enter Tryd.func47, Tryd.ntmps47
      go_wp2
      go_ret
      exact ⟨ret_bool (by simp [h1, h2]), rfl⟩
/-- A step that the call has made. -/
abbrev StB (w : World) (g : Nat) (f t : Int) : Prop := Blk w g 55 #[.int .i64 f, .int .i64 t]
set_option maxRecDepth 100000 in
set_option maxHeartbeats 1000000 in
theorem stepOf_any (v : Value) (l : List (Int × Int)) (p : Int) (w : World) (hs : SrcT w v l) (h1 : 1 ≤ l.length) (hn : l.length ≤ 8) :
    Calls Tryd.prog 34 #[v, .int .i64 p] w fun e w' => e = .returned (.agg #[.int .i64 (fN l (stpN (fN l) l.length p)), .int .i64 (gN l (stpN (fN l) l.length p))]) ∧ Below w.heap.size w w' := by
  have HS : Hid (SrcT w v l) := hs
  obtain ⟨ao, cap, rfl, hc, hr⟩ := hs
  obtain ⟨b, off, rfl, hq⟩ := hr.resolve_left (by intro h; rw [h] at h1; simp at h1)
  clear hr
  obtain ⟨c0, c1⟩ := hq 0 h1
  rw [Nat.zero_mul, Nat.add_zero] at c0 c1
  have hlt : b < w.heap.size := World.block_lt_of_cell? _ _ c0
  have HQ : Hid (∀ j, j < l.length → w.cell? ⟨b, off + j * 2, none⟩ = some (.int .i64 (fN l j)) ∧ w.cell? ⟨b, off + j * 2 + 1, none⟩ = some (.int .i64 (gN l j))) := hq
  clear hq
  obtain ⟨o', hif, ho⟩ : ∃ o', (if cap = 1 then some (⟨b, off, none⟩ : Addr) else some ⟨b, off + 2, none⟩) = some ⟨b, o', none⟩ ∧ (1 < l.length → o' = off + 2) := by
    by_cases h : cap = 1
    · exact ⟨off, by rw [if_pos h], fun h2 => by omega⟩
    · exact ⟨off + 2, by rw [if_neg h], fun _ => rfl⟩
  have HO : Hid (1 < l.length → o' = off + 2) := ho
  clear ho
  have hbl : ∀ o, Below w.heap.size w (w.alloc o) := fun o => (Below.refl _ w).alloc (Nat.le_refl _) _
  go_enter Tryd.func34, Tryd.ntmps34
  go_wp2
  go_loopw [7, 14] (fun _ i wr => ∃ k : Nat, k + 1 ≤ l.length ∧ i = .int .i64 (k : Int) ∧ StB wr (w.heap.size + 1) (fN l (stpN (fN l) (k + 1) p)) (gN l (stpN (fN l) (k + 1) p)) ∧ StB wr w.heap.size 0 0 ∧ Below w.heap.size w wr) (fun _ i _ => l.length - (intOf i).toNat)
  case atStart =>
    refine ⟨0, h1, rfl, ?_, ?_, ?_⟩
    · rw [show stpN (fN l) (0 + 1) p = 0 by simp [stpN]]
      exact Blk.new' _ _ _ (by simp)
    · exact (Blk.new _ _ _).alloc _
    · exact (hbl _).alloc (by simp) _
  case round =>
    obtain ⟨k, hk, rfl, hb1, hb0, hb⟩ := hrel
    have HB : Hid (StB wr (w.heap.size + 1) (fN l (stpN (fN l) (k + 1) p)) (gN l (stpN (fN l) (k + 1) p)) ∧ StB wr w.heap.size 0 0 ∧ Below w.heap.size w wr) := ⟨hb1, hb0, hb⟩
    have f0 : wr.frozen? ⟨w.heap.size + 1, 0, none⟩ = false := hb1.frozen _
    have f1 : wr.frozen? ⟨w.heap.size + 1, 1, none⟩ = false := hb1.frozen _
    have d0 : wr.cell? ⟨w.heap.size + 1, 0, none⟩ = some (.int .i64 (fN l (stpN (fN l) (k + 1) p))) := hb1.cell _
    have d1 : wr.cell? ⟨w.heap.size + 1, 1, none⟩ = some (.int .i64 (gN l (stpN (fN l) (k + 1) p))) := hb1.cell _
    have g0 : wr.frozen? ⟨w.heap.size, 0, none⟩ = false := hb0.frozen _
    have g1 : wr.frozen? ⟨w.heap.size, 1, none⟩ = false := hb0.frozen _
    have z0 : wr.cell? ⟨w.heap.size, 0, none⟩ = some (.int .i64 0) := hb0.cell _
    have z1 : wr.cell? ⟨w.heap.size, 1, none⟩ = some (.int .i64 0) := hb0.cell _
    clear hb1 hb0 hb
    have hsz : w.heap.size + 1 < wr.heap.size := World.block_lt_of_cell? _ _ d0
    by_cases hlt' : k + 1 < l.length
    · have hki : (k : Int) < ((l.length - 1 : Nat) : Int) := by omega
      have ho' := HO.out (by omega)
      obtain ⟨x0, x1⟩ := HQ.out (k + 1) hlt'
      rw [show off + (k + 1) * 2 = o' + k * 2 by omega] at x0 x1
      rw [← HB.out.2.2.cell (p := ⟨b, _, none⟩) hlt] at x0 x1
      clear ho'
      by_cases hp : fN l (k + 1) ≤ p
      · have HX : Hid (stpN (fN l) (k + 1 + 1) p = k + 1) := by show stpN _ _ _ = _; rw [stpN, if_pos hp]
        go_wp2
        exact ⟨⟨k + 1, by omega, by go_num, by rw [HX.out]; exact (((HB.out.1.set 0 _).set 1 _).alloc _), ((HB.out.2.1.other (by omega) _ _).other (by omega) _ _).alloc _, (below_set (below_set HB.out.2.2 (by omega) _ _) (by omega) _ _).alloc (by simp [World.setCell]; omega) _⟩, by simp [intOf]; omega⟩
      · have HX : Hid (stpN (fN l) (k + 1 + 1) p = stpN (fN l) (k + 1) p) := by show stpN (fN l) (k + 1 + 1) p = _; rw [stpN, if_neg hp]
        go_wp2
        exact ⟨⟨k + 1, by omega, by go_num, by rw [HX.out]; exact HB.out.1.alloc _, HB.out.2.1.alloc _, HB.out.2.2.alloc (by omega) _⟩, by simp [intOf]; omega⟩
    · have hki : ¬ (k : Int) < ((l.length - 1 : Nat) : Int) := by omega
      obtain rfl : k = l.length - 1 := by omega
      rw [show l.length - 1 + 1 = l.length by omega] at HB d0 d1
      go_wp2
      refine bodyPost_ret (results_cell_row (fn := Tryd.f34) (p := 4) (ty := 55) rfl _ _ w.heap.size 55 #[.int .i64 (fN l (stpN (fN l) l.length p)), .int .i64 (gN l (stpN (fN l) l.length p))] (0, 0) _ (by rfl) ((HB.out.2.1.set 0 _).set 1 _) Tryd.underlying55 rfl (by kernel_rfl)) (by rfl) ?_
      exact ⟨rfl, below_set (below_set HB.out.2.2 (Nat.le_refl _) _ _) (Nat.le_refl _) _ _⟩
set_option maxRecDepth 100000 in
set_option maxHeartbeats 400000 in
theorem onTick_any (f t p : Int) (w : World) (ht : 1 ≤ t) (hf : 0 ≤ f) (hfp : f ≤ p) (hp : p ≤ 9223372036854775807) :
    Calls Tryd.prog 57 #[.agg #[.int .i64 f, .int .i64 t], .int .i64 p] w fun e w' => e = .returned (.int .i64 (onT f t p)) ∧ Below w.heap.size w w' := by
  have ht0 : (t == 0) = false := by simp; omega
  have hm0 := Int.emod_nonneg (p - f) (show t ≠ 0 by omega)
  have hm1 : (p - f) % t ≤ p - f := by
    have h1 := Int.mul_ediv_add_emod (p - f) t
    have h2 : 0 ≤ t * ((p - f) / t) := Int.mul_nonneg (by omega) (Int.ediv_nonneg (by omega) (by omega))
    omega
  have HM : Hid (0 ≤ (p - f) % t ∧ (p - f) % t ≤ p - f) := ⟨hm0, hm1⟩
  clear hm0 hm1
  go_enter Tryd.func57, Tryd.ntmps57
  go_wp2
  go_ret
  refine ⟨ret_int ?_, (Below.refl _ w).alloc (Nat.le_refl _) _⟩
  have h := HM.out
  unfold onT
  rw [Int.tmod_eq_emod_of_nonneg (by omega)]
  unfold wrap64
  omega
set_option maxRecDepth 100000 in
set_option maxHeartbeats 400000 in
theorem mayBe_any (v : Value) (l : List (Int × Int)) (p : Int) (w : World) (hs : SrcT w v l) (hO : OkS (fN l) (gN l) l.length) :
    Calls Tryd.prog 48 #[v, .int .i64 p] w fun e w' => e = .returned (.bool (mayB (fN l) (gN l) l.length p)) ∧ Below w.heap.size w w' := by
  have HS : Hid (SrcT w v l) := hs
  have HO : Hid (OkS (fN l) (gN l) l.length) := hO
  unfold mayB
  have hw : ∀ w, Calls Tryd.prog 41 #[.int .i64 p, .int .i64 1, .int .i64 1000000000] w fun e w' => e = .returned (.bool (wiB p 1 1000000000)) ∧ w' = w := fun w => within64_any _ _ _ w
  have hst := stepOf_any v l p w hs hO.n1 hO.n8
  change Calls Tryd.prog 48 #[v, .int .i64 p] w fun e w' => e = .returned (.bool (wiB p 1 1000000000 && decide (onT (fN l (stpN (fN l) l.length p)) (gN l (stpN (fN l) l.length p)) p = p))) ∧ Below w.heap.size w w'
  have hl := stpN_lt (F := fN l) (p := p) hO.n1
  have ht := (hO.t1 _ hl).1
  have hnn := hO.nn hl
  have hle : 1 ≤ p → fN l (stpN (fN l) l.length p) ≤ p := fun h => stpN_le (by rw [hO.f0]; omega) _
  generalize fN l (stpN (fN l) l.length p) = f at *
  generalize gN l (stpN (fN l) l.length p) = t at *
  clear hs hO hl
  cases hwi : wiB p 1 1000000000
  · rw [hwi] at hw
    clear hwi hst hle
    go_enter Tryd.func48, Tryd.ntmps48
    go_wp2_with (go_at_call 41; fail)
    refine (hw _).mono ?_
    rintro e w1 ⟨rfl, rfl⟩
    go_wp2
    go_ret
    exact ⟨rfl, Below.refl _ _⟩
  · rw [hwi] at hw
    simp only [wiB, Bool.and_eq_true, decide_eq_true_eq] at hwi
    have hon := fun w => onTick_any f t p w ht hnn (hle hwi.1) (by omega)
    generalize hx : onT f t p = x at *
    clear hle hx
    go_enter Tryd.func48, Tryd.ntmps48
    go_wp2_with (go_at_call 41; fail)
    refine (hw _).mono ?_
    rintro e w ⟨rfl, rfl⟩
    go_wp2_with (go_at_call 34; fail)
    refine hst.mono ?_
    rintro e w1 ⟨rfl, hb1⟩
    have HB : Hid (Below w.heap.size w w1) := hb1
    clear hb1
    go_wp2_with (go_at_call 57; fail)
    refine (hon _).mono ?_
    rintro e w2 ⟨rfl, hb2⟩
    have HB2 : Hid (Below w.heap.size w w2) := HB.out.trans (hb2.mono HB.out.size)
    clear hb2
    go_wp2
    go_ret
    exact ⟨ret_bool (Bool.eq_iff_iff.2 (by simp)), HB2.out⟩
set_option maxRecDepth 100000 in
set_option maxHeartbeats 400000 in
theorem roundDown_any (v : Value) (l : List (Int × Int)) (p : Int) (w : World) (hs : SrcT w v l) (hO : OkS (fN l) (gN l) l.length) :
    Calls Tryd.prog 32 #[v, .int .i64 p] w fun e w' => e = .returned (.int .i64 (dnP (fN l) (gN l) l.length p)) ∧ Below w.heap.size w w' := by
  have HO : Hid (OkS (fN l) (gN l) l.length) := hO
  unfold dnP
  by_cases hp : p < 1
  · rw [if_pos hp]
    clear hs hO HO
    go_enter Tryd.func32, Tryd.ntmps32
    go_wp2
    go_ret
    exact ⟨rfl, Below.refl _ _⟩
  · rw [if_neg hp]
    obtain ⟨q, hq, h1, h2⟩ : ∃ q, q = min p 1000000000 ∧ 1 ≤ q ∧ q ≤ 1000000000 := ⟨_, rfl, by omega, by omega⟩
    rw [← hq]
    have hst := stepOf_any v l q w hs hO.n1 hO.n8
    have hl := stpN_lt (F := fN l) (p := q) hO.n1
    have ht := (hO.t1 _ hl).1
    have hnn := hO.nn hl
    have hle : fN l (stpN (fN l) l.length q) ≤ q := stpN_le (by rw [hO.f0]; omega) _
    generalize fN l (stpN (fN l) l.length q) = f at *
    generalize gN l (stpN (fN l) l.length q) = t at *
    have hon := fun w => onTick_any f t q w ht hnn hle (by omega)
    generalize onT f t q = x at *
    clear hs hO hl ht hnn hle HO
    subst hq
    go_enter Tryd.func32, Tryd.ntmps32
    go_wp2_with (go_at_call 34; fail)
    refine hst.mono ?_
    rintro e w1 ⟨rfl, hb1⟩
    have HB : Hid (Below w.heap.size w w1) := hb1
    clear hb1
    go_wp2_with (go_at_call 57; fail)
    refine (hon _).mono ?_
    rintro e w2 ⟨rfl, hb2⟩
    have HB2 : Hid (Below w.heap.size w w2) := HB.out.trans (hb2.mono HB.out.size)
    clear hb2
    go_wp2
    go_ret
    exact ⟨rfl, HB2.out⟩
set_option maxRecDepth 100000 in
set_option maxHeartbeats 400000 in
theorem roundUp_any (v : Value) (l : List (Int × Int)) (p : Int) (w : World) (hs : SrcT w v l) (hO : OkS (fN l) (gN l) l.length) :
    Calls Tryd.prog 33 #[v, .int .i64 p] w fun e w' => e = .returned (.int .i64 (upP (fN l) (gN l) l.length p)) ∧ Below w.heap.size w w' := by
  have HO : Hid (OkS (fN l) (gN l) l.length) := hO
  unfold upP
  by_cases hp : 1000000000 < p
  · rw [if_pos hp]
    clear hs hO HO
    go_enter Tryd.func33, Tryd.ntmps33
    go_wp2
    go_ret
    exact ⟨rfl, Below.refl _ _⟩
  · rw [if_neg hp]
    obtain ⟨q, hq, h1, h2⟩ : ∃ q, q = max p 1 ∧ 1 ≤ q ∧ q ≤ 1000000000 := ⟨_, rfl, by omega, by omega⟩
    rw [← hq]
    have hst := stepOf_any v l q w hs hO.n1 hO.n8
    have hl := stpN_lt (F := fN l) (p := q) hO.n1
    have ht := hO.t1 _ hl
    have hnn := hO.nn hl
    have hle : fN l (stpN (fN l) l.length q) ≤ q := stpN_le (by rw [hO.f0]; omega) _
    unfold upQ
    generalize fN l (stpN (fN l) l.length q) = f at *
    generalize gN l (stpN (fN l) l.length q) = t at *
    have hon := fun w => onTick_any f t (q + t - 1) w ht.1 hnn (by omega) (by omega)
    generalize onT f t (q + t - 1) = x at *
    have t1 := ht.1
    have t2 := ht.2
    clear hs hO hl ht hnn hle HO
    subst hq
    by_cases hx : 1000000000 < x
    all_goals
      first | rw [if_pos hx] | rw [if_neg hx]
      go_enter Tryd.func33, Tryd.ntmps33
      go_wp2_with (go_at_call 34; fail)
      refine hst.mono ?_
      rintro e w1 ⟨rfl, hb1⟩
      have HB : Hid (Below w.heap.size w (w1.alloc (.cells #[.int .i64 f, .int .i64 t] 55))) := hb1.alloc hb1.size _
      clear hb1
      go_wp2_with (go_at_call 57; fail)
      refine (hon _).mono ?_
      rintro e w2 ⟨rfl, hb2⟩
      have HB2 : Hid (Below w.heap.size w w2) := HB.out.trans (hb2.mono HB.out.size)
      clear hb2
      go_wp2
      go_ret
      exact ⟨rfl, HB2.out⟩
end Go.Proofs.YtnhkmfofkhhnaaaDoor
