/-
  NumDivides: the walk.
-/
import Derived.Test.YtochdjdkfmdgeaaDoorShown
import Derived.Test.YtochdjdkfmdgeaaDoorDiv5
import Derived.OpenShut
namespace Go.Proofs.YtochdjdkfmdgeaaDoor
set_option linter.unusedVariables false
open Go.Shelf Go.RowKit Go.Sort Go.Lib

theorem wrap64_bd (x : Int) : -9223372036854775808 ≤ wrap64 x ∧ wrap64 x ≤ 9223372036854775807 := by
  unfold wrap64; omega
theorem md1_r (a b : Int) : mdR a b 1 = 0 := by
  unfold mdR; split
  · exact Int.emod_one _
  · rfl
theorem md1_comm (a b : Int) : mdQ b a 1 = mdQ a b 1 ∧ mdOk b a 1 = mdOk a b 1 := by
  unfold mdQ mdOk; rw [Int.mul_comm b a]; exact ⟨rfl, rfl⟩
theorem ad_comm (a b : Int) : adN b a = adN a b ∧ adOk b a = adOk a b := by
  unfold adN adOk; rw [Int.add_comm b a]; exact ⟨rfl, rfl⟩

set_option maxRecDepth 100000 in
set_option maxHeartbeats 1000000 in
theorem NumDivides_core (a b c : Int) (w : World) (htab : TabIs Tryd.prog w "internal/strconv.uint64pow10" .u64 pow10Tab)
    (q r m s d nb : Int) (ok is good three : Bool) (hnb : wrap64 (-b) = nb)
    (hmd : ∀ wx, Calls Tryd.prog 10 #[.int .i64 a, .int .i64 b, .int .i64 c] wx fun e w' => e = .returned (.tuple #[.int .i64 q, .int .i64 r, .bool ok]) ∧ ∃ k, w' = wx.drewN k)
    (hmul : ∀ wx, Calls Tryd.prog 11 #[.int .i64 a, .int .i64 b] wx fun e w' => e = .returned (.tuple #[.int .i64 m, .bool is]) ∧ ∃ k, w' = wx.drewN k)
    (hmd1 : ∀ wx, Calls Tryd.prog 10 #[.int .i64 a, .int .i64 b, .int .i64 1] wx fun e w' => e = .returned (.tuple #[.int .i64 m, .int .i64 0, .bool is]) ∧ ∃ k, w' = wx.drewN k)
    (hmul' : ∀ wx, Calls Tryd.prog 11 #[.int .i64 b, .int .i64 a] wx fun e w' => e = .returned (.tuple #[.int .i64 m, .bool is]) ∧ ∃ k, w' = wx.drewN k)
    (hadd : ∀ wx, Calls Tryd.prog 12 #[.int .i64 a, .int .i64 b] wx fun e w' => e = .returned (.tuple #[.int .i64 s, .bool good]) ∧ w' = wx)
    (hadd' : ∀ wx, Calls Tryd.prog 12 #[.int .i64 b, .int .i64 a] wx fun e w' => e = .returned (.tuple #[.int .i64 s, .bool good]) ∧ w' = wx)
    (hadd2 : ∀ wx, Calls Tryd.prog 12 #[.int .i64 s, .int .i64 nb] wx fun e w' => e = .returned (.tuple #[.int .i64 d, .bool three]) ∧ w' = wx)
    (hok : (ok = false ∧ q = 0 ∧ r = 0) ∨ (ok = true ∧ 0 < c ∧ 0 ≤ r ∧ r < c ∧ (wrap64 (wrap64 (q * c) + r) != wrap64 (a * b)) = false))
    (hgood : (good = false ∧ s = 0) ∨ (good = true ∧ b = -9223372036854775808 ∧ nb = -9223372036854775808) ∨ (good = true ∧ (b == -9223372036854775808) = false ∧ three = true ∧ d = a)) :
    Calls Tryd.prog 3 #[.int .i64 a, .int .i64 b, .int .i64 c] w fun e w' => e = .returned (.bool true) ∧ Below w.heap.size w w' := by
  have H1 : Hid (∀ wx, Calls Tryd.prog 10 #[.int .i64 a, .int .i64 b, .int .i64 c] wx fun e w' => e = .returned (.tuple #[.int .i64 q, .int .i64 r, .bool ok]) ∧ ∃ k, w' = wx.drewN k) := hmd
  have H2 : Hid (∀ wx, Calls Tryd.prog 11 #[.int .i64 a, .int .i64 b] wx fun e w' => e = .returned (.tuple #[.int .i64 m, .bool is]) ∧ ∃ k, w' = wx.drewN k) := hmul
  have H3 : Hid (∀ wx, Calls Tryd.prog 10 #[.int .i64 a, .int .i64 b, .int .i64 1] wx fun e w' => e = .returned (.tuple #[.int .i64 m, .int .i64 0, .bool is]) ∧ ∃ k, w' = wx.drewN k) := hmd1
  have H4 : Hid (∀ wx, Calls Tryd.prog 11 #[.int .i64 b, .int .i64 a] wx fun e w' => e = .returned (.tuple #[.int .i64 m, .bool is]) ∧ ∃ k, w' = wx.drewN k) := hmul'
  have H5 : Hid (∀ wx, Calls Tryd.prog 12 #[.int .i64 a, .int .i64 b] wx fun e w' => e = .returned (.tuple #[.int .i64 s, .bool good]) ∧ w' = wx) := hadd
  have H6 : Hid (∀ wx, Calls Tryd.prog 12 #[.int .i64 b, .int .i64 a] wx fun e w' => e = .returned (.tuple #[.int .i64 s, .bool good]) ∧ w' = wx) := hadd'
  have H7 : Hid (∀ wx, Calls Tryd.prog 12 #[.int .i64 s, .int .i64 nb] wx fun e w' => e = .returned (.tuple #[.int .i64 d, .bool three]) ∧ w' = wx) := hadd2
  have hls : wrap64 9223372036854775808 = -9223372036854775808 := by unfold wrap64; omega
  clear hmd hmul hmd1 hmul' hadd hadd' hadd2
  rcases hok with ⟨rfl, rfl, rfl⟩ | ⟨rfl, hc, hr0, hr1, hw⟩
  all_goals
    rcases hgood with ⟨rfl, rfl⟩ | ⟨rfl, rfl, rfl⟩ | ⟨rfl, hb, rfl, rfl⟩
    all_goals
      go_enter Tryd.func3, Tryd.ntmps3
      go_wp2_with (go_at_call 9; fail)
      refine (shown_any _ htab).mono ?_
      rintro e w1 ⟨rfl, hbl⟩
      go_wp2_with (go_at_call 10; fail)
      refine (H1.out _).mono ?_
      rintro e w2 ⟨rfl, k1, rfl⟩
      go_wp2_with (go_at_call 11; fail)
      refine (H2.out _).mono ?_
      rintro e w2 ⟨rfl, k2, rfl⟩
      go_wp2_with (go_at_call 10; fail)
      refine (H3.out _).mono ?_
      rintro e w2 ⟨rfl, k3, rfl⟩
      go_wp2_with (go_at_call 11; fail)
      refine (H4.out _).mono ?_
      rintro e w2 ⟨rfl, k4, rfl⟩
      go_wp2_with (go_at_call 12; fail)
      refine (H5.out _).mono ?_
      rintro e w2 ⟨rfl, rfl⟩
      go_wp2_with (go_at_call 12; fail)
      refine (H6.out _).mono ?_
      rintro e w2 ⟨rfl, rfl⟩
      go_wp2_with (go_at_call 12; fail)
  all_goals
    first
    | (go_ret; exact ⟨rfl, below_drewN hbl _⟩)
    | (refine (H7.out _).mono ?_; rintro e w2 ⟨rfl, rfl⟩; go_wp2; go_ret; exact ⟨rfl, below_drewN hbl _⟩)

theorem NumDivides_law (a : Int) (ha : (Lit.int .i64 a).wf = true) (b : Int) (hb : (Lit.int .i64 b).wf = true) (c : Int) (hc : (Lit.int .i64 c).wf = true) (w : World) (htab : TabIs Tryd.prog w "internal/strconv.uint64pow10" .u64 pow10Tab) :
    Calls Tryd.prog 3 #[.int .i64 a, .int .i64 b, .int .i64 c] w fun e w' => e = .returned (.bool true) ∧ Below w.heap.size w w' := by
  obtain ⟨a0, a1⟩ := bounds_i64 ha
  obtain ⟨b0, b1⟩ := bounds_i64 hb
  obtain ⟨c0, c1⟩ := bounds_i64 hc
  have hn := wrap64_bd (-b)
  refine NumDivides_core a b c w htab (mdQ a b c) (mdR a b c) (mdQ a b 1) (adN a b) (adN (adN a b) (wrap64 (-b))) (wrap64 (-b)) (mdOk a b c) (mdOk a b 1) (adOk a b) (adOk (adN a b) (wrap64 (-b))) rfl
    (fun wx => MulDiv_any a b c wx a0 a1 b0 b1 c0 c1) (fun wx => Mul_any a b wx a0 a1 b0 b1) (fun wx => ?_) (fun wx => ?_) (fun wx => Add_any a b wx a0 a1 b0 b1) (fun wx => ?_) (fun wx => ?_) ?_ ?_
  · have h := MulDiv_any a b 1 wx a0 a1 b0 b1 (by decide) (by decide)
    rw [md1_r] at h; exact h
  · have h := Mul_any b a wx b0 b1 a0 a1
    rw [(md1_comm a b).1, (md1_comm a b).2] at h; exact h
  · have h := Add_any b a wx b0 b1 a0 a1
    rw [(ad_comm a b).1, (ad_comm a b).2] at h; exact h
  · have hs : -9223372036854775808 ≤ adN a b ∧ adN a b ≤ 9223372036854775807 := by
      by_cases h : -9223372036854775808 ≤ a + b ∧ a + b ≤ 9223372036854775807
      · rw [(ad_yes h.1 h.2).2]; exact h
      · rw [(ad_no h).2]; omega
    exact Add_any _ _ wx hs.1 hs.2 hn.1 hn.2
  · by_cases h : 0 < c ∧ -9223372036854775808 ≤ a * b / c ∧ a * b / c ≤ 9223372036854775807
    · obtain ⟨e1, e2, e3⟩ := md_yes h.1 h.2.1 h.2.2
      have m0 := Int.emod_nonneg (a * b) (by omega : c ≠ 0)
      have m1 := Int.emod_lt_of_pos (a * b) h.1
      refine .inr ⟨e1, h.1, by rw [e3]; exact m0, by rw [e3]; exact m1, ?_⟩
      rw [e2, e3]
      have e := Int.mul_ediv_add_emod (a * b) c
      rw [Int.mul_comm] at e
      have g : wrap64 (wrap64 (a * b / c * c) + a * b % c) = wrap64 (a * b) := by
        generalize a * b / c * c = x at *
        generalize a * b % c = y at *
        rw [← e]
        unfold wrap64; omega
      rw [g]; simp
    · obtain ⟨e1, e2, e3⟩ := md_no h
      exact .inl ⟨e1, e2, e3⟩
  · by_cases h : -9223372036854775808 ≤ a + b ∧ a + b ≤ 9223372036854775807
    · obtain ⟨e1, e2⟩ := ad_yes h.1 h.2
      by_cases hl : b = -9223372036854775808
      · exact .inr (.inl ⟨e1, hl, by rw [hl]; unfold wrap64; omega⟩)
      · have hw : wrap64 (-b) = -b := by unfold wrap64; omega
        rw [hw, e2]
        obtain ⟨f1, f2⟩ := ad_yes (a := a + b) (b := -b) (by omega) (by omega)
        exact .inr (.inr ⟨e1, by simpa using hl, f1, by rw [f2]; omega⟩)
    · obtain ⟨e1, e2⟩ := ad_no h
      exact .inl ⟨e1, e2⟩
end Go.Proofs.YtochdjdkfmdgeaaDoor
