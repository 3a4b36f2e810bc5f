/-
  The reference's Mul, MulDiv: what they tell.
-/
import Derived.Test.YtochdjdkfmdgeabDoorRefDiv2
namespace Go.Proofs.YtochdjdkfmdgeabDoor
set_option linter.unusedVariables false
open Go.Shelf Go.RowKit Go.Sort Go.Lib

/-- A product's size with its sign, and the document's answer. -/
theorem sm_md {a b c P q : Int} {below : Bool} (hc : 0 < c) (hb : below = (!(decide (a < 0) == decide (b < 0)))) (hP : magI a * magI b = P) (hq : (below = true ∧ 0 < P % c → q = P / c + 1) ∧ (¬ (below = true ∧ 0 < P % c) → q = P / c)) :
    smN q below = mdQ a b c ∧ smB q below = mdOk a b c ∧ (mdOk a b c = true → mdR a b c = if below = true ∧ 0 < P % c then c - P % c else P % c) := by
  have hr0 := Int.emod_nonneg P (by omega : c ≠ 0)
  cases below with
  | true =>
    have hd : decide (a < 0) ≠ decide (b < 0) := by simpa using hb.symm
    have hab := mag_diff hd
    rw [hP] at hab
    by_cases hr : 0 < P % c
    · have e := hq.1 ⟨rfl, hr⟩
      obtain ⟨n1, n2⟩ := neg_div (P := P) hc hr
      rw [if_pos ⟨rfl, hr⟩]
      by_cases h : q ≤ 9223372036854775808
      · obtain ⟨f1, f2⟩ := sm_true h
        by_cases h2 : a * b / c ≤ 9223372036854775807
        · obtain ⟨e1, e2, e3⟩ := md_yes (a := a) (b := b) hc (by rw [hab, n1]; omega) h2
          exact ⟨by rw [f1, e2, hab, n1, e], by rw [f2, e1], fun _ => by rw [e3, hab, n2]⟩
        · exfalso
          rw [hab, n1] at h2
          have h3 : 0 ≤ magI a * magI b := Int.mul_nonneg (by unfold magI; split <;> omega) (by unfold magI; split <;> omega)
          rw [hP] at h3
          have := Int.ediv_nonneg h3 (show 0 ≤ c by omega)
          omega
      · obtain ⟨f1, f2⟩ := sm_true_no h
        obtain ⟨e1, e2, e3⟩ := md_no (a := a) (b := b) (c := c) (fun g => by
          have := g.2.1; rw [hab, n1] at this; omega)
        exact ⟨by rw [f1, e2], by rw [f2, e1], fun g => by rw [e1] at g; cases g⟩
    · have e := hq.2 (fun g => hr g.2)
      have hz : P % c = 0 := by omega
      obtain ⟨n1, n2⟩ := neg_div0 (P := P) hc hz
      rw [if_neg (fun g => hr g.2)]
      by_cases h : q ≤ 9223372036854775808
      · obtain ⟨f1, f2⟩ := sm_true h
        by_cases h2 : a * b / c ≤ 9223372036854775807
        · obtain ⟨e1, e2, e3⟩ := md_yes (a := a) (b := b) hc (by rw [hab, n1]; omega) h2
          exact ⟨by rw [f1, e2, hab, n1, e], by rw [f2, e1], fun _ => by rw [e3, hab, n2, hz]⟩
        · exfalso
          rw [hab, n1] at h2
          have h3 : 0 ≤ magI a * magI b := Int.mul_nonneg (by unfold magI; split <;> omega) (by unfold magI; split <;> omega)
          rw [hP] at h3
          have := Int.ediv_nonneg h3 (show 0 ≤ c by omega)
          omega
      · obtain ⟨f1, f2⟩ := sm_true_no h
        obtain ⟨e1, e2, e3⟩ := md_no (a := a) (b := b) (c := c) (fun g => by
          have := g.2.1; rw [hab, n1] at this; omega)
        exact ⟨by rw [f1, e2], by rw [f2, e1], fun g => by rw [e1] at g; cases g⟩
  | false =>
    have hd : ¬ decide (a < 0) ≠ decide (b < 0) := by simpa using hb.symm
    have hab := mag_same hd
    rw [hP] at hab
    have e := hq.2 (fun g => by cases g.1)
    rw [if_neg (fun g => by cases g.1)]
    have h3 : 0 ≤ magI a * magI b := Int.mul_nonneg (by unfold magI; split <;> omega) (by unfold magI; split <;> omega)
    rw [hP] at h3
    have h4 := Int.ediv_nonneg h3 (show 0 ≤ c by omega)
    by_cases h : q < 9223372036854775808
    · obtain ⟨f1, f2⟩ := sm_false h
      obtain ⟨e1, e2, e3⟩ := md_yes (a := a) (b := b) hc (by rw [← hab]; omega) (by rw [← hab]; omega)
      exact ⟨by rw [f1, e2, ← hab, e], by rw [f2, e1], fun _ => by rw [e3, ← hab]⟩
    · obtain ⟨f1, f2⟩ := sm_false_no h
      obtain ⟨e1, e2, e3⟩ := md_no (a := a) (b := b) (c := c) (fun g => by
        have := g.2.2; rw [← hab] at this; omega)
      exact ⟨by rw [f1, e2], by rw [f2, e1], fun g => by rw [e1] at g; cases g⟩

set_option maxRecDepth 100000 in
set_option maxHeartbeats 1000000 in
theorem refMul_any (a b : Int) (w : World) (a0 : -9223372036854775808 ≤ a) (a1 : a ≤ 9223372036854775807) (b0 : -9223372036854775808 ≤ b) (b1 : b ≤ 9223372036854775807) :
    Calls Tryd.prog 11 #[.int .i64 a, .int .i64 b] w fun e w' => e = .returned (.tuple #[.int .i64 (mdQ a b 1), .bool (mdOk a b 1)]) ∧ Below w.heap.size w w' := by
  obtain ⟨ma0, ma1⟩ := magI_bd a0 a1
  obtain ⟨mb0, mb1⟩ := magI_bd b0 b1
  obtain ⟨bl, hbl⟩ : ∃ bl : Bool, (!(decide (a < 0) == decide (b < 0))) = bl := ⟨_, rfl⟩
  have HM : Hid (∀ P, magI a * magI b = P → smN P bl = mdQ a b 1 ∧ smB P bl = mdOk a b 1) := fun P hP => by
    have h := sm_md (a := a) (b := b) (c := 1) (P := P) (q := P) (by decide) hbl.symm hP ⟨fun g => by have := g.2; rw [Int.emod_one] at this; omega, fun _ => (Int.ediv_one P).symm⟩
    exact ⟨h.1, h.2.1⟩
  have HBig : Hid (∀ P, magI a * magI b = P → 18446744073709551616 ≤ P → mdQ a b 1 = 0 ∧ mdOk a b 1 = false) := fun P hP hg => by
    have h := HM.out P hP
    cases bl with
    | true =>
      obtain ⟨f1, f2⟩ := sm_true_no (n := P) (by omega)
      exact ⟨by rw [← h.1, f1], by rw [← h.2, f2]⟩
    | false =>
      obtain ⟨f1, f2⟩ := sm_false_no (n := P) (by omega)
      exact ⟨by rw [← h.1, f1], by rw [← h.2, f2]⟩
  go_enter Tryd.func11, Tryd.ntmps11
  go_wp2_with (go_at_call 38; fail)
  refine (size_any a a0 a1 _).mono ?_
  rintro e w1 ⟨rfl, rfl⟩
  go_wp2_with (go_at_call 38; fail)
  refine (size_any b b0 b1 _).mono ?_
  rintro e w1 ⟨rfl, rfl⟩
  go_wp2_with (go_at_call 40; fail)
  refine (times_any _ _ _ ma0 (by omega) mb0 (by omega)).mono ?_
  rintro e w2 ⟨⟨p0, p1, p2, p3, rfl, q0, q1, q2, q3, q4, q5, q6, q7, hP⟩, hb2⟩
  have HP : Hid (p0 + p1 * 4294967296 + p2 * 18446744073709551616 + p3 * 79228162514264337593543950336 = magI a * magI b) := hP
  have HB2 : Hid (Below w1.heap.size w1 w2) := hb2
  clear hP hb2
  by_cases hbig : 0 < p2 ∨ 0 < p3
  · have HR : Hid (mdQ a b 1 = 0 ∧ mdOk a b 1 = false) := HBig.out _ HP.out.symm (by omega)
    rcases hbig with h | h
    · go_wp2_with fail
      go_ret2
      exact ⟨ret2 (vint HR.out.1.symm) (vbool HR.out.2.symm), HB2.out.alloc HB2.out.size _⟩
    · by_cases h2 : 0 < p2
      · go_wp2_with fail
        go_ret2
        exact ⟨ret2 (vint HR.out.1.symm) (vbool HR.out.2.symm), HB2.out.alloc HB2.out.size _⟩
      · go_wp2_with fail
        go_ret2
        exact ⟨ret2 (vint HR.out.1.symm) (vbool HR.out.2.symm), HB2.out.alloc HB2.out.size _⟩
  · have h2 : p2 = 0 := by omega
    have h3 : p3 = 0 := by omega
    subst h2 h3
    have hsm := fun wx => same_any (p0 + p1 * 4294967296) bl wx (by omega) (by omega)
    have hr := HM.out (p0 + p1 * 4294967296) (by have := HP.out; omega)
    rw [hr.1, hr.2] at hsm
    have HSM : Hid (∀ wx, Calls Tryd.prog 39 #[.int .u64 (p0 + p1 * 4294967296), .bool bl] wx fun e w' => e = .returned (.tuple #[.int .i64 (mdQ a b 1), .bool (mdOk a b 1)]) ∧ w' = wx) := hsm
    clear hsm hr hbig
    go_wp2_with (go_at_call 39; fail)
    refine (HSM.out _).mono ?_
    rintro e w3 ⟨rfl, rfl⟩
    go_wp2_with fail
    go_ret2
    exact ⟨rfl, HB2.out.alloc HB2.out.size _⟩

set_option maxRecDepth 100000 in
set_option maxHeartbeats 1000000 in
theorem refMulDiv_any (a b c : Int) (w : World) (a0 : -9223372036854775808 ≤ a) (a1 : a ≤ 9223372036854775807) (b0 : -9223372036854775808 ≤ b) (b1 : b ≤ 9223372036854775807) (c0 : -9223372036854775808 ≤ c) (c1 : c ≤ 9223372036854775807) :
    Calls Tryd.prog 13 #[.int .i64 a, .int .i64 b, .int .i64 c] w fun e w' => e = .returned (.tuple #[.int .i64 (mdQ a b c), .int .i64 (mdR a b c), .bool (mdOk a b c)]) ∧ Below w.heap.size w w' := by
  by_cases hc : c ≤ 0
  · have HN : Hid (mdOk a b c = false ∧ mdQ a b c = 0 ∧ mdR a b c = 0) := md_no (fun h => by omega)
    go_enter Tryd.func13, Tryd.ntmps13
    go_wp2_with fail
    go_ret3
    exact ⟨ret3 (vint HN.out.2.1.symm) (vint HN.out.2.2.symm) (vbool HN.out.1.symm), Below.refl _ _⟩
  have hcp : 0 < c := by omega
  clear hc
  obtain ⟨ma0, ma1⟩ := magI_bd a0 a1
  obtain ⟨mb0, mb1⟩ := magI_bd b0 b1
  obtain ⟨bl, hbl⟩ : ∃ bl : Bool, (!(decide (a < 0) == decide (b < 0))) = bl := ⟨_, rfl⟩
  have HM : Hid (∀ P q, magI a * magI b = P → ((bl = true ∧ 0 < P % c → q = P / c + 1) ∧ (¬ (bl = true ∧ 0 < P % c) → q = P / c)) → smN q bl = mdQ a b c ∧ smB q bl = mdOk a b c ∧ (mdOk a b c = true → mdR a b c = if bl = true ∧ 0 < P % c then c - P % c else P % c)) := fun P q hP hq => sm_md hcp hbl.symm hP hq
  have HNo : Hid (mdOk a b c = false → mdQ a b c = 0 ∧ mdR a b c = 0) := fun h => by
    unfold mdQ mdR; rw [h]; exact ⟨rfl, rfl⟩
  go_enter Tryd.func13, Tryd.ntmps13
  go_wp2_with (go_at_call 38; fail)
  refine (size_any a a0 a1 _).mono ?_
  rintro e w1 ⟨rfl, rfl⟩
  go_wp2_with (go_at_call 38; fail)
  refine (size_any b b0 b1 _).mono ?_
  rintro e w1 ⟨rfl, rfl⟩
  go_wp2_with (go_at_call 40; fail)
  refine (times_any _ _ _ ma0 (by omega) mb0 (by omega)).mono ?_
  rintro e w2 ⟨⟨p0, p1, p2, p3, rfl, q0, q1, q2, q3, q4, q5, q6, q7, hP⟩, hb2⟩
  have HP : Hid (magI a * magI b = wideN p0 p1 p2 p3) := hP.symm
  have HB2 : Hid (Below w1.heap.size w1 w2) := hb2
  have hN0 : 0 ≤ wideN p0 p1 p2 p3 := by unfold wideN; omega
  have hby := fun wx => by_any p0 p1 p2 p3 c wx ⟨q0, q1⟩ ⟨q2, q3⟩ ⟨q4, q5⟩ ⟨q6, q7⟩ hcp (by omega)
  clear hP hb2 q0 q1 q2 q3 q4 q5 q6 q7
  generalize wideN p0 p1 p2 p3 = P at *
  go_wp2_with (go_at_call 45; fail)
  refine (hby _).mono ?_
  clear hby
  have hr0 := Int.emod_nonneg P (by omega : c ≠ 0)
  have hr1 := Int.emod_lt_of_pos P hcp
  have hq0 := Int.ediv_nonneg hN0 (show 0 ≤ c by omega)
  rintro e w3 ⟨⟨hsm, rfl⟩ | ⟨hbig, rfl⟩, hb3⟩
  · have HB3 : Hid (Below w1.heap.size w1 w3) := HB2.out.trans (hb3.mono HB2.out.size)
    clear hb3
    by_cases hcr : bl = true ∧ 0 < P % c
    · obtain ⟨rfl, hr⟩ := hcr
      have hm := HM.out P (P / c + 1) HP.out ⟨fun _ => rfl, fun g => absurd ⟨rfl, hr⟩ g⟩
      rw [if_pos ⟨rfl, hr⟩] at hm
      by_cases hmax : P / c = 18446744073709551615
      · have HR : Hid (mdOk a b c = false ∧ mdQ a b c = 0 ∧ mdR a b c = 0) := by
          obtain ⟨f1, f2⟩ := sm_true_no (n := P / c + 1) (by omega)
          have e1 : mdOk a b c = false := by rw [← hm.2.1, f2]
          exact ⟨e1, HNo.out e1⟩
        clear hm
        go_wp2_with fail
        go_ret3
        exact ⟨ret3 (vint HR.out.2.1.symm) (vint HR.out.2.2.symm) (vbool HR.out.1.symm), HB3.out⟩
      · have hmax' : (P / c == 18446744073709551615) = false := by simpa using hmax
        have hsame := fun wx => same_any (P / c + 1) true wx (by omega) (by omega)
        rw [hm.1, hm.2.1] at hsame
        have HSM : Hid (∀ wx, Calls Tryd.prog 39 #[.int .u64 (P / c + 1), .bool true] wx fun e w' => e = .returned (.tuple #[.int .i64 (mdQ a b c), .bool (mdOk a b c)]) ∧ w' = wx) := hsame
        have HR : Hid (mdOk a b c = true → mdR a b c = c - P % c) := hm.2.2
        have hle : P / c ≤ 18446744073709551614 := by omega
        clear hm hsame hmax
        cases hok : mdOk a b c with
        | true =>
          have HR2 : Hid (mdR a b c = c - P % c) := HR.out hok
          rw [hok] at HSM
          go_wp2_with (go_at_call 39; fail)
          refine (HSM.out _).mono ?_
          rintro e w4 ⟨rfl, rfl⟩
          go_wp2_with fail
          go_ret3
          exact ⟨ret3 rfl (vint HR2.out.symm) (vbool hok.symm), HB3.out⟩
        | false =>
          have HR2 : Hid (mdQ a b c = 0 ∧ mdR a b c = 0) := HNo.out hok
          rw [hok] at HSM
          go_wp2_with (go_at_call 39; fail)
          refine (HSM.out _).mono ?_
          rintro e w4 ⟨rfl, rfl⟩
          go_wp2_with fail
          go_ret3
          exact ⟨ret3 (vint HR2.out.1.symm) (vint HR2.out.2.symm) (vbool hok.symm), HB3.out⟩
    · have hm := HM.out P (P / c) HP.out ⟨fun g => absurd g hcr, fun _ => rfl⟩
      rw [if_neg hcr] at hm
      have hsame := fun wx => same_any (P / c) bl wx hq0 hsm
      rw [hm.1, hm.2.1] at hsame
      have HSM : Hid (∀ wx, Calls Tryd.prog 39 #[.int .u64 (P / c), .bool bl] wx fun e w' => e = .returned (.tuple #[.int .i64 (mdQ a b c), .bool (mdOk a b c)]) ∧ w' = wx) := hsame
      have HR : Hid (mdOk a b c = true → mdR a b c = P % c) := hm.2.2
      have hbr : bl = false ∨ (bl = true ∧ ¬ 0 < P % c) := by
        cases bl with
        | true => exact .inr ⟨rfl, fun g => hcr ⟨rfl, g⟩⟩
        | false => exact .inl rfl
      clear hm hsame hcr
      cases hok : mdOk a b c with
      | true =>
        have HR2 : Hid (mdR a b c = P % c) := HR.out hok
        rw [hok] at HSM
        rcases hbr with rfl | ⟨rfl, hnr⟩
        all_goals
          go_wp2_with (go_at_call 39; fail)
          refine (HSM.out _).mono ?_
          rintro e w4 ⟨rfl, rfl⟩
          go_wp2_with fail
          go_ret3
          exact ⟨ret3 rfl (vint HR2.out.symm) (vbool hok.symm), HB3.out⟩
      | false =>
        have HR2 : Hid (mdQ a b c = 0 ∧ mdR a b c = 0) := HNo.out hok
        rw [hok] at HSM
        rcases hbr with rfl | ⟨rfl, hnr⟩
        all_goals
          go_wp2_with (go_at_call 39; fail)
          refine (HSM.out _).mono ?_
          rintro e w4 ⟨rfl, rfl⟩
          go_wp2_with fail
          go_ret3
          exact ⟨ret3 (vint HR2.out.1.symm) (vint HR2.out.2.symm) (vbool hok.symm), HB3.out⟩
  · have HB3 : Hid (Below w1.heap.size w1 w3) := HB2.out.trans (hb3.mono HB2.out.size)
    clear hb3
    have HR : Hid (mdOk a b c = false ∧ mdQ a b c = 0 ∧ mdR a b c = 0) := by
      have e1 : mdOk a b c = false := by
        by_cases hcr : bl = true ∧ 0 < P % c
        · have hm := HM.out P (P / c + 1) HP.out ⟨fun _ => rfl, fun g => absurd hcr g⟩
          rw [hcr.1] at hm
          rw [← hm.2.1]; exact (sm_true_no (n := P / c + 1) (by omega)).2
        · have hm := HM.out P (P / c) HP.out ⟨fun g => absurd g hcr, fun _ => rfl⟩
          rw [← hm.2.1]
          cases bl with
          | true => exact (sm_true_no (n := P / c) (by omega)).2
          | false => exact (sm_false_no (n := P / c) (by omega)).2
      exact ⟨e1, HNo.out e1⟩
    go_wp2_with fail
    go_ret3
    exact ⟨ret3 (vint HR.out.2.1.symm) (vint HR.out.2.2.symm) (vbool HR.out.1.symm), HB3.out⟩
end Go.Proofs.YtochdjdkfmdgeabDoor
