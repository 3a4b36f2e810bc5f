/-
  ledger: bookings compared by accounts and symbols.
-/
import Derived.Test.YtidhahooebepfaaJBal
import Derived.Sort.Grow
namespace Go.Proofs.Ytidhahooebepfaa
set_option linter.unusedVariables false
set_option linter.unusedSimpArgs false
open Go.RowKit Go.Great Go.Maps

def ltS (a b : ByteArray) : Bool := Op.bytesLess a.toList b.toList
def cmpS (a b : ByteArray) : Int := if ltS a b = true then -1 else if ltS b a = true then 1 else 0
def or2 (x y : Int) : Int := if x = 0 then y else x
def cfB (a b : Bk) : Int := or2 (cmpS a.ac b.ac) (cmpS a.sy b.sy)
theorem u8_tri {a b : UInt8} (h1 : ¬ a < b) (h2 : ¬ b < a) : a = b := UInt8.toNat_inj.1 (by rw [UInt8.lt_iff_toNat_lt] at h1 h2; omega)
theorem bl_irr : ∀ x : List UInt8, Op.bytesLess x x = false
  | [] => rfl
  | a :: x => by
    have h : ¬ a < a := by rw [UInt8.lt_iff_toNat_lt]; omega
    unfold Op.bytesLess
    rw [bl_irr x]; simp [h]
theorem bl_tri : ∀ x y : List UInt8, Op.bytesLess x y = false → Op.bytesLess y x = false → x = y
  | [], [], _, _ => rfl
  | [], _ :: _, h, _ => by simp [Op.bytesLess] at h
  | _ :: _, [], _, h => by simp [Op.bytesLess] at h
  | a :: x, b :: y, h1, h2 => by
    unfold Op.bytesLess at h1 h2
    simp only [Bool.or_eq_false_iff, decide_eq_false_iff_not] at h1 h2
    have e := u8_tri h1.1 h2.1
    subst e
    simp only [beq_self_eq_true, Bool.true_and] at h1 h2
    rw [bl_tri x y h1.2 h2.2]
theorem bl_trans : ∀ x y z : List UInt8, Op.bytesLess x y = true → Op.bytesLess y z = true → Op.bytesLess x z = true
  | _, [], _, h, _ => by simp [Op.bytesLess] at h
  | _, _ :: _, [], _, h => by simp [Op.bytesLess] at h
  | [], _ :: _, _ :: _, _, _ => rfl
  | a :: x, b :: y, c :: z, h1, h2 => by
    unfold Op.bytesLess at h1 h2 ⊢
    simp only [Bool.or_eq_true, decide_eq_true_eq, Bool.and_eq_true, beq_iff_eq] at h1 h2 ⊢
    rcases h1 with h1 | ⟨rfl, h1⟩
    · rcases h2 with h2 | ⟨rfl, h2⟩
      · exact .inl (by rw [UInt8.lt_iff_toNat_lt] at h1 h2 ⊢; omega)
      · exact .inl h1
    · rcases h2 with h2 | ⟨rfl, h2⟩
      · exact .inl h2
      · exact .inr ⟨rfl, bl_trans x y z h1 h2⟩
theorem bl_asym {x y : List UInt8} (h : Op.bytesLess x y = true) : Op.bytesLess y x = false := by
  rw [← Bool.not_eq_true]
  intro h2
  have := bl_trans x y x h h2
  rw [bl_irr] at this
  cases this
theorem bl_gtr (x y : List UInt8) : (!Op.bytesLess x y && !(x == y)) = Op.bytesLess y x := by
  cases h1 : Op.bytesLess x y with
  | true => rw [bl_asym h1]; rfl
  | false =>
    cases h2 : Op.bytesLess y x with
    | true =>
      have : (x == y) = false := by
        rw [← Bool.not_eq_true]
        intro e
        have e' : x = y := by simpa using e
        rw [e', bl_irr] at h2
        cases h2
      rw [this]; rfl
    | false => rw [bl_tri x y h1 h2]; simp
theorem ltS_irr (a : ByteArray) : ltS a a = false := bl_irr _
theorem ltS_trans {a b c : ByteArray} (h1 : ltS a b = true) (h2 : ltS b c = true) : ltS a c = true := bl_trans _ _ _ h1 h2
theorem ltS_asym {a b : ByteArray} (h : ltS a b = true) : ltS b a = false := bl_asym h
theorem ltS_tri {a b : ByteArray} (h1 : ltS a b = false) (h2 : ltS b a = false) : a = b := str_eq (by rw [bl_tri _ _ h1 h2]; simp)
theorem cmpS_neg {a b : ByteArray} : cmpS a b < 0 ↔ ltS a b = true := by
  unfold cmpS
  cases h1 : ltS a b
  · cases h2 : ltS b a <;> simp
  · simp
theorem cmpS_zero {a b : ByteArray} : cmpS a b = 0 ↔ a = b := by
  unfold cmpS
  constructor
  · intro h
    cases h1 : ltS a b
    · cases h2 : ltS b a
      · exact ltS_tri h1 h2
      · rw [h1, h2] at h; simp at h
    · rw [h1] at h; simp at h
  · rintro rfl
    rw [ltS_irr]; simp
def ltB (a b : Bk) : Prop := ltS a.ac b.ac = true ∨ (a.ac = b.ac ∧ ltS a.sy b.sy = true)
theorem cfB_neg {a b : Bk} : cfB a b < 0 ↔ ltB a b := by
  unfold cfB or2 ltB
  by_cases h : a.ac = b.ac
  · rw [if_pos (cmpS_zero.2 h), cmpS_neg, h, ltS_irr]
    simp
  · rw [if_neg (fun e => h (cmpS_zero.1 e)), cmpS_neg]
    simp [h]
theorem ltB_irr (a : Bk) : ¬ ltB a a := by
  rintro (h | ⟨_, h⟩)
  · rw [ltS_irr] at h; cases h
  · rw [ltS_irr] at h; cases h
theorem ltB_trans {a b c : Bk} (h1 : ltB a b) (h2 : ltB b c) : ltB a c := by
  rcases h1 with h1 | ⟨e1, h1⟩
  · rcases h2 with h2 | ⟨e2, h2⟩
    · exact .inl (ltS_trans h1 h2)
    · exact .inl (e2 ▸ h1)
  · rcases h2 with h2 | ⟨e2, h2⟩
    · exact .inl (e1 ▸ h2)
    · exact .inr ⟨e1.trans e2, ltS_trans h1 h2⟩
theorem ltB_tri {a b : Bk} (h1 : ¬ ltB a b) (h2 : ¬ ltB b a) : a.ac = b.ac ∧ a.sy = b.sy := by
  have e : a.ac = b.ac := ltS_tri (by rw [← Bool.not_eq_true]; exact fun h => h1 (.inl h)) (by rw [← Bool.not_eq_true]; exact fun h => h2 (.inl h))
  exact ⟨e, ltS_tri (by rw [← Bool.not_eq_true]; exact fun h => h1 (.inr ⟨e, h⟩)) (by rw [← Bool.not_eq_true]; exact fun h => h2 (.inr ⟨e.symm, h⟩))⟩
theorem isNaN_any (s : ByteArray) (w : World) : Calls Try.prog 57 #[.string s] w fun e w' => e = .returned (.bool false) ∧ w' = w := by
  go_enter Try.func57, Try.ntmps57
  go_wp2
  go_ret
  exact ⟨by simp, rfl⟩
set_option maxRecDepth 100000 in
set_option maxHeartbeats 1000000 in
theorem Compare_any (a b : ByteArray) (w : World) : Calls Try.prog 45 #[.string a, .string b] w fun e w' => e = .returned (.int .i64 (cmpS a b)) ∧ w' = w := by
  have h1 := fun w => isNaN_any a w
  have h2 := fun w => isNaN_any b w
  have hgt : ∀ w, (binOp .gtr 9 (.string a) (.string b)).run Try.prog w = .ok (.bool (Op.bytesLess b.toList a.toList)) w := fun w => by
    simp [binOp, Op.stringOp]
    exact bl_gtr _ _
  unfold cmpS ltS
  cases e1 : Op.bytesLess a.toList b.toList
  · cases e2 : Op.bytesLess b.toList a.toList <;> rw [e2] at hgt
    · go_enter Try.func45, Try.ntmps45
      go_wp2_with (go_at_call 57; fail)
      refine (h1 _).mono ?_
      rintro e w1 ⟨rfl, rfl⟩
      go_wp2_with (go_at_call 57; fail)
      refine (h2 _).mono ?_
      rintro e w1 ⟨rfl, rfl⟩
      go_wp2
      go_ret
      exact ⟨rfl, rfl⟩
    · go_enter Try.func45, Try.ntmps45
      go_wp2_with (go_at_call 57; fail)
      refine (h1 _).mono ?_
      rintro e w1 ⟨rfl, rfl⟩
      go_wp2_with (go_at_call 57; fail)
      refine (h2 _).mono ?_
      rintro e w1 ⟨rfl, rfl⟩
      go_wp2
      go_ret
      exact ⟨rfl, rfl⟩
  · go_enter Try.func45, Try.ntmps45
    go_wp2_with (go_at_call 57; fail)
    refine (h1 _).mono ?_
    rintro e w1 ⟨rfl, rfl⟩
    go_wp2_with (go_at_call 57; fail)
    refine (h2 _).mono ?_
    rintro e w1 ⟨rfl, rfl⟩
    go_wp2
    go_ret
    exact ⟨rfl, rfl⟩
set_option maxRecDepth 100000 in
set_option maxHeartbeats 1000000 in
theorem Or_any (x y : Int) (g : Nat) (w : World) (h0 : w.cell? ⟨g, 0, none⟩ = some (.int .i64 x)) (h1 : w.cell? ⟨g, 1, none⟩ = some (.int .i64 y)) :
    Calls Try.prog 44 #[.slice (some ⟨g, 0, none⟩) 2 2] w fun e w' => e = .returned (.int .i64 (or2 x y)) ∧ w' = w := by
  have HX : Hid (x ≠ 0 → or2 x y = x) := fun h => by unfold or2; rw [if_neg h]
  have HY : Hid (x = 0 → or2 x y = y) := fun h => by unfold or2; rw [if_pos h]
  generalize or2 x y = R at *
  go_enter Try.func44, Try.ntmps44
  go_wp2
  go_loop [8] (fun i => ∃ k : Nat, k ≤ 2 ∧ i = .int .i64 k ∧ Hid ((1 ≤ k → x = 0) ∧ (2 ≤ k → y = 0))) (fun i => 2 - (intOf i).toNat)
  case atStart => exact ⟨0, by omega, rfl, fun h => by omega, fun h => by omega⟩
  case round =>
    obtain ⟨k, hk, rfl, HI⟩ := hrel
    rcases (by omega : k = 0 ∨ k = 1 ∨ k = 2) with e | e | e
    · have hlt : (k : Int) < 2 := by omega
      have hk0 : (k : Int) = 0 := by omega
      by_cases hx : x = 0
      · have HF : Hid ((1 ≤ k + 1 → x = 0) ∧ (2 ≤ k + 1 → y = 0)) := ⟨fun _ => hx, fun h => by omega⟩
        subst e
        subst hx
        go_wp2
        exact ⟨⟨1, by omega, by rfl, fun _ => by first | trivial | rfl, fun h => by omega⟩, by simp [intOf]⟩
      · have HF : Hid (R = x) := HX.out hx
        have hx' : (x == 0) = false := by simpa using hx
        have hx'' : (x != 0) = true := by simpa using hx
        subst e
        clear hx
        go_wp2
        go_ret
        exact ⟨by rw [HF.out]; rfl, rfl⟩
    · have HF0 : Hid (R = y) := HY.out (HI.out.1 (by omega))
      by_cases hy : y = 0
      · have HF : Hid ((1 ≤ k + 1 → x = 0) ∧ (2 ≤ k + 1 → y = 0)) := ⟨fun _ => HI.out.1 (by omega), fun _ => hy⟩
        subst e
        subst hy
        go_wp2
        exact ⟨⟨2, by omega, by rfl, fun _ => HF.out.1 (by omega), fun _ => by first | trivial | rfl⟩, by simp [intOf]⟩
      · have hy' : (y == 0) = false := by simpa using hy
        have hy'' : (y != 0) = true := by simpa using hy
        subst e
        clear hy
        go_wp2
        go_ret
        exact ⟨by rw [HF0.out]; rfl, rfl⟩
    · have HF : Hid (R = 0) := by
        have h1 := HY.out (HI.out.1 (by omega))
        rw [HI.out.2 (by omega)] at h1
        exact h1
      subst e
      go_wp2
      go_ret
      exact ⟨by rw [HF.out]; rfl, rfl⟩
set_option maxRecDepth 100000 in
set_option maxHeartbeats 1000000 in
theorem told1_any (a b : Bk) (w : World) : Calls Try.prog 43 #[.agg a.cs, .agg b.cs] w fun e w' => e = .returned (.int .i64 (cfB a b)) ∧ Hid (∃ q os', w' = Go.Sort.grow (w.drewN q) os') := by
  have HA : Hid (Blk ((w.alloc (.cells a.cs 42)).alloc (.cells b.cs 42)) w.heap.size 42 a.cs ∧ Blk ((w.alloc (.cells a.cs 42)).alloc (.cells b.cs 42)) (w.heap.size + 1) 42 b.cs) := ⟨(Blk.new _ _ _).alloc _, Blk.new' _ _ _ (by simp)⟩
  have HG : Hid (∀ o, ∃ q os', ((w.alloc (.cells a.cs 42)).alloc (.cells b.cs 42)).drew.alloc o = Go.Sort.grow (w.drewN q) os') := fun o => ⟨1, #[.cells a.cs 42, .cells b.cs 42, o], by
    rw [Go.Sort.alloc_eq_grow, Go.Sort.alloc_eq_grow, Go.Sort.alloc_eq_grow, Go.Sort.grow_grow]
    show Go.Sort.grow (Go.Sort.grow w.drew _) _ = _
    rw [Go.Sort.grow_grow]; rfl⟩
  have HC : Hid (cfB a b = or2 (cmpS a.ac b.ac) (cmpS a.sy b.sy)) := rfl
  have hc1 := fun w => Compare_any a.ac b.ac w
  have hc2 := fun w => Compare_any a.sy b.sy w
  generalize cmpS a.ac b.ac = x at *
  generalize cmpS a.sy b.sy = y at *
  generalize cfB a b = R at *
  unfold Bk.cs
  go_enter Try.func43, Try.ntmps43
  go_upto_region 1 with fail
  rw [show (#[.string a.ac, .string a.sy, .int .i64 a.q, .int .i64 a.c, .int .i64 a.f] : Array Value) = a.cs from rfl, show (#[.string b.ac, .string b.sy, .int .i64 b.q, .int .i64 b.c, .int .i64 b.f] : Array Value) = b.cs from rfl]
  generalize (w.alloc (.cells a.cs 42)).alloc (.cells b.cs 42) = W at *
  generalize w.heap.size + 1 = bb at *
  generalize w.heap.size = ba at *
  refine wp_region_held (S := fun w' => Blk w' ba 42 a.cs ∧ Blk w' bb 42 b.cs) (by kernel_rfl) ?_
  change wpAnyH _ _ _ _ _ _ _ _ (World.drew _)
  have hS : Blk W.drew ba 42 a.cs ∧ Blk W.drew bb 42 b.cs := ⟨HA.out.1.below (below_drew W) HA.out.1.lt, HA.out.2.below (below_drew W) HA.out.2.lt⟩
  generalize W.drew = Z at *
  refine takeR (i := 0) (v := .pointer (some ⟨ba, 0, none⟩)) (some 5) rfl rfl (by kernel_rfl) (by kernel_rfl) (by kernel_rfl) (fun _ _ _ h => h) (Or.inl ⟨by kernel_rfl, fun w' hSw => by kernel_rfl⟩) hS ?_
  simp only [Act.put, List.setIfInBounds_toArray, List.set_cons_zero, List.set_cons_succ]
  refine takeR (i := 1) (v := .string a.ac) (some 6) rfl rfl (by kernel_rfl) (by kernel_rfl) (by kernel_rfl) (fun _ _ _ h => h) (Or.inl ⟨by kernel_rfl, fun w' hSw => by have q : w'.cell? ⟨ba, 0, none⟩ = some (.string a.ac) := hSw.1.cell 0; clear hSw; go_simp⟩) hS ?_
  simp only [Act.put, List.setIfInBounds_toArray, List.set_cons_zero, List.set_cons_succ]
  refine takeR (i := 2) (v := .pointer (some ⟨bb, 0, none⟩)) (some 7) rfl rfl (by kernel_rfl) (by kernel_rfl) (by kernel_rfl) (fun _ _ _ h => h) (Or.inl ⟨by kernel_rfl, fun w' hSw => by kernel_rfl⟩) hS ?_
  simp only [Act.put, List.setIfInBounds_toArray, List.set_cons_zero, List.set_cons_succ]
  refine takeR (i := 3) (v := .string b.ac) (some 8) rfl rfl (by kernel_rfl) (by kernel_rfl) (by kernel_rfl) (fun _ _ _ h => h) (Or.inl ⟨by kernel_rfl, fun w' hSw => by have q : w'.cell? ⟨bb, 0, none⟩ = some (.string b.ac) := hSw.2.cell 0; clear hSw; go_simp⟩) hS ?_
  simp only [Act.put, List.setIfInBounds_toArray, List.set_cons_zero, List.set_cons_succ]
  refine takeR (i := 5) (v := .pointer (some ⟨ba, 1, none⟩)) (some 10) rfl rfl (by kernel_rfl) (by kernel_rfl) (by kernel_rfl) (fun _ _ _ h => h) (Or.inl ⟨by kernel_rfl, fun w' hSw => by kernel_rfl⟩) hS ?_
  simp only [Act.put, List.setIfInBounds_toArray, List.set_cons_zero, List.set_cons_succ]
  refine takeR (i := 6) (v := .string a.sy) (some 11) rfl rfl (by kernel_rfl) (by kernel_rfl) (by kernel_rfl) (fun _ _ _ h => h) (Or.inl ⟨by kernel_rfl, fun w' hSw => by have q : w'.cell? ⟨ba, 1, none⟩ = some (.string a.sy) := hSw.1.cell 1; clear hSw; go_simp⟩) hS ?_
  simp only [Act.put, List.setIfInBounds_toArray, List.set_cons_zero, List.set_cons_succ]
  refine takeR (i := 7) (v := .pointer (some ⟨bb, 1, none⟩)) (some 12) rfl rfl (by kernel_rfl) (by kernel_rfl) (by kernel_rfl) (fun _ _ _ h => h) (Or.inl ⟨by kernel_rfl, fun w' hSw => by kernel_rfl⟩) hS ?_
  simp only [Act.put, List.setIfInBounds_toArray, List.set_cons_zero, List.set_cons_succ]
  refine takeR (i := 8) (v := .string b.sy) (some 13) rfl rfl (by kernel_rfl) (by kernel_rfl) (by kernel_rfl) (fun _ _ _ h => h) (Or.inl ⟨by kernel_rfl, fun w' hSw => by have q : w'.cell? ⟨bb, 1, none⟩ = some (.string b.sy) := hSw.2.cell 1; clear hSw; go_simp⟩) hS ?_
  simp only [Act.put, List.setIfInBounds_toArray, List.set_cons_zero, List.set_cons_succ]
  refine wpAnyH_ready (rs := [4]) (by kernel_rfl) (by simp) ?_
  refine AllReadyH.cons rfl (fun K1 hK1 => ?_) AllReadyH.nil
  rw [if_pos (by kernel_rfl)]
  refine callR (d := some 9) rfl 45 #[.string a.ac, .string b.ac] (by kernel_rfl) (hc1 Z) ?_
  rintro e w7 ⟨rfl, ew⟩
  replace ew := ew.symm
  subst ew
  refine ⟨_, rfl, ?_⟩
  refine hK1.out _ _ hS (fun _ => ?_)
  clear hK1
  simp only [Act.put, List.setIfInBounds_toArray, List.set_cons_zero, List.set_cons_succ]
  refine wpAnyH_ready (rs := [9]) (by kernel_rfl) (by simp) ?_
  refine AllReadyH.cons rfl (fun K1 hK1 => ?_) AllReadyH.nil
  rw [if_pos (by kernel_rfl)]
  refine callR (d := some 14) rfl 45 #[.string a.sy, .string b.sy] (by kernel_rfl) (hc2 Z) ?_
  rintro e w7 ⟨rfl, ew⟩
  replace ew := ew.symm
  subst ew
  refine ⟨_, rfl, ?_⟩
  refine hK1.out _ _ hS (fun _ => ?_)
  clear hK1
  simp only [Act.put, List.setIfInBounds_toArray, List.set_cons_zero, List.set_cons_succ]
  refine wpAnyH_ready (rs := [10]) (by kernel_rfl) (by simp) ?_
  refine AllReadyH.cons rfl (fun K1 hK1 => ?_) AllReadyH.nil
  rw [if_pos (by kernel_rfl)]
  refine valR (d := some 15) rfl (.slice (some ⟨Z.heap.size, 0, none⟩) 2 2) (w' := Z.alloc (.cells #[.int .i64 x, .int .i64 y] 3)) (by kernel_rfl) ?_
  have hS2 : Blk (Z.alloc (.cells #[.int .i64 x, .int .i64 y] 3)) ba 42 a.cs ∧ Blk (Z.alloc (.cells #[.int .i64 x, .int .i64 y] 3)) bb 42 b.cs := ⟨hS.1.alloc _, hS.2.alloc _⟩
  refine hK1.out _ _ hS2 (fun _ => ?_)
  clear hK1
  simp only [Act.put, List.setIfInBounds_toArray, List.set_cons_zero, List.set_cons_succ]
  have HOr := Or_any x y Z.heap.size (Z.alloc (.cells #[.int .i64 x, .int .i64 y] 3)) ((Blk.new Z 3 #[.int .i64 x, .int .i64 y]).cell 0) ((Blk.new Z 3 #[.int .i64 x, .int .i64 y]).cell 1)
  refine wpAnyH_ready (rs := [11]) (by kernel_rfl) (by simp) ?_
  refine AllReadyH.cons rfl (fun K1 hK1 => ?_) AllReadyH.nil
  rw [if_pos (by kernel_rfl)]
  refine callR (d := some 16) rfl 44 #[.slice (some ⟨Z.heap.size, 0, none⟩) 2 2] (by kernel_rfl) HOr ?_
  rintro e w7 ⟨rfl, ew⟩
  replace ew := ew.symm
  subst ew
  refine ⟨_, rfl, ?_⟩
  refine hK1.out _ _ hS2 (fun _ => ?_)
  clear hK1
  simp only [Act.put, List.setIfInBounds_toArray, List.set_cons_zero, List.set_cons_succ]
  rw [← HC.out]
  refine takeR (i := 12) (v := .int .i64 R) (some 4) rfl rfl (by kernel_rfl) (by kernel_rfl) (by kernel_rfl) (fun _ _ _ h => h) (Or.inl ⟨by kernel_rfl, fun w' hSw => by kernel_rfl⟩) hS2 ?_
  simp only [Act.put, List.setIfInBounds_toArray, List.set_cons_zero, List.set_cons_succ]
  refine wpAnyH_done (by kernel_rfl) ?_ _
  have HE := HG.out (.cells #[.int .i64 x, .int .i64 y] 3)
  have HE' : Hid (∃ q os', Z.alloc (.cells #[.int .i64 x, .int .i64 y] 3) = Go.Sort.grow (w.drewN q) os') := HE
  clear HE HG HOr hS hS2
  go_wp2
  go_ret
  exact ⟨rfl, HE'⟩
end Go.Proofs.Ytidhahooebepfaa
