/-
  listing: areSteps.
-/
import Derived.Test.YtnhkmfofkhhnaaaDoorLNew
namespace Go.Proofs.YtnhkmfofkhhnaaaDoor
set_option linter.unusedVariables false
open Go.Shelf Go.RowKit Go.Sort Go.Lib

/-- The k-th step may be, behind the ones ahead. -/
def stpB (F T : Nat → Int) : Nat → Bool
  | 0 => wiB (T 0) 1 1000000000
  | k + 1 => folB (F (k + 1)) (F k) (T k) && wiB (T (k + 1)) 1 1000000000
def okTo (p : Nat → Bool) : Nat → Bool
  | 0 => true
  | k + 1 => okTo p k && p k
theorem okTo_false {p : Nat → Bool} {k : Nat} (h : p k = false) : ∀ {n : Nat}, k < n → okTo p n = false
  | 0, hn => by omega
  | n + 1, hn => by
    unfold okTo
    rcases Nat.lt_or_ge k n with h1 | h1
    · rw [okTo_false h h1]; rfl
    · rw [show n = k by omega, h, Bool.and_false]
theorem okTo_at {p : Nat → Bool} : ∀ {n k : Nat}, okTo p n = true → k < n → p k = true
  | 0, k, _, h => by omega
  | n + 1, k, h, hk => by
    unfold okTo at h
    rw [Bool.and_eq_true] at h
    rcases Nat.lt_or_ge k n with h1 | h1
    · exact okTo_at h.1 h1
    · rw [show k = n by omega]; exact h.2
theorem okTo_all {p : Nat → Bool} : ∀ {n : Nat}, (∀ k, k < n → p k = true) → okTo p n = true
  | 0, _ => rfl
  | n + 1, h => by unfold okTo; rw [okTo_all fun k hk => h k (by omega), h n (by omega)]; rfl
def areB (l : List (Int × Int)) : Bool := wiB l.length 1 8 && (decide (fN l 0 = 0) && okTo (stpB (fN l) (gN l)) l.length)
theorem wiB_iff {n a b : Int} : wiB n a b = true ↔ a ≤ n ∧ n ≤ b := by simp [wiB]
theorem areB_ok {l : List (Int × Int)} (h : areB l = true) : OkS (fN l) (gN l) l.length := by
  unfold areB at h
  simp only [Bool.and_eq_true, decide_eq_true_eq] at h
  obtain ⟨h1, h2, h3⟩ := h
  have h1 := wiB_iff.1 h1
  have hs := fun k hk => okTo_at (k := k) h3 hk
  have hT : ∀ j, j < l.length → 1 ≤ gN l j ∧ gN l j ≤ 1000000000 := fun j hj => by
    have := hs j hj
    cases j with
    | zero => exact wiB_iff.1 this
    | succ j => rw [stpB, Bool.and_eq_true] at this; exact wiB_iff.1 this.2
  have hF : ∀ j, j + 1 < l.length → (fN l j + 1 ≤ fN l (j + 1) ∧ fN l (j + 1) ≤ 1000000000) ∧ (fN l (j + 1) - fN l j) % gN l j = 0 := fun j hj => by
    have := hs (j + 1) hj
    rw [stpB, Bool.and_eq_true, folB, Bool.and_eq_true, decide_eq_true_eq] at this
    exact ⟨wiB_iff.1 this.1.1, this.1.2⟩
  refine ⟨by omega, by omega, h2, hT, fun j hj => ?_, fun j hj => ⟨by have := (hF j hj).1; omega, (hF j hj).2⟩⟩
  cases j with
  | zero => rw [h2]; decide
  | succ j => exact (hF j hj).1.2
theorem areB_of {l : List (Int × Int)} (h : OkS (fN l) (gN l) l.length) : areB l = true := by
  unfold areB
  simp only [Bool.and_eq_true, decide_eq_true_eq]
  have := h.n1
  have := h.n8
  refine ⟨wiB_iff.2 (by omega), h.f0, okTo_all fun k hk => ?_⟩
  cases k with
  | zero => exact wiB_iff.2 (h.t1 0 hk)
  | succ k =>
    rw [stpB, Bool.and_eq_true, folB, Bool.and_eq_true, decide_eq_true_eq]
    have hu := h.up k hk
    exact ⟨⟨wiB_iff.2 ⟨by omega, h.fM _ hk⟩, hu.2⟩, wiB_iff.2 (h.t1 _ hk)⟩
theorem okTo_bd {F T : Nat → Int} (h0 : F 0 = 0) : ∀ {n j : Nat}, okTo (stpB F T) n = true → j < n → 0 ≤ F j ∧ F j ≤ 1000000000 ∧ 1 ≤ T j
  | n, 0, h, hj => ⟨by omega, by omega, (wiB_iff.1 (okTo_at h hj)).1⟩
  | n, j + 1, h, hj => by
    have h1 := okTo_at h hj
    have h2 := okTo_bd h0 h (show j < n by omega)
    rw [stpB, Bool.and_eq_true, folB, Bool.and_eq_true] at h1
    have h3 := wiB_iff.1 h1.1.1
    exact ⟨by omega, h3.2, (wiB_iff.1 h1.2).1⟩
set_option maxRecDepth 100000 in
set_option maxHeartbeats 1000000 in
theorem areSteps_any (v : Value) (l : List (Int × Int)) (w : World) (hs : SrcT w v l) :
    Calls Tryd.prog 46 #[v] w fun e w' => e = .returned (.bool (areB l)) ∧ Below w.heap.size w w' := by
  have HS : Hid (SrcT w v l) := hs
  obtain ⟨ao, cap, rfl, hc, hr⟩ := hs
  have h8 := fun w => within_any (l.length : Int) 1 8 w
  generalize hA : areB l = A
  have HA : Hid (areB l = A) := hA
  unfold areB at hA
  cases hw8 : wiB (l.length : Int) 1 8
  · rw [hw8] at h8 hA
    rw [Bool.false_and] at hA
    subst hA
    clear hr hw8
    go_enter Tryd.func46, Tryd.ntmps46
    go_wp2_with (go_at_call 47; fail)
    refine (h8 _).mono ?_
    rintro e w1 ⟨rfl, rfl⟩
    go_wp2
    go_ret
    exact ⟨rfl, Below.refl _ _⟩
  rw [hw8] at h8 hA
  rw [Bool.true_and] at hA
  obtain ⟨n1, n8⟩ := wiB_iff.1 hw8
  obtain ⟨b, off, rfl, hq⟩ := hr.resolve_left (by intro h; rw [h] at n1; simp at n1)
  clear hr hw8
  have hn1 : 0 < l.length := by omega
  obtain ⟨c0, c1⟩ := hq 0 hn1
  rw [Nat.zero_mul, Nat.add_zero] at c0 c1
  have hlt : b < w.heap.size := World.block_lt_of_cell? _ _ c0
  have HQ : Hid (∀ j, j < l.length → w.cell? ⟨b, off + j * 2, none⟩ = some (.int .i64 (fN l j)) ∧ w.cell? ⟨b, off + j * 2 + 1, none⟩ = some (.int .i64 (gN l j))) := hq
  clear hq
  by_cases hf0 : fN l 0 = 0
  · rw [decide_eq_true hf0, Bool.true_and] at hA
    rw [hf0] at c0
    have HA : Hid (okTo (stpB (fN l) (gN l)) l.length = A) := hA
    have HF : Hid (fN l 0 = 0) := hf0
    clear hA hf0
    have h3 : (3 : Nat) = 3 := rfl
    go_enter Tryd.func46, Tryd.ntmps46
    go_wp2_with (go_at_call 47; fail)
    refine (h8 _).mono ?_
    rintro e w ⟨rfl, rfl⟩
    go_wp2
    go_loopw [3, 4, 18] (fun _ _ i wr => ∃ k : Nat, k ≤ l.length ∧ i = .int .i64 (k : Int) ∧ okTo (stpB (fN l) (gN l)) k = true ∧ Below w.heap.size w wr) (fun _ _ i _ => l.length - (intOf i).toNat)
    case atStart => exact ⟨0, Nat.zero_le _, rfl, rfl, Below.refl _ _⟩
    case round =>
      obtain ⟨k, hk, rfl, hok, hb⟩ := hrel
      have HB : Hid (Below w.heap.size w wr ∧ okTo (stpB (fN l) (gN l)) k = true) := ⟨hb, hok⟩
      clear hok hb
      by_cases hlt' : k < l.length
      · have hki : (k : Int) < (l.length : Int) := by omega
        obtain ⟨x0, x1⟩ := HQ.out k hlt'
        rw [← HB.out.1.cell (p := ⟨b, _, none⟩) hlt] at x0 x1
        have hbw : b < wr.heap.size := World.block_lt_of_cell? _ _ x0
        have hT := fun w => within64_any (gN l k) 1 1000000000 w
        have HE : Hid (stpB (fN l) (gN l) k = false → A = false) := fun h => by rw [← HA.out]; exact okTo_false h hlt'
        have HN : Hid (stpB (fN l) (gN l) k = true → okTo (stpB (fN l) (gN l)) (k + 1) = true) := fun h => by rw [okTo, HB.out.2, h]; rfl
        have HW : Hid (Below w.heap.size w (wr.alloc (.cells #[.int .i64 (fN l k), .int .i64 (gN l k)] 55))) := HB.out.1.alloc HB.out.1.size _
        by_cases hz : k = 0
        · have HZ : Hid (stpB (fN l) (gN l) k = wiB (gN l k) 1 1000000000) := by subst hz; rfl
          have hd : decide ((0 : Int) < (k : Int)) = false := by simp; omega
          have hdn : decide (0 < k) = false := by simp; omega
          clear hz
          go_upto_region 6 with fail
          go_quiet (fail)
          cases hwt : wiB (gN l k) 1 1000000000
          · rw [hwt] at hT HZ
            clear hwt
            go_wp2_with (go_at_call 41; fail)
            refine (hT _).mono ?_
            rintro e w5 ⟨rfl, rfl⟩
            go_wp2
            go_ret
            exact ⟨ret_bool (HE.out HZ.out).symm, below_drewN HW.out _⟩
          · rw [hwt] at hT HZ
            clear hwt
            go_wp2_with (go_at_call 41; fail)
            refine (hT _).mono ?_
            rintro e w5 ⟨rfl, rfl⟩
            go_wp2
            exact ⟨⟨k + 1, by omega, by go_num, HN.out HZ.out, below_drewN HW.out _⟩, by simp [intOf]; omega⟩
        · obtain ⟨m, hm⟩ : ∃ m, k = m + 1 := ⟨k - 1, by omega⟩
          have HM : Hid (k = m + 1) := hm
          have HZ : Hid (stpB (fN l) (gN l) k = (folB (fN l k) (fN l m) (gN l m) && wiB (gN l k) 1 1000000000)) := by show _ = _; rw [hm]; rfl
          obtain ⟨y0, y1⟩ := HQ.out m (by omega)
          rw [← HB.out.1.cell (p := ⟨b, _, none⟩) hlt] at y0 y1
          have hok := okTo_at HB.out.2 (k := m) (by omega)
          have hm2 : (0 : Int) ≤ (m : Int) := by omega
          have hm3 : (m : Int) < (l.length : Int) := by omega
          have hkm : wrap64 ((k : Int) - 1) = (m : Int) := by unfold wrap64; omega
          have hd : decide ((0 : Int) < (k : Int)) = true := by simp; omega
          have hdn : decide (0 < k) = true := by simp; omega
          have hkm2 : IntKind.i64.wrap ((k : Int) - 1) = (m : Int) := by first | exact hkm | (rw [IntKind.wrap_i64]; omega) | (unfold IntKind.wrap; simp [IntKind.signed, IntKind.bits]; omega)
          have hm4 : m < l.length := by omega
          have hm5 : decide ((m : Int) < (l.length : Int)) = true := by simp; omega
          have hm6 : decide (m < l.length) = true := by simp; omega
          have hm7 : (m : Int).toNat = m := by omega
          have hfm : 0 ≤ fN l m ∧ fN l m ≤ 1000000000 ∧ 1 ≤ gN l m := okTo_bd HF.out HB.out.2 (by omega)
          clear hm hz hok
          obtain ⟨fm0, fm1, gm1⟩ := hfm
          have hfo := fun w => follows_any (fN l k) (gN l k) (fN l m) (gN l m) w fm0 fm1 gm1
          have HKP : Hid (∀ w', Below (wr.heap.size + 1) (wr.alloc (.cells #[.int .i64 (fN l k), .int .i64 (gN l k)] 55)) w' → w'.cell? ⟨wr.heap.size, 0, none⟩ = some (.int .i64 (fN l k)) ∧ w'.cell? ⟨wr.heap.size, 1, none⟩ = some (.int .i64 (gN l k)) ∧ w'.cell? ⟨b, off + m * 2, none⟩ = some (.int .i64 (fN l m)) ∧ w'.cell? ⟨b, off + m * 2 + 1, none⟩ = some (.int .i64 (gN l m))) := fun w' hb =>
            ⟨by rw [hb.cell (p := ⟨wr.heap.size, 0, none⟩) (by show wr.heap.size < _; omega)]; exact (Blk.new wr _ _).cell 0, by rw [hb.cell (p := ⟨wr.heap.size, 1, none⟩) (by show wr.heap.size < _; omega)]; exact (Blk.new wr _ _).cell 1, by rw [hb.cell (p := ⟨b, _, none⟩) (by show b < _; omega), ← y0]; exact ((Below.refl wr.heap.size wr).alloc (Nat.le_refl _) _).cell (p := ⟨b, _, none⟩) hbw, by rw [hb.cell (p := ⟨b, _, none⟩) (by show b < _; omega), ← y1]; exact ((Below.refl wr.heap.size wr).alloc (Nat.le_refl _) _).cell (p := ⟨b, _, none⟩) hbw⟩
          generalize hfb : folB (fN l k) (fN l m) (gN l m) = fb at *
          clear hfb
          go_upto_region 6 with fail
          have hs0 : (wr.alloc (.cells #[.int .i64 (fN l k), .int .i64 (gN l k)] 55)).heap.size = wr.heap.size + 1 := by simp
          generalize wr.alloc (.cells #[.int .i64 (fN l k), .int .i64 (gN l k)] 55) = W1 at *
          rw [← hs0] at HKP
          have hB1 : Below W1.heap.size W1 W1.drew := (Below.refl _ W1).drew
          clear x0 x1 y0 y1 hs0
          go_region_held (fun w' => Below W1.heap.size W1 w' ∧ w'.cell? ⟨wr.heap.size, 0, none⟩ = some (.int .i64 (fN l k)) ∧ w'.cell? ⟨wr.heap.size, 1, none⟩ = some (.int .i64 (gN l k)) ∧ w'.cell? ⟨b, off + m * 2, none⟩ = some (.int .i64 (fN l m)) ∧ w'.cell? ⟨b, off + m * 2 + 1, none⟩ = some (.int .i64 (gN l m))) (first | exact ⟨hB3, HKP.out _ hB3⟩ | exact ⟨hB1, HKP.out _ hB1⟩) (first | (go_at_call 72; refine (hfo _).mono ?_; rintro e w3 ⟨rfl, hb3⟩; have hB3 : Below W1.heap.size W1 w3 := hB1.trans (hb3.mono hB1.size); clear hb3))
          have HW3 : Hid (Below w.heap.size w w3) := HW.out.trans (hB3.mono HW.out.size)
          have t1 : w3.cell? ⟨wr.heap.size, 1, none⟩ = some (.int .i64 (gN l k)) := (HKP.out _ hB3).2.1
          clear hB3 hB1 HKP hfo
          cases fb
          · go_wp2
            go_ret
            exact ⟨ret_bool (HE.out (by rw [HZ.out]; rfl)).symm, HW3.out⟩
          · cases hwt : wiB (gN l k) 1 1000000000
            · rw [hwt] at hT HZ
              clear hwt
              go_wp2_with (go_at_call 41; fail)
              refine (hT _).mono ?_
              rintro e w5 ⟨rfl, rfl⟩
              go_wp2
              go_ret
              exact ⟨ret_bool (HE.out HZ.out).symm, HW3.out⟩
            · rw [hwt] at hT HZ
              clear hwt
              go_wp2_with (go_at_call 41; fail)
              refine (hT _).mono ?_
              rintro e w5 ⟨rfl, rfl⟩
              go_wp2
              exact ⟨⟨k + 1, by omega, by go_num, HN.out HZ.out, HW3.out⟩, by simp [intOf]; omega⟩
      · obtain rfl : k = l.length := by omega
        go_wp2
        go_ret
        exact ⟨ret_bool (by rw [← HA.out, HB.out.2]), HB.out.1⟩
  · rw [decide_eq_false hf0, Bool.false_and] at hA
    subst hA
    have hfn : (fN l 0 != 0) = true := by simpa using hf0
    clear hf0
    generalize fN l 0 = f00 at *
    go_enter Tryd.func46, Tryd.ntmps46
    go_wp2_with (go_at_call 47; fail)
    refine (h8 _).mono ?_
    rintro e w1 ⟨rfl, rfl⟩
    go_wp2
    go_ret
    exact ⟨rfl, Below.refl _ _⟩
end Go.Proofs.YtnhkmfofkhhnaaaDoor
