/-
  ArbiterWhole: the walk.
-/
import Derived.Test.YtdncemecnbglaaaA12
namespace Go.Proofs.Ytdncemecnbglaaa
set_option linter.unusedVariables false
set_option linter.unusedSimpArgs false
open Go.RowKit Go.Great Go.Maps

theorem mx3_run {op : Oper} {a : Act} {p q : Int} (x y : Operand) (ho : op.op = .call { callee := .builtin .max, args := #[x, y], argTypes := #[3, 3] }) (hx : a.eval x = .int .i64 p) (hy : a.eval y = .int .i64 q) (hty : op.type = 3) (w : World) : (execOp a.eval op).run Try.prog w = .ok (.value (.int .i64 (max p q))) w := by
  unfold execOp
  simp only [ho, resolve, invoke, builtin, Sem.run_bind, Sem.run_pure, Result.andThen_ok, List.map_toArray, List.map_cons, List.map_nil, hx, hy, hty]
  go_simp
theorem mn3_run {op : Oper} {a : Act} {p q : Int} (x y : Operand) (ho : op.op = .call { callee := .builtin .min, args := #[x, y], argTypes := #[3, 3] }) (hx : a.eval x = .int .i64 p) (hy : a.eval y = .int .i64 q) (hty : op.type = 3) (w : World) : (execOp a.eval op).run Try.prog w = .ok (.value (.int .i64 (min p q))) w := by
  unfold execOp
  simp only [ho, resolve, invoke, builtin, Sem.run_bind, Sem.run_pure, Result.andThen_ok, List.map_toArray, List.map_cons, List.map_nil, hx, hy, hty]
  go_simp
theorem addZ_run {op : Oper} {a : Act} {p q : Int} (x y : Operand) (ho : op.op = .binOp .add 3 x y 3) (hx : a.eval x = .int .i64 p) (hy : a.eval y = .int .i64 q) (h : -9223372036854775808 ≤ p + q ∧ p + q ≤ 9223372036854775807) (w : World) : (execOp a.eval op).run Try.prog w = .ok (.value (.int .i64 (p + q))) w := by
  have hw : IntKind.i64.wrap (p + q) = p + q := by rw [IntKind.wrap_i64]; omega
  have hw' : wrap64 (p + q) = p + q := by unfold wrap64; omega
  unfold execOp
  simp only [ho, hx, hy]
  go_simp
theorem remN_run {op : Oper} {a : Act} {p q : Nat} (x y : Operand) (ho : op.op = .binOp .rem 3 x y 3) (hx : a.eval x = .int .i64 (p : Int)) (hy : a.eval y = .int .i64 (q : Int)) (h : 0 < q) (hp : p ≤ 9223372036854775807) (w : World) : (execOp a.eval op).run Try.prog w = .ok (.value (.int .i64 ((p % q : Nat) : Int))) w := by
  have h0 : ¬ (q : Int) = 0 := by omega
  have h0n : ¬ q = 0 := by omega
  have h0b : ((q : Int) == 0) = false := by simpa using h0
  have hm : (p : Int).tmod (q : Int) = ((p % q : Nat) : Int) := by rw [Int.tmod_eq_emod_of_nonneg (by omega)]; rfl
  have hlt : p % q ≤ 9223372036854775807 := Nat.le_trans (Nat.mod_le _ _) hp
  have hw1 : IntKind.i64.wrap ((p : Int).tmod (q : Int)) = ((p % q : Nat) : Int) := by rw [hm, IntKind.wrap_i64]; omega
  have hw2 : wrap64 ((p : Int).tmod (q : Int)) = ((p % q : Nat) : Int) := by rw [hm]; unfold wrap64; omega
  generalize p % q = r at *
  unfold execOp
  simp only [ho, hx, hy]
  go_simp
/-- How late a number is. -/
def latN (n2 : Nat) (z2 : Nat → Int) (ww k : Nat) : Nat := if n2 = 0 then 0 else pickN (z2 (k % n2)) ww
theorem latN_lt {n2 ww : Nat} {z2 : Nat → Int} (h : 0 < ww) (k : Nat) : latN n2 z2 ww k < ww := by
  unfold latN
  split
  · exact h
  · exact pickN_lt _ h
set_option maxRecDepth 100000 in
set_option maxHeartbeats 8000000 in
theorem ArbiterWhole_law {w : World} (wd : Int) (hwd : -9223372036854775808 ≤ wd ∧ wd ≤ 9223372036854775807) (a1 : Option Addr) (n1 c1 : Nat) (z1 : Nat → Int) (hn1 : n1 ≤ maxLen) (hs1 : SrcI w a1 n1 z1) (a2 : Option Addr) (n2 c2 : Nat) (z2 : Nat → Int) (hn2 : n2 ≤ maxLen) (hs2 : SrcI w a2 n2 z2) : Calls Try.prog 4 #[.int .i64 wd, .slice a1 n1 c1, .slice a2 n2 c2] w fun e w' => e = .returned (.bool true) ∧ Hid (Below w.heap.size w w') := by
  have HS : Hid (SrcI w a1 n1 z1 ∧ SrcI w a2 n2 z2 ∧ n1 ≤ 9223372036854775807 ∧ n2 ≤ 9223372036854775807) := ⟨hs1, hs2, hn1, hn2⟩
  have hsh := shown_any w
  clear hs1 hs2 hn1 hn2
  obtain ⟨L1, hL1⟩ : ∃ L1, L1 = Value.slice a1 n1 c1 := ⟨_, rfl⟩
  obtain ⟨L2, hL2⟩ : ∃ L2, L2 = Value.slice a2 n2 c2 := ⟨_, rfl⟩
  rw [← hL1, ← hL2]
  have HL12 : Hid (L1 = Value.slice a1 n1 c1 ∧ L2 = Value.slice a2 n2 c2) := ⟨hL1, hL2⟩
  clear hL1 hL2
  go_enter Try.func4, Try.ntmps4
  go_upto_region 1 with fail
  rename_i K hK
  refine wp_region_lit ?_
  refine wpList_callW rfl (some 24) rfl 6 #[] (by kernel_rfl) hsh ?_
  clear hsh
  rintro e W1 ⟨rfl, hx1⟩
  refine ⟨_, rfl, ?_⟩
  simp only [Act.put, List.setIfInBounds_toArray, List.set_cons_zero, List.set_cons_succ]
  refine wpList_runTo rfl (some 7) rfl (.bool true) W1 (by kernel_rfl) ?_
  simp only [Act.put, List.setIfInBounds_toArray, List.set_cons_zero, List.set_cons_succ]
  refine wpList_nil ?_
  refine hK _ _ ?_
  clear hK
  have hpi := pick_any wd 30 30 rfl W1 (by decide) (by decide) hwd.1 hwd.2
  obtain ⟨pw, hpw⟩ : ∃ pw, pw = pickN wd 30 := ⟨_, rfl⟩
  have hpwl : pw < 30 := by rw [hpw]; exact pickN_lt _ (by decide)
  rw [← hpw] at hpi
  clear hpw hwd
  obtain ⟨ww, hww⟩ : ∃ ww, ww = 2 + pw := ⟨_, rfl⟩
  go_upto_region 2 with fail
  rename_i K hK
  refine wp_region_lit ?_
  refine wpList_runTo rfl (some 25) rfl (.int .i64 wd) W1 (by kernel_rfl) ?_
  simp only [Act.put, List.setIfInBounds_toArray, List.set_cons_zero, List.set_cons_succ]
  refine wpList_callW rfl (some 26) rfl 8 #[.int .i64 wd, .int .i64 30] (by kernel_rfl) hpi ?_
  clear hpi
  rintro e w9 ⟨rfl, ew⟩
  replace ew := ew.symm
  subst ew
  refine ⟨_, rfl, ?_⟩
  simp only [Act.put, List.setIfInBounds_toArray, List.set_cons_zero, List.set_cons_succ]
  refine wpList_runTo rfl (some 27) rfl (.int .i64 (ww : Int)) W1 (by rw [hww]; exact addN_run (p := 2) (q := pw) (.const (.int .i64 2)) (.tmp 26) rfl rfl (by kernel_rfl) (by omega) _) ?_
  simp only [Act.put, List.setIfInBounds_toArray, List.set_cons_zero, List.set_cons_succ]
  refine wpList_runTo rfl (some 8) rfl (.int .i64 (ww : Int)) W1 (by kernel_rfl) ?_
  simp only [Act.put, List.setIfInBounds_toArray, List.set_cons_zero, List.set_cons_succ]
  refine wpList_nil ?_
  refine hK _ _ ?_
  clear hK
  have hw2 : 2 ≤ ww := by omega
  have hw3 : ww ≤ 31 := by omega
  clear hww hpwl
  generalize pw = pw' at *
  have hnew := New_yes W1 ww 1000000 (by omega) (by omega) (by decide) (by decide)
  go_upto_region 3 with fail
  rename_i K hK
  refine wp_region_lit ?_
  refine wpList_runTo rfl (some 29) rfl (.int .i64 (ww : Int)) W1 (by kernel_rfl) ?_
  simp only [Act.put, List.setIfInBounds_toArray, List.set_cons_zero, List.set_cons_succ]
  refine wpList_callW rfl (some 30) rfl 7 #[.int .i64 (ww : Int), .int .i64 1000000] (by kernel_rfl) hnew ?_
  clear hnew
  rintro e W2 ⟨g, b, rfl, hx2⟩
  refine ⟨_, rfl, ?_⟩
  simp only [Act.put, List.setIfInBounds_toArray, List.set_cons_zero, List.set_cons_succ]
  refine wpList_runTo rfl (some 28) rfl (.tuple #[.pointer (some ⟨g, 0, none⟩), .int .i64 0]) W2 (by kernel_rfl) ?_
  simp only [Act.put, List.setIfInBounds_toArray, List.set_cons_zero, List.set_cons_succ]
  refine wpList_runTo rfl (some 31) rfl (.pointer (some ⟨g, 0, none⟩)) W2 (by kernel_rfl) ?_
  simp only [Act.put, List.setIfInBounds_toArray, List.set_cons_zero, List.set_cons_succ]
  refine wpList_runTo rfl (some 32) rfl (.int .i64 0) W2 (by kernel_rfl) ?_
  simp only [Act.put, List.setIfInBounds_toArray, List.set_cons_zero, List.set_cons_succ]
  refine wpList_runTo rfl (some 9) rfl (.pointer (some ⟨g, 0, none⟩)) W2 (by kernel_rfl) ?_
  simp only [Act.put, List.setIfInBounds_toArray, List.set_cons_zero, List.set_cons_succ]
  refine wpList_runTo rfl (some 10) rfl (.int .i64 0) W2 (by kernel_rfl) ?_
  simp only [Act.put, List.setIfInBounds_toArray, List.set_cons_zero, List.set_cons_succ]
  refine wpList_nil ?_
  refine hK _ _ ?_
  clear hK
  have H2 : Hid (WS w W2 g b ww 1 0 (fun _ => False)) := by
    obtain ⟨h1, h2, h3, h4⟩ := hx2.out
    have hb := below_step hx1.out h4
    refine ⟨_, 0, ⟨h1, fun k hk => absurd hk List.not_mem_nil, hb, by have := hx1.out.size; omega, by have := hx1.out.size; omega, fun i => Nat.le_refl _⟩, Nat.le_refl _, rfl, rfl, ⟨Nat.le_refl _, fun m h1 h2 => absurd h2 (by show ¬ m < 1; omega), id, fun m => ⟨fun ⟨k, hk, _⟩ => absurd hk List.not_mem_nil, fun q => q.1.elim⟩, fun k hk => absurd hk List.not_mem_nil⟩⟩
  clear hx1 hx2
  go_upto_region 4 with fail
  rename_i K hK
  refine wp_region_lit ?_
  refine wpList_runTo rfl (some 33) rfl (.bool true) W2 (by kernel_rfl) ?_
  simp only [Act.put, List.setIfInBounds_toArray, List.set_cons_zero, List.set_cons_succ]
  refine wpList_runTo rfl (some 34) rfl (.bool false) W2 (by kernel_rfl) ?_
  simp only [Act.put, List.setIfInBounds_toArray, List.set_cons_zero, List.set_cons_succ]
  refine wpList_runTo rfl (some 35) rfl (.bool false) W2 (by kernel_rfl) ?_
  simp only [Act.put, List.setIfInBounds_toArray, List.set_cons_zero, List.set_cons_succ]
  refine wpList_runToG (by kernel_rfl) (some 36) rfl (.pointer (some ⟨g, 0, none⟩)) W2 (by kernel_rfl) ?_
  simp only [Act.put, List.setIfInBounds_toArray, List.set_cons_zero, List.set_cons_succ]
  refine wpList_runToG (by kernel_rfl) (some 37) rfl (.bool false) W2 (by exact ptrN_run (ad := ⟨g, 0, none⟩) (.tmp 36) (.const (.pointer none)) rfl (by kernel_rfl) rfl _) ?_
  simp only [Act.put, List.setIfInBounds_toArray, List.set_cons_zero, List.set_cons_succ]
  refine wpList_runTo rfl (some 38) rfl (.bool false) W2 (by kernel_rfl) ?_
  simp only [Act.put, List.setIfInBounds_toArray, List.set_cons_zero, List.set_cons_succ]
  refine wpList_runTo rfl (some 39) rfl (.bool false) W2 (by kernel_rfl) ?_
  simp only [Act.put, List.setIfInBounds_toArray, List.set_cons_zero, List.set_cons_succ]
  refine wpList_runToG (by kernel_rfl) (some 40) rfl (.int .i64 0) W2 (by kernel_rfl) ?_
  simp only [Act.put, List.setIfInBounds_toArray, List.set_cons_zero, List.set_cons_succ]
  refine wpList_runToG (by kernel_rfl) (some 41) rfl (.bool false) W2 (by kernel_rfl) ?_
  simp only [Act.put, List.setIfInBounds_toArray, List.set_cons_zero, List.set_cons_succ]
  refine wpList_runTo rfl (some 42) rfl (.bool false) W2 (by kernel_rfl) ?_
  simp only [Act.put, List.setIfInBounds_toArray, List.set_cons_zero, List.set_cons_succ]
  refine wpList_nil ?_
  refine hK _ _ ?_
  clear hK
  obtain ⟨NN, hNN⟩ : ∃ NN, NN = min n1 200 := ⟨_, rfl⟩
  have hNNi : ((NN : Nat) : Int) = min (n1 : Int) 200 := by rw [hNN]; omega
  go_upto_region 6 with fail
  rename_i K hK
  refine wp_region_lit ?_
  refine wpList_runTo rfl (some 43) rfl (L1) W2 (by kernel_rfl) ?_
  simp only [Act.put, List.setIfInBounds_toArray, List.set_cons_zero, List.set_cons_succ]
  refine wpList_runTo rfl (some 44) rfl (.int .i64 (n1 : Int)) W2 (by exact len_run HL12.out.1 (.tmp 43) rfl (.inr (.inr (.inl rfl))) (by kernel_rfl) _) ?_
  simp only [Act.put, List.setIfInBounds_toArray, List.set_cons_zero, List.set_cons_succ]
  refine wpList_runTo rfl (some 45) rfl (.int .i64 (NN : Int)) W2 (by rw [hNNi]; exact mn3_run (.tmp 44) (.const (.int .i64 200)) rfl (by kernel_rfl) rfl rfl _) ?_
  simp only [Act.put, List.setIfInBounds_toArray, List.set_cons_zero, List.set_cons_succ]
  refine wpList_runTo rfl (some 11) rfl (.int .i64 (NN : Int)) W2 (by kernel_rfl) ?_
  simp only [Act.put, List.setIfInBounds_toArray, List.set_cons_zero, List.set_cons_succ]
  refine wpList_nil ?_
  refine hK _ _ ?_
  clear hK
  have hN1 : NN ≤ 200 := by omega
  have HN : Hid (NN ≤ n1) := by show NN ≤ n1; omega
  clear hNN hNNi
  obtain ⟨lat, hlat⟩ : ∃ lat, lat = latN n2 z2 ww := ⟨_, rfl⟩
  have HL : Hid (lat = latN n2 z2 ww ∧ ∀ m, lat m < ww) := ⟨hlat, fun m => by rw [hlat]; exact latN_lt (by omega) m⟩
  clear hlat
  have H3 : Hid (WS w W2 g b ww 1 (2000 * 1) (Cik NN lat 1 0)) := H2.out.congr (by decide) fun m => ⟨False.elim, fun q => by
    obtain ⟨h1, h2, h3 | h3⟩ := q
    · omega
    · omega⟩
  clear H2
  go_upto_region 9 with fail
  go_loopw [12, 13] (fun x y wr => ∃ i nx : Nat, x = .int .i64 (nx : Int) ∧ y = .int .i64 (i : Int) ∧ 1 ≤ i ∧ i ≤ NN + ww + 1 ∧ nx ≤ 1000000000 ∧ Hid (WS w wr g b ww nx (2000 * i) (Cik NN lat i 0))) (fun _ y _ => NN + ww + 1 - (intOf y).toNat)
  case atStart => exact ⟨1, 1, rfl, rfl, Nat.le_refl _, by omega, by omega, H3.out⟩
  case round =>
    clear H3
    obtain ⟨i, nx, rfl, rfl, hi1, hi2, hnx, HW⟩ := hrel
    obtain ⟨NW, hNW⟩ : ∃ NW, NW = NN + ww := ⟨_, rfl⟩
    obtain ⟨r, hr⟩ : ∃ r : Bool, decide (i ≤ NW) = r := ⟨_, rfl⟩
    go_upto_region 9 with fail
    rename_i K hK
    refine wp_region_lit ?_
    refine wpList_runTo rfl (some 46) rfl (.int .i64 (i : Int)) wr (by kernel_rfl) ?_
    simp only [Act.put, List.setIfInBounds_toArray, List.set_cons_zero, List.set_cons_succ]
    refine wpList_runTo rfl (some 47) rfl (.int .i64 (NN : Int)) wr (by kernel_rfl) ?_
    simp only [Act.put, List.setIfInBounds_toArray, List.set_cons_zero, List.set_cons_succ]
    refine wpList_runTo rfl (some 48) rfl (.int .i64 (ww : Int)) wr (by kernel_rfl) ?_
    simp only [Act.put, List.setIfInBounds_toArray, List.set_cons_zero, List.set_cons_succ]
    refine wpList_runTo rfl (some 49) rfl (.int .i64 (NW : Int)) wr (by rw [hNW]; exact addN_run (p := NN) (q := ww) (.tmp 47) (.tmp 48) rfl (by kernel_rfl) (by kernel_rfl) (by omega) _) ?_
    simp only [Act.put, List.setIfInBounds_toArray, List.set_cons_zero, List.set_cons_succ]
    refine wpList_runTo rfl (some 50) rfl (.bool r) wr (by exact leN_run (p := i) (q := NW) (.tmp 46) (.tmp 49) rfl (by kernel_rfl) (by kernel_rfl) hr _) ?_
    simp only [Act.put, List.setIfInBounds_toArray, List.set_cons_zero, List.set_cons_succ]
    refine wpList_nil ?_
    refine hK _ _ ?_
    clear hK
    cases r
    case true =>
      have hile : i ≤ NN + ww := by
        have : i ≤ NW := by simpa using hr
        omega
      clear hr hNW
      obtain ⟨lo, hlo⟩ : ∃ lo, lo = max 1 (i + 1 - ww) := ⟨_, rfl⟩
      have hloi : ((lo : Nat) : Int) = max 1 ((i : Int) - (ww : Int) + 1) := by rw [hlo]; omega
      have HLO : Hid (lo ≤ 1 ∨ lo + ww ≤ i + 1) := by show lo ≤ 1 ∨ lo + ww ≤ i + 1; omega
      have hlo1 : 1 ≤ lo := by omega
      have hlo2 : lo ≤ i := by omega
      have hlo3 : lo ≤ NN + 1 := by omega
      clear hlo
      go_upto_region 11 with fail
      rename_i K hK
      refine wp_region_lit ?_
      refine wpList_runTo rfl (some 53) rfl (.int .i64 (i : Int)) wr (by kernel_rfl) ?_
      simp only [Act.put, List.setIfInBounds_toArray, List.set_cons_zero, List.set_cons_succ]
      refine wpList_runTo rfl (some 54) rfl (.int .i64 (ww : Int)) wr (by kernel_rfl) ?_
      simp only [Act.put, List.setIfInBounds_toArray, List.set_cons_zero, List.set_cons_succ]
      refine wpList_runTo rfl (some 55) rfl (.int .i64 ((i : Int) - (ww : Int))) wr (by exact sub3_run (p := i) (q := ww) (.tmp 53) (.tmp 54) rfl (by kernel_rfl) (by kernel_rfl) (by omega) _) ?_
      simp only [Act.put, List.setIfInBounds_toArray, List.set_cons_zero, List.set_cons_succ]
      refine wpList_runTo rfl (some 56) rfl (.int .i64 ((i : Int) - (ww : Int) + 1)) wr (by exact addZ_run (p := (i : Int) - (ww : Int)) (q := 1) (.tmp 55) (.const (.int .i64 1)) rfl (by kernel_rfl) rfl (by omega) _) ?_
      simp only [Act.put, List.setIfInBounds_toArray, List.set_cons_zero, List.set_cons_succ]
      refine wpList_runTo rfl (some 57) rfl (.int .i64 (lo : Int)) wr (by rw [hloi]; exact mx3_run (.const (.int .i64 1)) (.tmp 56) rfl rfl (by kernel_rfl) rfl _) ?_
      simp only [Act.put, List.setIfInBounds_toArray, List.set_cons_zero, List.set_cons_succ]
      refine wpList_runTo rfl (some 14) rfl (.int .i64 (lo : Int)) wr (by kernel_rfl) ?_
      simp only [Act.put, List.setIfInBounds_toArray, List.set_cons_zero, List.set_cons_succ]
      refine wpList_nil ?_
      refine hK _ _ ?_
      clear hK
      clear hloi
      generalize (i : Int) - (ww : Int) + 1 = d56
      generalize (i : Int) - (ww : Int) = d55
      have HK0 : Hid (WS w wr g b ww nx (2000 * i + 4 * lo) (Cik NN lat i lo)) := HW.out.congr (by omega) (Cik.start HL.out.2 HLO.out)
      clear HW
      go_upto_region 12 with fail
      go_loopw [12, 14] (fun x y wr => ∃ k nx : Nat, x = .int .i64 (nx : Int) ∧ y = .int .i64 (k : Int) ∧ lo ≤ k ∧ k ≤ i + 1 ∧ k ≤ NN + 1 ∧ nx ≤ 1000000000 ∧ Hid (WS w wr g b ww nx (2000 * i + 4 * k) (Cik NN lat i k))) (fun _ y _ => i + 1 - (intOf y).toNat)
      case atStart => exact ⟨lo, nx, rfl, rfl, Nat.le_refl _, by omega, hlo3, hnx, HK0.out⟩
      case round =>
        clear HK0
        clear hnx
        obtain ⟨k, nx, rfl, rfl, hk1, hk2, hk3, hnx, HK⟩ := hrel
        by_cases hkk : k ≤ i ∧ k ≤ NN
        · obtain ⟨hki, hkN⟩ := hkk
          have dki : decide (k ≤ i) = true := by simp [hki]
          have dkN : decide (k ≤ NN) = true := by simp [hkN]
          go_upto_region 12 with fail
          rename_i K hK
          refine wp_region_lit ?_
          refine wpList_runTo rfl (some 58) rfl (.int .i64 (k : Int)) wr (by kernel_rfl) ?_
          simp only [Act.put, List.setIfInBounds_toArray, List.set_cons_zero, List.set_cons_succ]
          refine wpList_runTo rfl (some 59) rfl (.int .i64 (i : Int)) wr (by kernel_rfl) ?_
          simp only [Act.put, List.setIfInBounds_toArray, List.set_cons_zero, List.set_cons_succ]
          refine wpList_runTo rfl (some 60) rfl (.bool true) wr (by exact leN_run (p := k) (q := i) (.tmp 58) (.tmp 59) rfl (by kernel_rfl) (by kernel_rfl) dki _) ?_
          simp only [Act.put, List.setIfInBounds_toArray, List.set_cons_zero, List.set_cons_succ]
          refine wpList_runTo rfl (some 61) rfl (.bool true) wr (by kernel_rfl) ?_
          simp only [Act.put, List.setIfInBounds_toArray, List.set_cons_zero, List.set_cons_succ]
          refine wpList_runToG (by kernel_rfl) (some 62) rfl (.int .i64 (k : Int)) wr (by kernel_rfl) ?_
          simp only [Act.put, List.setIfInBounds_toArray, List.set_cons_zero, List.set_cons_succ]
          refine wpList_runToG (by kernel_rfl) (some 63) rfl (.int .i64 (NN : Int)) wr (by kernel_rfl) ?_
          simp only [Act.put, List.setIfInBounds_toArray, List.set_cons_zero, List.set_cons_succ]
          refine wpList_runToG (by kernel_rfl) (some 64) rfl (.bool true) wr (by exact leN_run (p := k) (q := NN) (.tmp 62) (.tmp 63) rfl (by kernel_rfl) (by kernel_rfl) dkN _) ?_
          simp only [Act.put, List.setIfInBounds_toArray, List.set_cons_zero, List.set_cons_succ]
          refine wpList_runTo rfl (some 65) rfl (.bool true) wr (by kernel_rfl) ?_
          simp only [Act.put, List.setIfInBounds_toArray, List.set_cons_zero, List.set_cons_succ]
          refine wpList_nil ?_
          refine hK _ _ ?_
          clear hK
          clear dki dkN
          go_upto_region 14 with fail
          rename_i K hK
          refine wp_region_lit ?_
          refine wpList_runTo rfl (some 15) rfl (.int .i64 0) wr (by kernel_rfl) ?_
          simp only [Act.put, List.setIfInBounds_toArray, List.set_cons_zero, List.set_cons_succ]
          refine wpList_nil ?_
          refine hK _ _ ?_
          clear hK
          obtain ⟨lk, hlk⟩ : ∃ lk, lk = lat k := ⟨_, rfl⟩
          have hlkb : lk < ww := by rw [hlk]; exact HL.out.2 k
          obtain ⟨rb, hrb⟩ : ∃ rb : Bool, decide (0 < n2) = rb := ⟨_, rfl⟩
          go_upto_region 15 with fail
          rename_i K hK
          refine wp_region_lit ?_
          refine wpList_runTo rfl (some 68) rfl (L2) wr (by kernel_rfl) ?_
          simp only [Act.put, List.setIfInBounds_toArray, List.set_cons_zero, List.set_cons_succ]
          refine wpList_runTo rfl (some 69) rfl (.int .i64 (n2 : Int)) wr (by exact len_run HL12.out.2 (.tmp 68) rfl (.inr (.inr (.inl rfl))) (by kernel_rfl) _) ?_
          simp only [Act.put, List.setIfInBounds_toArray, List.set_cons_zero, List.set_cons_succ]
          refine wpList_runTo rfl (some 70) rfl (.bool rb) wr (by exact gtN_run (n := n2) (k := 0) (.tmp 69) (.const (.int .i64 0)) rfl (by kernel_rfl) rfl hrb _) ?_
          simp only [Act.put, List.setIfInBounds_toArray, List.set_cons_zero, List.set_cons_succ]
          refine wpList_nil ?_
          refine hK _ _ ?_
          clear hK
          go_cut [15] from 58 to 127 (fun x15 wx => x15 = .int .i64 (lk : Int) ∧ wr = wx)
          case first => as_aux_lemma =>
            cases rb
            case false =>
              have e : lk = 0 := by
                have : ¬ 0 < n2 := by simpa using hrb
                rw [hlk, HL.out.1]
                unfold latN
                rw [if_pos (by omega)]
              subst e
              clear hrb hlk hlkb
              go_wp2
              go_meet
              exact ⟨rfl, rfl⟩
            case true =>
              have hn2 : 0 < n2 := by simpa using hrb
              have hpk : lk = pickN (z2 (k % n2)) ww := by
                rw [hlk, HL.out.1]
                unfold latN
                rw [if_neg (by omega)]
              clear hrb hlk
              obtain ⟨qb, qo, hq, hqc⟩ : ∃ qb qo, a2 = some ⟨qb, qo, none⟩ ∧ (wr.cell? ⟨qb, qo + k % n2, none⟩ = some (.int .i64 (z2 (k % n2))) ∧ -9223372036854775808 ≤ z2 (k % n2) ∧ z2 (k % n2) ≤ 9223372036854775807) := by
                rcases HS.out.2.1.below HK.out.bel with h | ⟨qb, qo, e, h⟩
                · omega
                · exact ⟨qb, qo, e, h _ (Nat.mod_lt _ hn2)⟩
              obtain ⟨cq, hz1, hz2⟩ := hqc
              obtain ⟨kr, hkr⟩ : ∃ kr, kr = k % n2 := ⟨_, rfl⟩
              have hkrl : kr < n2 := by rw [hkr]; exact Nat.mod_lt _ hn2
              rw [← hkr] at cq hz1 hz2 hpk
              have hpi := pick_any (z2 kr) (ww : Int) ww rfl wr (by omega) (by omega) hz1 hz2
              rw [← hpk] at hpi
              clear hpk hz1 hz2
              have hL2' : L2 = .slice (some ⟨qb, qo, none⟩) n2 c2 := by rw [HL12.out.2, hq]
              obtain ⟨zk, hzk⟩ : ∃ zk, zk = z2 kr := ⟨_, rfl⟩
              rw [← hzk] at cq hpi
              clear hzk hq
              go_upto_region 16 with fail
              refine wp_region_lit ?_
              refine wpList_runTo rfl (some 71) rfl (L2) wr (by kernel_rfl) ?_
              simp only [Act.put, List.setIfInBounds_toArray, List.set_cons_zero, List.set_cons_succ]
              refine wpList_runTo rfl (some 72) rfl (.int .i64 (k : Int)) wr (by kernel_rfl) ?_
              simp only [Act.put, List.setIfInBounds_toArray, List.set_cons_zero, List.set_cons_succ]
              refine wpList_runTo rfl (some 73) rfl (L2) wr (by kernel_rfl) ?_
              simp only [Act.put, List.setIfInBounds_toArray, List.set_cons_zero, List.set_cons_succ]
              refine wpList_runTo rfl (some 74) rfl (.int .i64 (n2 : Int)) wr (by exact len_run HL12.out.2 (.tmp 73) rfl (.inr (.inr (.inl rfl))) (by kernel_rfl) _) ?_
              simp only [Act.put, List.setIfInBounds_toArray, List.set_cons_zero, List.set_cons_succ]
              refine wpList_runTo rfl (some 75) rfl (.int .i64 (kr : Int)) wr (by rw [hkr]; exact remN_run (p := k) (q := n2) (.tmp 72) (.tmp 74) rfl (by kernel_rfl) (by kernel_rfl) hn2 (by omega) _) ?_
              simp only [Act.put, List.setIfInBounds_toArray, List.set_cons_zero, List.set_cons_succ]
              refine wpList_runTo rfl (some 76) rfl (.pointer (some ⟨qb, qo + kr, none⟩)) wr (by exact ix3_run (i := kr) (n := n2) (c := c2) (.tmp 71) (.tmp 75) rfl (by rw [← hL2']; kernel_rfl) (by kernel_rfl) hkrl _) ?_
              simp only [Act.put, List.setIfInBounds_toArray, List.set_cons_zero, List.set_cons_succ]
              refine wpList_runTo rfl (some 77) rfl (.int .i64 zk) wr (by exact ldN_run (.inr rfl) (.tmp 76) rfl (by kernel_rfl) cq) ?_
              simp only [Act.put, List.setIfInBounds_toArray, List.set_cons_zero, List.set_cons_succ]
              refine wpList_runTo rfl (some 78) rfl (.int .i64 (ww : Int)) wr (by kernel_rfl) ?_
              simp only [Act.put, List.setIfInBounds_toArray, List.set_cons_zero, List.set_cons_succ]
              refine wpList_callW rfl (some 79) rfl 8 #[.int .i64 zk, .int .i64 (ww : Int)] (by kernel_rfl) hpi ?_
              clear hpi
              rintro e w9 ⟨rfl, ew⟩
              replace ew := ew.symm
              subst ew
              refine ⟨_, rfl, ?_⟩
              simp only [Act.put, List.setIfInBounds_toArray, List.set_cons_zero, List.set_cons_succ]
              refine wpList_runTo rfl (some 15) rfl (.int .i64 (lk : Int)) wr (by kernel_rfl) ?_
              simp only [Act.put, List.setIfInBounds_toArray, List.set_cons_zero, List.set_cons_succ]
              refine wpList_nil ?_
              clear hkr hkrl cq hL2' hlkb
              first
                | (go_wp2; go_meet)
                | go_meet
              exact ⟨rfl, rfl⟩
          case rest => as_aux_lemma =>
            obtain ⟨rfl, hwx⟩ := hcut
            subst hwx
            clear hrb
            have HLK : Hid (lk = lat k) := hlk
            clear hlk
            obtain ⟨kl, hkl⟩ : ∃ kl, kl = k + lk := ⟨_, rfl⟩
            obtain ⟨r, hr⟩ : ∃ r : Bool, (kl != i) = r := ⟨_, rfl⟩
            go_upto_region 17 with fail
            rename_i K hK
            refine wp_region_lit ?_
            refine wpList_runTo rfl (some 80) rfl (.int .i64 (k : Int)) wr (by kernel_rfl) ?_
            simp only [Act.put, List.setIfInBounds_toArray, List.set_cons_zero, List.set_cons_succ]
            refine wpList_runTo rfl (some 81) rfl (.int .i64 (lk : Int)) wr (by kernel_rfl) ?_
            simp only [Act.put, List.setIfInBounds_toArray, List.set_cons_zero, List.set_cons_succ]
            refine wpList_runTo rfl (some 82) rfl (.int .i64 (kl : Int)) wr (by rw [hkl]; exact addN_run (p := k) (q := lk) (.tmp 80) (.tmp 81) rfl (by kernel_rfl) (by kernel_rfl) (by omega) _) ?_
            simp only [Act.put, List.setIfInBounds_toArray, List.set_cons_zero, List.set_cons_succ]
            refine wpList_runTo rfl (some 83) rfl (.int .i64 (i : Int)) wr (by kernel_rfl) ?_
            simp only [Act.put, List.setIfInBounds_toArray, List.set_cons_zero, List.set_cons_succ]
            refine wpList_runTo rfl (some 84) rfl (.bool r) wr (by exact neN_run (p := kl) (q := i) (.tmp 82) (.tmp 83) rfl (by kernel_rfl) (by kernel_rfl) hr _) ?_
            simp only [Act.put, List.setIfInBounds_toArray, List.set_cons_zero, List.set_cons_succ]
            refine wpList_nil ?_
            refine hK _ _ ?_
            clear hK
            cases r
            case true =>
              have hne : k + lat k ≠ i := by
                have : kl ≠ i := by simpa using hr
                rw [← HLK.out]; omega
              have HE : Hid (WS w wr g b ww nx (2000 * i + 4 * (k + 1)) (Cik NN lat i (k + 1))) := HK.out.congr (by omega) (Cik.skip hne)
              clear hr hkl hne HK HLK hlkb
              go_wp2
              first
                | exact ⟨⟨k + 1, nx, rfl, by go_num, by omega, by omega, by omega, hnx, HE.out⟩, by simp [intOf]; omega⟩
                | (go_roundw; (case rel => ((repeat apply Exists.intro); exact ⟨⟨k + 1, nx, rfl, by go_num, by omega, by omega, by omega, hnx, HE.out⟩, rfl⟩)); (case measure => (simp [intOf]; omega)))
            case false =>
              have heq : k + lat k = i := by
                have : kl = i := by simpa using hr
                rw [← HLK.out]; omega
              have HEQ : Hid (k + lat k = i) := heq
              clear hr hkl heq HLK hlkb
              obtain ⟨k1, hk1e⟩ : ∃ k1, k1 = k - 1 := ⟨_, rfl⟩
              have hk1n : k1 < n1 := by have := HN.out; omega
              obtain ⟨qb, qo, hq, hqc⟩ : ∃ qb qo, a1 = some ⟨qb, qo, none⟩ ∧ (wr.cell? ⟨qb, qo + k1, none⟩ = some (.int .i64 (z1 k1)) ∧ -9223372036854775808 ≤ z1 k1 ∧ z1 k1 ≤ 9223372036854775807) := by
                rcases HS.out.1.below HK.out.bel with h | ⟨qb, qo, e, h⟩
                · omega
                · exact ⟨qb, qo, e, h _ hk1n⟩
              obtain ⟨cq, hz1, hz2⟩ := hqc
              have hpi := pick_any (z1 k1) 3 3 rfl wr (by decide) (by decide) hz1 hz2
              obtain ⟨ln, hln⟩ : ∃ ln, ln = pickN (z1 k1) 3 := ⟨_, rfl⟩
              rw [← hln] at hpi
              have hlnb : ln < 3 := by rw [hln]; exact pickN_lt _ (by decide)
              have hL1' : L1 = .slice (some ⟨qb, qo, none⟩) n1 c1 := by rw [HL12.out.1, hq]
              obtain ⟨zk, hzk⟩ : ∃ zk, zk = z1 k1 := ⟨_, rfl⟩
              rw [← hzk] at cq hpi
              clear hzk hq hln hz1 hz2
              go_upto_region 18 with fail
              rename_i K hK
              refine wp_region_lit ?_
              refine wpList_runTo rfl (some 85) rfl (L1) wr (by kernel_rfl) ?_
              simp only [Act.put, List.setIfInBounds_toArray, List.set_cons_zero, List.set_cons_succ]
              refine wpList_runTo rfl (some 86) rfl (.int .i64 (k : Int)) wr (by kernel_rfl) ?_
              simp only [Act.put, List.setIfInBounds_toArray, List.set_cons_zero, List.set_cons_succ]
              refine wpList_runTo rfl (some 87) rfl (.int .i64 (k1 : Int)) wr (by rw [hk1e]; exact subN_run (p := k) (q := 1) (.tmp 86) (.const (.int .i64 1)) rfl (by kernel_rfl) rfl (by omega) (by omega) _) ?_
              simp only [Act.put, List.setIfInBounds_toArray, List.set_cons_zero, List.set_cons_succ]
              refine wpList_runTo rfl (some 88) rfl (.pointer (some ⟨qb, qo + k1, none⟩)) wr (by exact ix3_run (i := k1) (n := n1) (c := c1) (.tmp 85) (.tmp 87) rfl (by rw [← hL1']; kernel_rfl) (by kernel_rfl) hk1n _) ?_
              simp only [Act.put, List.setIfInBounds_toArray, List.set_cons_zero, List.set_cons_succ]
              refine wpList_runTo rfl (some 89) rfl (.int .i64 zk) wr (by exact ldN_run (.inr rfl) (.tmp 88) rfl (by kernel_rfl) cq) ?_
              simp only [Act.put, List.setIfInBounds_toArray, List.set_cons_zero, List.set_cons_succ]
              refine wpList_callW rfl (some 90) rfl 8 #[.int .i64 zk, .int .i64 3] (by kernel_rfl) hpi ?_
              clear hpi
              rintro e w9 ⟨rfl, ew⟩
              replace ew := ew.symm
              subst ew
              refine ⟨_, rfl, ?_⟩
              simp only [Act.put, List.setIfInBounds_toArray, List.set_cons_zero, List.set_cons_succ]
              refine wpList_runTo rfl (some 16) rfl (.int .i64 (ln : Int)) wr (by kernel_rfl) ?_
              simp only [Act.put, List.setIfInBounds_toArray, List.set_cons_zero, List.set_cons_succ]
              refine wpList_nil ?_
              refine hK _ _ ?_
              clear hK
              go_upto_region 19 with fail
              rename_i K hK
              refine wp_region_lit ?_
              refine wpList_runTo rfl (some 17) rfl (.int .i64 0) wr (by kernel_rfl) ?_
              simp only [Act.put, List.setIfInBounds_toArray, List.set_cons_zero, List.set_cons_succ]
              refine wpList_nil ?_
              refine hK _ _ ?_
              clear hK
              clear hk1e hk1n cq hL1'
              have HD0 : Hid (WS w wr g b ww nx (2000 * i + 4 * k + 2 * 0) (Csd NN lat i k ln 0)) := HK.out.congr (by omega) Csd.zero
              clear HK
              go_upto_region 20 with fail
              go_loopw [12, 17] (fun x y wr => ∃ s nx : Nat, x = .int .i64 (nx : Int) ∧ y = .int .i64 (s : Int) ∧ s ≤ 2 ∧ nx ≤ 1000000000 ∧ Hid (WS w wr g b ww nx (2000 * i + 4 * k + 2 * s) (Csd NN lat i k ln s))) (fun _ y _ => 2 - (intOf y).toNat)
              case atStart => exact ⟨0, nx, rfl, rfl, by decide, hnx, HD0.out⟩
              case round =>
                clear HD0 hnx
                obtain ⟨s, nx, rfl, rfl, hs2, hnx, HD⟩ := hrel
                by_cases hs : s < 2
                · have ds : decide (s < 2) = true := by simp [hs]
                  obtain ⟨r, hr⟩ : ∃ r : Bool, (ln == s) = r := ⟨_, rfl⟩
                  go_upto_region 20 with fail
                  rename_i K hK
                  refine wp_region_lit ?_
                  refine wpList_runTo rfl (some 91) rfl (.int .i64 (s : Int)) wr (by kernel_rfl) ?_
                  simp only [Act.put, List.setIfInBounds_toArray, List.set_cons_zero, List.set_cons_succ]
                  refine wpList_runTo rfl (some 92) rfl (.bool true) wr (by exact ltN_run (n := s) (k := 2) (.tmp 91) (.const (.int .i64 2)) rfl (by kernel_rfl) rfl ds _) ?_
                  simp only [Act.put, List.setIfInBounds_toArray, List.set_cons_zero, List.set_cons_succ]
                  refine wpList_nil ?_
                  refine hK _ _ ?_
                  clear hK
                  clear ds
                  go_upto_region 22 with fail
                  rename_i K hK
                  refine wp_region_lit ?_
                  refine wpList_runTo rfl (some 95) rfl (.int .i64 (ln : Int)) wr (by kernel_rfl) ?_
                  simp only [Act.put, List.setIfInBounds_toArray, List.set_cons_zero, List.set_cons_succ]
                  refine wpList_runTo rfl (some 96) rfl (.int .i64 (s : Int)) wr (by kernel_rfl) ?_
                  simp only [Act.put, List.setIfInBounds_toArray, List.set_cons_zero, List.set_cons_succ]
                  refine wpList_runTo rfl (some 97) rfl (.bool r) wr (by exact eqN_run (p := ln) (q := s) (.tmp 95) (.tmp 96) rfl (by kernel_rfl) (by kernel_rfl) hr _) ?_
                  simp only [Act.put, List.setIfInBounds_toArray, List.set_cons_zero, List.set_cons_succ]
                  refine wpList_nil ?_
                  refine hK _ _ ?_
                  clear hK
                  cases r
                  case true =>
                    have hls : ln = s := by simpa using hr
                    have HE : Hid (WS w wr g b ww nx (2000 * i + 4 * k + 2 * (s + 1)) (Csd NN lat i k ln (s + 1))) := HD.out.congr (by omega) (Csd.lost hs hls)
                    clear hr hls HD
                    go_wp2
                    first
                      | exact ⟨⟨s + 1, nx, rfl, by go_num, by omega, hnx, HE.out⟩, by simp [intOf]; omega⟩
                      | (go_roundw; (case rel => ((repeat apply Exists.intro); exact ⟨⟨s + 1, nx, rfl, by go_num, by omega, hnx, HE.out⟩, rfl⟩)); (case measure => (simp [intOf]; omega)))
                  case false =>
                    have hls : ln ≠ s := by simpa using hr
                    have HLS : Hid (ln ≠ s) := hls
                    clear hr hls
                    have hpk := packet_any wr k 9 (by omega) (by decide)
                    go_upto_region 23 with fail
                    rename_i K hK
                    refine wp_region_lit ?_
                    refine wpList_runTo rfl (some 99) rfl (.pointer (some ⟨g, 0, none⟩)) wr (by kernel_rfl) ?_
                    simp only [Act.put, List.setIfInBounds_toArray, List.set_cons_zero, List.set_cons_succ]
                    refine wpList_runTo rfl (some 100) rfl (.int .i64 (s : Int)) wr (by kernel_rfl) ?_
                    simp only [Act.put, List.setIfInBounds_toArray, List.set_cons_zero, List.set_cons_succ]
                    refine wpList_runTo rfl (some 101) rfl (.int .i64 (k : Int)) wr (by kernel_rfl) ?_
                    simp only [Act.put, List.setIfInBounds_toArray, List.set_cons_zero, List.set_cons_succ]
                    refine wpList_callW rfl (some 102) rfl 10 #[.int .i64 (k : Int), .int .u8 9] (by kernel_rfl) hpk ?_
                    clear hpk
                    rintro e WP ⟨vp, rfl, hxp⟩
                    refine ⟨_, rfl, ?_⟩
                    simp only [Act.put, List.setIfInBounds_toArray, List.set_cons_zero, List.set_cons_succ]
                    obtain ⟨lp, hlp⟩ : ∃ lp, lp = pkF k 9 := ⟨_, rfl⟩
                    have HLP : Hid (lp = pkF k 9) := hlp
                    have HP : Hid (WS w WP g b ww nx (2000 * i + 4 * k + 2 * s) (Csd NN lat i k ln s) ∧ By WP vp lp) := ⟨HD.out.below hxp.out.bel, by rw [hlp]; exact hxp.out.by'⟩
                    clear hxp HD hlp
                    have hhe : Calls Try.prog 9 #[.pointer (some ⟨g, 0, none⟩), .int .i64 (s : Int), vp, .int .i64 (i : Int)] WP fun e w' => ∃ v', e = .returned (.tuple #[v', .int .i64 0]) ∧ Hid (∃ out : List Kp, WS w w' g b ww (nx + out.length) (2000 * i + 4 * k + 2 * (s + 1)) (Csd NN lat i k ln (s + 1)) ∧ RowAt w' 35 1 v' out.length (out.map (·.v)) ∧ (∀ q ∈ out, PkAt w' q) ∧ ∀ j q, out[j]? = some q → q.n = nx + j ∧ q.l = pkF q.n 9) := by
                      obtain ⟨a, c, h1, h2, h3, h4, h5⟩ := HP.out.1
                      refine (h1.hear (by omega) s hs (i : Int) (by omega) (by omega) HP.out.2 (by rw [HLP.out, pkF_len]; decide)).mono fun e w' ⟨v', er, e1, h6⟩ => ?_
                      obtain ⟨out, a', k1, k2, k3⟩ := h6.out
                      obtain ⟨m1, m2, m3, m4, m5⟩ := h5.hear k3 HLP.out (by omega) (by omega) (by rw [h4]; exact h5.near HL.out.2 hki hkN)
                      subst m1
                      refine ⟨v', e1, out, ⟨a', c + 2, k1, by omega, by rw [m3, h3], by rw [m5, h4], m2.congr (Csd.heard hs HLS.out)⟩, k2.row, k2.pk, fun j q hq => ?_⟩
                      rw [← h3]
                      exact m4 j q hq
                    clear HP HLP
                    refine wpList_runTo rfl (some 103) rfl (.int .i64 (i : Int)) WP (by kernel_rfl) ?_
                    simp only [Act.put, List.setIfInBounds_toArray, List.set_cons_zero, List.set_cons_succ]
                    refine wpList_callW rfl (some 104) rfl 9 #[.pointer (some ⟨g, 0, none⟩), .int .i64 (s : Int), vp, .int .i64 (i : Int)] (by kernel_rfl) hhe ?_
                    clear hhe
                    rintro e WH ⟨vl, rfl, hxh⟩
                    refine ⟨_, rfl, ?_⟩
                    simp only [Act.put, List.setIfInBounds_toArray, List.set_cons_zero, List.set_cons_succ]
                    refine wpList_runTo rfl (some 98) rfl (.tuple #[vl, .int .i64 0]) WH (by kernel_rfl) ?_
                    simp only [Act.put, List.setIfInBounds_toArray, List.set_cons_zero, List.set_cons_succ]
                    refine wpList_runTo rfl (some 105) rfl (vl) WH (by kernel_rfl) ?_
                    simp only [Act.put, List.setIfInBounds_toArray, List.set_cons_zero, List.set_cons_succ]
                    refine wpList_runTo rfl (some 106) rfl (.int .i64 0) WH (by kernel_rfl) ?_
                    simp only [Act.put, List.setIfInBounds_toArray, List.set_cons_zero, List.set_cons_succ]
                    refine wpList_runTo rfl (some 18) rfl (vl) WH (by kernel_rfl) ?_
                    simp only [Act.put, List.setIfInBounds_toArray, List.set_cons_zero, List.set_cons_succ]
                    refine wpList_runTo rfl (some 19) rfl (.int .i64 0) WH (by kernel_rfl) ?_
                    simp only [Act.put, List.setIfInBounds_toArray, List.set_cons_zero, List.set_cons_succ]
                    refine wpList_nil ?_
                    refine hK _ _ ?_
                    clear hK
                    generalize vp = vp' at *
                    obtain ⟨out, HH⟩ : ∃ out : List Kp, Hid (WS w WH g b ww (nx + out.length) (2000 * i + 4 * k + 2 * (s + 1)) (Csd NN lat i k ln (s + 1)) ∧ RowAt WH 35 1 vl out.length (out.map (·.v)) ∧ (∀ q ∈ out, PkAt WH q) ∧ ∀ j q, out[j]? = some q → q.n = nx + j ∧ q.l = pkF q.n 9) := by
                      obtain ⟨out, h⟩ := hxh.out
                      exact ⟨out, h⟩
                    clear hxh HLS
                    obtain ⟨la, lc, hlf, hlc⟩ := HH.out.2.1.form
                    obtain ⟨LN, hLN⟩ : ∃ LN, LN = out.length := ⟨_, rfl⟩
                    rw [← hLN] at hlf hlc
                    have HLN : Hid (LN = out.length) := hLN
                    have hnl : nx + LN ≤ 1000000000 := by rw [hLN]; exact HH.out.1.nb
                    clear hLN
                    go_upto_region 24 with fail
                    rename_i K hK
                    refine wp_region_lit ?_
                    refine wpList_runTo rfl (some 107) rfl (.int .i64 0) WH (by kernel_rfl) ?_
                    simp only [Act.put, List.setIfInBounds_toArray, List.set_cons_zero, List.set_cons_succ]
                    refine wpList_runTo rfl (some 108) rfl (.bool false) WH (by kernel_rfl) ?_
                    simp only [Act.put, List.setIfInBounds_toArray, List.set_cons_zero, List.set_cons_succ]
                    refine wpList_nil ?_
                    refine hK _ _ ?_
                    clear hK
                    go_upto_region 26 with fail
                    rename_i K hK
                    refine wp_region_lit ?_
                    refine wpList_runTo rfl (some 20) rfl (.int .i64 0) WH (by kernel_rfl) ?_
                    simp only [Act.put, List.setIfInBounds_toArray, List.set_cons_zero, List.set_cons_succ]
                    refine wpList_nil ?_
                    refine hK _ _ ?_
                    clear hK
                    go_upto_region 27 with fail
                    go_loopw [12, 20] (fun x y wr => ∃ j : Nat, x = .int .i64 ((nx + j : Nat) : Int) ∧ y = .int .i64 (j : Int) ∧ j ≤ LN ∧ Hid (Below WH.heap.size WH wr)) (fun _ y _ => LN - (intOf y).toNat)
                    case atStart => exact ⟨0, rfl, rfl, Nat.zero_le _, Below.refl _ _⟩
                    case round =>
                      obtain ⟨j, rfl, rfl, hjl, HB⟩ := hrel
                      obtain ⟨nj, hnj⟩ : ∃ nj, nj = nx + j := ⟨_, rfl⟩
                      rw [← hnj]
                      by_cases hj : j < LN
                      · have dj : decide (j < LN) = true := by simp [hj]
                        obtain ⟨q, hq⟩ : ∃ q, out[j]? = some q := ⟨_, List.getElem?_eq_getElem (by rw [← HLN.out]; exact hj)⟩
                        obtain ⟨hqn, hql⟩ := HH.out.2.2.2 j q hq
                        have hby : By wr q.v (pkF nj 9) := by
                          have := (HH.out.2.2.1 q (List.mem_of_getElem? hq)).by'.below HB.out
                          rw [hql, hqn, ← hnj] at this
                          exact this
                        have hrow := HH.out.2.1.fr (Fr.of_below HB.out (fun _ => False)) (w' := wr) fun _ _ => id
                        obtain ⟨vb, vo, vc, hvf, cq⟩ := hrow.at1 (j := j) (u := q.v) (by rw [List.getElem?_map, hq]; rfl)
                        rw [← HLN.out] at hvf
                        have hnu := number_any hby (by omega) (by decide)
                        obtain ⟨qv, hqv⟩ : ∃ qv, qv = q.v := ⟨_, rfl⟩
                        rw [← hqv] at cq hnu
                        clear hby hrow hq hqn hql hqv
                        go_upto_region 27 with fail
                        rename_i K hK
                        refine wp_region_lit ?_
                        refine wpList_runTo rfl (some 109) rfl (.int .i64 (j : Int)) wr (by kernel_rfl) ?_
                        simp only [Act.put, List.setIfInBounds_toArray, List.set_cons_zero, List.set_cons_succ]
                        refine wpList_runTo rfl (some 110) rfl (vl) wr (by kernel_rfl) ?_
                        simp only [Act.put, List.setIfInBounds_toArray, List.set_cons_zero, List.set_cons_succ]
                        refine wpList_runTo rfl (some 111) rfl (.int .i64 (LN : Int)) wr (by exact len_run hlf (.tmp 110) rfl (.inr (.inl rfl)) (by kernel_rfl) _) ?_
                        simp only [Act.put, List.setIfInBounds_toArray, List.set_cons_zero, List.set_cons_succ]
                        refine wpList_runTo rfl (some 112) rfl (.bool true) wr (by exact ltN_run (n := j) (k := LN) (.tmp 109) (.tmp 111) rfl (by kernel_rfl) (by kernel_rfl) dj _) ?_
                        simp only [Act.put, List.setIfInBounds_toArray, List.set_cons_zero, List.set_cons_succ]
                        refine wpList_nil ?_
                        refine hK _ _ ?_
                        clear hK
                        go_upto_region 29 with fail
                        rename_i K hK
                        refine wp_region_lit ?_
                        refine wpList_runTo rfl (some 116) rfl (vl) wr (by kernel_rfl) ?_
                        simp only [Act.put, List.setIfInBounds_toArray, List.set_cons_zero, List.set_cons_succ]
                        refine wpList_runTo rfl (some 117) rfl (.int .i64 (j : Int)) wr (by kernel_rfl) ?_
                        simp only [Act.put, List.setIfInBounds_toArray, List.set_cons_zero, List.set_cons_succ]
                        refine wpList_runTo rfl (some 118) rfl (.pointer (some ⟨vb, vo + j, none⟩)) wr (by exact ixV_run (i := j) (n := LN) (c := vc) (.tmp 116) (.tmp 117) rfl (by rw [← hvf]; kernel_rfl) (by kernel_rfl) hj _) ?_
                        simp only [Act.put, List.setIfInBounds_toArray, List.set_cons_zero, List.set_cons_succ]
                        refine wpList_runTo rfl (some 119) rfl (qv) wr (by exact ldV_run (.tmp 118) rfl (by kernel_rfl) cq) ?_
                        simp only [Act.put, List.setIfInBounds_toArray, List.set_cons_zero, List.set_cons_succ]
                        refine wpList_callW rfl (some 120) rfl 12 #[qv] (by kernel_rfl) hnu ?_
                        clear hnu
                        rintro e WQ ⟨rfl, hxn⟩
                        refine ⟨_, rfl, ?_⟩
                        simp only [Act.put, List.setIfInBounds_toArray, List.set_cons_zero, List.set_cons_succ]
                        refine wpList_runTo rfl (some 115) rfl (.tuple #[.int .i64 (nj : Int), .int .i64 ((9 : Nat) : Int)]) WQ (by kernel_rfl) ?_
                        simp only [Act.put, List.setIfInBounds_toArray, List.set_cons_zero, List.set_cons_succ]
                        refine wpList_runTo rfl (some 121) rfl (.int .i64 (nj : Int)) WQ (by kernel_rfl) ?_
                        simp only [Act.put, List.setIfInBounds_toArray, List.set_cons_zero, List.set_cons_succ]
                        refine wpList_runTo rfl (some 122) rfl (.int .i64 ((9 : Nat) : Int)) WQ (by kernel_rfl) ?_
                        simp only [Act.put, List.setIfInBounds_toArray, List.set_cons_zero, List.set_cons_succ]
                        refine wpList_runTo rfl (some 21) rfl (.int .i64 (nj : Int)) WQ (by kernel_rfl) ?_
                        simp only [Act.put, List.setIfInBounds_toArray, List.set_cons_zero, List.set_cons_succ]
                        refine wpList_runTo rfl (some 22) rfl (.int .i64 ((9 : Nat) : Int)) WQ (by kernel_rfl) ?_
                        simp only [Act.put, List.setIfInBounds_toArray, List.set_cons_zero, List.set_cons_succ]
                        refine wpList_nil ?_
                        refine hK _ _ ?_
                        clear hK
                        go_upto_region 30 with fail
                        rename_i K hK
                        refine wp_region_lit ?_
                        refine wpList_runTo rfl (some 123) rfl (.int .i64 (nj : Int)) WQ (by kernel_rfl) ?_
                        simp only [Act.put, List.setIfInBounds_toArray, List.set_cons_zero, List.set_cons_succ]
                        refine wpList_runTo rfl (some 124) rfl (.int .i64 (nj : Int)) WQ (by kernel_rfl) ?_
                        simp only [Act.put, List.setIfInBounds_toArray, List.set_cons_zero, List.set_cons_succ]
                        refine wpList_runTo rfl (some 125) rfl (.bool false) WQ (by exact neN_run (p := nj) (q := nj) (.tmp 123) (.tmp 124) rfl (by kernel_rfl) (by kernel_rfl) (by simp) _) ?_
                        simp only [Act.put, List.setIfInBounds_toArray, List.set_cons_zero, List.set_cons_succ]
                        refine wpList_nil ?_
                        refine hK _ _ ?_
                        clear hK
                        have HB2 : Hid (Below WH.heap.size WH WQ) := below_step HB.out hxn.out
                        clear hxn cq hvf HB
                        have hnj1 : nj + 1 = nx + (j + 1) := by omega
                        have hnjb : nj ≤ 1000000000 := by omega
                        go_wp2
                        exact ⟨⟨j + 1, by rw [← hnj1]; go_num, by go_num, by omega, HB2.out⟩, by simp [intOf]; omega⟩
                      · have hj' : ¬ (j : Int) < (LN : Int) := by omega
                        have e : nj = nx + LN := by omega
                        have HE : Hid (WS w wr g b ww nj (2000 * i + 4 * k + 2 * (s + 1)) (Csd NN lat i k ln (s + 1))) := by
                          have := HH.out.1.below HB.out
                          rw [← HLN.out, ← e] at this
                          exact this
                        have hnb : nj ≤ 1000000000 := by omega
                        clear hnj e HB
                        subst hlf
                        go_wp2
                        first
                          | exact ⟨⟨s + 1, nj, rfl, by go_num, by omega, hnb, HE.out⟩, by simp [intOf]; omega⟩
                          | (go_roundw; (case rel => ((repeat apply Exists.intro); exact ⟨⟨s + 1, nj, rfl, by go_num, by omega, hnb, HE.out⟩, rfl⟩)); (case measure => (simp [intOf]; omega)))
                · have hs' : ¬ (s : Int) < 2 := by omega
                  have e : s = 2 := by omega
                  have HE : Hid (WS w wr g b ww nx (2000 * i + 4 * (k + 1)) (Cik NN lat i (k + 1))) := HD.out.congr (by omega) (by rw [e]; exact Csd.two (by omega) hkN HEQ.out)
                  clear HD e HEQ
                  go_wp2
                  first
                    | exact ⟨⟨k + 1, nx, rfl, by go_num, by omega, by omega, by omega, hnx, HE.out⟩, by simp [intOf]; omega⟩
                    | (go_roundw; (case rel => ((repeat apply Exists.intro); exact ⟨⟨k + 1, nx, rfl, by go_num, by omega, by omega, by omega, hnx, HE.out⟩, rfl⟩)); (case measure => (simp [intOf]; omega)))
        · go_upto_region 12 with fail
          go_cut [65] from 58 to 65 (fun x65 wx => x65 = .bool false ∧ wx = wr)
          case first => as_aux_lemma =>
            by_cases q1 : (k : Int) ≤ (i : Int)
            · have q2 : ¬ (k : Int) ≤ (NN : Int) := fun q => hkk ⟨by omega, by omega⟩
              go_wp2
              go_meet
              exact ⟨rfl, rfl⟩
            · go_wp2
              go_meet
              exact ⟨rfl, rfl⟩
          case rest => as_aux_lemma =>
            obtain ⟨rfl, hw⟩ := hcut
            subst hw
            have HE : Hid (WS w wc g b ww nx (2000 * (i + 1)) (Cik NN lat (i + 1) 0)) := HK.out.congr (by omega) (Cik.stop hkk)
            clear hkk HK
            go_wp2
            first
              | exact ⟨⟨i + 1, nx, rfl, by go_num, by omega, by omega, hnx, HE.out⟩, by simp [intOf]; omega⟩
              | (go_roundw; (case rel => ((repeat apply Exists.intro); exact ⟨⟨i + 1, nx, rfl, by go_num, by omega, by omega, hnx, HE.out⟩, rfl⟩)); (case measure => (simp [intOf]; omega)))
    case false =>
      have hilt : NN + ww < i := by
        have : ¬ i ≤ NW := by simpa using hr
        omega
      clear hr hNW
      have HF : Hid (∃ a c, SH w wr g b a c ∧ a.nx = nx ∧ nx = NN + 1 ∧ a.ks = []) := by
        obtain ⟨a, c, h1, h2, h3, h4, h5⟩ := HW.out
        obtain ⟨h6, h7⟩ := h5.all HL.out.2 hilt
        exact ⟨a, c, h1, h3, by omega, h7⟩
      clear HW hilt
      obtain ⟨hti, hnx1⟩ : (∃ a' : Unit, Calls Try.prog 11 #[.pointer (some ⟨g, 0, none⟩), .int .i64 5000000] wr fun e w' => ∃ v', e = .returned v' ∧ Hid ((∃ ao c, v' = .slice ao 0 c) ∧ ∃ a c, SH w w' g b a c ∧ a.nx = NN + 1)) ∧ nx = NN + 1 := by
        obtain ⟨a, c, h1, h2, h3, h4⟩ := HF.out
        refine ⟨⟨(), (h1.ticks 5000000 (by decide) (by decide)).mono fun e w' ⟨v', e1, h5⟩ => ⟨v', e1, ?_⟩⟩, h3⟩
        obtain ⟨out, a', h6, h7, h8⟩ := h5.out
        have hwt : wtB a (max a.la 5000000) a.pat = false := by unfold wtB; rw [h4]; rfl
        rcases h8 with ⟨_, e2, e3⟩ | ⟨e2, _⟩
        · subst e2
          obtain ⟨ao, ca, hf, _⟩ := h7.row.form
          exact ⟨⟨ao, ca, hf⟩, a', c, h6, by rw [e3]; show a.nx = _; omega⟩
        · rw [hwt] at e2; cases e2
      obtain ⟨_, hti⟩ := hti
      have HNX : Hid (nx = NN + 1) := hnx1
      clear HF hnx1
      go_upto_region 33 with fail
      rename_i K hK
      refine wp_region_lit ?_
      refine wpList_runTo rfl (some 128) rfl (.pointer (some ⟨g, 0, none⟩)) wr (by kernel_rfl) ?_
      simp only [Act.put, List.setIfInBounds_toArray, List.set_cons_zero, List.set_cons_succ]
      refine wpList_callW rfl (some 129) rfl 11 #[.pointer (some ⟨g, 0, none⟩), .int .i64 5000000] (by kernel_rfl) hti ?_
      clear hti
      rintro e WT ⟨v129, rfl, hxt⟩
      refine ⟨_, rfl, ?_⟩
      simp only [Act.put, List.setIfInBounds_toArray, List.set_cons_zero, List.set_cons_succ]
      refine wpList_runTo rfl (some 23) rfl (v129) WT (by kernel_rfl) ?_
      simp only [Act.put, List.setIfInBounds_toArray, List.set_cons_zero, List.set_cons_succ]
      refine wpList_nil ?_
      refine hK _ _ ?_
      clear hK
      obtain ⟨va, vc, hvf⟩ := hxt.out.1
      have hne : Calls Try.prog 13 #[.pointer (some ⟨g, 0, none⟩)] WT fun e w' => e = .returned (.int .i64 ((NN + 1 : Nat) : Int)) ∧ w' = WT := by
        obtain ⟨a, c, h1, h2⟩ := hxt.out.2
        have := Next_any h1.ab
        rw [h2] at this
        exact this
      have HZ : Hid (Below w.heap.size w WT) := by
        obtain ⟨a, c, h1, h2⟩ := hxt.out.2
        exact h1.bel
      clear hxt
      obtain ⟨N1, hN1'⟩ : ∃ N1, N1 = NN + 1 := ⟨_, rfl⟩
      rw [← hN1'] at hne
      have enx : nx = N1 := by rw [hN1']; exact HNX.out
      subst enx
      go_upto_region 34 with fail
      rename_i K hK
      refine wp_region_lit ?_
      refine wpList_runTo rfl (some 130) rfl (.int .i64 (nx : Int)) WT (by kernel_rfl) ?_
      simp only [Act.put, List.setIfInBounds_toArray, List.set_cons_zero, List.set_cons_succ]
      refine wpList_runTo rfl (some 131) rfl (.int .i64 (NN : Int)) WT (by kernel_rfl) ?_
      simp only [Act.put, List.setIfInBounds_toArray, List.set_cons_zero, List.set_cons_succ]
      refine wpList_runTo rfl (some 132) rfl (.int .i64 (nx : Int)) WT (by rw [hN1']; exact addN_run (p := NN) (q := 1) (.tmp 131) (.const (.int .i64 1)) rfl (by kernel_rfl) rfl (by omega) _) ?_
      simp only [Act.put, List.setIfInBounds_toArray, List.set_cons_zero, List.set_cons_succ]
      refine wpList_runTo rfl (some 133) rfl (.bool true) WT (by exact eqN_run (p := nx) (q := nx) (.tmp 130) (.tmp 132) rfl (by kernel_rfl) (by kernel_rfl) (by simp) _) ?_
      simp only [Act.put, List.setIfInBounds_toArray, List.set_cons_zero, List.set_cons_succ]
      refine wpList_runTo rfl (some 134) rfl (.bool true) WT (by kernel_rfl) ?_
      simp only [Act.put, List.setIfInBounds_toArray, List.set_cons_zero, List.set_cons_succ]
      refine wpList_runToG (by kernel_rfl) (some 135) rfl (.pointer (some ⟨g, 0, none⟩)) WT (by kernel_rfl) ?_
      simp only [Act.put, List.setIfInBounds_toArray, List.set_cons_zero, List.set_cons_succ]
      refine wpList_callG (by kernel_rfl) (some 136) rfl 13 #[.pointer (some ⟨g, 0, none⟩)] (by kernel_rfl) hne ?_
      clear hne
      rintro e w9 ⟨rfl, ew⟩
      replace ew := ew.symm
      subst ew
      refine ⟨_, rfl, ?_⟩
      simp only [Act.put, List.setIfInBounds_toArray, List.set_cons_zero, List.set_cons_succ]
      refine wpList_runToG (by kernel_rfl) (some 137) rfl (.int .i64 (NN : Int)) WT (by kernel_rfl) ?_
      simp only [Act.put, List.setIfInBounds_toArray, List.set_cons_zero, List.set_cons_succ]
      refine wpList_runToG (by kernel_rfl) (some 138) rfl (.int .i64 (nx : Int)) WT (by rw [hN1']; exact addN_run (p := NN) (q := 1) (.tmp 137) (.const (.int .i64 1)) rfl (by kernel_rfl) rfl (by omega) _) ?_
      simp only [Act.put, List.setIfInBounds_toArray, List.set_cons_zero, List.set_cons_succ]
      refine wpList_runToG (by kernel_rfl) (some 139) rfl (.bool true) WT (by exact eqN_run (p := nx) (q := nx) (.tmp 136) (.tmp 138) rfl (by kernel_rfl) (by kernel_rfl) (by simp) _) ?_
      simp only [Act.put, List.setIfInBounds_toArray, List.set_cons_zero, List.set_cons_succ]
      refine wpList_runTo rfl (some 140) rfl (.bool true) WT (by kernel_rfl) ?_
      simp only [Act.put, List.setIfInBounds_toArray, List.set_cons_zero, List.set_cons_succ]
      refine wpList_runTo rfl (some 141) rfl (.bool true) WT (by kernel_rfl) ?_
      simp only [Act.put, List.setIfInBounds_toArray, List.set_cons_zero, List.set_cons_succ]
      refine wpList_runToG (by kernel_rfl) (some 142) rfl (v129) WT (by kernel_rfl) ?_
      simp only [Act.put, List.setIfInBounds_toArray, List.set_cons_zero, List.set_cons_succ]
      refine wpList_runToG (by kernel_rfl) (some 143) rfl (.int .i64 ((0 : Nat) : Int)) WT (by exact len_run hvf (.tmp 142) rfl (.inr (.inl rfl)) (by kernel_rfl) _) ?_
      simp only [Act.put, List.setIfInBounds_toArray, List.set_cons_zero, List.set_cons_succ]
      refine wpList_runToG (by kernel_rfl) (some 144) rfl (.bool true) WT (by exact eqN_run (p := 0) (q := 0) (.tmp 143) (.const (.int .i64 0)) rfl (by kernel_rfl) rfl (by decide) _) ?_
      simp only [Act.put, List.setIfInBounds_toArray, List.set_cons_zero, List.set_cons_succ]
      refine wpList_runTo rfl (some 145) rfl (.bool true) WT (by kernel_rfl) ?_
      simp only [Act.put, List.setIfInBounds_toArray, List.set_cons_zero, List.set_cons_succ]
      refine wpList_runTo rfl (some 6) rfl (.bool true) WT (by kernel_rfl) ?_
      simp only [Act.put, List.setIfInBounds_toArray, List.set_cons_zero, List.set_cons_succ]
      refine wpList_nil ?_
      refine hK _ _ ?_
      clear hK
      go_wp2
      go_ret
      exact ⟨rfl, HZ.out⟩
end Go.Proofs.Ytdncemecnbglaaa
