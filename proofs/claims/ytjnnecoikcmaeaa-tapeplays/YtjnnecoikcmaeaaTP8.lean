/-
  tape: readCommand, Decode.
-/
import Derived.Test.YtjnnecoikcmaeaaTP7
namespace Go.Proofs.Ytjnnecoikcmaeaa
set_option linter.unusedVariables false
set_option linter.unusedSimpArgs false
open Go.RowKit Go.Great

theorem and1_run {op : Oper} {a : Act} {q : Nat} (x y : Operand) (ho : op.op = .binOp .and 2 x y 2) (hx : a.eval x = .int .i64 (q : Int)) (hy : a.eval y = .int .i64 1) (hq : q < 4611686018427387904) (w : World) : (execOp a.eval op).run Try.prog w = .ok (.value (.int .i64 ((q % 2 : Nat) : Int))) w := by
  have e : bits .and .i64 (q : Int) 1 = ((q % 2 : Nat) : Int) := by
    have := i64_and_nat q 1 hq (by decide)
    rw [Nat.and_one_is_mod] at this
    exact this
  generalize q % 2 = r at *
  unfold execOp
  simp only [ho, hx, hy]
  go_simp
theorem eq0_run {op : Oper} {a : Act} {r : Nat} {b : Bool} (x y : Operand) (ho : op.op = .binOp .eql 2 x y 2) (hx : a.eval x = .int .i64 (r : Int)) (hy : a.eval y = .int .i64 0) (hb : (((r : Int)) == 0) = b) (w : World) : (execOp a.eval op).run Try.prog w = .ok (.value (.bool b)) w := by
  subst hb
  unfold execOp
  simp only [ho, hx, hy]
  go_simp
/-- Where readCommand stands. -/
structure RI (w wr : World) (B : Nat) (c : Cm) (v : Value) (l : List Nat) (at_ : Nat) : Prop where
  fr : Fr w wr (fun b => b = B)
  blk : Blk wr B 27 c.cs
  by' : By wr v l
  le : at_ ≤ l.length
theorem RI.below {w wr w' : World} {B : Nat} {c : Cm} {v : Value} {l : List Nat} {at_ : Nat} (h : RI w wr B c v l at_) (hb : Below wr.heap.size wr w') : RI w w' B c v l at_ :=
  ⟨h.fr.trans (Fr.of_below hb (fun b => b = B)) fun i _ q => by rcases q with q | q <;> exact q, h.blk.below hb h.blk.lt, h.by'.below hb, h.le⟩
theorem RI.next {w wr w' : World} {B : Nat} {c c' : Cm} {v : Value} {l : List Nat} {at_ a : Nat} (h : RI w wr B c v l at_) (hv : l = [] ∨ ∀ q, v.ownBlock = some q → ¬ q = B) (hf : Fr wr w' (fun b => b = B)) (hb : Blk w' B 27 c'.cs) (ha : a ≤ l.length) : RI w w' B c' v l a :=
  ⟨h.fr.trans hf fun i _ q => by rcases q with q | q <;> exact q, hb, h.by'.frE hf hv, ha⟩
set_option maxRecDepth 100000 in
set_option maxHeartbeats 4000000 in
theorem readCommand_any {w : World} {B : Nat} {v : Value} {l : List Nat} (hb : Blk w B 27 zeroC.cs) (h : By w v l) (hl : l.length ≤ 9223372036854775807) (hv : l = [] ∨ ∀ q, v.ownBlock = some q → ¬ q = B) :
    Calls Try.prog 31 #[v, .pointer (some ⟨B, 0, none⟩)] w fun e w' => ReaR w B (rdC l) e w' := by
  have hr0 := readNumber_any h (by omega) 0 1 9 (Nat.zero_le _) (by decide)
  have HV : Hid (l = [] ∨ ∀ q, v.ownBlock = some q → ¬ q = B) := hv
  have HI : Hid (RI w w B zeroC v l 0) := ⟨Fr.refl _ _, hb, h, Nat.zero_le _⟩
  have hbb := h.bb
  have c0 : w.cell? ⟨B, 0, none⟩ = some (.int .i64 0) := hb.cell 0
  have f0 : w.frozen? ⟨B, 0, none⟩ = false := hb.frozen 0
  clear hv hb h
  obtain ⟨X, hX⟩ : ∃ X, X = rdC l := ⟨_, rfl⟩
  rw [← hX]
  unfold rdC at hX
  cases h0 : rn l 0 1 9 with
  | none =>
    rw [h0] at hX hr0
    simp only at hX
    subst hX
    simp only [rnV] at hr0
    have HF : Hid (Fr w w (fun b => b = B)) := Fr.refl _ _
    go_enter Try.func31, Try.ntmps31
    go_wp2_with (go_at_call 45; fail)
    refine hr0.mono ?_
    rintro e w1 ⟨rfl, ew⟩
    replace ew := ew.symm
    subst ew
    go_wp2
    go_ret2
    exact ⟨rfl, HF⟩
  | some p =>
    obtain ⟨kz, a1⟩ := p
    have hb0 := rn_bd hbb h0
    rw [h0] at hX hr0
    simp only at hX
    simp only [rnV] at hr0
    have HB1 : Hid (RI w (w.setCell ⟨B, 0, none⟩ (.int .i64 kz)) B { zeroC with k := kz } v l a1) := HI.out.next HV.out (Fr.setCell _ _ _ _ rfl) (HI.out.blk.set 0 _) hb0.2.2.2
    have hr1 := readNumber_any HB1.out.by' (by omega) a1 0 16777215 hb0.2.2.2 (by decide)
    clear HI
    cases h1 : rn l a1 0 16777215 with
    | none =>
      rw [h1] at hX hr1
      simp only at hX
      subst hX
      simp only [rnV] at hr1
      go_enter Try.func31, Try.ntmps31
      go_wp2_with (go_at_call 45; fail)
      refine hr0.mono ?_
      rintro e w1 ⟨rfl, ew⟩
      replace ew := ew.symm
      subst ew
      go_wp2_with (go_at_call 45; fail)
      refine hr1.mono ?_
      rintro e w2 ⟨rfl, ew⟩
      replace ew := ew.symm
      subst ew
      have HF : Hid (Fr w (w.setCell ⟨B, 0, none⟩ (.int .i64 kz)) (fun b => b = B)) := HB1.out.fr
      clear hr0 hr1 HB1 c0 f0
      generalize w.setCell ⟨B, 0, none⟩ (.int .i64 kz) = W1 at *
      go_wp2
      go_ret2
      exact ⟨rfl, HF⟩
    | some p =>
      obtain ⟨mz, a2⟩ := p
      have hb1 := rn_bd hbb h1
      obtain ⟨m, rfl⟩ : ∃ m : Nat, mz = m := ⟨mz.toNat, by omega⟩
      rw [h1] at hX hr1
      simp only [Int.toNat_natCast] at hX
      simp only [rnV] at hr1
      have hm24 : m < 16777216 := by omega
      have HX : Hid (X = rdU l m a2 { zeroC with k := kz } 24) := hX
      have HI1 : Hid (RI w (w.setCell ⟨B, 0, none⟩ (.int .i64 kz)) B { zeroC with k := kz } v l a2) := ⟨HB1.out.fr, HB1.out.blk, HB1.out.by', hb1.2.2.2⟩
      have hA2 : a2 ≤ 20 := by have x1 := rn_bd10 hbb h0; have x2 := rn_bd10 hbb h1; omega
      clear hX HB1 h0 h1 hb0 hb1
      go_enter Try.func31, Try.ntmps31
      go_wp2_with (go_at_call 45; fail)
      refine hr0.mono ?_
      rintro e w1 ⟨rfl, ew⟩
      replace ew := ew.symm
      subst ew
      go_wp2_with (go_at_call 45; fail)
      refine hr1.mono ?_
      rintro e w2 ⟨rfl, ew⟩
      replace ew := ew.symm
      subst ew
      clear hr0 hr1 c0 f0
      generalize w.setCell ⟨B, 0, none⟩ (.int .i64 kz) = W1 at *
      generalize ({ zeroC with k := kz } : Cm) = c0 at *
      go_wp2_with (go_at_call 29; fail)
      refine (fieldsOf_any B W1).mono ?_
      rintro e W2 ⟨rfl, hb2⟩
      have HI2 : Hid (RI w W2 B c0 v l a2) := HI1.out.below hb2.out
      clear hb2 HI1
      have HFx : Hid (∀ (i : Nat), i < 24 → ∀ W : World, Sem.run Try.prog (Instr.index 72 (.agg (fAll B)) (.int .i64 (i : Int))) W = .ok (.iface (fTy i) (fVal i B)) W) := fun i hi W => findex_at i hi B W
      generalize fAll B = FA at *
      go_wp2
      go_loopw [7, 8, 37] (fun a o x wr => ∃ (i at_ : Nat) (c : Cm), i ≤ 24 ∧ x = .int .i64 i ∧ a = .int .i64 at_ ∧ o = .bool true ∧ Hid (rdU l m a2 c0 i = .ok (at_, c) ∧ RI w wr B c v l at_)) (fun _ _ x _ => 24 - (intOf x).toNat)
      case atStart => exact ⟨0, a2, c0, by omega, rfl, rfl, rfl, rfl, HI2.out⟩
      case round =>
        clear HI2
        obtain ⟨i, at_, c, hi, rfl, rfl, rfl, HR⟩ := hrel
        by_cases hlt : i < 24
        · as_aux_lemma =>
          have hlt' : (i : Int) < 24 := by omega
          have hix := HFx.out i hlt
          have hat70 : at_ ≤ 1000000 := by have := rdU_bd70 hbb HR.out.1; omega
          have hre := rea_at HR.out.2.blk hlt HR.out.2.by' hl hat70 HR.out.2.le
          clear hat70
          have c1 := cfRea i hlt
          have m1 := mRea i hlt B
          have HU : Hid (rdU l m a2 c0 (i + 1) = if m / 2 ^ i % 2 = 0 then .ok (at_, c) else rdF l i at_ c) := by
            show rdU l m a2 c0 (i + 1) = _
            simp only [rdU, HR.out.1]
          have HErr : Hid (∀ p, rdU l m a2 c0 (i + 1) = .error p → X = .error p) := fun p hp => by
            rw [HX.out]
            have : ∀ n, i + 1 ≤ n → rdU l m a2 c0 n = .error p := fun n hn => by
              induction n with
              | zero => omega
              | succ n ih =>
                by_cases e : i + 1 = n + 1
                · rw [← e]; exact hp
                · have := ih (by omega)
                  show (match rdU l m a2 c0 n with
                    | .error p => Except.error p
                    | .ok (a, c) => if m / 2 ^ n % 2 = 0 then .ok (a, c) else rdF l n a c) = _
                  rw [this]
            exact this 24 (by omega)
          have hmd : m / 2 ^ i < 4611686018427387904 := Nat.lt_of_le_of_lt (Nat.div_le_self _ _) (by omega)
          clear HFx HX
          generalize fTy i = T at *
          generalize fVal i B = V at *
          generalize fRea i = F1 at *
          go_upto_region 11 with fail
          rename_i K11 hK11
          refine wp_region_lit ?_
          refine wpList_runTo rfl (some 41) rfl (.int .i64 (m : Int)) wr (by kernel_rfl) ?_
          simp only [Act.put, List.setIfInBounds_toArray, List.set_cons_zero, List.set_cons_succ]
          refine wpList_runTo rfl (some 42) rfl (.int .i64 (i : Int)) wr (by kernel_rfl) ?_
          simp only [Act.put, List.setIfInBounds_toArray, List.set_cons_zero, List.set_cons_succ]
          refine wpList_runTo rfl (some 43) rfl (.int .i64 ((m / 2 ^ i : Nat) : Int)) wr (by exact shr_run (.tmp 41) (.tmp 42) rfl (by kernel_rfl) (by kernel_rfl) hlt hm24 _) ?_
          simp only [Act.put, List.setIfInBounds_toArray, List.set_cons_zero, List.set_cons_succ]
          refine wpList_runTo rfl (some 44) rfl (.int .i64 ((m / 2 ^ i % 2 : Nat) : Int)) wr (by exact and1_run (.tmp 43) (.const (.int .i64 1)) rfl (by kernel_rfl) rfl hmd _) ?_
          simp only [Act.put, List.setIfInBounds_toArray, List.set_cons_zero, List.set_cons_succ]
          by_cases hz : m / 2 ^ i % 2 = 0
          · have hz' : (((m / 2 ^ i % 2 : Nat) : Int) == 0) = true := by rw [hz]; rfl
            have HF : Hid (rdU l m a2 c0 (i + 1) = .ok (at_, c) ∧ RI w wr B c v l at_) := ⟨by rw [HU.out, if_pos hz], HR.out.2⟩
            refine wpList_runTo rfl (some 45) rfl (.bool true) wr (by exact eq0_run (.tmp 44) (.const (.int .i64 0)) rfl (by kernel_rfl) rfl hz' _) ?_
            simp only [Act.put, List.setIfInBounds_toArray, List.set_cons_zero, List.set_cons_succ]
            refine wpList_nil ?_
            refine hK11 _ _ ?_
            clear hK11 hz hz' HU HErr hre HR c1 m1
            generalize m / 2 ^ i % 2 = z1 at *
            generalize m / 2 ^ i = z2 at *
            go_wp2
            exact ⟨⟨i + 1, at_, c, by omega, by go_num, rfl, rfl, HF⟩, by simp [intOf]; omega⟩
          · have hz' : (((m / 2 ^ i % 2 : Nat) : Int) == 0) = false := by
              rw [← Bool.not_eq_true]
              intro e
              exact hz (by have := eq_of_beq e; omega)
            have HU2 : Hid (rdU l m a2 c0 (i + 1) = rdF l i at_ c) := by
              show _ = _
              rw [HU.out, if_neg hz]
            refine wpList_runTo rfl (some 45) rfl (.bool false) wr (by exact eq0_run (.tmp 44) (.const (.int .i64 0)) rfl (by kernel_rfl) rfl hz' _) ?_
            simp only [Act.put, List.setIfInBounds_toArray, List.set_cons_zero, List.set_cons_succ]
            refine wpList_nil ?_
            refine hK11 _ _ ?_
            clear hK11 hz hz' HU
            generalize m / 2 ^ i % 2 = z1 at *
            generalize m / 2 ^ i = z2 at *
            go_upto_region 12 with fail
            rename_i K12 hK12
            refine wp_region_lit ?_
            refine wpList_runTo rfl (some 47) rfl (.iface T V) wr (by kernel_rfl) ?_
            simp only [Act.put, List.setIfInBounds_toArray, List.set_cons_zero, List.set_cons_succ]
            refine wpList_runTo rfl (some 48) rfl (v) wr (by kernel_rfl) ?_
            simp only [Act.put, List.setIfInBounds_toArray, List.set_cons_zero, List.set_cons_succ]
            refine wpList_runTo rfl (some 49) rfl (.int .i64 (at_ : Int)) wr (by kernel_rfl) ?_
            simp only [Act.put, List.setIfInBounds_toArray, List.set_cons_zero, List.set_cons_succ]
            refine wpList_callW rfl (some 50) rfl F1 #[V, v, .int .i64 (at_ : Int)] (inv2_run "outcry/tape.read" (.tmp 47) (.tmp 48) (.tmp 49) rfl (by kernel_rfl) (by kernel_rfl) (by kernel_rfl) (m1 wr) c1) hre ?_
            clear hre m1 c1
            intro e W3 hx
            cases hq : rdF l i at_ c with
            | error p =>
              rw [hq] at hx
              obtain ⟨rfl, hx2⟩ := hx
              have hX := HErr.out p (by rw [HU2.out, hq])
              have HF : Hid (Fr w W3 (fun b => b = B)) := HR.out.2.fr.trans hx2.out fun i _ q => by rcases q with q | q <;> exact q
              refine ⟨_, rfl, ?_⟩
              subst hX
              clear hx2 HErr HU2 hq HR
              simp only [Act.put, List.setIfInBounds_toArray, List.set_cons_zero, List.set_cons_succ]
              refine wpList_runTo rfl (some 46) rfl (.tuple #[.int .i64 (p : Int), .bool false]) W3 (by kernel_rfl) ?_
              simp only [Act.put, List.setIfInBounds_toArray, List.set_cons_zero, List.set_cons_succ]
              refine wpList_runTo rfl (some 51) rfl (.int .i64 (p : Int)) W3 (by kernel_rfl) ?_
              simp only [Act.put, List.setIfInBounds_toArray, List.set_cons_zero, List.set_cons_succ]
              refine wpList_runTo rfl (some 52) rfl (.bool false) W3 (by kernel_rfl) ?_
              simp only [Act.put, List.setIfInBounds_toArray, List.set_cons_zero, List.set_cons_succ]
              refine wpList_runTo rfl (some 7) rfl (.int .i64 (p : Int)) W3 (by kernel_rfl) ?_
              simp only [Act.put, List.setIfInBounds_toArray, List.set_cons_zero, List.set_cons_succ]
              refine wpList_runTo rfl (some 8) rfl (.bool false) W3 (by kernel_rfl) ?_
              simp only [Act.put, List.setIfInBounds_toArray, List.set_cons_zero, List.set_cons_succ]
              refine wpList_nil ?_
              refine hK12 _ _ ?_
              clear hK12
              go_wp2
              go_ret2
              exact ⟨rfl, HF⟩
            | ok q =>
              obtain ⟨a', c'⟩ := q
              rw [hq] at hx
              obtain ⟨rfl, hx2⟩ := hx
              have hbd := rdF_bd hbb hq
              have HF : Hid (rdU l m a2 c0 (i + 1) = .ok (a', c') ∧ RI w W3 B c' v l a') := ⟨by rw [HU2.out, hq], HR.out.2.next HV.out hx2.out.2 hx2.out.1 hbd.2⟩
              refine ⟨_, rfl, ?_⟩
              clear hx2 HErr HU2 hq HR hbd
              simp only [Act.put, List.setIfInBounds_toArray, List.set_cons_zero, List.set_cons_succ]
              refine wpList_runTo rfl (some 46) rfl (.tuple #[.int .i64 (a' : Int), .bool true]) W3 (by kernel_rfl) ?_
              simp only [Act.put, List.setIfInBounds_toArray, List.set_cons_zero, List.set_cons_succ]
              refine wpList_runTo rfl (some 51) rfl (.int .i64 (a' : Int)) W3 (by kernel_rfl) ?_
              simp only [Act.put, List.setIfInBounds_toArray, List.set_cons_zero, List.set_cons_succ]
              refine wpList_runTo rfl (some 52) rfl (.bool true) W3 (by kernel_rfl) ?_
              simp only [Act.put, List.setIfInBounds_toArray, List.set_cons_zero, List.set_cons_succ]
              refine wpList_runTo rfl (some 7) rfl (.int .i64 (a' : Int)) W3 (by kernel_rfl) ?_
              simp only [Act.put, List.setIfInBounds_toArray, List.set_cons_zero, List.set_cons_succ]
              refine wpList_runTo rfl (some 8) rfl (.bool true) W3 (by kernel_rfl) ?_
              simp only [Act.put, List.setIfInBounds_toArray, List.set_cons_zero, List.set_cons_succ]
              refine wpList_nil ?_
              refine hK12 _ _ ?_
              clear hK12
              go_wp2
              exact ⟨⟨i + 1, a', c', by omega, by go_num, rfl, rfl, HF⟩, by simp [intOf]; omega⟩
        · as_aux_lemma =>
          have hi24 : i = 24 := by omega
          subst hi24
          have hX : X = .ok (at_, c) := by rw [HX.out]; exact HR.out.1
          subst hX
          have HF : Hid (Blk wr B 27 c.cs ∧ Fr w wr (fun b => b = B)) := ⟨HR.out.2.blk, HR.out.2.fr⟩
          clear HR HX HFx
          go_wp2
          go_ret2
          exact ⟨rfl, HF⟩
end Go.Proofs.Ytjnnecoikcmaeaa
