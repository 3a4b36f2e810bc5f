/-
  LedgerMany: the walk.
-/
import Derived.Test.YtidhahooebepfaaJLaw0
namespace Go.Proofs.Ytidhahooebepfaa
set_option linter.unusedVariables false
set_option linter.unusedSimpArgs false
open Go.RowKit Go.Great Go.Maps

/-- Which of n things a raw number speaks of. -/
def pickN (c : Int) (n : Nat) : Nat := (if c < 0 then (-(c + 1)) % (n : Int) else c % (n : Int)).toNat
theorem pickN_lt (c : Int) {n : Nat} (h : 0 < n) : pickN c n < n := by
  unfold pickN
  have h1 := Int.emod_lt_of_pos (-(c + 1)) (show (0 : Int) < n by omega)
  have h2 := Int.emod_nonneg (-(c + 1)) (show (n : Int) ≠ 0 by omega)
  have h3 := Int.emod_lt_of_pos c (show (0 : Int) < n by omega)
  have h4 := Int.emod_nonneg c (show (n : Int) ≠ 0 by omega)
  split <;> omega
set_option maxRecDepth 100000 in
set_option maxHeartbeats 400000 in
theorem pick_any (c x : Int) (n : Nat) (hx : x = n) (w : World) (hn : 0 < n) (hn1 : n ≤ 9223372036854775807) (h0 : -9223372036854775808 ≤ c) (h1 : c ≤ 9223372036854775807) :
    Calls Try.prog 11 #[.int .i64 c, .int .i64 x] w fun e w' => e = .returned (.int .i64 (pickN c n : Int)) ∧ w' = w := by
  subst hx
  have hp := pickN_lt c hn
  have hn' : ¬ (n : Int) = 0 := by omega
  by_cases hc : c < 0
  · have e : (c + 1).tmod (n : Int) = -(pickN c n : Int) := by
      have h2 := Int.emod_nonneg (-(c + 1)) (show (n : Int) ≠ 0 by omega)
      unfold pickN
      rw [if_pos hc, Int.toNat_of_nonneg h2, ← Int.tmod_eq_emod_of_nonneg (by omega), Int.neg_tmod, Int.neg_neg]
    generalize pickN c n = p at *
    go_enter Try.func11, Try.ntmps11
    go_wp2
    go_ret
    exact ⟨rfl, rfl⟩
  · have hc' : 0 ≤ c := by omega
    have e : c % (n : Int) = (pickN c n : Int) := by
      have h2 := Int.emod_nonneg c (show (n : Int) ≠ 0 by omega)
      unfold pickN
      rw [if_neg hc, Int.toNat_of_nonneg h2]
    generalize pickN c n = p at *
    go_enter Try.func11, Try.ntmps11
    go_wp2
    go_ret
    exact ⟨rfl, rfl⟩
def tM : Tr := ⟨sX, sa, sb, 2, 1, 0, 0⟩
def tW : Tr := ⟨sX, sa, sb, 0, 1, 0, 0⟩
theorem tM_inn : ∀ b ∈ bkL tM, b.inn 2 := bkL_inn (t := tM) (V := 2) (F := 0) (by decide) (by decide) (by decide) (by decide) (by decide) (by decide)
theorem tM_sz : tM.sz := ⟨by decide, by decide, by decide⟩
structure MI (w W : World) (G : Lg) (i : Nat) : Prop where
  lv : Lv w W G
  bd : Bd G (6 * (i : Int)) (3 * i)
  bs : G.bs = List.replicate i false
  ts : G.ts = List.replicate i tM
  q : (amt G.A sa sX).q = i
  c : (amt G.A sa sX).c = -2 * (i : Int)
theorem MI.start {w w0 W : World} {G : Lg} (hb : Below w.heap.size w w0) (h : Nw w0 W G) : MI w W G 0 :=
  ⟨Lv.new hb h, h.bd, h.bs, h.ts, by rw [h.A]; rfl, by rw [h.A]; rfl⟩
theorem sel_q : selB Am.q sa sX (bkL tM) = 1 := by kernel_rfl
theorem sel_c : selB Am.c sa sX (bkL tM) = -2 := by kernel_rfl
theorem sel_q' : selB Am.q sa sX ((bkL tM).map Bk.opp) = -1 := by kernel_rfl
theorem sel_c' : selB Am.c sa sX ((bkL tM).map Bk.opp) = 2 := by kernel_rfl
theorem MI.trade {w W : World} {G : Lg} {i : Nat} (h : MI w W G i) (hi : i < 100000) :
    Calls Try.prog 10 #[.pointer (some ⟨G.g, 0, none⟩), .string sX, .string sa, .string sb, .int .i64 2, .int .i64 1, .int .i64 0, .int .i64 0] W fun e w' => e = .returned (.int .i64 0) ∧ ∃ G', G'.g = G.g ∧ Hid (MI w w' G' (i + 1)) := by
  have hmx : 1000000 < maxLen := by decide
  refine (Trade_yes G tM W h.lv.at' tM_sz (by decide) h.bd tM_inn (by decide) (by omega) (by omega) (by omega) (by rw [h.bs, List.length_replicate]; exact hi) (by rw [h.ts, List.length_replicate]; exact hi)).mono fun e w' ⟨h1, tv, bv, h2, h3, h4⟩ => ⟨h1, G.traded tM tv bv, (addsL_same G _).1, ?_⟩
  have e1 : (G.traded tM tv bv).A = (bkL tM).foldl lnAdd G.A := addsL_A G _
  refine ⟨h.lv.step h2 h3 h4, ?_, ?_, ?_, ?_, ?_⟩
  · have := h.bd.traded tM_inn (by decide) tv bv
    rw [show 6 * (((i + 1 : Nat)) : Int) = 6 * (i : Int) + 3 * 2 by omega, show 3 * (i + 1) = 3 * i + 3 by omega]
    exact this
  · show (addsL G (bkL tM)).bs ++ [false] = _
    rw [(addsL_same G _).2.2.2.2.2.1, h.bs, List.replicate_succ']
  · show (addsL G (bkL tM)).ts ++ [tM] = _
    rw [(addsL_same G _).2.2.2.2.1, h.ts, List.replicate_succ']
  · rw [e1, amt_adds Am.q (fun _ _ => rfl), h.q, sel_q]; omega
  · rw [e1, amt_adds Am.c (fun _ _ => rfl), h.c, sel_c]; omega
set_option maxRecDepth 100000 in
set_option maxHeartbeats 4000000 in
theorem LedgerMany_law (a0 : Int) (h00 : -9223372036854775808 ≤ a0) (h01 : a0 ≤ 9223372036854775807) (w : World) :
    Calls Try.prog 3 #[.int .i64 a0] w fun e w' => e = .returned (.bool true) ∧ Below w.heap.size w w' := by
  have hpk := fun w => pick_any a0 100000 100000 rfl w (by omega) (by omega) h00 h01
  have hpl := pickN_lt a0 (show 0 < 100000 by omega)
  clear h00 h01
  generalize pickN a0 100000 = p at *
  go_enter Try.func3, Try.ntmps3
  go_wp2_with (go_at_call 8; fail)
  refine (shown_any _).mono ?_
  rintro e w0 ⟨rfl, hb0⟩
  have HB0 : Hid (Below w.heap.size w w0) := hb0
  clear hb0
  go_wp2_with (go_at_call 9; fail)
  refine (New_any _).mono ?_
  rintro e w1 ⟨G, rfl, hnw⟩
  have HM0 : Hid (MI w w1 G 0) := MI.start HB0.out hnw.out
  clear hnw HB0
  obtain ⟨g, hg⟩ : ∃ g, G.g = g := ⟨_, rfl⟩
  have HG : Hid (G.g = g) := hg
  rw [hg]
  clear hg
  go_wp2
  go_loopw [5] (fun x wr => ∃ (i : Nat) (G : Lg), i ≤ 100000 ∧ x = .int .i64 i ∧ Hid (G.g = g ∧ MI w wr G i)) (fun x _ => 100000 - (intOf x).toNat)
  case atStart => exact ⟨0, G, by omega, rfl, HG.out, HM0.out⟩
  case round =>
    clear HM0 HG
    obtain ⟨i, G, hi, rfl, HR⟩ := hrel
    by_cases hlt : i < 100000
    · have hlt' : (i : Int) < 100000 := by omega
      have htr := HR.out.2.trade hlt
      rw [HR.out.1] at htr
      go_wp2_with (go_at_call 10; fail)
      refine htr.mono ?_
      rintro e w2 ⟨rfl, G', hg', hm'⟩
      have HF : Hid (G'.g = g ∧ MI w w2 G' (i + 1)) := ⟨hg', hm'.out⟩
      clear hg' hm' htr HR
      go_wp2
      exact ⟨⟨i + 1, G', by omega, by go_num, HF⟩, by simp [intOf]; omega⟩
    · have hi5 : i = 100000 := by omega
      have hstop : ¬ (i : Int) < 100000 := by omega
      have HR5 : Hid (G.g = g ∧ MI w wr G 100000) := ⟨HR.out.1, hi5 ▸ HR.out.2⟩
      clear HR hi5 hlt
      have hbl : G.bs.length = 100000 := by rw [HR5.out.2.bs, List.length_replicate]
      have HBL : Hid (G.bs.length = 100000) := hbl
      clear hbl
      have ht1 := fun (W : World) (h : LgAt W G) => Trade_many G tM W h (by decide) (by rw [HBL.out]; exact Nat.le_refl _)
      rw [HR5.out.1] at ht1
      go_wp2_with (go_at_call 10; fail)
      refine (ht1 _ HR5.out.2.lv.at').mono ?_
      rintro e w2 ⟨rfl, hb2⟩
      have HL2 : Hid (Lv w w2 G) := HR5.out.2.lv.below hb2
      clear hb2
      have ht2 := fun W => Trade_arg G tW W (by decide)
      rw [HR5.out.1] at ht2
      go_wp2_with (go_at_call 10; fail)
      refine (ht2 _).mono ?_
      rintro e w3 ⟨rfl, hb3⟩
      have HL3 : Hid (Lv w w3 G) := HL2.out.below hb3
      clear hb3 HL2
      go_wp2_with (go_at_call 11; fail)
      refine (hpk _).mono ?_
      rintro e w4 ⟨rfl, ew⟩
      replace ew := ew.symm
      subst ew
      have hmx : 1000000 < maxLen := by decide
      have hbr := Break_yes (G := G) (w := w3) p 0 tM HL3.out.at' (by rw [HR5.out.2.bs, HR5.out.2.ts, List.length_replicate, List.length_replicate, Nat.zero_add]) (by rw [HR5.out.2.ts, List.getElem?_replicate, if_pos hpl]) (by rw [HR5.out.2.bs, Nat.zero_add, List.getElem?_replicate, if_pos hpl]) (by rw [HBL.out]; exact Nat.le_refl _) (by decide) HR5.out.2.bd tM_inn (by decide) (by decide) (by decide) (by omega)
      rw [HR5.out.1, show ((((0 + p : Nat) : Int)) + 1) = 1 + (p : Int) by omega] at hbr
      go_wp2_with (go_at_call 12; fail)
      refine hbr.mono ?_
      rintro e w5 ⟨rfl, h5⟩
      have HL5 : Hid (Lv w w5 ((addsL G ((bkL tM).map Bk.opp)).brokeB (0 + p))) := HL3.out.step h5.out.1 h5.out.2 (fun b hb => .inl (((addsL_same G _).2.1 b).1 hb))
      have HV : Hid (((addsL G ((bkL tM).map Bk.opp)).brokeB (0 + p)).g = g ∧ 100000 ≤ ((addsL G ((bkL tM).map Bk.opp)).brokeB (0 + p)).bs.length ∧ (amt ((addsL G ((bkL tM).map Bk.opp)).brokeB (0 + p)).A sa sX).q = 99999 ∧ (amt ((addsL G ((bkL tM).map Bk.opp)).brokeB (0 + p)).A sa sX).c = -199998) := by
        have e1 : ((addsL G ((bkL tM).map Bk.opp)).brokeB (0 + p)).A = ((bkL tM).map Bk.opp).foldl lnAdd G.A := addsL_A G _
        refine ⟨((addsL_same G _).1).trans HR5.out.1, ?_, ?_, ?_⟩
        · show 100000 ≤ ((addsL G ((bkL tM).map Bk.opp)).bs.set (0 + p) true).length
          rw [List.length_set, (addsL_same G _).2.2.2.2.2.1, HBL.out]
          exact Nat.le_refl _
        · rw [e1, amt_adds Am.q (fun _ _ => rfl), HR5.out.2.q, sel_q']; decide
        · rw [e1, amt_adds Am.c (fun _ _ => rfl), HR5.out.2.c, sel_c']; decide
      clear hbr h5 HL3
      generalize (addsL G ((bkL tM).map Bk.opp)).brokeB (0 + p) = G5 at *
      have ht3 := fun (W : World) (h : LgAt W G5) => Trade_many G5 tM W h (by decide) HV.out.2.1
      rw [HV.out.1] at ht3
      go_wp2_with (go_at_call 10; fail)
      refine (ht3 _ HL5.out.at').mono ?_
      rintro e w6 ⟨rfl, hb6⟩
      have HL6 : Hid (Lv w w6 G5) := HL5.out.below hb6
      clear hb6 HL5
      have hba := fun (W : World) (h : LgAt W G5) => Balance_any G5 sa sX W h (by decide) (by decide)
      rw [HV.out.1, HV.out.2.2.1, HV.out.2.2.2] at hba
      go_wp2_with (go_at_call 13; fail)
      refine (hba _ HL6.out.at').mono ?_
      rintro e w7 ⟨rfl, hb7⟩
      have HF : Hid (Below w.heap.size w w7) := below_step HL6.out.bel hb7
      clear hb7 HL6 hba ht3 ht2 ht1
      go_wp2
      go_ret
      exact ⟨rfl, HF.out⟩
end Go.Proofs.Ytidhahooebepfaa
