/-
  ledger: sums (plain); a law's own ledger; what the statements begin with.
-/
import Derived.Test.YtidhahooebepfaaJNet
namespace Go.Proofs.Ytidhahooebepfaa
set_option linter.unusedVariables false
set_option linter.unusedSimpArgs false
open Go.RowKit Go.Great Go.Maps

def selB (g : Am → Int) (ac sy : ByteArray) : List Bk → Int
  | [] => 0
  | b :: l => (if ac = b.ac ∧ sy = b.sy then g b.am else 0) + selB g ac sy l
def selT (g : Bk → Int) (ac : ByteArray) : List Bk → Int
  | [] => 0
  | b :: l => (if ac = b.ac then g b else 0) + selT g ac l
theorem amt_adds (g : Am → Int) (ga : ∀ a b, g (Am.add a b) = g a + g b) (ac sy : ByteArray) : ∀ (l A : List Bk), g (amt (l.foldl lnAdd A) ac sy) = g (amt A ac sy) + selB g ac sy l
  | [], A => by simp [selB]
  | b :: l, A => by
    show g (amt (l.foldl lnAdd (lnAdd A b)) ac sy) = _
    rw [amt_adds g ga ac sy l (lnAdd A b), amt_add]
    simp only [selB]
    split
    · rename_i h
      rw [ga, h.1, h.2]; omega
    · omega
theorem tot_adds1 (ac : ByteArray) : ∀ (l : List Bk) (O : List To), (tot (l.foldl toAdd O) ac).1 = (tot O ac).1 + selT (fun b => b.c - b.f) ac l
  | [], O => by simp [selT]
  | b :: l, O => by
    show (tot (l.foldl toAdd (toAdd O b)) ac).1 = _
    rw [tot_adds1 ac l (toAdd O b), tot_add]
    simp only [selT]
    split
    · rename_i h
      rw [h]; simp only; omega
    · omega
theorem tot_adds2 (ac : ByteArray) : ∀ (l : List Bk) (O : List To), (tot (l.foldl toAdd O) ac).2 = (tot O ac).2 + selT (fun b => b.f) ac l
  | [], O => by simp [selT]
  | b :: l, O => by
    show (tot (l.foldl toAdd (toAdd O b)) ac).2 = _
    rw [tot_adds2 ac l (toAdd O b), tot_add]
    simp only [selT]
    split
    · rename_i h
      rw [h]; simp only; omega
    · omega
theorem addsL_A (G : Lg) (l : List Bk) : (addsL G l).A = l.foldl lnAdd G.A := by
  induction l generalizing G with
  | nil => rfl
  | cons b l ih => exact ih (G.add b)
theorem addsL_T (G : Lg) (l : List Bk) : (addsL G l).T = l.foldl lnAdd G.T := by
  induction l generalizing G with
  | nil => rfl
  | cons b l ih => exact ih (G.add b)
theorem addsL_O (G : Lg) (l : List Bk) : (addsL G l).O = l.foldl toAdd G.O := by
  induction l generalizing G with
  | nil => rfl
  | cons b l ih => exact ih (G.add b)
theorem DK.adds {T : List Bk} (h : DK T) : ∀ l : List Bk, DK (l.foldl lnAdd T)
  | [] => h
  | b :: l => (h.add b).adds l
theorem NZ.adds {T : List Bk} (h : NZ T) : ∀ l : List Bk, NZ (l.foldl lnAdd T)
  | [] => h
  | b :: l => (h.add b).adds l
theorem sumB_adds (g : Am → Int) (g0 : g Am.zero = 0) (ga : ∀ a b, g (Am.add a b) = g a + g b) : ∀ (l : List Bk) {T : List Bk}, DK T → sumB (fun b => g b.am) (l.foldl lnAdd T) = sumB (fun b => g b.am) T + sumB (fun b => g b.am) l
  | [], T, _ => by simp [sumB]
  | b :: l, T, h => by
    show sumB _ (l.foldl lnAdd (lnAdd T b)) = _
    rw [sumB_adds g g0 ga l (h.add b), sumB_add g g0 ga h b]
    simp only [sumB]; omega
/-- A law's own ledger. -/
structure Lv (w W : World) (G : Lg) : Prop where
  at' : LgAt W G
  bel : Below w.heap.size w W
  low : ∀ b, G.own b → w.heap.size ≤ b
section
variable {w W W' : World} {G G' : Lg}
theorem Lv.below (h : Lv w W G) (hb : Below W.heap.size W W') : Lv w W' G := ⟨h.at'.below hb, below_step h.bel hb, h.low⟩
theorem Lv.step (h : Lv w W G) (hat : LgAt W' G') (hf : Fr W W' G.own) (ho : ∀ b, G'.own b → G.own b ∨ W.heap.size ≤ b) : Lv w W' G' :=
  ⟨hat, ⟨hf.os.trans h.bel.os, hf.tape.trans h.bel.tape, hf.output.trans h.bel.output, Nat.le_trans h.bel.size hf.size, fun q hq => (hf.block q (Nat.lt_of_lt_of_le hq h.bel.size) (fun e => by have := h.low q e; omega)).trans (h.bel.block q hq)⟩, fun b hb => by
    rcases ho b hb with h1 | h1
    · exact h.low b h1
    · exact Nat.le_trans h.bel.size h1⟩
theorem Lv.new {w0 : World} (hb : Below w.heap.size w w0) (h : Nw w0 W G) : Lv w W G := ⟨h.at', below_step hb h.bel, fun b hb' => Nat.le_trans hb.size (h.low b hb')⟩
theorem Nw.bd {w0 : World} (h : Nw w0 W G) : Bd G 0 0 := by
  refine ⟨fun ac sy => ?_, fun ac sy => ?_, fun ac => ?_, by rw [h.A]; exact Nat.le_refl _, by rw [h.T]; exact Nat.le_refl _, by rw [h.O]; exact Nat.le_refl _⟩
  · rw [h.A]; exact (show Am.inn 0 Am.zero from ⟨by decide, by decide, by decide, by decide, by decide, by decide⟩)
  · rw [h.T]; exact (show Am.inn 0 Am.zero from ⟨by decide, by decide, by decide, by decide, by decide, by decide⟩)
  · rw [h.O]; exact (show -(0 : Int) ≤ 0 ∧ (0 : Int) ≤ 0 ∧ -(0 : Int) ≤ 0 ∧ (0 : Int) ≤ 0 from ⟨by decide, by decide, by decide, by decide⟩)
end
theorem Bd.traded {G : Lg} {t : Tr} {B M : Int} {n : Nat} (h : Bd G B n) (hb : ∀ b ∈ bkL t, b.inn M) (hM : 0 ≤ M) (tv bv : Value) : Bd (G.traded t tv bv) (B + 3 * M) (n + 3) := by
  have hl := bkL_len t
  have h1 := h.adds hb hM (bkL t).length (Nat.le_refl _)
  rw [List.take_length] at h1
  have hmul : ((bkL t).length : Int) * M ≤ 3 * M := Int.mul_le_mul_of_nonneg_right (by omega) hM
  have up : ∀ a : Am, a.inn (B + (bkL t).length * M) → a.inn (B + 3 * M) := fun a ⟨a1, a2, a3, a4, a5, a6⟩ => ⟨by omega, by omega, by omega, by omega, by omega, by omega⟩
  refine ⟨fun ac sy => up _ (h1.a ac sy), fun ac sy => up _ (h1.t ac sy), fun ac => ?_, Nat.le_trans h1.la (by omega), Nat.le_trans h1.lt (by omega), Nat.le_trans h1.lo (by omega)⟩
  obtain ⟨k1, k2, k3, k4⟩ := h1.o ac
  exact ⟨by show _ ≤ (tot (addsL G (bkL t)).O ac).1; omega, by show (tot (addsL G (bkL t)).O ac).1 ≤ _; omega, by show _ ≤ (tot (addsL G (bkL t)).O ac).2; omega, by show (tot (addsL G (bkL t)).O ac).2 ≤ _; omega⟩
def sa : ByteArray := ⟨#[97]⟩
def sb : ByteArray := ⟨#[98]⟩
def sX : ByteArray := ⟨#[88]⟩
def tS : Tr := ⟨sX, sa, sb, 100, 10, 3, -1⟩
theorem tS_inn : ∀ b ∈ bkL tS, b.inn 1006 := bkL_inn (t := tS) (V := 1000) (F := 3) (by decide) (by decide) (by decide) (by decide) (by decide) (by decide)
set_option maxRecDepth 100000 in
set_option maxHeartbeats 4000000 in
theorem shown_any (w : World) : Calls Try.prog 8 #[] w fun e w' => e = .returned (.bool true) ∧ Below w.heap.size w w' := by
  have hm : (1006 : Nat) + 3 < maxLen := by decide
  have v1 : ∀ G : Lg, G.A = [] → amt (addsL G (bkL tS)).A sa sX = ⟨10, -1000, 3⟩ := fun G e => by rw [addsL_A, e]; kernel_rfl
  have v2 : ∀ G : Lg, G.O = [] → tot (addsL G (bkL tS)).O sb = (1001, -1) := fun G e => by rw [addsL_O, e]; kernel_rfl
  have v3 : ∀ G : Lg, G.O = [] → tot (addsL G (bkL tS)).O sE = (2, -2) := fun G e => by rw [addsL_O, e]; kernel_rfl
  have v4 : ∀ G : Lg, G.T = [] → (addsL G (bkL tS)).T.length = 3 := fun G e => by rw [addsL_T, e]; kernel_rfl
  have HV : Hid ((∀ G : Lg, G.A = [] → amt (addsL G (bkL tS)).A sa sX = ⟨10, -1000, 3⟩) ∧ (∀ G : Lg, G.O = [] → tot (addsL G (bkL tS)).O sb = (1001, -1)) ∧ (∀ G : Lg, G.O = [] → tot (addsL G (bkL tS)).O sE = (2, -2)) ∧ (∀ G : Lg, G.T = [] → (addsL G (bkL tS)).T.length = 3)) := ⟨v1, v2, v3, v4⟩
  clear v1 v2 v3 v4
  go_enter Try.func8, Try.ntmps8
  go_wp2_with (go_at_call 9; fail)
  refine (New_any _).mono ?_
  rintro e w1 ⟨G, rfl, hnw⟩
  have HNw : Hid (Nw w w1 G) := hnw
  clear hnw
  have htr := Trade_yes G tS w1 HNw.out.at' ⟨by decide, by decide, by decide⟩ (by decide) HNw.out.bd tS_inn (by decide) (by decide) (by decide) (by decide) (by rw [HNw.out.bs]; decide) (by rw [HNw.out.ts]; decide)
  go_wp2_with (go_at_call 10; fail)
  refine htr.mono ?_
  rintro e w2 ⟨rfl, tv, bv, hat, hf, ho⟩
  have HL2 : Hid (Lv w w2 (G.traded tS tv bv)) := (Lv.new (Below.refl _ w) HNw.out).step hat hf ho
  clear hat hf ho htr
  have HE : Hid ((G.traded tS tv bv).g = G.g ∧ amt (G.traded tS tv bv).A sa sX = ⟨10, -1000, 3⟩ ∧ tot (G.traded tS tv bv).O sb = (1001, -1) ∧ tot (G.traded tS tv bv).O sE = (2, -2) ∧ (G.traded tS tv bv).T.length = 3) := ⟨(addsL_same G _).1, HV.out.1 G HNw.out.A, HV.out.2.1 G HNw.out.O, HV.out.2.2.1 G HNw.out.O, HV.out.2.2.2 G HNw.out.T⟩
  generalize G.traded tS tv bv = G2 at *
  have hb1 := fun (W : World) (h : LgAt W G2) => Balance_any G2 sa sX W h (by decide) (by decide)
  rw [HE.out.1, HE.out.2.1] at hb1
  go_wp2_with (go_at_call 13; fail)
  refine (hb1 _ HL2.out.at').mono ?_
  rintro e w3 ⟨rfl, hb3⟩
  have HL3 : Hid (Lv w w3 G2) := HL2.out.below hb3
  clear hb3 HL2
  have hb2 := fun (W : World) (h : LgAt W G2) => Cash_any G2 sb W h (by decide)
  rw [HE.out.1, HE.out.2.2.1] at hb2
  go_wp2_with (go_at_call 15; fail)
  refine (hb2 _ HL3.out.at').mono ?_
  rintro e w4 ⟨rfl, hb4⟩
  have HL4 : Hid (Lv w w4 G2) := HL3.out.below hb4
  clear hb4 HL3
  have hb3 := fun (W : World) (h : LgAt W G2) => Cash_any G2 sE W h (by decide)
  rw [HE.out.1, HE.out.2.2.2.1] at hb3
  go_wp2_with (go_at_call 15; fail)
  refine (hb3 _ HL4.out.at').mono ?_
  rintro e w5 ⟨rfl, hb5⟩
  have HL5 : Hid (Lv w w5 G2) := HL4.out.below hb5
  clear hb5 HL4
  have hb4 := fun (W : World) (h : LgAt W G2) => Net_any G2 W h (by rw [HE.out.2.2.2.2]; decide)
  rw [HE.out.1] at hb4
  go_wp2_with (go_at_call 18; fail)
  refine (hb4 _ HL5.out.at').mono ?_
  rintro e w6 ⟨v, net, rfl, hn⟩
  obtain ⟨ao, cap, hv, _⟩ := hn.out.row.form
  have hlen : net.length = 3 := by rw [hn.out.perm.length_eq, HE.out.2.2.2.2]
  rw [hlen] at hv
  subst hv
  have HF : Hid (Below w.heap.size w w6) := below_step HL5.out.bel hn.out.bel
  clear hn HL5 hb1 hb2 hb3 hb4
  go_wp2
  go_ret
  exact ⟨rfl, HF.out⟩
end Go.Proofs.Ytidhahooebepfaa
