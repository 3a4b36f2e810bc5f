/-
  heap: rise.
-/
import Derived.Test.YtdnhhcbabdoomaaHTree2
namespace Go.Proofs.Ytdnhhcbabdoomaa
set_option linter.unusedVariables false
set_option linter.unusedSimpArgs false
open Go.RowKit Go.Great

def atN (w : World) (p : Nat) : Nat := match w.cell? ⟨p, 3, none⟩ with
  | some (.int _ z) => z.toNat
  | _ => 0
theorem bne_nat (a b : Nat) : (((a : Nat) : Int) != (b : Int)) = !(a == b) := by rw [Bool.eq_iff_iff]; simp; omega
theorem ret_b {a b : Bool} (h : a = b) : Ending.returned (.bool a) = .returned (.bool b) := by rw [h]
section
variable {A : Ask} {w w' : World} {h : Nat} {v : Value} {t : List (It Th)} {N c : Nat}
theorem HpM.drewN (H : HpM A w h v t N c) (hA : A.Ok) (n : Nat) : HpM A (w.drewN n) h v t N c :=
  H.fr ((Fr.refl w fun _ => False).drewN n) (fun _ _ q => q) (hA.keep H.st ((Fr.refl w fun _ => False).drewN n) fun _ q => q.elim)
theorem HpM.atN (H : HpM A w h v t N c) {k : Nat} {it : It Th} (hk : t[k]? = some it) : atN w it.p = k := by
  unfold Go.Proofs.Ytdnhhcbabdoomaa.atN; rw [(H.at hk).2.2.2]; rfl
theorem ownH_perm {t1 : List (It Th)} (hp : t1.Perm t) {b : Nat} (hb : ownH h v t1 b) : ownH h v t b := by
  rcases hb with hq | hq | ⟨it, hq1, hq2⟩
  · exact .inl hq
  · exact .inr (.inl hq)
  · exact .inr (.inr ⟨it, hp.mem_iff.1 hq1, hq2⟩)
/-- Where a loop over the tree stands. -/
structure RS (A : Ask) (w wr : World) (h : Nat) (v : Value) (t t1 : List (It Th)) (N c c1 : Nat) (k1 : Nat) (it : It Th) : Prop where
  m : HpM A wr h v t1 N c1
  at1 : t1[k1]? = some it
  pm : t1.Perm t
  fr : Fr w wr (fun b => ownH h v t b ∨ A.ex b)
theorem RS.ask {wr wx : World} {t1 : List (It Th)} {c1 k1 c2 : Nat} {it : It Th} (R : RS A w wr h v t t1 N c c1 k1 it) (H : HpM A wx h v t1 N c2) (F : Fr wr wx A.ex) : RS A w wx h v t t1 N c c2 k1 it :=
  ⟨H, R.at1, R.pm, R.fr.trans F fun b _ q => by rcases q with q | q; exact q; exact .inr q⟩
theorem RS.swp {wr wx : World} {t1 : List (It Th)} {c1 k1 c2 j : Nat} {it : It Th} (R : RS A w wr h v t t1 N c c1 k1 it) (H : HpM A wx h v (swpL t1 k1 j) N c2) (F : Fr wr wx (ownH h v t1)) (hj : j < t1.length) (hkj : k1 ≠ j) : RS A w wx h v t (swpL t1 k1 j) N c c2 j it :=
  ⟨H, by rw [swpL_get (get_lt R.at1) hj, if_neg (Ne.symm hkj), if_pos rfl]; exact R.at1, (swpL_perm (get_lt R.at1) hj).trans R.pm, R.fr.trans F fun b _ q => by rcases q with q | q; exact q; exact .inl (ownH_perm R.pm q)⟩
set_option maxRecDepth 100000 in
set_option maxHeartbeats 2000000 in
theorem rise_any (H : HpM A w h v t N c) (hA : A.Ok) {k : Nat} {it : It Th} (hk : t[k]? = some it) :
    Calls Try.prog 74 #[ptr h, ptr it.p] w fun e w' => e = .returned (.bool (!((riseL A.lt t k).2 == k))) ∧ HpM A w' h v (riseL A.lt t k).1 N (c + riseN A.lt t k) ∧ Fr w w' (fun b => ownH h v t b ∨ A.ex b) := by
  obtain ⟨a0, a1, a2, a3⟩ := H.at hk
  have HS : Hid (RS A w w h v t t N c c k it) := ⟨H, hk, List.Perm.refl _, Fr.refl _ _⟩
  have HO : Hid A.Ok := hA
  have hlen := H.le
  obtain ⟨ao, cap, hvf, hcap⟩ := H.form
  subst hvf
  have HE : Hid (riseL A.lt t k = riseL A.lt t k ∧ riseN A.lt t k = riseN A.lt t k) := ⟨rfl, rfl⟩
  have hkl := get_lt hk
  clear H hA a0 a1 a2
  generalize hR : riseL A.lt t k = R at *
  generalize hC : riseN A.lt t k = C at *
  have HR : Hid (riseL A.lt t k = R ∧ riseN A.lt t k = C) := ⟨hR, hC⟩
  clear hR hC HE
  go_enter Try.func74, Try.ntmps74
  go_wp2
  go_loopw [6] (fun x6 wr => ∃ (k1 c1 : Nat) (t1 : List (It Th)), Hid (RS A w wr h (.slice ao t.length cap) t t1 N c c1 k1 it ∧ riseL A.lt t1 k1 = R ∧ c1 + riseN A.lt t1 k1 = c + C)) (fun _ wr => atN wr it.p)
  case atStart =>
    exact ⟨k, c, t, HS.out, HR.out.1, by rw [HR.out.2]⟩
  case round =>
    obtain ⟨k1, c1, t1, HQ⟩ := hrel
    obtain ⟨a0, a1, a2, a3⟩ := HQ.out.1.m.at HQ.out.1.at1
    obtain ⟨d0, d1, d2⟩ := HQ.out.1.m.hd
    have hl1 := HQ.out.1.pm.length_eq
    have hk1 := get_lt HQ.out.1.at1
    clear a0 a1 a2 d0 d2
    by_cases h0 : k1 = 0
    · subst h0
      go_wp2
      go_ret
      obtain ⟨q1, q2, q3⟩ := HQ.out
      rw [riseL, dif_pos rfl] at q2
      rw [riseN, dif_pos rfl, Nat.add_zero] at q3
      subst q2 q3
      exact ⟨ret_b (bne_nat 0 k), q1.m, q1.fr⟩
    · have h0' : (0 : Int) < (k1 : Int) := by omega
      obtain ⟨g, off, cap', hv, h1, h2, h3, h4, h5⟩ := HQ.out.1.m.slice (by omega)
      injection hv with e1 e0 e2
      subst e1 e2
      clear e0
      have hp := parI_lt (k := k1) (by omega)
      obtain ⟨b, hb⟩ := get_some t1 (show parI k1 < t1.length by omega)
      have hc := h4 _ b hb
      have HK : Hid (parI k1 < k1 ∧ k1 < t.length) := ⟨hp, by omega⟩
      have hq : ((k1 : Int) - 1).tdiv 2 = ((parI k1 : Nat) : Int) := by
        rw [Int.tdiv_eq_ediv_of_nonneg (by omega)]; unfold parI; omega
      have hw1 : IntKind.i64.wrap ((k1 : Int) - 1) = (k1 : Int) - 1 := by rw [IntKind.wrap_i64]; omega
      have hw2 : IntKind.i64.wrap ((parI k1 : Nat) : Int) = ((parI k1 : Nat) : Int) := by rw [IntKind.wrap_i64]; omega
      have hpl : ((parI k1 : Nat) : Int) < (t.length : Int) := by omega
      have HB : Hid (t1[parI k1]? = some b) := hb
      have HL1 : Hid (t1.length = t.length) := hl1
      clear h1 h2 h3 h4 h5 hb hp hl1 hk1 hlen hcap hkl hk
      go_wp2_with fail
      go_quiet (fail)
      have HQ2 : Hid (RS A w (wr.drewN nq) h (.slice (some ⟨g, off, none⟩) t.length cap) t t1 N c c1 k1 it) := HQ.out.1.ask (HQ.out.1.m.drewN HO.out nq) ((Fr.refl wr A.ex).drewN nq)
      have HAH := ahead_any HQ2.out.m HO.out HQ2.out.at1 HB.out
      have HAB : Hid (ahAt A.lt t1 k1 (parI k1) = ahB A.lt it b) := ahAt_eq HQ2.out.at1 HB.out
      have HA3 : Hid (atN wr it.p = k1) := HQ.out.1.m.atN HQ.out.1.at1
      clear hc hq hpl d1 a3 hw1 hw2
      go_wp2_with (go_at_call 87; fail)
      refine HAH.mono ?_
      rintro e w1 ⟨rfl, hm, hf⟩
      have HQ3 : Hid (RS A w w1 h (.slice (some ⟨g, off, none⟩) t.length cap) t t1 N c (c1 + 1) k1 it) := HQ2.out.ask hm hf
      clear hm hf HAH HQ2
      generalize ahB A.lt it b = ab at *
      cases ab with
      | false =>
        have a3 := (HQ3.out.m.at HQ3.out.at1).2.2.2
        go_wp2
        go_ret
        obtain ⟨q1, q2, q3⟩ := HQ.out
        rw [riseL, dif_neg h0, if_neg (by rw [HAB.out]; decide)] at q2
        rw [riseN, dif_neg h0, if_neg (by rw [HAB.out]; decide)] at q3
        rw [← q3]
        subst q2
        exact ⟨ret_b (bne_nat k1 k), HQ3.out.m, HQ3.out.fr⟩
      | true =>
        have HSW := swap_any HQ3.out.m HO.out HQ3.out.at1 HB.out (by have := HK.out; omega)
        go_wp2_with (go_at_call 88; fail)
        refine HSW.mono ?_
        rintro e w2 ⟨rfl, hm, hf⟩
        have HQ4 : Hid (RS A w w2 h (.slice (some ⟨g, off, none⟩) t.length cap) t (swpL t1 k1 (parI k1)) N c (c1 + 1) (parI k1) it) := HQ3.out.swp hm hf (by have := HK.out; rw [HL1.out]; omega) (by have := HK.out; omega)
        clear hm hf HSW HQ3
        go_wp2
        obtain ⟨q1, q2, q3⟩ := HQ.out
        rw [riseL, dif_neg h0, if_pos HAB.out] at q2
        rw [riseN, dif_neg h0, if_pos HAB.out] at q3
        refine ⟨⟨parI k1, c1 + 1, _, HQ4.out, q2, by omega⟩, ?_⟩
        rw [HA3.out, HQ4.out.m.atN HQ4.out.at1]
        exact HK.out.1
end
end Go.Proofs.Ytdnhhcbabdoomaa
