/-
  bin: the places of a frame are read.
-/
import Derived.Test.YthadnogcocmfgaaGreatDoorBDcA
import Derived.Test.YthadnogcocmfgaaGreatDoorBLay
namespace Go.Proofs.YthadnogcocmfgaaGreatDoor
set_option linter.unusedVariables false
open Go.RowKit Go.Great Go.Lib

theorem Wrt.refl {g : Nat} (w : World) : Wrt g w w := ⟨Below.refl _ _, fun _ _ _ => rfl⟩
theorem Wrt.trans {g : Nat} {a b c : World} (h1 : Wrt g a b) (h2 : Wrt g b c) : Wrt g a c :=
  ⟨h1.below.trans h2.below, fun k hk hne => (h2.other k (Nat.lt_of_lt_of_le hk h1.size) hne).trans (h1.other k hk hne)⟩
theorem Wrt.low {g : Nat} {a b c : World} (h1 : Wrt g a b) (hg : g < b.heap.size) (h2 : Below b.heap.size b c) : Wrt g a c :=
  h1.trans (Wrt.of hg h2 (Below.refl _ _) fun _ _ => rfl)
theorem At.wrt {w w' : World} {g off m : Nat} {l : List UInt8} (h : At w g off l) (hw : Wrt m w w') (hg : g ≠ m) : At w' g off l := fun j c hj => hw.cell (h j c hj) hg
/-- What reading the places gives. -/
def BlkV (x : Except (Nat × Int) Msg) (v : Value) (mB : Nat) (w w' : World) : Prop := match x with
  | .ok M => v = .nilIface ∧ OwnM w' mB M
  | .error (k, e) => ∃ b, v = .iface 87 (.pointer (some ⟨b, 0, none⟩)) ∧ w.heap.size ≤ b ∧ FaultAt w' b (k : Nat) e
theorem rdF_err {j : Nat} {b : List UInt8} {M : Msg} {k : Nat} {e : Int} (h : rdF j b M = .error (k, e)) : (e = 42 ∨ e = 62) ∧ k ≤ b.length := by
  unfold rdF at h
  split at h
  · split at h
    · cases h; exact ⟨.inr rfl, by omega⟩
    · cases h
  · split at h
    · split at h
      · cases h; exact ⟨.inl rfl, Nat.zero_le _⟩
      · cases h
    · cases h
set_option maxRecDepth 100000 in
set_option maxHeartbeats 4000000 in
theorem readBlock_any (g off n cap mB base cv E S : Nat) (gp : Nat) (l : List UInt8) (M0 : Msg) (z : Int) (w : World) (hn : n = l.length) (hmax : n ≤ 1048576) (hcap : n ≤ cap) (hE : E = 10 + wS (js z)) (hEn : E ≤ n) (hl : At w g off l) (hg : g ≠ mB) (hgp : gp ≠ mB) (ho : OwnM w mB M0)
    (hcel : ∀ m u, (plC mB (js z) 10)[m]? = some u → w.cell? ⟨gp, m, none⟩ = some u) :
    Calls Tryz.prog 30 #[.slice (some ⟨g, off, none⟩) n cap, .agg #[.slice (some ⟨gp, 0, none⟩) (js z).length cv, .int .i64 (E : Int), .int .i64 (S : Int)]] w fun e w' => ∃ v, e = .returned v ∧ BlkV (rdL l (js z) 10 M0) v mB w w' ∧ Wrt mB w w' := by
  have hlen41 : (js z).length ≤ 41 := jsU_len _ 41
  have Hx : Hid (n = l.length ∧ E = 10 + wS (js z) ∧ At w g off l ∧ g ≠ mB ∧ gp ≠ mB ∧ ∀ m u, (plC mB (js z) 10)[m]? = some u → w.cell? ⟨gp, m, none⟩ = some u) := ⟨hn, hE, hl, hg, hgp, hcel⟩
  have Hm : Hid (mB < w.heap.size) := ho.lt
  generalize hLay : (#[.slice (some ⟨gp, 0, none⟩) (js z).length cv, .int .i64 (E : Int), .int .i64 (S : Int)] : Array Value) = LY at *
  have HW0 : Hid (Wrt mB w (w.alloc (.cells LY 62)) ∧ OwnM (w.alloc (.cells LY 62)) mB M0 ∧ (w.alloc (.cells LY 62)).heap[w.heap.size]? = some (.cells LY 62 (0, 0))) :=
    ⟨Wrt.of ho.lt ((Below.refl _ w).alloc (Nat.le_refl _) _) (Below.refl _ _) fun _ _ => rfl, ho.below ((Below.refl _ w).alloc (Nat.le_refl _) _) ho.lt, heap_alloc_new w _⟩
  rw [← hLay] at *
  clear hLay
  obtain ⟨R, hR⟩ : ∃ R, R = rdL l (js z) 10 M0 := ⟨_, rfl⟩
  rw [← hR]
  have HR : Hid (R = rdL l (js z) 10 M0) := hR
  clear hR hn hE hl hg hgp hcel ho
  go_enter Tryz.func30, Tryz.ntmps30
  go_upto_region 1 with fail
  generalize w.alloc _ = W0 at *
  have c0 : W0.cell? ⟨w.heap.size, 0, none⟩ = some (.slice (some ⟨gp, 0, none⟩) (js z).length cv) := lay_cell (k := 0) HW0.out.2.2 rfl
  go_wp2
  go_loopw [6, 7, 8, 13] (fun x6 x7 x8 i wr => ∃ (k : Nat) (M : Msg), k ≤ (js z).length ∧ i = .int .i64 k ∧ Hid (R = rdL l ((js z).drop k) (10 + wS ((js z).take k)) M ∧ Wrt mB W0 wr ∧ OwnM wr mB M)) (fun _ _ _ i _ => (js z).length - (RowKit.intOf i).toNat)
  case atStart => exact ⟨0, M0, Nat.zero_le _, rfl, by simpa [wS] using HR.out, Wrt.refl _, HW0.out.2.1⟩
  case round =>
    obtain ⟨k, M, hk, rfl, HS⟩ := hrel
    clear c0
    by_cases hlt : k < (js z).length
    · as_aux_lemma =>
      have hlt' : (k : Int) < ((js z).length : Int) := by omega
      obtain ⟨j, hj⟩ : ∃ j, (js z)[k]? = some j := ⟨_, List.getElem?_eq_getElem hlt⟩
      obtain ⟨p0, p1, p2⟩ := plC_at mB (js z) 10 k j hj
      have hmem := List.mem_of_getElem? hj
      have hj1 : 1 ≤ j := (mem_js.1 hmem).1
      have hj42 : j < 42 := by have := (mem_js.1 hmem).2.1; omega
      have hwS := wS_at hj
      have hWw := HW0.out.1.trans HS.out.2.1
      have q0 := hWw.cell (Hx.out.2.2.2.2.2 _ _ p0) Hx.out.2.2.2.2.1
      have q1 := hWw.cell (Hx.out.2.2.2.2.2 _ _ p1) Hx.out.2.2.2.2.1
      have q2 := hWw.cell (Hx.out.2.2.2.2.2 _ _ p2) Hx.out.2.2.2.2.1
      have hat := Hx.out.2.2.1.wrt hWw Hx.out.2.2.2.1
      have hwd1 : 1 ≤ wd j := wd_ge hj42
      have hdrop : (js z).drop k = j :: (js z).drop (k + 1) := by
        rw [List.drop_eq_getElem_cons hlt]
        have : (js z)[k] = j := by rw [List.getElem?_eq_getElem hlt] at hj; exact Option.some.inj hj
        rw [this]
      have htk : 10 + wS ((js z).take (k + 1)) = 10 + wS ((js z).take k) + wd j := by
        rw [show (js z).take (k + 1) = (js z).take k ++ [j] by rw [List.take_add_one, hj]; rfl, wS_app]; simp [wS]; omega
      have hRk := HS.out.1
      rw [hdrop] at hRk
      simp only [rdL] at hRk
      have hAn : 10 + wS ((js z).take k) + wd j ≤ n := by have := Hx.out.2.1; omega
      have HOf : Hid (∀ w', Calls Tryz.prog 26 #[.agg #[.int .i64 (tNum.getD j 0), fIf j mB, .int .i64 ((10 + wS ((js z).take k) : Nat) : Int)], .slice (some ⟨g, off, none⟩) n cap] w' fun e w2 => e = .returned (.slice (some ⟨g, off + (10 + wS ((js z).take k)), none⟩) (wd j) (cap - (10 + wS ((js z).take k)))) ∧ Below w'.heap.size w' w2) := fun w' => of_any2 j hwd1 hj42 mB (tNum.getD j 0) (10 + wS ((js z).take k)) g off n cap w' hAn hcap hmax
      have HRd : Hid (∀ w', Below wr.heap.size wr w' → Calls Tryz.prog (fRd j) #[fVal j mB, .slice (some ⟨g, off + (10 + wS ((js z).take k)), none⟩) (wd j) (cap - (10 + wS ((js z).take k)))] w' fun e w2 => e = .returned (.tuple (rdV (rdF j ((l.drop (10 + wS ((js z).take k))).take (wd j)) M))) ∧ OwnM w2 mB (rdM (rdF j ((l.drop (10 + wS ((js z).take k))).take (wd j)) M) M) ∧ Wrt mB w' w2) := fun w' hb =>
        read_any M j hj1 hj42 g _ (wd j) _ mB _ w' (HS.out.2.2.below hb HS.out.2.2.lt) (by rw [List.length_take, List.length_drop]; have := Hx.out.1; omega) rfl (by omega) (((hat.below hb (Nat.le_refl _)).drop _).take _)
      have hcf := cfRd j hj42
      have hmt := mRd j hj42 mB
      have HKL : Hid (k + 1 ≤ (js z).length) := by show _ ≤ _; omega
      have hk41 : k ≤ 41 := by omega
      have hmr : Hid (mB < wr.heap.size) := HS.out.2.2.lt
      have hA1 : 10 + wS ((js z).take k) ≤ 1048576 := by omega
      have herr := fun a e => @rdF_err j ((l.drop (10 + wS ((js z).take k))).take (wd j)) M a e
      have hpl : ((l.drop (10 + wS ((js z).take k))).take (wd j)).length ≤ 1048576 := by rw [List.length_take]; omega
      unfold fIf at q1 HOf
      generalize hF : rdF j ((l.drop (10 + wS ((js z).take k))).take (wd j)) M = F at *
      generalize ((l.drop (10 + wS ((js z).take k))).take (wd j)).length = pl at *
      generalize tNum.getD j 0 = Nm at *
      generalize fTy j = T at *
      generalize fVal j mB = V at *
      generalize fRd j = FN at *
      have HN : Hid (∀ w9 M2, F = .ok M2 → OwnM w9 mB (rdM F M) → Wrt mB wr w9 → R = rdL l ((js z).drop (k + 1)) (10 + wS ((js z).take (k + 1))) M2 ∧ Wrt mB W0 w9 ∧ OwnM w9 mB M2) := fun w9 M2 hf h1 h2 => by
        subst hf
        rw [htk]
        exact ⟨hRk, HS.out.2.1.trans h2, h1⟩
      have HNE : Hid (∀ a e, F = .error (a, e) → R = .error (10 + wS ((js z).take k) + a, e)) := fun a e hf => by
        subst hf; exact hRk
      clear hRk htk hdrop hat hWw
      generalize wd j = W at *
      generalize 10 + wS ((js z).take k) = A at *
      clear hwS hwd1 p0 p1 p2 hF
      go_upto_region 4 with fail
      generalize hW : wr.alloc _ = W1
      have hb1 : Below wr.heap.size wr W1 := by rw [← hW]; exact (Below.refl _ wr).alloc (Nat.le_refl _) _
      have r0 : W1.cell? ⟨wr.heap.size, 0, none⟩ = some (.int .i64 Nm) := by rw [← hW]; exact World.cell?_alloc_new ..
      have r1 : W1.cell? ⟨wr.heap.size, 1, none⟩ = some (.iface T V) := by rw [← hW]; exact World.cell?_alloc_new ..
      have r2 : W1.cell? ⟨wr.heap.size, 2, none⟩ = some (.int .i64 (A : Int)) := by rw [← hW]; exact World.cell?_alloc_new ..
      have HK : Hid (∀ w', Below W1.heap.size W1 w' → w'.cell? ⟨wr.heap.size, 0, none⟩ = some (.int .i64 Nm) ∧ w'.cell? ⟨wr.heap.size, 1, none⟩ = some (.iface T V) ∧ w'.cell? ⟨wr.heap.size, 2, none⟩ = some (.int .i64 (A : Int))) := fun w' hb => by
        have hlt := World.block_lt_of_cell? _ _ r0
        rw [hb.cell (p := ⟨wr.heap.size, 0, none⟩) hlt, hb.cell (p := ⟨wr.heap.size, 1, none⟩) hlt, hb.cell (p := ⟨wr.heap.size, 2, none⟩) hlt]
        exact ⟨r0, r1, r2⟩
      have HKW : Hid (∀ w8 w9, Below W1.heap.size W1 w8 → Wrt mB w8 w9 → w9.cell? ⟨wr.heap.size, 0, none⟩ = some (.int .i64 Nm) ∧ w9.cell? ⟨wr.heap.size, 1, none⟩ = some (.iface T V) ∧ w9.cell? ⟨wr.heap.size, 2, none⟩ = some (.int .i64 (A : Int))) := fun w8 w9 hb hw => by
        obtain ⟨s0, s1, s2⟩ := HK.out w8 hb
        have hne : wr.heap.size ≠ mB := by have := hmr.out; omega
        exact ⟨hw.cell s0 hne, hw.cell s1 hne, hw.cell s2 hne⟩
      have HB1 : Hid (Below wr.heap.size wr W1) := hb1
      have hB1 : Below W1.heap.size W1 W1.drew := below_drewN (Below.refl _ _) 1
      clear hW r0 r1 r2 hb1 q0 q1 q2
      cases F with
      | ok M2 =>
        have hrv : rdV (.ok M2) = #[.int .i64 0, .int .i64 0] := rfl
        rw [hrv] at HRd
        go_region_held3 (fun w' => w'.cell? ⟨wr.heap.size, 0, none⟩ = some (.int .i64 Nm) ∧ w'.cell? ⟨wr.heap.size, 1, none⟩ = some (.iface T V) ∧ w'.cell? ⟨wr.heap.size, 2, none⟩ = some (.int .i64 (A : Int))) (first | exact HKW.out _ _ hB8 HW9.out.1 | exact HK.out _ hB8 | exact HK.out _ hB1) (first
          | (go_at_call 26; refine (HOf.out _).mono ?_; rintro e w8 ⟨rfl, hb8⟩; have hB8 : Below W1.heap.size W1 w8 := hB1.trans (hb8.mono hB1.size); clear hb8)
          | (refine (HRd.out _ (HB1.out.trans (hB8.mono HB1.out.size))).mono ?_; rintro e w9 ⟨rfl, he9, hw9⟩; have HW9 : Hid (Wrt mB w8 w9 ∧ OwnM w9 mB (rdM (.ok M2) M) ∧ Wrt mB wr w9) := ⟨hw9, he9, (Wrt.of hmr.out (HB1.out.trans (hB8.mono HB1.out.size)) (Below.refl _ _) fun _ _ => rfl).trans hw9⟩; clear he9 hw9))
        all_goals go_wp2
        all_goals exact ⟨⟨k + 1, M2, HKL.out, by go_num, HN.out _ M2 rfl HW9.out.2.1 HW9.out.2.2⟩, by simp [RowKit.intOf]; have := HKL.out; omega⟩
      | error x =>
        obtain ⟨a, e⟩ := x
        obtain ⟨hee, hal⟩ := herr a e rfl
        have hrv : rdV (.error (a, e)) = #[.int .i64 (a : Nat), .int .i64 e] := rfl
        rw [hrv] at HRd
        have hne0 : (e != 0) = true := by rcases hee with rfl | rfl <;> rfl
        have hne1 : ¬ e = 0 := by omega
        have hww : IntKind.i64.wrap ((A : Int) + (a : Int)) = (A : Int) + (a : Int) := by rw [IntKind.wrap_i64]; omega
        have HRE : Hid (R = .error (A + a, e)) := HNE.out a e rfl
        clear hee herr
        go_region_held3 (fun w' => w'.cell? ⟨wr.heap.size, 0, none⟩ = some (.int .i64 Nm) ∧ w'.cell? ⟨wr.heap.size, 1, none⟩ = some (.iface T V) ∧ w'.cell? ⟨wr.heap.size, 2, none⟩ = some (.int .i64 (A : Int))) (first | exact HKW.out _ _ hB8 HW9.out.1 | exact HK.out _ hB8 | exact HK.out _ hB1) (first
          | (go_at_call 26; refine (HOf.out _).mono ?_; rintro e w8 ⟨rfl, hb8⟩; have hB8 : Below W1.heap.size W1 w8 := hB1.trans (hb8.mono hB1.size); clear hb8)
          | (refine (HRd.out _ (HB1.out.trans (hB8.mono HB1.out.size))).mono ?_; rintro e w9 ⟨rfl, he9, hw9⟩; have HW9 : Hid (Wrt mB w8 w9 ∧ Wrt mB wr w9) := ⟨hw9, (Wrt.of hmr.out (HB1.out.trans (hB8.mono HB1.out.size)) (Below.refl _ _) fun _ _ => rfl).trans hw9⟩; clear he9 hw9))
        obtain ⟨s0, s1, s2⟩ := HKW.out _ _ hB8 HW9.out.1
        go_wp2_with (go_at_call 98; fail)
        refine (fault_any e ((A : Int) + (a : Int)) _).mono ?_
        rintro x w4 ⟨rfl, rfl⟩
        go_wp2
        go_ret
        have hWf : Wrt mB w w9 := HW0.out.1.trans (HS.out.2.1.trans HW9.out.2)
        refine ⟨_, rfl, ?_, hWf.low (Nat.lt_of_lt_of_le Hm.out hWf.size) ((Below.refl _ w9).alloc (Nat.le_refl _) _)⟩
        rw [HRE.out]
        exact ⟨w9.heap.size, rfl, hWf.size, heap_alloc_new w9 _⟩
    · as_aux_lemma =>
      have hkl : k = (js z).length := by omega
      have hlt2 : ¬ (k : Int) < ((js z).length : Int) := by omega
      have hRk := HS.out.1
      rw [hkl, List.drop_length, List.take_of_length_le (Nat.le_refl _), ← Hx.out.2.1] at hRk
      simp only [rdL] at hRk
      rw [← Hx.out.1] at hRk
      have hWw := HW0.out.1.trans HS.out.2.1
      have hat := Hx.out.2.2.1.wrt hWw Hx.out.2.2.2.1
      have hne : w.heap.size ≠ mB := by have := Hm.out; omega
      have c1 : wr.cell? ⟨w.heap.size, 1, none⟩ = some (.int .i64 (E : Int)) := HS.out.2.1.cell (lay_cell (k := 1) HW0.out.2.2 rfl) hne
      have HK : Hid (∀ w', Below wr.heap.size wr w' → w'.cell? ⟨w.heap.size, 1, none⟩ = some (.int .i64 (E : Int))) := fun w' hb => by
        rw [hb.cell (p := ⟨w.heap.size, 1, none⟩) (World.block_lt_of_cell? _ _ c1)]; exact c1
      have hB1 : Below wr.heap.size wr wr.drew := below_drewN (Below.refl _ _) 1
      have hN0 := fun (ad : Option Addr) (h : n - E = 0 ∨ ad = some ⟨g, off + E, none⟩) w' (hb : Below wr.heap.size wr w') => noughts_any ad g (off + E) (n - E) (cap - E) (l.drop E) w' (by rw [List.length_drop]; have := Hx.out.1; omega) (by omega) h ((hat.below hb (Nat.le_refl _)).drop E)
      have hze := nzL_le (l.drop E)
      rw [List.length_drop, ← Hx.out.1] at hze
      generalize nzL (l.drop E) = Z at *
      have HO : Hid (OwnM wr mB M ∧ Wrt mB w wr) := ⟨HS.out.2.2, hWw⟩
      have HRk : Hid (R = if Z + E < n then .error (E + Z, 62) else .ok M) := hRk
      have x1 : (E : Int) ≤ (n : Int) := by omega
      have xw : IntKind.i64.wrap ((E : Int) + (Z : Int)) = (E : Int) + (Z : Int) := by rw [IntKind.wrap_i64]; omega
      clear hRk hat c1 hWw hkl HS HR
      have hfin : ∀ w5 : World, w5 = wr.drew → Z + E < n → ∃ v, Ending.returned (Value.iface 87 (.pointer (some ⟨w5.heap.size, 0, none⟩))) = .returned v ∧ BlkV R v mB w (w5.alloc (.cells #[.int .i64 ((E : Int) + (Z : Int)), .int .i64 62] 90)) ∧ Wrt mB w (w5.alloc (.cells #[.int .i64 ((E : Int) + (Z : Int)), .int .i64 62] 90)) := fun w5 h5 hz => by
        subst h5
        have hw5 : Wrt mB w wr.drew := HO.out.2.low HO.out.1.lt hB1
        refine ⟨_, rfl, ?_, hw5.low (Nat.lt_of_lt_of_le Hm.out hw5.size) ((Below.refl _ _).alloc (Nat.le_refl _) _)⟩
        rw [HRk.out, if_pos hz]
        exact ⟨_, rfl, hw5.size, heap_alloc_new wr.drew _⟩
      have hfin2 : ¬ Z + E < n → ∃ v, Ending.returned Value.nilIface = .returned v ∧ BlkV R v mB w wr.drew ∧ Wrt mB w wr.drew := fun hz => by
        refine ⟨_, rfl, ?_, HO.out.2.low HO.out.1.lt hB1⟩
        rw [HRk.out, if_neg hz]
        exact ⟨rfl, HO.out.1.below hB1 HO.out.1.lt⟩
      have HF : Hid (∀ w5 : World, w5 = wr.drew → Z + E < n → ∃ v, Ending.returned (Value.iface 87 (.pointer (some ⟨w5.heap.size, 0, none⟩))) = .returned v ∧ BlkV R v mB w (w5.alloc (.cells #[.int .i64 ((E : Int) + (Z : Int)), .int .i64 62] 90)) ∧ Wrt mB w (w5.alloc (.cells #[.int .i64 ((E : Int) + (Z : Int)), .int .i64 62] 90))) := hfin
      have HF2 : Hid (¬ Z + E < n → ∃ v, Ending.returned Value.nilIface = .returned v ∧ BlkV R v mB w wr.drew ∧ Wrt mB w wr.drew) := hfin2
      clear hfin hfin2
      by_cases hC : cap = E
      · have hnE : n = E := by omega
        have hZ0 : Z = 0 := by omega
        subst hZ0
        have hN := hN0 (some ⟨g, off, none⟩) (.inl (by omega))
        subst hC
        subst hnE
        rw [Nat.sub_self] at hN
        have xw3 : wrap64 (n : Int) = (n : Int) := by unfold wrap64; omega
        have xw4 : IntKind.i64.wrap (n : Int) = (n : Int) := by rw [IntKind.wrap_i64]; omega
        have hzz : ¬ 0 + n < n := by omega
        have HZZ : Hid (¬ 0 + n < n) := hzz
        have hnn : ¬ (n : Int) < (n : Int) := by omega
        clear hzz hmax hze hN0 hEn hcap xw x1 hlen41 hk hlt Hx
        go_upto_region 8 with fail
        go_region_held3 (fun w' => w'.cell? ⟨w.heap.size, 1, none⟩ = some (.int .i64 (n : Int))) (first | exact HK.out _ hB1) (first | (go_at_call 100; refine (hN _ hB1).mono ?_; rintro e w5 ⟨rfl, rfl⟩))
        all_goals clear hN hne hB1
        all_goals go_wp2
        all_goals go_ret
        all_goals exact HF2.out HZZ.out
      · have hN := hN0 (some ⟨g, off + E, none⟩) (.inr rfl)
        clear hN0
        by_cases hz : Z + E < n
        · have hz1 : (E : Int) + (Z : Int) < (n : Int) := by omega
          have HZ : Hid (Z + E < n) := hz
          clear hz hmax hze hlen41 hk hlt Hx
          go_upto_region 8 with fail
          go_region_held3 (fun w' => w'.cell? ⟨w.heap.size, 1, none⟩ = some (.int .i64 (E : Int))) (first | exact HK.out _ hB1) (first | (go_at_call 100; refine (hN _ hB1).mono ?_; rintro e w5 ⟨rfl, rfl⟩))
          all_goals clear hN hC hcap hEn x1 xw hne hB1
          all_goals go_wp2_with (go_at_call 98; fail)
          all_goals refine (fault_any 62 ((E : Int) + (Z : Int)) _).mono ?_
          all_goals rintro x w6 ⟨rfl, rfl⟩
          all_goals go_wp2
          all_goals go_ret
          all_goals exact HF.out _ rfl HZ.out
        · have xw' : IntKind.i64.wrap ((E : Int) + (Z : Int)) = (n : Int) := by rw [xw]; omega
          have HZ : Hid (¬ Z + E < n) := hz
          clear xw
          clear hz hmax hze hlen41 hk hlt Hx
          go_upto_region 8 with fail
          go_region_held3 (fun w' => w'.cell? ⟨w.heap.size, 1, none⟩ = some (.int .i64 (E : Int))) (first | exact HK.out _ hB1) (first | (go_at_call 100; refine (hN _ hB1).mono ?_; rintro e w5 ⟨rfl, rfl⟩))
          all_goals clear hN hC hcap hEn x1 xw' hne hB1
          all_goals go_wp2
          all_goals go_ret
          all_goals exact HF2.out HZ.out
end Go.Proofs.YthadnogcocmfgaaGreatDoor
