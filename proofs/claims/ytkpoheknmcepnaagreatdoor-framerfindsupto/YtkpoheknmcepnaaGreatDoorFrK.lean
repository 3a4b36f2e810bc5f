import Derived.Test.YtkpoheknmcepnaaGreatDoorFrG
import Derived.Test.YtkpoheknmcepnaaGreatDoorFJn

namespace Go.Proofs.YtkpoheknmcepnaaGreatDoor
set_option linter.unusedVariables false
open Go.RowKit Go.Lib

theorem forL_app : ∀ (t p q : List UInt8), forL t p.length (p ++ (t ++ q)) = .whole (p.length + t.length)
  | [], p, q => by unfold forL; rfl
  | c :: t, p, q => by
    have h := forL_app t (p ++ [c]) q
    rw [List.length_append, List.length_singleton, List.append_assoc, List.singleton_append] at h
    rw [forL.eq_2, dif_pos (by simp), if_pos (by simp)]
    show forL t (p.length + 1) (p ++ (c :: (t ++ q))) = _
    rw [h, List.length_cons]
    congr 1
    omega
theorem forL_at {t l p q : List UInt8} {i n : Nat} (hl : l = p ++ (t ++ q)) (hi : p.length = i) (hn : i + t.length = n) : forL t i l = .whole n := by
  subst hl hi hn
  exact forL_app t p q
theorem textS_zero (t : List UInt8) : textS (0 :: t) = .wrong := by
  have h : textP lenV prT headT lastT (0 :: t) = .wrong := by
    rw [text_eq]
    have e : forL headT 0 (0 :: t) = .wrong := by
      unfold headT
      rw [forL.eq_2, dif_pos (by simp), if_neg (by simp)]
    have e2 : lenP (0 :: t) = .wrong := by
      unfold lenP Part.then
      rw [e]
    rw [e2]
  unfold textS; rw [h]; rfl
theorem dec_succ {n : Nat} (h : 10 ≤ n) : (decDigits n).length = (decDigits (n / 10)).length + 1 := by
  rw [decDigits, dif_neg (by omega), List.length_append]; rfl
theorem dec_four {n : Nat} (h : 1000 ≤ n) : 4 ≤ (decDigits n).length := by
  rw [dec_succ (by omega), dec_succ (by omega), dec_succ (by omega)]
  obtain ⟨c, l, e, _⟩ := head_dec (n / 10 / 10 / 10)
  rw [e]; simp
theorem join_ok {fs : List Fld} {l : List UInt8} (h : joinL fs = .ok l) : l = closeL (aheadL (bodyFB fs)) ∧ l.length ≤ 1024 := by
  unfold joinL at h
  split at h
  · cases h
  · split at h
    · cases h
    · split at h
      · cases h
      · injection h with h
        exact ⟨h.symm, by rw [← h]; omega⟩
theorem textS_join {fs : List Fld} {l : List UInt8} (h : joinL fs = .ok l) : textS l = .whole l.length ∧ 0 < l.length ∧ l.length ≤ 1024 := by
  obtain ⟨hl, hle⟩ := join_ok h
  generalize bodyFB fs = b at hl
  obtain ⟨n, hn⟩ : ∃ n, b.length = n := ⟨_, rfl⟩
  have hI : itoa (n : Int) = decDigits n := itoa_nonneg n
  obtain ⟨d, hd⟩ : ∃ d, decDigits n = d := ⟨_, rfl⟩
  obtain ⟨A, hA⟩ : ∃ A, aheadL b = A := ⟨_, rfl⟩
  have eA : A = headT ++ (d ++ ([1] ++ b)) := by
    rw [← hA]; unfold aheadL; rw [hn, hI, hd]
    show headL ++ d ++ [1] ++ b = headL ++ (d ++ ([1] ++ b))
    simp only [List.append_assoc]
  have lA : A.length = 12 + d.length + 1 + n := by
    rw [eA]; simp only [List.length_append, hn]; show 12 + _ = _; simp; omega
  have el : l = A ++ (lastT ++ (prT A)) := by
    rw [hl, hA]; unfold closeL prT
    show A ++ lastT ++ three (sumL A) ++ [1] = _
    simp only [List.append_assoc]
  have ll : l.length = A.length + 7 := by rw [el, List.length_append, List.length_append, prT_len]; rfl
  have hn1 : n ≤ 1000 := by
    rcases Nat.lt_or_ge 1000 n with g | g
    · have := dec_four (n := n) (by omega)
      rw [hd] at this
      omega
    · exact g
  have hd0 : 0 < d.length := by rw [← hd]; obtain ⟨c, l, e, _⟩ := head_dec n; rw [e]; simp
  have el2 : l = headT ++ (d ++ ([1] ++ (b ++ (lastT ++ prT A)))) := by
    conv => lhs; rw [el]
    conv => lhs; lhs; rw [eA]
    simp only [List.append_assoc]
  have e1 : forL headT 0 l = .whole 12 := forL_at (p := []) el2 rfl rfl
  have hdg : ∀ c ∈ d, isDigB c = true := fun c hc => by
    have := digs_dec n
    rw [hd] at this
    unfold digs at this
    rw [isDigB_dig]
    exact List.all_eq_true.1 this c hc
  have e2 : digsAt 12 l = d := by
    have : l.drop 12 = d ++ (1 :: (b ++ (lastT ++ prT A))) := by
      conv => lhs; rw [el2]
      exact List.drop_left' rfl
    unfold digsAt
    rw [this, List.takeWhile_append_of_pos hdg, List.takeWhile_cons_of_neg (by decide), List.append_nil]
  have e3 : lenV d = some n := by
    have hp := pu_dec (u := n) (m := 1000) (by omega)
    rw [hd] at hp
    unfold lenV
    rw [if_pos hp.2, hp.1]; rfl
  have e4 : forL [1] (12 + d.length) l = .whole (12 + d.length + 1) := forL_at (p := headT ++ d) (q := b ++ (lastT ++ prT A)) (by rw [List.append_assoc]; exact el2) (by rw [List.length_append]; rfl) rfl
  have e5 : lenP l = .whole (n, 12 + d.length + 1) := by
    unfold lenP Part.then
    rw [e1]
    simp only [roomL]
    rw [if_neg (by omega)]
    simp only [lenL, e2, e3, e4]
  have e6 : forL lastT (12 + d.length + 1 + n) l = .whole (A.length + 3) := forL_at (p := A) el lA (by rw [lA]; rfl)
  have e7 : l.take (12 + d.length + 1 + n) = A := by rw [← lA]; conv => lhs; rw [el]
                                                     exact List.take_left' rfl
  have e8 : forL (prT A) (A.length + 3) l = .whole (A.length + 3 + 4) := forL_at (p := A ++ lastT) (q := []) (by rw [List.append_nil, List.append_assoc]; exact el) (by rw [List.length_append]; rfl) (by rw [prT_len])
  refine ⟨?_, by omega, hle⟩
  have hp : textP lenV prT headT lastT l = .whole l.length := by
    rw [text_eq, e5]
    simp only [e6, e7, e8]
    rw [ll]
  unfold textS; rw [hp]; simp only [Part.sight]
end Go.Proofs.YtkpoheknmcepnaaGreatDoor

namespace Go.Proofs.YtkpoheknmcepnaaGreatDoor
set_option linter.unusedVariables false
set_option linter.unusedSimpArgs false
open Go.RowKit Go.Great Go.Shelf

theorem SrcF.fr {w w' : World} {v : Value} {fs : List Fld} (h : SrcF w v fs) (hf : Fr w w' (fun _ => False)) : SrcF w' v fs := by
  obtain ⟨ao, cap, h1, h2, h3⟩ := h
  refine ⟨ao, cap, h1, h2, ?_⟩
  rcases h3 with h3 | ⟨b, off, h4, h5⟩
  · exact .inl h3
  · exact .inr ⟨b, off, h4, fun j f hj => ⟨hf.cell (h5 j f hj).1 id, hf.cell (h5 j f hj).2 id⟩⟩
/-- Lists of fields that came in. -/
def FldsIn (w : World) (a : Option Addr) (n : Nat) (Fss : Nat → List Fld) : Prop := n = 0 ∨ ∃ b off, a = some ⟨b, off, none⟩ ∧ ∀ i, i < n → (∃ v, w.cell? ⟨b, off + i, none⟩ = some v ∧ SrcF w v (Fss i)) ∧ okT (Fss i) ∧ (bodyFB (Fss i)).length ≤ 1099511627776 ∧ (Fss i).length ≤ 1099511627776
theorem join_err {fs : List Fld} {e : Int} (h : joinL fs = .error e) : e ≠ 0 := by
  unfold joinL at h
  split at h
  · injection h with h; omega
  · split at h
    · injection h with h; omega
    · split at h
      · injection h with h; omega
      · cases h
theorem OwnB.more {w : World} {B : Nat} {v : Value} {l : List UInt8} (h : OwnB w B v l) (h0 : 0 < l.length) : ∃ g c, v = .slice (some ⟨g, 0, none⟩) l.length c ∧ B ≤ g ∧ LSrc w (some ⟨g, 0, none⟩) l := by
  rcases h.2 with ⟨_, e⟩ | ⟨g, cap, cur, e1, hB, hg, hc⟩
  · omega
  · refine ⟨g, cap, e1, hB, .inr ⟨g, 0, rfl, fun j hj => ?_⟩⟩
    rw [Nat.zero_add]
    have hj' : (bcs l)[j]? = some (.int .u8 (l[j].toNat : Int)) := by simp [bcs, hj]
    rw [cell_of_row _ _ _ _ _ _ hg]
    rw [← hc.2.2.2, List.getElem?_take] at hj'
    split at hj'
    · rw [Array.getElem?_toList] at hj'; exact hj'
    · cases hj'
set_option maxRecDepth 100000 in
set_option maxHeartbeats 4000000 in
theorem FramerFinds_law {w : World} (hM : Mon w) (hP : Pow w) {g n c nc cc nm cm : Nat} {a ac am : Option Addr} {l : List UInt8} {Fss : Nat → List Fld} (hs : PcAt g w (.slice a n c) l) (hn : l.length = n) (hn1 : n ≤ 2000000) (hms : FldsIn w am nm Fss) (hnc : nc ≤ 2000000)
    (hcuts : ∀ k, k < nc → ∃ z : Int, -9223372036854775808 ≤ z ∧ z ≤ 9223372036854775807 ∧ ∃ gc oc, ac = some ⟨gc, oc, none⟩ ∧ w.cell? ⟨gc, oc + k, none⟩ = some (.int .i64 z)) :
    Calls Tryz.prog 5 #[.slice a n c, .slice am nm cm, .slice ac nc cc] w fun e w' => e = .returned (.bool true) ∧ Below w.heap.size w w' := by
  have HM : Hid (Mon w ∧ Pow w) := ⟨hM, hP⟩
  have HS : Hid (PcAt g w (.slice a n c) l ∧ l.length = n) := ⟨hs, hn⟩
  have HCU : Hid _ := hcuts
  have HMS : Hid (FldsIn w am nm Fss) := hms
  clear hM hP hs hn hcuts hms
  go_enter Tryz.func5, Tryz.ntmps5
  go_wp2_with (go_at_call 7; fail)
  refine (shown_any w HM.out.1 HM.out.2).mono ?_
  rintro e w1 ⟨rfl, hB1⟩
  have HB1 : Hid (Below w.heap.size w w1) := hB1
  clear hB1
  go_wp2_with (go_at_call 8; fail)
  refine (New_text _).mono ?_
  rintro e w3 ⟨rfl, rfl⟩
  have hsz : (w1.alloc (newF 19)).heap.size = w1.heap.size + 1 := by simp
  have hf1 : (w1.alloc (newF 19)).heap[w1.heap.size]? = some (newF 19) := heap_alloc_new w1 _
  have hF2 : Fr w (w1.alloc (newF 19)) (fun _ => False) := (Fr.of_below HB1.out _).trans (Fr.alloc _ _ (fun _ => False)) fun _ _ q => q.elim id id
  generalize w1.alloc (newF 19) = w3 at *
  have H3 : Hid (w3.heap.size = w1.heap.size + 1 ∧ w3.heap[w1.heap.size]? = some (newF 19) ∧ Fr w w3 (fun _ => False)) := ⟨hsz, hf1, hF2⟩
  clear hsz hf1 hF2
  have HZ : Hid (w.heap.size ≤ w1.heap.size ∧ w3.heap.size = w1.heap.size + 1) := ⟨HB1.out.size, H3.out.1⟩
  go_upto_region 5 with fail
  rename_i Kc hKc
  refine wp_region_lit ?_
  have h4 : (w3.alloc (.cells #[] 5)).heap[w3.heap.size]? = some (.cells #[] 5 (0, 0)) := heap_alloc_new w3 _
  have hF4 : Fr w3 (w3.alloc (.cells #[] 5)) (fun _ => False) := Fr.alloc _ _ _
  have hz4 : (w3.alloc (.cells #[] 5)).heap.size = w3.heap.size + 1 := by simp
  refine wpList_runTo rfl (some 33) rfl (.slice (some ⟨w3.heap.size, 0, none⟩) 0 0) (w3.alloc (.cells #[] 5)) (by kernel_rfl) ?_
  simp only [Act.put, List.setIfInBounds_toArray, List.set_cons_zero, List.set_cons_succ]
  generalize w3.alloc (.cells #[] 5) = w4 at *
  refine wpList_runTo rfl (some 34) rfl (.slice a n c) w4 (by kernel_rfl) ?_
  simp only [Act.put, List.setIfInBounds_toArray, List.set_cons_zero, List.set_cons_succ]
  have hF04 : Fr w w4 (fun _ => False) := H3.out.2.2.trans hF4 fun _ _ q => q.elim id id
  obtain ⟨g5, o5, c5, w5, hr5, hb5, hf5, ho5⟩ := By.noise h4 (HS.out.1.fr hF04 id) HS.out.2 (by omega)
  have hz5 := hf5.size
  refine wpList_runTo rfl (some 35) rfl (.slice (some ⟨g5, o5, none⟩) n c5) w5 (exec_append2 _ _ 22 22 rfl (by kernel_rfl) (by kernel_rfl) hr5) ?_
  simp only [Act.put, List.setIfInBounds_toArray, List.set_cons_zero, List.set_cons_succ]
  refine wpList_runTo rfl (some 10) rfl (.slice (some ⟨g5, o5, none⟩) n c5) w5 (by kernel_rfl) ?_
  simp only [Act.put, List.setIfInBounds_toArray, List.set_cons_zero, List.set_cons_succ]
  refine wpList_nil ?_
  refine hKc _ _ ?_
  clear hKc hr5
  obtain ⟨a6, c6, w6, hr6, hb6, hf6, ho6⟩ := By.zeros (m := 1024) hb5 HS.out.2 (by decide) (by decide) (by omega)
  have hF36 : Fr w3 w6 (fun _ => False) := ((hF4.trans hf5 (e3 := fun _ => False) fun b hb q => q.elim id fun q => by omega).trans hf6 fun b hb q => q.elim id fun q => by omega)
  have hnew6 : ∀ b, (Value.slice a6 (n + 1024) c6).ownBlock = some b → w3.heap.size ≤ b := fun b hb => by
    rcases ho6 with q | ⟨b', q, hb'⟩
    · rw [q] at hb; injection hb with hb; omega
    · rw [q] at hb; injection hb with hb; omega
  have hl6 : (l ++ nul 1024).length = n + 1024 := by rw [List.length_append, nul_length, HS.out.2]
  obtain ⟨N, hN⟩ : ∃ N, n + 1024 = N := ⟨_, rfl⟩
  rw [hN] at hr6 hb6 hnew6 hl6
  have HSI0 : Hid (SI textS w3 w6 (.slice a6 N c6) (.slice none 0 0) (l ++ nul 1024) []) := ⟨by simpa using hb6, RowAt.none0 _ _ _, hnew6, fun _ h => (by cases h), hF36, fun _ h => (by cases h)⟩
  have HL6 : Hid ((l ++ nul 1024).length = N) := hl6
  clear hb5 hf5 ho5 hb6 hf6 ho6 hF36 hnew6 hF4 hF04 h4 hl6 hz4 hz5
  go_upto_region 6 with fail
  rename_i Kc hKc
  refine wp_region_lit ?_
  refine wpList_runTo rfl (some 36) rfl (.slice (some ⟨g5, o5, none⟩) n c5) w5 (by kernel_rfl) ?_
  simp only [Act.put, List.setIfInBounds_toArray, List.set_cons_zero, List.set_cons_succ]
  refine wpList_runTo rfl (some 37) rfl (.slice a6 N c6) w6 (exec_append2 _ _ 22 3 rfl (by kernel_rfl) (by kernel_rfl) hr6) ?_
  simp only [Act.put, List.setIfInBounds_toArray, List.set_cons_zero, List.set_cons_succ]
  refine wpList_runTo rfl (some 10) rfl (.slice a6 N c6) w6 (by kernel_rfl) ?_
  simp only [Act.put, List.setIfInBounds_toArray, List.set_cons_zero, List.set_cons_succ]
  refine wpList_nil ?_
  refine hKc _ _ ?_
  clear hKc hr6
  go_wp2
  go_loopw [10, 12, 13, 14, 15] (fun x10 x12 x13 _ _ wr => ∃ (i ns cs nw cw : Nat) (sa aw : Option Addr), i ≤ nm ∧ i ≤ 40 ∧ x13 = .int .i64 (i : Int) ∧ x10 = .slice sa ns cs ∧ x12 = .slice aw nw cw ∧ nw ≤ i ∧ ns ≤ N + 1024 * i ∧ Hid (∃ Fs, SI textS w3 wr (.slice sa ns cs) (.slice aw nw cw) (l ++ nul 1024) Fs ∧ Fs.length = nw ∧ (l ++ nul 1024 ++ Fs.flatten).length = ns)) (fun _ _ x13 _ _ _ => nm - (intOf x13).toNat)
  case atStart => exact ⟨0, N, c6, 0, 0, a6, none, Nat.zero_le _, by decide, rfl, rfl, rfl, Nat.le_refl _, by omega, [], HSI0.out, rfl, by simpa using HL6.out⟩
  case round =>
    obtain ⟨i, ns, cs, nw, cw, sa, aw, hi, hi40, rfl, rfl, rfl, hnw, hns, HJ⟩ := hrel
    by_cases hgo : i < nm ∧ i < 40
    · obtain ⟨hlt, hlt40⟩ := hgo
      obtain ⟨Fs, hSI, hFl, hFt⟩ := HJ.out
      have hms := HMS.out
      rcases hms with h0 | ⟨gm, om, rfl, hall⟩
      · omega
      obtain ⟨⟨v, hcl, hsf⟩, hokT, hbz, hfz⟩ := hall i hlt
      have hF0r : Fr w wr (fun _ => False) := H3.out.2.2.trans hSI.fr fun _ _ q => q.elim id id
      have hcl' : wr.cell? ⟨gm, om + i, none⟩ = some v := hF0r.cell hcl id
      have hpow : Pow wr := HM.out.2.below (hF0r.below (Nat.le_refl _) fun _ _ q => q)
      have hJ := Join_any v (Fss i) wr (hsf.fr hF0r) hpow hokT hbz hfz
      obtain ⟨va, vc, hv, -⟩ := hsf
      generalize (Fss i).length = vn at hv
      subst hv
      generalize Fss i = fs at *
      clear hall hcl hF0r hpow hokT hbz hfz
      have hlt' : (i : Int) < (nm : Int) := by omega
      have hlt40' : (i : Int) < 40 := by omega
      have hin : ¬ (nm : Int) ≤ (i : Int) := by omega
      have hiw : IntKind.i64.wrap ((i : Int) + 1) = (i : Int) + 1 := by rw [IntKind.wrap_i64]; omega
      cases hj : joinL fs with
      | ok FR =>
        rw [hj] at hJ
        have HE : Hid (Unit → _) := fun _ => hJ
        obtain ⟨hbf, hfa, hfb⟩ := textS_join hj
        obtain ⟨fl, hfl'⟩ : ∃ fl, FR.length = fl := ⟨_, rfl⟩
        have hfl0 : 0 < fl ∧ fl ≤ 1024 := by omega
        have HSI : Hid (SI textS w3 wr (.slice sa ns cs) (.slice aw nw cw) (l ++ nul 1024) Fs ∧ Fs.length = nw ∧ (l ++ nul 1024 ++ Fs.flatten).length = ns ∧ textS FR = .whole FR.length ∧ FR.length = fl) := ⟨hSI, hFl, hFt, hbf, hfl'⟩
        clear hSI hFl hFt hbf hfa hfb HJ hJ hj
        go_upto_region 12 with fail
        rename_i Kc hKc
        refine wp_region_lit ?_
        refine wpList_runTo rfl (some 51) rfl (.slice (some ⟨gm, om, none⟩) nm cm) wr (by kernel_rfl) ?_
        simp only [Act.put, List.setIfInBounds_toArray, List.set_cons_zero, List.set_cons_succ]
        refine wpList_runTo rfl (some 52) rfl (.int .i64 (i : Int)) wr (by kernel_rfl) ?_
        simp only [Act.put, List.setIfInBounds_toArray, List.set_cons_zero, List.set_cons_succ]
        refine wpList_runTo rfl (some 53) rfl (.pointer (some ⟨gm, om + i, none⟩)) wr (by go_simp) ?_
        simp only [Act.put, List.setIfInBounds_toArray, List.set_cons_zero, List.set_cons_succ]
        refine wpList_runTo rfl (some 54) rfl (.slice va vn vc) wr (by go_simp) ?_
        simp only [Act.put, List.setIfInBounds_toArray, List.set_cons_zero, List.set_cons_succ]
        refine wpList_callF rfl (some 55) rfl 15 #[.slice va vn vc] (by kernel_rfl) (HE.out ()) ?_
        clear HE
        rintro e w5' ⟨hB5, vj, rfl, hOB⟩
        obtain ⟨gb, cb, hvj, hgb, hO5⟩ := hOB.more (by omega)
        rw [hfl'] at hvj
        subst hvj
        refine ⟨_, rfl, ?_⟩
        simp only [Act.put, List.setIfInBounds_toArray, List.set_cons_zero, List.set_cons_succ]
        obtain ⟨a7, c7, w7, hr7, hs7, hmore⟩ := HSI.out.1.bytes (c := cb) (m := fl) (Fr.of_below hB5 _) hgb hO5 HSI.out.2.2.1 HSI.out.2.2.2.2 hfl0.1 (by omega) HSI.out.2.2.2.1
        obtain ⟨a8, c8, w8, hr8, hSI8⟩ := hmore nw HSI.out.2.1 (by omega)
        have HR7 : Hid _ := hr7
        have HR8 : Hid _ := hr8
        have HC7 : Hid (LSrc w7 (some ⟨gb, 0, none⟩) FR ∧ FR.length = fl) := ⟨hs7, hfl'⟩
        have HSI8 : Hid (∃ Fs, SI textS w3 w8 (.slice a7 (ns + fl) c7) (.slice a8 (nw + 1) c8) (l ++ nul 1024) Fs ∧ Fs.length = nw + 1 ∧ (l ++ nul 1024 ++ Fs.flatten).length = ns + fl) := ⟨_, hSI8, by rw [List.length_append, HSI.out.2.1]; rfl, by
          have := HSI.out.2.2.1
          simp only [List.flatten_append, List.flatten_cons, List.flatten_nil, List.length_append, List.append_nil] at this ⊢
          omega⟩
        clear hr7 hr8 hs7 hmore hSI8 hO5 hB5 HSI hOB
        refine wpList_runTo rfl (some 50) rfl (.tuple #[.slice (some ⟨gb, 0, none⟩) fl cb, .int .i64 0]) w5' (by kernel_rfl) ?_
        simp only [Act.put, List.setIfInBounds_toArray, List.set_cons_zero, List.set_cons_succ]
        refine wpList_runTo rfl (some 56) rfl (.slice (some ⟨gb, 0, none⟩) fl cb) w5' (by kernel_rfl) ?_
        simp only [Act.put, List.setIfInBounds_toArray, List.set_cons_zero, List.set_cons_succ]
        refine wpList_runTo rfl (some 57) rfl (.int .i64 0) w5' (by kernel_rfl) ?_
        simp only [Act.put, List.setIfInBounds_toArray, List.set_cons_zero, List.set_cons_succ]
        refine wpList_runTo rfl (some 14) rfl (.slice (some ⟨gb, 0, none⟩) fl cb) w5' (by kernel_rfl) ?_
        simp only [Act.put, List.setIfInBounds_toArray, List.set_cons_zero, List.set_cons_succ]
        refine wpList_runTo rfl (some 15) rfl (.int .i64 0) w5' (by kernel_rfl) ?_
        simp only [Act.put, List.setIfInBounds_toArray, List.set_cons_zero, List.set_cons_succ]
        refine wpList_nil ?_
        refine hKc _ _ ?_
        clear hKc hcl'
        go_upto_region 14 with fail
        rename_i Kc hKc
        refine wp_region_lit ?_
        refine wpList_runTo rfl (some 60) rfl (.slice sa ns cs) w5' (by kernel_rfl) ?_
        simp only [Act.put, List.setIfInBounds_toArray, List.set_cons_zero, List.set_cons_succ]
        refine wpList_runTo rfl (some 61) rfl (.slice (some ⟨gb, 0, none⟩) fl cb) w5' (by kernel_rfl) ?_
        simp only [Act.put, List.setIfInBounds_toArray, List.set_cons_zero, List.set_cons_succ]
        refine wpList_runTo rfl (some 62) rfl (.slice a7 (ns + fl) c7) w7 (exec_append2 _ _ 22 22 rfl (by kernel_rfl) (by kernel_rfl) HR7.out) ?_
        simp only [Act.put, List.setIfInBounds_toArray, List.set_cons_zero, List.set_cons_succ]
        refine wpList_runTo rfl (some 10) rfl (.slice a7 (ns + fl) c7) w7 (by kernel_rfl) ?_
        simp only [Act.put, List.setIfInBounds_toArray, List.set_cons_zero, List.set_cons_succ]
        refine wpList_nil ?_
        refine hKc _ _ ?_
        clear hKc HR7
        go_upto_region 15 with fail
        refine wp_region_lit ?_
        refine wpList_runTo rfl (some 63) rfl (.slice aw nw cw) w7 (by kernel_rfl) ?_
        simp only [Act.put, List.setIfInBounds_toArray, List.set_cons_zero, List.set_cons_succ]
        refine wpList_runTo rfl (some 64) rfl (.slice (some ⟨gb, 0, none⟩) fl cb) w7 (by kernel_rfl) ?_
        simp only [Act.put, List.setIfInBounds_toArray, List.set_cons_zero, List.set_cons_succ]
        refine wpList_runTo rfl (some 65) rfl (.string ⟨FR.toArray⟩) w7 (by exact exec_convert (v := .slice (some ⟨gb, 0, none⟩) fl cb) _ rfl (by kernel_rfl) (conv_src HC7.out.1 fl HC7.out.2.symm)) ?_
        simp only [Act.put, List.setIfInBounds_toArray, List.set_cons_zero, List.set_cons_succ]
        refine wpList_runTo rfl (some 66) rfl (.slice (some ⟨w7.heap.size, 0, none⟩) 1 1) (w7.alloc (.cells #[.string ⟨FR.toArray⟩] 9)) (by kernel_rfl) ?_
        simp only [Act.put, List.setIfInBounds_toArray, List.set_cons_zero, List.set_cons_succ]
        refine wpList_runTo rfl (some 67) rfl (.slice a8 (nw + 1) c8) w8 (exec_append2 _ _ 39 39 rfl (by kernel_rfl) (by kernel_rfl) HR8.out) ?_
        simp only [Act.put, List.setIfInBounds_toArray, List.set_cons_zero, List.set_cons_succ]
        refine wpList_runTo rfl (some 12) rfl (.slice a8 (nw + 1) c8) w8 (by kernel_rfl) ?_
        simp only [Act.put, List.setIfInBounds_toArray, List.set_cons_zero, List.set_cons_succ]
        refine wpList_nil ?_
        clear HR8 HC7
        go_wp2
        go_roundw
        case rel => exact ⟨i + 1, ns + fl, c7, nw + 1, c8, a7, a8, by omega, by omega, by go_num, rfl, rfl, by omega, by omega, HSI8.out⟩
        case measure => simp [intOf]; omega
      | error E =>
        rw [hj] at hJ
        have HE : Hid (Unit → _) := fun _ => hJ
        have hv := join_err hj
        have HSI : Hid (SI textS w3 wr (.slice sa ns cs) (.slice aw nw cw) (l ++ nul 1024) Fs ∧ Fs.length = nw ∧ (l ++ nul 1024 ++ Fs.flatten).length = ns) := ⟨hSI, hFl, hFt⟩
        clear hSI hFl hFt HJ hJ hj
        go_upto_region 12 with fail
        rename_i Kc hKc
        refine wp_region_lit ?_
        refine wpList_runTo rfl (some 51) rfl (.slice (some ⟨gm, om, none⟩) nm cm) wr (by kernel_rfl) ?_
        simp only [Act.put, List.setIfInBounds_toArray, List.set_cons_zero, List.set_cons_succ]
        refine wpList_runTo rfl (some 52) rfl (.int .i64 (i : Int)) wr (by kernel_rfl) ?_
        simp only [Act.put, List.setIfInBounds_toArray, List.set_cons_zero, List.set_cons_succ]
        refine wpList_runTo rfl (some 53) rfl (.pointer (some ⟨gm, om + i, none⟩)) wr (by go_simp) ?_
        simp only [Act.put, List.setIfInBounds_toArray, List.set_cons_zero, List.set_cons_succ]
        refine wpList_runTo rfl (some 54) rfl (.slice va vn vc) wr (by go_simp) ?_
        simp only [Act.put, List.setIfInBounds_toArray, List.set_cons_zero, List.set_cons_succ]
        refine wpList_callF rfl (some 55) rfl 15 #[.slice va vn vc] (by kernel_rfl) (HE.out ()) ?_
        clear HE
        rintro e w5' ⟨hB5, hx⟩
        have hx' : e = .returned (.tuple #[.slice none 0 0, .int .i64 E]) := hx
        subst hx'
        refine ⟨_, rfl, ?_⟩
        simp only [Act.put, List.setIfInBounds_toArray, List.set_cons_zero, List.set_cons_succ]
        have HSI8 : Hid (∃ Fs, SI textS w3 w5' (.slice sa ns cs) (.slice aw nw cw) (l ++ nul 1024) Fs ∧ Fs.length = nw ∧ (l ++ nul 1024 ++ Fs.flatten).length = ns) := ⟨_, HSI.out.1.sm (Fr.of_below hB5 _), HSI.out.2.1, HSI.out.2.2⟩
        clear hB5 HSI hx
        refine wpList_runTo rfl (some 50) rfl (.tuple #[.slice none 0 0, .int .i64 E]) w5' (by kernel_rfl) ?_
        simp only [Act.put, List.setIfInBounds_toArray, List.set_cons_zero, List.set_cons_succ]
        refine wpList_runTo rfl (some 56) rfl (.slice none 0 0) w5' (by kernel_rfl) ?_
        simp only [Act.put, List.setIfInBounds_toArray, List.set_cons_zero, List.set_cons_succ]
        refine wpList_runTo rfl (some 57) rfl (.int .i64 E) w5' (by kernel_rfl) ?_
        simp only [Act.put, List.setIfInBounds_toArray, List.set_cons_zero, List.set_cons_succ]
        refine wpList_runTo rfl (some 14) rfl (.slice none 0 0) w5' (by kernel_rfl) ?_
        simp only [Act.put, List.setIfInBounds_toArray, List.set_cons_zero, List.set_cons_succ]
        refine wpList_runTo rfl (some 15) rfl (.int .i64 E) w5' (by kernel_rfl) ?_
        simp only [Act.put, List.setIfInBounds_toArray, List.set_cons_zero, List.set_cons_succ]
        refine wpList_nil ?_
        refine hKc _ _ ?_
        clear hKc hcl'
        have hvb : (E != 0) = true := by simpa using hv
        go_wp2
        go_roundw
        case rel => exact ⟨i + 1, ns, cs, nw, cw, sa, aw, by omega, by omega, by go_num, rfl, rfl, by omega, by omega, HSI8.out⟩
        case measure => simp [intOf]; omega
    · go_upto_region 10 with fail
      go_cut [47] from 40 to 47 (fun x47 wx => x47 = .bool false ∧ wx = wr)
      case first => as_aux_lemma =>
        by_cases q1 : (i : Int) < (nm : Int)
        · have q2 : ¬ (i : Int) < 40 := fun q => hgo ⟨by omega, by omega⟩
          go_wp2
          go_meet
          exact ⟨rfl, rfl⟩
        · go_wp2
          go_meet
          exact ⟨rfl, rfl⟩
      case rest =>
        obtain ⟨rfl, hw⟩ := hcut
        subst hw
        clear hgo
        obtain ⟨Fs, hSI, hFl, hFt⟩ := HJ.out
        clear HJ
        have hns0 : 0 < ns := by have := HL6.out; rw [List.length_append] at hFt; omega
        obtain ⟨gs, os, cs', cur, es, -⟩ := RowAt.more hSI.by_ (by omega)
        injection es with es1 es2 es3
        subst es1
        subst es3
        have hle : ns ≤ cs := by obtain ⟨_, _, e, h⟩ := RowAt.form hSI.by_; injection e with _ e1 e2; omega
        have hpc : PcAt gs wc (.slice (some ⟨gs, os, none⟩) ns cs) (l ++ nul 1024 ++ Fs.flatten) := ⟨_, os, cs, by rw [hFt], by omega, fun _ => rfl, ByAt.src hSI.by_⟩
        have hF0 : Fr w wc (fun _ => False) := H3.out.2.2.trans hSI.fr fun _ _ q => q.elim id id
        have hgs : w3.heap.size ≤ gs ∧ gs < wc.heap.size := ⟨hSI.snew gs rfl, (RowAt.lt hSI.by_ rfl).1⟩
        have hpcs := pieces_any (ac := ac) (nc := nc) (cc := cc) hpc hFt (by omega) (by omega) (fun k hk => by
          obtain ⟨z, h1, h2, gc, oc, h3, h4⟩ := HCU.out k hk
          exact ⟨z, h1, h2, gc, oc, h3, hF0.cell h4 id⟩)
        obtain ⟨X, hX⟩ : ∃ X, l ++ nul 1024 ++ Fs.flatten = X := ⟨_, rfl⟩
        rw [hX] at hpcs hFt
        have HX : Hid (l ++ nul 1024 ++ Fs.flatten = X ∧ X.length = ns) := ⟨hX, hFt⟩
        have HSI : Hid (StrAt wc (.slice aw nw cw) Fs ∧ (∀ F, F ∈ Fs → textS F = .whole F.length) ∧ Fs.length = nw ∧ Fr w3 wc (fun _ => False) ∧ Fr w wc (fun _ => False)) := ⟨hSI.st, hSI.ok, hFl, hSI.fr, hF0⟩
        clear hSI hFl hpc hF0 es2 hX hFt
        go_wp2_with (go_at_call 11; fail)
        refine hpcs.mono ?_
        clear hpcs
        rintro e w7 ⟨vo, rfl, hPO⟩
        obtain ⟨nb, bs, hPJ, hnb⟩ := hPO.out
        clear hPO
        obtain ⟨ao, co, hvo, -⟩ := hPJ.row.form
        subst hvo
        have hzc := HSI.out.2.2.2.1.size
        have hz3 := HZ.out.2
        have hz1 := HZ.out.1
        have hz7 := hPJ.fr.size
        have hp7 : w7.heap[w1.heap.size]? = some (newF 19) := (hPJ.fr.block _ (by omega) id).trans ((HSI.out.2.2.2.1.block _ (by omega) id).trans H3.out.2.1)
        have HGI0 : Hid _ := GI.start (f := textS) (w := w7) textS_steady hp7
        have HPJ : Hid (PJ gs wc w7 X (.slice ao nb co) nb bs [] ∧ w7.heap[w1.heap.size]? = some (newF 19)) := ⟨hPJ, hp7⟩
        have HZ7 : Hid (w3.heap.size ≤ gs ∧ gs < w7.heap.size) := ⟨by omega, by omega⟩
        clear hPJ hp7 hz3 hz1 hzc hz7
        go_wp2
        go_loopw [16, 18, 19, 20] (fun x16 x18 _ _ wr => ∃ (k ng cg : Nat) (ag : Option Addr), k ≤ nb ∧ x18 = .int .i64 (k : Int) ∧ x16 = .slice ag ng cg ∧ Hid (∃ vb wants told gs, GI textS w7 wr w1.heap.size 19 ((bs.take k).map (·.2)).flatten (.slice ag ng cg) vb wants told gs ∧ gs.length = ng)) (fun _ x18 _ _ _ => nb - (intOf x18).toNat)
        case atStart => exact ⟨0, 0, 0, none, Nat.zero_le _, rfl, rfl, _, _, _, [], HGI0.out, rfl⟩
        case round =>
          obtain ⟨k, ng, cg, ag, hk, rfl, rfl, HG⟩ := hrel
          by_cases hlt : k < nb
          · obtain ⟨vb, wants, told, gs', hGI, hgl⟩ := HG.out
            obtain ⟨X1, hX1⟩ : ∃ X1, bs[k]? = some X1 := ⟨_, List.getElem?_eq_getElem (by rw [HPJ.out.1.len]; exact hlt)⟩
            have hXm : X1 ∈ bs := List.mem_of_getElem? hX1
            obtain ⟨go, oo, co', cur', eo, hgo, -⟩ := HPJ.out.1.row.more (by omega)
            injection eo with eo1 eo2 eo3
            subst eo1
            clear eo2 eo3
            have hrowr := HPJ.out.1.row.fr hGI.fr fun b hb e => by subst e; exact HPJ.out.1.row.ne_type HPJ.out.2 (by decide) hb
            have hcl : wr.cell? ⟨go, oo + k, none⟩ = some X1.1 := hrowr.cell rfl (by rw [List.getElem?_map, hX1]; rfl)
            have hpc := (HPJ.out.1.each X1 hXm).fr HPJ.out.1.fr id
            have htk : ((bs.take (k + 1)).map (·.2)).flatten = ((bs.take k).map (·.2)).flatten ++ X1.2 := by
              rw [List.take_add_one, hX1]; simp
            have hln : ((bs.take k).map (·.2)).flatten.length + X1.2.length ≤ ns := by
              have e1 := HPJ.out.1.eq
              rw [List.append_nil] at e1
              have e2 : ((bs.take (k + 1)).map (·.2)).flatten ++ ((bs.drop (k + 1)).map (·.2)).flatten = X := by rw [← List.flatten_append, ← List.map_append, List.take_append_drop]; exact e1
              have e3 := congrArg List.length e2
              rw [htk, List.length_append, List.length_append, HX.out.2] at e3
              omega
            have hB7 : Below w.heap.size w w7 := (HSI.out.2.2.2.2.below (Nat.le_refl _) fun _ _ q => q).trans (HPJ.out.1.fr.below HSI.out.2.2.2.2.size fun _ _ q => q)
            have hfeed := hGI.feed (W0 := w) textS_steady (lookText_any w HM.out.2) enter_text textS_le hpc (fun h0 => ⟨HZ7.out.2, by have := HZ7.out.1; have := HZ.out.2; omega⟩) (by omega) hB7 HZ.out.1
            obtain ⟨xa, xo, xc, hxv, -⟩ := hpc
            have HGI : Hid (GI textS w7 wr w1.heap.size 19 ((bs.take k).map (·.2)).flatten (.slice ag ng cg) vb wants told gs' ∧ gs'.length = ng) := ⟨hGI, hgl⟩
            have HX1 : Hid (((bs.take (k + 1)).map (·.2)).flatten = ((bs.take k).map (·.2)).flatten ++ X1.2 ∧ ((bs.take k).map (·.2)).flatten.length + X1.2.length ≤ ns) := ⟨htk, hln⟩
            rw [hxv] at hfeed hcl
            generalize X1.2.length = xl at hfeed hcl
            have HFD : Hid _ := hfeed
            clear hfeed hGI htk hln hX1 hXm hrowr hB7 hxv HG hgl
            have hlt' : (k : Int) < (nb : Int) := by omega
            have hkn : ¬ (nb : Int) ≤ (k : Int) := by omega
            have hkw : IntKind.i64.wrap ((k : Int) + 1) = (k : Int) + 1 := by rw [IntKind.wrap_i64]; omega
            go_upto_region 21 with fail
            rename_i Kc hKc
            refine wp_region_lit ?_
            refine wpList_runTo rfl (some 77) rfl (.pointer (some ⟨w1.heap.size, 0, none⟩)) wr (by kernel_rfl) ?_
            simp only [Act.put, List.setIfInBounds_toArray, List.set_cons_zero, List.set_cons_succ]
            refine wpList_runTo rfl (some 78) rfl (.slice (some ⟨go, oo, none⟩) nb co) wr (by kernel_rfl) ?_
            simp only [Act.put, List.setIfInBounds_toArray, List.set_cons_zero, List.set_cons_succ]
            refine wpList_runTo rfl (some 79) rfl (.int .i64 (k : Int)) wr (by kernel_rfl) ?_
            simp only [Act.put, List.setIfInBounds_toArray, List.set_cons_zero, List.set_cons_succ]
            refine wpList_runTo rfl (some 80) rfl (.pointer (some ⟨go, oo + k, none⟩)) wr (by go_simp) ?_
            simp only [Act.put, List.setIfInBounds_toArray, List.set_cons_zero, List.set_cons_succ]
            refine wpList_runTo rfl (some 81) rfl (.slice xa xl xc) wr (by go_simp) ?_
            simp only [Act.put, List.setIfInBounds_toArray, List.set_cons_zero, List.set_cons_succ]
            refine wpList_callF rfl (some 82) rfl 10 #[.pointer (some ⟨w1.heap.size, 0, none⟩), .slice xa xl xc] (by kernel_rfl) HFD.out ?_
            rintro e w8 ⟨v, rfl, hE⟩
            refine ⟨_, rfl, ?_⟩
            simp only [Act.put, List.setIfInBounds_toArray, List.set_cons_zero, List.set_cons_succ]
            clear HFD hcl
            obtain ⟨fs', hGK0, hcnt, hend⟩ := HGI.out.1.out textS_steady (by have := HX1.out.2; omega) hE
            clear hE
            obtain ⟨av, cv, hv, -⟩ := hGK0.found.row.form
            obtain ⟨nf, hnf⟩ : ∃ nf, fs'.length = nf := ⟨_, rfl⟩
            rw [hnf] at hv hcnt
            rw [HGI.out.2] at hcnt
            subst hv
            have HGK0 : Hid (GK w8 w8 (.slice av nf cv) (.slice ag ng cg) (.slice ag ng cg) fs' gs' 0) := hGK0
            have HEND : Hid (∀ w' vg', GK w8 w' (.slice av nf cv) (.slice ag ng cg) vg' fs' gs' nf → ∃ vb' wants' told' gs'', GI textS w7 w' w1.heap.size 19 ((bs.take (k + 1)).map (·.2)).flatten vg' vb' wants' told' gs'' ∧ gs''.length = ng + nf) := fun w' vg' hK => by
              subst hnf
              obtain ⟨vb', wants', told', gs'', h1, h2⟩ := hend w' vg' hK
              exact ⟨vb', wants', told', gs'', by rw [HX1.out.1]; exact h1, by rw [h2, HGI.out.2]⟩
            have HNF : Hid (fs'.length = nf ∧ gs'.length = ng) := ⟨hnf, HGI.out.2⟩
            clear hGK0 hend hnf HX1 HGI
            refine wpList_runTo rfl (some 19) rfl (.slice av nf cv) w8 (by kernel_rfl) ?_
            simp only [Act.put, List.setIfInBounds_toArray, List.set_cons_zero, List.set_cons_succ]
            refine wpList_nil ?_
            refine hKc _ _ ?_
            clear hKc
            go_wp2
            go_loopw [16, 20] (fun x16 x20 w' => ∃ (q ng' cg' : Nat) (ag' : Option Addr), q ≤ nf ∧ x20 = .int .i64 (q : Int) ∧ x16 = .slice ag' ng' cg' ∧ ng + q = ng' ∧ Hid (GK w8 w' (.slice av nf cv) (.slice ag ng cg) (.slice ag' ng' cg') fs' gs' q)) (fun _ x20 _ => nf - (intOf x20).toNat)
            case atStart => exact ⟨0, ng, cg, ag, Nat.zero_le _, rfl, rfl, rfl, HGK0.out⟩
            case round =>
              obtain ⟨q, ng', cg', ag', hq, rfl, rfl, hng, HK⟩ := hrel
              by_cases hqlt : q < nf
              · obtain ⟨x, hx⟩ : ∃ x, fs'[q]? = some x := ⟨_, List.getElem?_eq_getElem (by have := HNF.out.1; omega)⟩
                obtain ⟨a9, c9, w9, hr9, hK9⟩ := HK.out.app (n := ng') hx (by rw [HNF.out.2]; exact hng) (by omega)
                obtain ⟨gv, ov, cv', cur', ev, -⟩ := HK.out.found.row.more (by have := HNF.out.1; omega)
                injection ev with ev1 ev2 ev3
                subst ev1
                obtain ⟨hc1, -⟩ := HK.out.found.at HNF.out.1 hx
                have hbx := HK.out.found.each x (List.mem_of_getElem? hx)
                obtain ⟨ax, cx, hxv, -⟩ := RowAt.form hbx
                rw [hxv] at hc1 hbx
                have HR9 : Hid _ := hr9
                have HK9 : Hid _ := hK9
                clear hr9 hK9 hxv ev2 ev3 hx HK
                generalize x.l = L at *
                obtain ⟨lx, hlx⟩ : ∃ lx, L.length = lx := ⟨_, rfl⟩
                rw [hlx] at hc1 hbx
                have HBX : Hid (ByAt wr (.slice ax lx cx) L) := hbx
                clear hbx hlx
                have hqlt' : (q : Int) < (nf : Int) := by omega
                have hqn : ¬ (nf : Int) ≤ (q : Int) := by omega
                have hqw : IntKind.i64.wrap ((q : Int) + 1) = (q : Int) + 1 := by rw [IntKind.wrap_i64]; omega
                go_upto_region 25 with fail
                rename_i Kc hKc
                refine wp_region_lit ?_
                refine wpList_runTo rfl (some 89) rfl (.slice ag' ng' cg') wr (by kernel_rfl) ?_
                simp only [Act.put, List.setIfInBounds_toArray, List.set_cons_zero, List.set_cons_succ]
                refine wpList_runTo rfl (some 90) rfl (.slice (some ⟨gv, ov, none⟩) nf cv) wr (by kernel_rfl) ?_
                simp only [Act.put, List.setIfInBounds_toArray, List.set_cons_zero, List.set_cons_succ]
                refine wpList_runTo rfl (some 91) rfl (.int .i64 (q : Int)) wr (by kernel_rfl) ?_
                simp only [Act.put, List.setIfInBounds_toArray, List.set_cons_zero, List.set_cons_succ]
                refine wpList_runTo rfl (some 92) rfl (.pointer (some ⟨gv, ov + q * 2, none⟩)) wr (by go_simp) ?_
                simp only [Act.put, List.setIfInBounds_toArray, List.set_cons_zero, List.set_cons_succ]
                refine wpList_runTo rfl (some 93) rfl (.pointer (some ⟨gv, ov + q * 2, none⟩)) wr (by go_simp) ?_
                simp only [Act.put, List.setIfInBounds_toArray, List.set_cons_zero, List.set_cons_succ]
                refine wpList_runTo rfl (some 94) rfl (.slice ax lx cx) wr (by go_simp) ?_
                simp only [Act.put, List.setIfInBounds_toArray, List.set_cons_zero, List.set_cons_succ]
                refine wpList_runTo rfl (some 95) rfl (.string ⟨L.toArray⟩) wr (by exact exec_convert (v := .slice ax lx cx) _ rfl (by kernel_rfl) (conv_by HBX.out)) ?_
                simp only [Act.put, List.setIfInBounds_toArray, List.set_cons_zero, List.set_cons_succ]
                refine wpList_runTo rfl (some 96) rfl (.slice (some ⟨wr.heap.size, 0, none⟩) 1 1) (wr.alloc (.cells #[.string ⟨L.toArray⟩] 9)) (by kernel_rfl) ?_
                simp only [Act.put, List.setIfInBounds_toArray, List.set_cons_zero, List.set_cons_succ]
                refine wpList_runTo rfl (some 97) rfl (.slice a9 (ng' + 1) c9) w9 (exec_append2 _ _ 39 39 rfl (by kernel_rfl) (by kernel_rfl) HR9.out) ?_
                simp only [Act.put, List.setIfInBounds_toArray, List.set_cons_zero, List.set_cons_succ]
                refine wpList_runTo rfl (some 16) rfl (.slice a9 (ng' + 1) c9) w9 (by kernel_rfl) ?_
                simp only [Act.put, List.setIfInBounds_toArray, List.set_cons_zero, List.set_cons_succ]
                refine wpList_nil ?_
                refine hKc _ _ ?_
                clear hKc HR9 HBX
                go_wp2
                go_roundw
                case rel => exact ⟨q + 1, ng' + 1, c9, a9, by omega, by go_num, rfl, by omega, HK9.out⟩
                case measure => simp [intOf]; omega
              · obtain rfl : q = nf := by omega
                have HE9 : Hid _ := HEND.out _ _ HK.out
                clear HEND HK HGK0
                have hqq : ¬ (q : Int) < (q : Int) := by omega
                go_wp2
                go_roundw
                case rel =>
                  obtain ⟨vb', wants', told', gs'', h1, h2⟩ := HE9.out
                  exact ⟨k + 1, ng', cg', ag', by omega, by go_num, rfl, vb', wants', told', gs'', h1, by omega⟩
                case measure => simp [intOf]; omega
          · obtain ⟨vb, wants, told, gs', hGI, hgl⟩ := HG.out
            obtain rfl : k = nb := by omega
            have hall : ((bs.take k).map (·.2)).flatten = X := by
              rw [List.take_of_length_le (by rw [HPJ.out.1.len]; exact Nat.le_refl _)]
              have := HPJ.out.1.eq
              rwa [List.append_nil] at this
            rw [hall] at hGI
            obtain ⟨pre, hw1, hw2, hw3⟩ := walk_found textS_steady textS_zero textS_le l Fs HSI.out.2.1
            rw [HX.out.1] at hw1 hw2 hw3
            have hgp : gs' = pre ++ Fs := hGI.eq.trans hw1
            obtain ⟨vba, vbc, hvb, -⟩ := RowAt.form hGI.row
            rw [hw2] at hvb
            subst hvb
            have hbl := hGI.blk
            obtain ⟨jk, hjk⟩ : ∃ jk, (walkL textS X 0).k = jk := ⟨_, rfl⟩
            rw [hjk] at hbl hw3
            have hjN : jk ≤ N := by have := HS.out.2; omega
            obtain ⟨d, hd⟩ : ∃ d, pre.length = d := ⟨_, rfl⟩
            have hng : ng = d + nw := by rw [← hgl, hgp, List.length_append, hd, HSI.out.2.2.1]
            have hst7 := HSI.out.1.fr HPJ.out.1.fr fun _ _ q => q
            have hst := hst7.fr hGI.fr fun b hb e => by subst e; exact RowAt.ne_type hst7 HPJ.out.2 (by decide) hb
            have HF : Hid (StrAt wr (.slice aw nw cw) Fs ∧ Fs.length = nw ∧ StrAt wr (.slice ag ng cg) (pre ++ Fs) ∧ pre.length = d) := ⟨hst, HSI.out.2.2.1, by rw [← hgp]; exact hGI.got, hd⟩
            have HE : Hid (FmB wr w1.heap.size (.func (.func 19) #[] #[]) (.slice vba 0 vbc) wants jk told) := hbl
            have HBL : Hid (Below w.heap.size w wr) := ((HSI.out.2.2.2.2.below (Nat.le_refl _) fun _ _ q => q).trans (HPJ.out.1.fr.below HSI.out.2.2.2.2.size fun _ _ q => q)).trans (hGI.fr.below (Nat.le_trans HSI.out.2.2.2.2.size HPJ.out.1.fr.size) fun b hb q => by have := HZ.out.1; omega)
            have hngb : ng ≤ ns := by
              have e1 := walk_count textS_steady _ X 0 (Nat.le_refl _)
              have e2 := congrArg List.length hGI.eq
              rw [List.length_map, hgl] at e2
              have := HX.out.2
              omega
            have HNG : Hid (ng = d + nw ∧ ng ≤ ns ∧ ns ≤ 1000000000) := ⟨hng, hngb, by omega⟩
            clear hst hst7 hbl hgp hw1 hw2 hw3 hjk hd hgl hall hGI HG
            have hge : ¬ (k : Int) < (k : Int) := by omega
            have hnn : ¬ (ng : Int) < (nw : Int) := by omega
            have hjN' : ¬ (N : Int) < (jk : Int) := by omega
            have hsub : IntKind.i64.wrap ((ng : Int) - (nw : Int)) = (d : Int) := by rw [IntKind.wrap_i64]; omega
            clear hng hngb
            go_upto_region 26 with fail
            rename_i Kc hKc
            refine wp_region_lit ?_
            refine wpList_runToG (by kernel_rfl) (some 98) rfl (.slice ag ng cg) wr (by kernel_rfl) ?_
            simp only [Act.put, List.setIfInBounds_toArray, List.set_cons_zero, List.set_cons_succ]
            refine wpList_runToG (by kernel_rfl) (some 99) rfl (.int .i64 (ng : Int)) wr (by kernel_rfl) ?_
            simp only [Act.put, List.setIfInBounds_toArray, List.set_cons_zero, List.set_cons_succ]
            refine wpList_runToG (by kernel_rfl) (some 100) rfl (.slice aw nw cw) wr (by kernel_rfl) ?_
            simp only [Act.put, List.setIfInBounds_toArray, List.set_cons_zero, List.set_cons_succ]
            refine wpList_runToG (by kernel_rfl) (some 101) rfl (.int .i64 (nw : Int)) wr (by kernel_rfl) ?_
            simp only [Act.put, List.setIfInBounds_toArray, List.set_cons_zero, List.set_cons_succ]
            refine wpList_runToG (by kernel_rfl) (some 102) rfl (.bool false) wr (by go_simp) ?_
            simp only [Act.put, List.setIfInBounds_toArray, List.set_cons_zero, List.set_cons_succ]
            refine wpList_runToG (by kernel_rfl) (some 103) rfl (.bool false) wr (by kernel_rfl) ?_
            simp only [Act.put, List.setIfInBounds_toArray, List.set_cons_zero, List.set_cons_succ]
            refine wpList_runToG (by kernel_rfl) (some 104) rfl (.pointer (some ⟨w1.heap.size, 0, none⟩)) wr (by kernel_rfl) ?_
            simp only [Act.put, List.setIfInBounds_toArray, List.set_cons_zero, List.set_cons_succ]
            refine wpList_callG (by kernel_rfl) (some 105) rfl 13 #[.pointer (some ⟨w1.heap.size, 0, none⟩)] (by kernel_rfl) (Waits_any HE.out) ?_
            rintro e w9 ⟨rfl, hw9⟩
            rw [hw9]
            clear hw9
            refine ⟨_, rfl, ?_⟩
            simp only [Act.put, List.setIfInBounds_toArray, List.set_cons_zero, List.set_cons_succ]
            refine wpList_runToG (by kernel_rfl) (some 106) rfl (.bool false) wr (by go_simp) ?_
            simp only [Act.put, List.setIfInBounds_toArray, List.set_cons_zero, List.set_cons_succ]
            refine wpList_runToG (by kernel_rfl) (some 107) rfl (.bool false) wr (by kernel_rfl) ?_
            simp only [Act.put, List.setIfInBounds_toArray, List.set_cons_zero, List.set_cons_succ]
            refine wpList_runToG (by kernel_rfl) (some 108) rfl (.bool false) wr (by kernel_rfl) ?_
            simp only [Act.put, List.setIfInBounds_toArray, List.set_cons_zero, List.set_cons_succ]
            refine wpList_runToG (by kernel_rfl) (some 109) rfl (.pointer (some ⟨w1.heap.size, 0, none⟩)) wr (by kernel_rfl) ?_
            simp only [Act.put, List.setIfInBounds_toArray, List.set_cons_zero, List.set_cons_succ]
            refine wpList_callG (by kernel_rfl) (some 110) rfl 12 #[.pointer (some ⟨w1.heap.size, 0, none⟩)] (by kernel_rfl) (Junk_any HE.out) ?_
            rintro e w9 ⟨rfl, hw9⟩
            rw [hw9]
            clear hw9
            refine ⟨_, rfl, ?_⟩
            simp only [Act.put, List.setIfInBounds_toArray, List.set_cons_zero, List.set_cons_succ]
            refine wpList_runToG (by kernel_rfl) (some 111) rfl (.int .i64 (N : Int)) wr (by kernel_rfl) ?_
            simp only [Act.put, List.setIfInBounds_toArray, List.set_cons_zero, List.set_cons_succ]
            refine wpList_runToG (by kernel_rfl) (some 112) rfl (.bool false) wr (by go_simp) ?_
            simp only [Act.put, List.setIfInBounds_toArray, List.set_cons_zero, List.set_cons_succ]
            refine wpList_runToG (by kernel_rfl) (some 113) rfl (.bool false) wr (by kernel_rfl) ?_
            simp only [Act.put, List.setIfInBounds_toArray, List.set_cons_zero, List.set_cons_succ]
            refine wpList_nil ?_
            refine hKc _ _ ?_
            clear hKc HE
            go_upto_region 28 with fail
            go_cut [16] from 114 to 120 (fun x16 wx => (∃ a9 n9 c9, x16 = .slice a9 n9 c9 ∧ n9 = nw ∧ Hid (∀ i F, Fs[i]? = some F → ∃ g9 o9, a9 = some ⟨g9, o9, none⟩ ∧ wr.cell? ⟨g9, o9 + i, none⟩ = some (strV F))) ∧ wx = wr)
            case first => as_aux_lemma =>
              rcases HF.out.2.2.1.2 with ⟨e, h0⟩ | ⟨gg, og, cap, cur', e, -, hcap, -⟩
              · injection e with e1 e2 e3
                subst e1 e2 e3
                obtain rfl : d = 0 := by have := HNG.out; omega
                obtain rfl : nw = 0 := by have := HNG.out; omega
                clear h0
                go_wp2
                go_meet
                exact ⟨⟨none, 0, 0, rfl, rfl, fun i F hF => by
                  have h1 := HF.out.2.1
                  obtain rfl : Fs = [] := List.length_eq_zero_iff.1 h1
                  cases hF⟩, rfl⟩
              · injection e with e1 e2 e3
                subst e1 e3
                have hN9 := HNG.out
                have hcell : ∀ i F, Fs[i]? = some F → wr.cell? ⟨gg, og + d + i, none⟩ = some (strV F) := fun i F hF => by
                  have := HF.out.2.2.1.at e2.symm (got_last (pre := pre) hF)
                  rw [HF.out.2.2.2, ← Nat.add_assoc] at this
                  exact this
                have HC9 : Hid _ := hcell
                have HE2 : Hid (ng = (pre ++ Fs).length) := e2
                clear hcell
                have hd1 : (d : Int) ≤ (ng : Int) := by omega
                have hd2 : (d : Int) ≤ (cg : Int) := by omega
                have hd3 : (d : Int) ≤ 9223372036854775807 := by omega
                have hd4 : IntKind.i64.wrap (d : Int) = (d : Int) := by rw [IntKind.wrap_i64]; omega
                by_cases hcd : cg = d
                · subst hcd
                  have h9 : ng - cg = 0 ∧ nw = 0 := by omega
                  have HN0 : Hid (ng - cg = 0 ∧ nw = 0) := h9
                  clear hN9 e2 hcap h9
                  go_wp2
                  go_meet
                  exact ⟨⟨_, _, _, rfl, by have := HN0.out; omega, fun i F hF => by
                    have h1 := HF.out.2.1
                    rw [HN0.out.2] at h1
                    obtain rfl : Fs = [] := List.length_eq_zero_iff.1 h1
                    cases hF⟩, rfl⟩
                · have HN0 : Hid (ng - d = nw) := by show ng - d = nw; omega
                  clear hN9 e2 hcap
                  go_wp2
                  go_meet
                  exact ⟨⟨_, _, _, rfl, by have := HN0.out; omega, fun i F hF => ⟨gg, og + d, rfl, HC9.out i F hF⟩⟩, rfl⟩
            case rest =>
              obtain ⟨⟨a9, n9, c9, rfl, hn9, HC⟩, hwq⟩ := hcut
              subst hn9
              subst hwq
              clear hnn hjN' hsub HNG
              have HF2 : Hid (StrAt wc (.slice aw n9 cw) Fs ∧ Fs.length = n9) := ⟨HF.out.1, HF.out.2.1⟩
              clear HF
              obtain ⟨wq, hwq⟩ : ∃ wq, wq = wc := ⟨_, rfl⟩
              rw [← hwq] at HC HF2 HBL
              have HWQ : Hid (wq = wc) := hwq
              clear hwq
              go_wp2
              go_loopw [21] (fun x21 w' => ∃ i : Nat, i ≤ n9 ∧ x21 = .int .i64 (i : Int) ∧ Hid (Fr wq w' (fun _ => False))) (fun x21 _ => n9 - (intOf x21).toNat)
              case atStart => exact ⟨0, Nat.zero_le _, rfl, by rw [← HWQ.out]; exact Fr.refl _ _⟩
              case round =>
                obtain ⟨j, hj, rfl, HQ⟩ := hrel
                by_cases hjl : j < n9
                · obtain ⟨F, hF⟩ : ∃ F, Fs[j]? = some F := ⟨_, List.getElem?_eq_getElem (by have := HF2.out.2; omega)⟩
                  obtain ⟨g9, o9, rfl, hc9⟩ := HC.out j F hF
                  obtain ⟨gw, ow, cw', curw, ew, -⟩ := RowAt.more HF2.out.1 (by have := HF2.out.2; omega)
                  injection ew with ew1 ew2 ew3
                  subst ew1
                  have hcw := HF2.out.1.at HF2.out.2 hF
                  have hF9 : Fr wq wr.drew (fun _ => False) := HQ.out.trans (Fr.of_below (Below.drew (Below.refl _ wr)) (fun _ => False)) fun _ _ q => q.elim id id
                  have hSS : wr.drew.cell? ⟨g9, o9 + j, none⟩ = some (strV F) ∧ wr.drew.cell? ⟨gw, ow + j, none⟩ = some (strV F) := ⟨hF9.cell hc9 id, hF9.cell hcw id⟩
                  obtain ⟨s9, hs9⟩ : ∃ s9, strV F = .string s9 := ⟨_, rfl⟩
                  rw [hs9] at hSS
                  have HQ9 : Hid (Fr wq wr.drew (fun _ => False)) := hF9
                  clear hF9 hc9 hcw hs9 hF ew2 ew3 HQ
                  have hj1 : (j : Int) < (n9 : Int) := by omega
                  have hj2 : ¬ (n9 : Int) ≤ (j : Int) := by omega
                  have hjw : IntKind.i64.wrap ((j : Int) + 1) = (j : Int) + 1 := by rw [IntKind.wrap_i64]; have := HF2.out.2; omega
                  go_upto_region 32 with fail
                  rename_i Kc hKc
                  refine wp_region_held (S := fun w' => w'.cell? ⟨g9, o9 + j, none⟩ = some (.string s9) ∧ w'.cell? ⟨gw, ow + j, none⟩ = some (.string s9)) (by kernel_rfl) ?_
                  change wpAnyH _ _ _ _ _ _ _ _ (World.drew _)
                  generalize wr.drew = w10 at *
                  refine takeR (i := 0) (v := .slice (some ⟨g9, o9, none⟩) n9 c9) (some 127) rfl rfl (by kernel_rfl) (by kernel_rfl) (by kernel_rfl) (fun _ _ _ h => h) (Or.inl ⟨by kernel_rfl, fun w' hSw => by kernel_rfl⟩) hSS ?_
                  simp only [Act.put, List.setIfInBounds_toArray, List.set_cons_zero, List.set_cons_succ]
                  refine takeR (i := 1) (v := .int .i64 (j : Int)) (some 128) rfl rfl (by kernel_rfl) (by kernel_rfl) (by kernel_rfl) (fun _ _ _ h => h) (Or.inl ⟨by kernel_rfl, fun w' hSw => by kernel_rfl⟩) hSS ?_
                  simp only [Act.put, List.setIfInBounds_toArray, List.set_cons_zero, List.set_cons_succ]
                  refine takeR (i := 2) (v := .pointer (some ⟨g9, o9 + j, none⟩)) (some 129) rfl rfl (by kernel_rfl) (by kernel_rfl) (by kernel_rfl) (fun _ _ _ h => h) (Or.inl ⟨by kernel_rfl, fun w' hSw => by clear hSw; go_simp⟩) hSS ?_
                  simp only [Act.put, List.setIfInBounds_toArray, List.set_cons_zero, List.set_cons_succ]
                  refine takeR (i := 3) (v := .string s9) (some 130) rfl rfl (by kernel_rfl) (by kernel_rfl) (by kernel_rfl) (fun _ _ _ h => h) (Or.inl ⟨by kernel_rfl, fun w' hSw => by have q0 := hSw.1; go_simp⟩) hSS ?_
                  simp only [Act.put, List.setIfInBounds_toArray, List.set_cons_zero, List.set_cons_succ]
                  refine takeR (i := 4) (v := .slice (some ⟨gw, ow, none⟩) n9 cw) (some 131) rfl rfl (by kernel_rfl) (by kernel_rfl) (by kernel_rfl) (fun _ _ _ h => h) (Or.inl ⟨by kernel_rfl, fun w' hSw => by kernel_rfl⟩) hSS ?_
                  simp only [Act.put, List.setIfInBounds_toArray, List.set_cons_zero, List.set_cons_succ]
                  refine takeR (i := 5) (v := .int .i64 (j : Int)) (some 132) rfl rfl (by kernel_rfl) (by kernel_rfl) (by kernel_rfl) (fun _ _ _ h => h) (Or.inl ⟨by kernel_rfl, fun w' hSw => by kernel_rfl⟩) hSS ?_
                  simp only [Act.put, List.setIfInBounds_toArray, List.set_cons_zero, List.set_cons_succ]
                  refine takeR (i := 6) (v := .pointer (some ⟨gw, ow + j, none⟩)) (some 133) rfl rfl (by kernel_rfl) (by kernel_rfl) (by kernel_rfl) (fun _ _ _ h => h) (Or.inl ⟨by kernel_rfl, fun w' hSw => by clear hSw; go_simp⟩) hSS ?_
                  simp only [Act.put, List.setIfInBounds_toArray, List.set_cons_zero, List.set_cons_succ]
                  refine takeR (i := 7) (v := .string s9) (some 134) rfl rfl (by kernel_rfl) (by kernel_rfl) (by kernel_rfl) (fun _ _ _ h => h) (Or.inl ⟨by kernel_rfl, fun w' hSw => by have q0 := hSw.2; go_simp⟩) hSS ?_
                  simp only [Act.put, List.setIfInBounds_toArray, List.set_cons_zero, List.set_cons_succ]
                  refine takeR (i := 8) (v := .bool false) (some 135) rfl rfl (by kernel_rfl) (by kernel_rfl) (by kernel_rfl) (fun _ _ _ h => h) (Or.inl ⟨by kernel_rfl, fun w' hSw => by clear hSw; go_simp⟩) hSS ?_
                  simp only [Act.put, List.setIfInBounds_toArray, List.set_cons_zero, List.set_cons_succ]
                  refine wpAnyH_done (by kernel_rfl) ?_ _
                  refine hKc _ _ ?_
                  clear hKc hSS
                  go_wp2
                  go_roundw
                  case rel => exact ⟨j + 1, by omega, by go_num, HQ9.out⟩
                  case measure => simp [intOf]; omega
                · obtain rfl : j = n9 := by omega
                  have HBE : Hid (Below w.heap.size w wr) := HBL.out.trans (HQ.out.below HBL.out.size fun _ _ q => q)
                  have hjj : ¬ (j : Int) < (j : Int) := by omega
                  clear HQ
                  go_wp2
                  go_ret
                  exact ⟨rfl, HBE.out⟩
end Go.Proofs.YtkpoheknmcepnaaGreatDoor
