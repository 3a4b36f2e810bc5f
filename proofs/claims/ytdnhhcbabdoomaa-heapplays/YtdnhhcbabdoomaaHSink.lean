/-
  heap: firstBelow, sink, settle.
-/
import Derived.Test.YtdnhhcbabdoomaaHRise
namespace Go.Proofs.Ytdnhhcbabdoomaa
set_option linter.unusedVariables false
set_option linter.unusedSimpArgs false
open Go.RowKit Go.Great

section
variable {A : Ask} {w w' : World} {h : Nat} {v : Value} {t : List (It Th)} {N c : Nat}
set_option maxRecDepth 100000 in
set_option maxHeartbeats 2000000 in
theorem firstBelow_none (H : HpM A w h v t N c) (hA : A.Ok) {k : Nat} {it : It Th} (hk : t[k]? = some it) (hn : ¬ 2 * k + 1 < t.length) :
    Calls Try.prog 89 #[ptr h, ptr it.p] w fun e w' => e = .returned (.pointer none) ∧ HpM A w' h v t N c ∧ Fr w w' A.ex := by
  obtain ⟨a0, a1, a2, a3⟩ := H.at hk
  obtain ⟨d0, d1, d2⟩ := H.hd
  have HS : Hid (HpM A w h v t N c) := H
  have hlen := H.le
  have hkl := get_lt hk
  obtain ⟨ao, cap, hvf, hcap⟩ := H.form
  subst hvf
  have hw1 : IntKind.i64.wrap (2 * (k : Int)) = 2 * (k : Int) := by rw [IntKind.wrap_i64]; omega
  have hw2 : IntKind.i64.wrap (2 * (k : Int) + 1) = 2 * (k : Int) + 1 := by rw [IntKind.wrap_i64]; omega
  have hge : (t.length : Int) ≤ 2 * (k : Int) + 1 := by omega
  clear a0 a1 a2 d0 d2 H hk hn hlen hcap hkl hA
  go_enter Try.func89, Try.ntmps89
  go_wp2
  go_ret
  exact ⟨rfl, HS.out, Fr.refl _ _⟩
set_option maxRecDepth 100000 in
set_option maxHeartbeats 2000000 in
theorem firstBelow_one (H : HpM A w h v t N c) (hA : A.Ok) {k : Nat} {it b : It Th} (hk : t[k]? = some it) (hn : 2 * k + 2 = t.length) (hb : t[2 * k + 1]? = some b) :
    Calls Try.prog 89 #[ptr h, ptr it.p] w fun e w' => e = .returned (ptr b.p) ∧ HpM A w' h v t N c ∧ Fr w w' A.ex := by
  obtain ⟨a0, a1, a2, a3⟩ := H.at hk
  obtain ⟨d0, d1, d2⟩ := H.hd
  have HS : Hid (HpM A w h v t N c ∧ A.Ok) := ⟨H, hA⟩
  have hlen := H.le
  obtain ⟨g, off, cap, hv, h1, h2, h3, h4, h5⟩ := H.slice (by omega)
  subst hv
  have hc := h4 _ b hb
  have hw1 : IntKind.i64.wrap (2 * (k : Int)) = 2 * (k : Int) := by rw [IntKind.wrap_i64]; omega
  have hw2 : IntKind.i64.wrap (2 * (k : Int) + 1) = ((2 * k + 1 : Nat) : Int) := by rw [IntKind.wrap_i64]; omega
  have hw3 : IntKind.i64.wrap (((2 * k + 1 : Nat) : Int) + 1) = (t.length : Int) := by rw [IntKind.wrap_i64]; omega
  have hge : ¬ (t.length : Int) ≤ ((2 * k + 1 : Nat) : Int) := by omega
  have hlt : ((2 * k + 1 : Nat) : Int) < (t.length : Int) := by omega
  clear a0 a1 a2 d0 d2 H hk hn hlen hA h1 h2 h3 h4 h5 hb
  generalize 2 * k + 1 = k2 at *
  go_enter Try.func89, Try.ntmps89
  go_upto_region 4 with fail
  go_quiet (fail)
  go_wp2
  go_ret
  exact ⟨rfl, HS.out.1.drewN HS.out.2 _, (Fr.refl _ _).drewN _⟩
set_option maxRecDepth 100000 in
set_option maxHeartbeats 4000000 in
theorem firstBelow_two (H : HpM A w h v t N c) (hA : A.Ok) {k : Nat} {it a b : It Th} (hk : t[k]? = some it) (ha : t[2 * k + 1]? = some a) (hb : t[2 * k + 2]? = some b) :
    Calls Try.prog 89 #[ptr h, ptr it.p] w fun e w' => e = .returned (ptr (if ahB A.lt b a then b.p else a.p)) ∧ HpM A w' h v t N (c + 1) ∧ Fr w w' A.ex := by
  obtain ⟨a0, a1, a2, a3⟩ := H.at hk
  obtain ⟨d0, d1, d2⟩ := H.hd
  have HS : Hid (HpM A w h v t N c ∧ A.Ok ∧ t[2 * k + 1]? = some a ∧ t[2 * k + 2]? = some b) := ⟨H, hA, ha, hb⟩
  have hlen := H.le
  have hal := get_lt hb
  obtain ⟨g, off, cap, hv, h1, h2, h3, h4, h5⟩ := H.slice (by omega)
  subst hv
  have hc := h4 _ a ha
  have hc2 := h4 _ b hb
  have hw1 : IntKind.i64.wrap (2 * (k : Int)) = 2 * (k : Int) := by rw [IntKind.wrap_i64]; omega
  have hw2 : IntKind.i64.wrap (2 * (k : Int) + 1) = ((2 * k + 1 : Nat) : Int) := by rw [IntKind.wrap_i64]; omega
  have hw3 : IntKind.i64.wrap (((2 * k + 1 : Nat) : Int) + 1) = ((2 * k + 2 : Nat) : Int) := by rw [IntKind.wrap_i64]; omega
  have hge : ¬ (t.length : Int) ≤ ((2 * k + 1 : Nat) : Int) := by omega
  have hlt : ((2 * k + 1 : Nat) : Int) < (t.length : Int) := by omega
  have hlt2 : ((2 * k + 2 : Nat) : Int) < (t.length : Int) := by omega
  have hd2 : decide (((2 * k + 2 : Nat) : Int) < (t.length : Int)) = true := by simpa using hlt2
  clear a0 a1 a2 d0 d2 H hk hlen hA h1 h2 h3 h4 h5 hb ha hal
  generalize hk2 : 2 * k + 1 = k2 at *
  generalize hk3 : 2 * k + 2 = k3 at *
  clear hk2 hk3
  generalize hRV : (if ahB A.lt b a then b.p else a.p) = rv at *
  have HRV : Hid ((if ahB A.lt b a then b.p else a.p) = rv) := hRV
  clear hRV
  go_enter Try.func89, Try.ntmps89
  go_upto_region 4 with fail
  rename_i Kd hKd
  refine wp_region_held (S := fun w' => w'.cell? ⟨h, 1, none⟩ = some (.slice (some ⟨g, off, none⟩) t.length cap) ∧ w'.cell? ⟨g, off + k2, none⟩ = some (ptr a.p) ∧ w'.cell? ⟨g, off + k3, none⟩ = some (ptr b.p)) (by kernel_rfl) ?_
  change wpAnyH _ _ _ _ _ _ _ _ (World.drew _)
  have hS : w.drew.cell? ⟨h, 1, none⟩ = some (.slice (some ⟨g, off, none⟩) t.length cap) ∧ w.drew.cell? ⟨g, off + k2, none⟩ = some (ptr a.p) ∧ w.drew.cell? ⟨g, off + k3, none⟩ = some (ptr b.p) := ⟨d1, hc, hc2⟩
  have HD : Hid (HpM A w.drew h (.slice (some ⟨g, off, none⟩) t.length cap) t N c ∧ Fr w w.drew A.ex) := ⟨HS.out.1.drewN HS.out.2.1 1, (Fr.refl w A.ex).drew⟩
  have hah := ahead_any HD.out.1 HS.out.2.1 HS.out.2.2.2 HS.out.2.2.1
  clear d1 hc hc2 a3
  generalize w.drew = w0 at *
  refine takeR (i := 0) (v := .int .i64 (k2 : Int)) (some 19) rfl rfl (by kernel_rfl) (by kernel_rfl) (by kernel_rfl) (fun _ _ _ h => h) (Or.inl ⟨by kernel_rfl, fun w' hSw => by kernel_rfl⟩) hS ?_
  simp only [Act.put, List.setIfInBounds_toArray, List.set_cons_zero, List.set_cons_succ]
  refine takeR (i := 1) (v := .int .i64 (k3 : Int)) (some 20) rfl rfl (by kernel_rfl) (by kernel_rfl) (by kernel_rfl) (fun _ _ _ h => h) (Or.inl ⟨by kernel_rfl, fun w' hSw => by clear hSw; go_simp⟩) hS ?_
  simp only [Act.put, List.setIfInBounds_toArray, List.set_cons_zero, List.set_cons_succ]
  refine takeR (i := 2) (v := ptr h) (some 21) rfl rfl (by kernel_rfl) (by kernel_rfl) (by kernel_rfl) (fun _ _ _ h => h) (Or.inl ⟨by kernel_rfl, fun w' hSw => by kernel_rfl⟩) hS ?_
  simp only [Act.put, List.setIfInBounds_toArray, List.set_cons_zero, List.set_cons_succ]
  refine takeR (i := 3) (v := ptr h) (some 22) rfl rfl (by kernel_rfl) (by kernel_rfl) (by kernel_rfl) (fun _ _ _ h => h) (Or.inl ⟨by kernel_rfl, fun w' hSw => by kernel_rfl⟩) hS ?_
  simp only [Act.put, List.setIfInBounds_toArray, List.set_cons_zero, List.set_cons_succ]
  refine takeR (i := 4) (v := .pointer (some ⟨h, 1, none⟩)) (some 23) rfl rfl (by kernel_rfl) (by kernel_rfl) (by kernel_rfl) (fun _ _ _ h => h) (Or.inl ⟨by kernel_rfl, fun w' hSw => by kernel_rfl⟩) hS ?_
  simp only [Act.put, List.setIfInBounds_toArray, List.set_cons_zero, List.set_cons_succ]
  refine takeR (i := 5) (v := .slice (some ⟨g, off, none⟩) t.length cap) (some 24) rfl rfl (by kernel_rfl) (by kernel_rfl) (by kernel_rfl) (fun _ _ _ h => h) (Or.inl ⟨by kernel_rfl, fun w' hSw => by have q := hSw.1; clear hSw; go_simp⟩) hS ?_
  simp only [Act.put, List.setIfInBounds_toArray, List.set_cons_zero, List.set_cons_succ]
  refine takeR (i := 6) (v := .int .i64 (t.length : Int)) (some 25) rfl rfl (by kernel_rfl) (by kernel_rfl) (by kernel_rfl) (fun _ _ _ h => h) (Or.inl ⟨by kernel_rfl, fun w' hSw => by kernel_rfl⟩) hS ?_
  simp only [Act.put, List.setIfInBounds_toArray, List.set_cons_zero, List.set_cons_succ]
  refine takeR (i := 7) (v := .bool true) (some 26) rfl rfl (by kernel_rfl) (by kernel_rfl) (by kernel_rfl) (fun _ _ _ h => h) (Or.inl ⟨by kernel_rfl, fun w' hSw => by clear hSw; go_simp⟩) hS ?_
  simp only [Act.put, List.setIfInBounds_toArray, List.set_cons_zero, List.set_cons_succ]
  refine takeR (i := 8) (v := .bool true) (some 27) rfl rfl (by kernel_rfl) (by kernel_rfl) (by kernel_rfl) (fun _ _ _ h => h) (Or.inl ⟨by kernel_rfl, fun w' hSw => by kernel_rfl⟩) hS ?_
  simp only [Act.put, List.setIfInBounds_toArray, List.set_cons_zero, List.set_cons_succ]
  refine takeR (i := 9) (v := ptr h) (some 28) rfl rfl (by kernel_rfl) (by kernel_rfl) (by kernel_rfl) (fun _ _ _ h => h) (Or.inl ⟨by kernel_rfl, fun w' hSw => by kernel_rfl⟩) hS ?_
  simp only [Act.put, List.setIfInBounds_toArray, List.set_cons_zero, List.set_cons_succ]
  refine takeR (i := 10) (v := ptr h) (some 29) rfl rfl (by kernel_rfl) (by kernel_rfl) (by kernel_rfl) (fun _ _ _ h => h) (Or.inl ⟨by kernel_rfl, fun w' hSw => by kernel_rfl⟩) hS ?_
  simp only [Act.put, List.setIfInBounds_toArray, List.set_cons_zero, List.set_cons_succ]
  refine takeR (i := 11) (v := ptr h) (some 30) rfl rfl (by kernel_rfl) (by kernel_rfl) (by kernel_rfl) (fun _ _ _ h => h) (Or.inl ⟨by kernel_rfl, fun w' hSw => by kernel_rfl⟩) hS ?_
  simp only [Act.put, List.setIfInBounds_toArray, List.set_cons_zero, List.set_cons_succ]
  refine takeR (i := 12) (v := .pointer (some ⟨h, 1, none⟩)) (some 31) rfl rfl (by kernel_rfl) (by kernel_rfl) (by kernel_rfl) (fun _ _ _ h => h) (Or.inl ⟨by kernel_rfl, fun w' hSw => by kernel_rfl⟩) hS ?_
  simp only [Act.put, List.setIfInBounds_toArray, List.set_cons_zero, List.set_cons_succ]
  refine takeR (i := 13) (v := .slice (some ⟨g, off, none⟩) t.length cap) (some 32) rfl rfl (by kernel_rfl) (by kernel_rfl) (by kernel_rfl) (fun _ _ _ h => h) (Or.inl ⟨by kernel_rfl, fun w' hSw => by have q := hSw.1; clear hSw; go_simp⟩) hS ?_
  simp only [Act.put, List.setIfInBounds_toArray, List.set_cons_zero, List.set_cons_succ]
  refine takeR (i := 14) (v := .int .i64 (k2 : Int)) (some 33) rfl rfl (by kernel_rfl) (by kernel_rfl) (by kernel_rfl) (fun _ _ _ h => h) (Or.inl ⟨by kernel_rfl, fun w' hSw => by kernel_rfl⟩) hS ?_
  simp only [Act.put, List.setIfInBounds_toArray, List.set_cons_zero, List.set_cons_succ]
  refine takeR (i := 15) (v := .int .i64 (k3 : Int)) (some 34) rfl rfl (by kernel_rfl) (by kernel_rfl) (by kernel_rfl) (fun _ _ _ h => h) (Or.inl ⟨by kernel_rfl, fun w' hSw => by clear hSw; go_simp⟩) hS ?_
  simp only [Act.put, List.setIfInBounds_toArray, List.set_cons_zero, List.set_cons_succ]
  refine takeR (i := 16) (v := .pointer (some ⟨g, off + k3, none⟩)) (some 35) rfl rfl (by kernel_rfl) (by kernel_rfl) (by kernel_rfl) (fun _ _ _ h => h) (Or.inl ⟨by kernel_rfl, fun w' hSw => by clear hSw; go_simp⟩) hS ?_
  simp only [Act.put, List.setIfInBounds_toArray, List.set_cons_zero, List.set_cons_succ]
  refine takeR (i := 17) (v := ptr b.p) (some 36) rfl rfl (by kernel_rfl) (by kernel_rfl) (by kernel_rfl) (fun _ _ _ h => h) (Or.inl ⟨by kernel_rfl, fun w' hSw => by have q := hSw.2.2; clear hSw; go_simp⟩) hS ?_
  simp only [Act.put, List.setIfInBounds_toArray, List.set_cons_zero, List.set_cons_succ]
  refine takeR (i := 18) (v := ptr h) (some 37) rfl rfl (by kernel_rfl) (by kernel_rfl) (by kernel_rfl) (fun _ _ _ h => h) (Or.inl ⟨by kernel_rfl, fun w' hSw => by kernel_rfl⟩) hS ?_
  simp only [Act.put, List.setIfInBounds_toArray, List.set_cons_zero, List.set_cons_succ]
  refine takeR (i := 19) (v := ptr h) (some 38) rfl rfl (by kernel_rfl) (by kernel_rfl) (by kernel_rfl) (fun _ _ _ h => h) (Or.inl ⟨by kernel_rfl, fun w' hSw => by kernel_rfl⟩) hS ?_
  simp only [Act.put, List.setIfInBounds_toArray, List.set_cons_zero, List.set_cons_succ]
  refine takeR (i := 20) (v := .pointer (some ⟨h, 1, none⟩)) (some 39) rfl rfl (by kernel_rfl) (by kernel_rfl) (by kernel_rfl) (fun _ _ _ h => h) (Or.inl ⟨by kernel_rfl, fun w' hSw => by kernel_rfl⟩) hS ?_
  simp only [Act.put, List.setIfInBounds_toArray, List.set_cons_zero, List.set_cons_succ]
  refine takeR (i := 21) (v := .slice (some ⟨g, off, none⟩) t.length cap) (some 40) rfl rfl (by kernel_rfl) (by kernel_rfl) (by kernel_rfl) (fun _ _ _ h => h) (Or.inl ⟨by kernel_rfl, fun w' hSw => by have q := hSw.1; clear hSw; go_simp⟩) hS ?_
  simp only [Act.put, List.setIfInBounds_toArray, List.set_cons_zero, List.set_cons_succ]
  refine takeR (i := 22) (v := .int .i64 (k2 : Int)) (some 41) rfl rfl (by kernel_rfl) (by kernel_rfl) (by kernel_rfl) (fun _ _ _ h => h) (Or.inl ⟨by kernel_rfl, fun w' hSw => by kernel_rfl⟩) hS ?_
  simp only [Act.put, List.setIfInBounds_toArray, List.set_cons_zero, List.set_cons_succ]
  refine takeR (i := 23) (v := .pointer (some ⟨g, off + k2, none⟩)) (some 42) rfl rfl (by kernel_rfl) (by kernel_rfl) (by kernel_rfl) (fun _ _ _ h => h) (Or.inl ⟨by kernel_rfl, fun w' hSw => by clear hSw; go_simp⟩) hS ?_
  simp only [Act.put, List.setIfInBounds_toArray, List.set_cons_zero, List.set_cons_succ]
  refine takeR (i := 24) (v := ptr a.p) (some 43) rfl rfl (by kernel_rfl) (by kernel_rfl) (by kernel_rfl) (fun _ _ _ h => h) (Or.inl ⟨by kernel_rfl, fun w' hSw => by have q := hSw.2.1; clear hSw; go_simp⟩) hS ?_
  simp only [Act.put, List.setIfInBounds_toArray, List.set_cons_zero, List.set_cons_succ]
  refine wpAnyH_ready (rs := [25]) (by kernel_rfl) (by simp) ?_
  refine AllReadyH.cons rfl (fun K1 hK1 => ?_) AllReadyH.nil
  rw [if_pos (by kernel_rfl)]
  refine callR (d := some 44) rfl 87 #[ptr h, ptr b.p, ptr a.p] (by kernel_rfl) hah ?_
  rintro e w1 ⟨rfl, hm, hf⟩
  have q1 := hm.hd.2.1
  obtain ⟨g', off', cap', hv, _, _, _, h4, _⟩ := hm.slice (by omega)
  injection hv with e1 e0 e2
  injection e1 with e1
  injection e1 with e1 e3 _
  subst e1 e2 e3
  have hS1 : w1.cell? ⟨h, 1, none⟩ = some (.slice (some ⟨g, off, none⟩) t.length cap) ∧ w1.cell? ⟨g, off + k2, none⟩ = some (ptr a.p) ∧ w1.cell? ⟨g, off + k3, none⟩ = some (ptr b.p) := ⟨q1, h4 _ _ HS.out.2.2.1, h4 _ _ HS.out.2.2.2⟩
  refine ⟨_, rfl, ?_⟩
  refine hK1.out _ _ hS1 (fun _ => ?_)
  clear hK1 h4 e0 q1 hah hS
  simp only [Act.put, List.setIfInBounds_toArray, List.set_cons_zero, List.set_cons_succ]
  have HF : Hid (HpM A w1 h (.slice (some ⟨g, off, none⟩) t.length cap) t N (c + 1) ∧ Fr w w1 A.ex) := ⟨hm, HD.out.2.trans hf fun _ _ q => by rcases q with q | q <;> exact q⟩
  clear hm hf HD HS
  generalize ahB A.lt b a = ab at *
  refine takeR (i := 26) (v := .bool ab) (some 45) rfl rfl (by kernel_rfl) (by kernel_rfl) (by kernel_rfl) (fun _ _ _ h => h) (Or.inl ⟨by kernel_rfl, fun w' hSw => by kernel_rfl⟩) hS1 ?_
  simp only [Act.put, List.setIfInBounds_toArray, List.set_cons_zero, List.set_cons_succ]
  refine wpAnyH_done (by kernel_rfl) ?_ _
  refine hKd _ _ ?_
  clear hKd
  obtain ⟨d1, hc, hc2⟩ := hS1
  cases ab with
  | false =>
    have hrv : a.p = rv := HRV.out
    subst hrv
    go_wp2
    go_ret
    exact ⟨rfl, HF.out⟩
  | true =>
    have hrv : b.p = rv := HRV.out
    subst hrv
    go_wp2
    go_ret
    exact ⟨rfl, HF.out⟩
end
end Go.Proofs.Ytdnhhcbabdoomaa
