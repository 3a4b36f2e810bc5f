/-
  framer: walk.
-/
import Derived.Test.YtkpoheknmcepnaaGreatDoorFrB
import Derived.WalkMore
namespace Go.Proofs.YtkpoheknmcepnaaGreatDoor
set_option linter.unusedVariables false
set_option linter.unusedSimpArgs false
open Go.RowKit Go.Great

theorem wpList_callF {P : Program} {ops : Array Oper} {rest : List Oper} {op : Oper} {a : Act} {w : World} {Q : Exit → Act → World → Prop} (hg : op.guard = none) (d : Option Tmp) (hd : op.dst = d)
    (f : FuncId) (args : Array Value) (hrun : (execOp a.eval op).run P w = .ok (.enter f args) w) {R : Ending → World → Prop} (hc : Calls P f args w R)
    (h : ∀ e w', R e w' → ∃ v, e = .returned v ∧ wpList P ops Q rest (a.put d v) w') : wpList P ops Q (op :: rest) a w := by
  subst hd
  refine wpList_plain hg fun K hK => ?_
  unfold Oper.wp
  rw [hrun, Oper.upon_enter]
  refine hc.mono fun e w'' hh => ?_
  obtain ⟨v, rfl, hw⟩ := h _ _ hh
  exact hK _ _ hw
/-- What walk leaves. -/
structure WE (f : List UInt8 → Sight) (w w' : World) (p g off cap : Nat) (fv v v' : Value) (K j : Nat) (l : List UInt8) (fs : List Fm) : Prop where
  out : ∃ fs' wants' K' told' n', FmB w' p fv (.slice (some ⟨g, off, none⟩) n' cap) wants' K' told' ∧ told' + (walkL f l j).j = K' ∧ K' = K + (walkL f l j).k ∧ n' = (walkL f l j).r.length ∧ ByAt w' (.slice (some ⟨g, off, none⟩) n' cap) (walkL f l j).r ∧ f (walkL f l j).r = .begun wants' ∧ FoundAt w' v' fs' ∧ fsOf fs' = fsOf fs ++ (walkL f l j).fs ∧
    newer w v v' ∧ (∀ x, x ∈ fs' → x ∈ fs ∨ ∀ b, x.v.ownBlock = some b → w.heap.size ≤ b) ∧ (∀ x, x ∈ fs' → x.v.ownBlock ≠ some g)
  fr : Fr w w' (fun b => b = p ∨ b = g ∨ v.ownBlock = some b)
set_option maxRecDepth 100000 in
set_option maxHeartbeats 4000000 in
theorem walk_any {W0 : World} {f : List UInt8 → Sight} {lk : FuncId} (hf : Steady f) (hlk : LookOK W0 lk f) (hcf : ∀ args w, (callFunc lk args).run Tryz.prog w = .ok (.enter lk args) w) {w : World} {p g off n cap wants K told j nf : Nat} {v : Value} {l : List UInt8} {fs : List Fm}
    (hb : FmB w p (.func (.func lk) #[] #[]) (.slice (some ⟨g, off, none⟩) n cap) wants K told) (hrow : ByAt w (.slice (some ⟨g, off, none⟩) n cap) l) (hn : l.length = n) (hn1 : n ≤ 2048) (ht : told + j = K) (hK : K ≤ 1000000000000) (hfd : FoundAt w v fs) (hnf : fs.length = nf) (hnf1 : nf ≤ 2000000000) (hap : ∀ x, x ∈ fs → x.v.ownBlock ≠ some g)
    (hbeg : ∀ b n, f b = .begun n → n ≤ 1048576) (hbel : Below W0.heap.size W0 w) (hlp : W0.heap.size ≤ p) (hlv : ∀ b, v.ownBlock = some b → W0.heap.size ≤ b) :
    Calls Tryz.prog 22 #[.pointer (some ⟨p, 0, none⟩), v] w fun e w' => ∃ v', e = .returned v' ∧ WE f w w' p g off cap (.func (.func lk) #[] #[]) v v' K j l fs := by
  have hnc : n ≤ cap ∧ cap ≤ 9223372036854775807 := by
    rcases hrow.2 with ⟨h0, _⟩ | ⟨_, _, _, _, e, _, h3, h4, _⟩
    · cases h0
    · injection e with _ _ e; subst e; rw [hn] at h3; unfold maxLen at h4; exact ⟨h3, by omega⟩
  have HS : Hid (WK f w w p g (.func (.func lk) #[] #[]) (.slice (some ⟨g, off, none⟩) n cap) v v wants K j l fs fs 0 K j) :=
    ⟨⟨told, hb, ht⟩, hrow, hfd, Nat.zero_le _, ⟨[], 0, by simp, rfl, Nat.le_refl _, by simp⟩, Fr.refl _ _, .inl rfl, fun x hx => .inl hx, hap, rfl, by omega⟩
  obtain ⟨av, cv, hv, -⟩ := hfd.row.form
  have HN : Hid (l.length = n ∧ fs.length = nf) := ⟨hn, hnf⟩
  rw [hnf] at hv
  have HLB : Hid (Below W0.heap.size W0 w ∧ W0.heap.size ≤ p ∧ ∀ b, v.ownBlock = some b → W0.heap.size ≤ b) := ⟨hbel, hlp, hlv⟩
  clear hb hrow ht hfd hap hn hnf hbel hlp hlv
  subst hv
  go_enter Tryz.func22, Tryz.ntmps22
  go_wp2
  go_step3
  go_wp2
  go_step3
  go_upto_region 2 with fail
  go_loopw [1, 5, 6, 7] (fun x1 x5 _ _ wr => ∃ (s n2 : Nat) (a2 : Option Addr) (c2 : Nat), s ≤ n ∧ x5 = .int .i64 (s : Int) ∧ x1 = .slice a2 n2 c2 ∧ n2 ≤ nf + s ∧ Hid (∃ fs2 K2 j2, WK f w wr p g (.func (.func lk) #[] #[]) (.slice (some ⟨g, off, none⟩) n cap) (.slice av nf cv) (.slice a2 n2 c2) wants K j l fs fs2 s K2 j2 ∧ fs2.length = n2)) (fun _ x5 _ _ _ => n + 1 - (intOf x5).toNat)
  case atStart => exact ⟨0, nf, av, cv, Nat.zero_le _, rfl, rfl, by omega, fs, K, j, HS.out, HN.out.2⟩
  case round =>
    obtain ⟨s, n2, a2, c2, hs, rfl, rfl, hn2, HJ⟩ := hrel
    obtain ⟨fs2, K2, j2, hwk, hfl⟩ := HJ.out
    obtain ⟨o', hif, hsrc⟩ : ∃ o', (if cap = s then some (⟨g, off, none⟩ : Addr) else some ⟨g, off + s, none⟩) = some ⟨g, o', none⟩ ∧ ∀ w', ByAt w' (.slice (some ⟨g, off, none⟩) n cap) l → LSrc w' (some ⟨g, o', none⟩) (l.drop s) := by
      by_cases hc : cap = s
      · exact ⟨off, by rw [if_pos hc], fun w' _ => .inl (List.drop_eq_nil_of_le (by have := HN.out.1; omega))⟩
      · exact ⟨off + s, by rw [if_neg hc], fun w' h' => LSrc.drop (ByAt.src h') s⟩
    have HWd : Hid (WK f w wr.drew p g (.func (.func lk) #[] #[]) (.slice (some ⟨g, off, none⟩) n cap) (.slice av nf cv) (.slice a2 n2 c2) wants K j l fs fs2 s K2 j2 ∧ fs2.length = n2) := ⟨hwk.sm ((Fr.refl wr _).drew), hfl⟩
    have hcall := hlk g o' (n - s) (cap - s) (l.drop s) wr.drew (HLB.out.1.trans (HWd.out.1.fr.below HLB.out.1.size fun b hb q => by rcases q with q | q; exact absurd HLB.out.2.1 (by omega); exact absurd (HLB.out.2.2 b q) (by omega))) (hsrc _ HWd.out.1.row) (by rw [List.length_drop]; have := HN.out.1; omega) (by omega) (by omega)
    have hS5 : wr.drew.cell? ⟨p, 0, none⟩ = some (.func (.func lk) #[] #[]) ∧ wr.drew.cell? ⟨p, 1, none⟩ = some (.slice (some ⟨g, off, none⟩) n cap) := by obtain ⟨told, h1, _⟩ := HWd.out.1.blk; exact ⟨h1.at.1, h1.at.2.1⟩
    have hse : (s : Int) ≤ (n : Int) := by omega
    have hsc : (s : Int) ≤ (cap : Int) := by omega
    clear hwk hfl HJ hsrc
    cases hsee : f (l.drop s) with
    | wrong =>
      rw [hsee] at hcall
      change Calls _ _ _ _ (fun e w' => e = .returned (.tuple #[.int .i64 2, .int .i64 0]) ∧ Sm wr.drew w') at hcall
      go_upto_region 2 with fail
      rename_i Kc hKc
      refine wp_region_held (S := fun w' => w'.cell? ⟨p, 0, none⟩ = some (.func (.func lk) #[] #[]) ∧ w'.cell? ⟨p, 1, none⟩ = some (.slice (some ⟨g, off, none⟩) n cap)) (by kernel_rfl) ?_
      change wpAnyH _ _ _ _ _ _ _ _ (World.drew _)
      generalize wr.drew = w5 at *
      refine takeR (i := 0) (v := .pointer (some ⟨p, 0, none⟩)) (some 9) rfl rfl (by kernel_rfl) (by kernel_rfl) (by kernel_rfl) (fun _ _ _ h => h) (Or.inl ⟨by kernel_rfl, fun w' hSw => by kernel_rfl⟩) hS5 ?_
      simp only [Act.put, List.setIfInBounds_toArray, List.set_cons_zero, List.set_cons_succ]
      refine takeR (i := 1) (v := .pointer (some ⟨p, 0, none⟩)) (some 10) rfl rfl (by kernel_rfl) (by kernel_rfl) (by kernel_rfl) (fun _ _ _ h => h) (Or.inl ⟨by kernel_rfl, fun w' hSw => by kernel_rfl⟩) hS5 ?_
      simp only [Act.put, List.setIfInBounds_toArray, List.set_cons_zero, List.set_cons_succ]
      refine takeR (i := 2) (v := .pointer (some ⟨p, 0, none⟩)) (some 11) rfl rfl (by kernel_rfl) (by kernel_rfl) (by kernel_rfl) (fun _ _ _ h => h) (Or.inl ⟨by kernel_rfl, fun w' hSw => by kernel_rfl⟩) hS5 ?_
      simp only [Act.put, List.setIfInBounds_toArray, List.set_cons_zero, List.set_cons_succ]
      refine takeR (i := 3) (v := (.func (.func lk) #[] #[])) (some 12) rfl rfl (by kernel_rfl) (by kernel_rfl) (by kernel_rfl) (fun _ _ _ h => h) (Or.inl ⟨by kernel_rfl, fun w' hSw => by have q0 := hSw.1; clear hSw; go_simp⟩) hS5 ?_
      simp only [Act.put, List.setIfInBounds_toArray, List.set_cons_zero, List.set_cons_succ]
      refine takeR (i := 4) (v := .pointer (some ⟨p, 0, none⟩)) (some 13) rfl rfl (by kernel_rfl) (by kernel_rfl) (by kernel_rfl) (fun _ _ _ h => h) (Or.inl ⟨by kernel_rfl, fun w' hSw => by kernel_rfl⟩) hS5 ?_
      simp only [Act.put, List.setIfInBounds_toArray, List.set_cons_zero, List.set_cons_succ]
      refine takeR (i := 5) (v := .pointer (some ⟨p, 0, none⟩)) (some 14) rfl rfl (by kernel_rfl) (by kernel_rfl) (by kernel_rfl) (fun _ _ _ h => h) (Or.inl ⟨by kernel_rfl, fun w' hSw => by kernel_rfl⟩) hS5 ?_
      simp only [Act.put, List.setIfInBounds_toArray, List.set_cons_zero, List.set_cons_succ]
      refine takeR (i := 6) (v := .pointer (some ⟨p, 1, none⟩)) (some 15) rfl rfl (by kernel_rfl) (by kernel_rfl) (by kernel_rfl) (fun _ _ _ h => h) (Or.inl ⟨by kernel_rfl, fun w' hSw => by kernel_rfl⟩) hS5 ?_
      simp only [Act.put, List.setIfInBounds_toArray, List.set_cons_zero, List.set_cons_succ]
      refine takeR (i := 7) (v := (.slice (some ⟨g, off, none⟩) n cap)) (some 16) rfl rfl (by kernel_rfl) (by kernel_rfl) (by kernel_rfl) (fun _ _ _ h => h) (Or.inl ⟨by kernel_rfl, fun w' hSw => by have q0 := hSw.2; clear hSw; go_simp⟩) hS5 ?_
      simp only [Act.put, List.setIfInBounds_toArray, List.set_cons_zero, List.set_cons_succ]
      refine takeR (i := 8) (v := .int .i64 (s : Int)) (some 17) rfl rfl (by kernel_rfl) (by kernel_rfl) (by kernel_rfl) (fun _ _ _ h => h) (Or.inl ⟨by kernel_rfl, fun w' hSw => by kernel_rfl⟩) hS5 ?_
      simp only [Act.put, List.setIfInBounds_toArray, List.set_cons_zero, List.set_cons_succ]
      refine takeR (i := 9) (v := .slice (some ⟨g, o', none⟩) (n - s) (cap - s)) (some 18) rfl rfl (by kernel_rfl) (by kernel_rfl) (by kernel_rfl) (fun _ _ _ h => h) (Or.inl ⟨by kernel_rfl, fun w' hSw => by clear hSw; go_simp⟩) hS5 ?_
      simp only [Act.put, List.setIfInBounds_toArray, List.set_cons_zero, List.set_cons_succ]
      refine wpAnyH_ready (rs := [10]) (by kernel_rfl) (by simp) ?_
      refine AllReadyH.cons rfl (fun K1 hK1 => ?_) AllReadyH.nil
      rw [if_pos (by kernel_rfl)]
      refine callR (d := some 19) rfl lk #[.slice (some ⟨g, o', none⟩) (n - s) (cap - s)] (exec_fv (.tmp 12) (.tmp 18) rfl (by kernel_rfl) (by kernel_rfl) hcf) hcall ?_
      rintro e w6 ⟨rfl, hsm⟩
      refine ⟨_, rfl, ?_⟩
      have HW6 : Hid (WK f w w6 p g (.func (.func lk) #[] #[]) (.slice (some ⟨g, off, none⟩) n cap) (.slice av nf cv) (.slice a2 n2 c2) wants K j l fs fs2 s K2 j2 ∧ fs2.length = n2) := ⟨HWd.out.1.sm hsm, HWd.out.2⟩
      have hS6 : w6.cell? ⟨p, 0, none⟩ = some (.func (.func lk) #[] #[]) ∧ w6.cell? ⟨p, 1, none⟩ = some (.slice (some ⟨g, off, none⟩) n cap) := by obtain ⟨told, h1, _⟩ := HW6.out.1.blk; exact ⟨h1.at.1, h1.at.2.1⟩
      refine hK1.out _ _ hS6 (fun hSx => ?_)
      clear hK1 hSx hcall hsm HWd hS5
      simp only [Act.put, List.setIfInBounds_toArray, List.set_cons_zero, List.set_cons_succ]
      refine takeR (i := 11) (v := .tuple #[.int .i64 2, .int .i64 0]) (some 8) rfl rfl (by kernel_rfl) (by kernel_rfl) (by kernel_rfl) (fun _ _ _ h => h) (Or.inl ⟨by kernel_rfl, fun w' hSw => by kernel_rfl⟩) hS6 ?_
      simp only [Act.put, List.setIfInBounds_toArray, List.set_cons_zero, List.set_cons_succ]
      refine takeR (i := 12) (v := .int .i64 2) (some 20) rfl rfl (by kernel_rfl) (by kernel_rfl) (by kernel_rfl) (fun _ _ _ h => h) (Or.inl ⟨by kernel_rfl, fun w' hSw => by kernel_rfl⟩) hS6 ?_
      simp only [Act.put, List.setIfInBounds_toArray, List.set_cons_zero, List.set_cons_succ]
      refine takeR (i := 13) (v := .int .i64 0) (some 21) rfl rfl (by kernel_rfl) (by kernel_rfl) (by kernel_rfl) (fun _ _ _ h => h) (Or.inl ⟨by kernel_rfl, fun w' hSw => by kernel_rfl⟩) hS6 ?_
      simp only [Act.put, List.setIfInBounds_toArray, List.set_cons_zero, List.set_cons_succ]
      refine takeR (i := 14) (v := .int .i64 2) (some 6) rfl rfl (by kernel_rfl) (by kernel_rfl) (by kernel_rfl) (fun _ _ _ h => h) (Or.inl ⟨by kernel_rfl, fun w' hSw => by kernel_rfl⟩) hS6 ?_
      simp only [Act.put, List.setIfInBounds_toArray, List.set_cons_zero, List.set_cons_succ]
      refine takeR (i := 15) (v := .int .i64 0) (some 7) rfl rfl (by kernel_rfl) (by kernel_rfl) (by kernel_rfl) (fun _ _ _ h => h) (Or.inl ⟨by kernel_rfl, fun w' hSw => by kernel_rfl⟩) hS6 ?_
      simp only [Act.put, List.setIfInBounds_toArray, List.set_cons_zero, List.set_cons_succ]
      refine wpAnyH_done (by kernel_rfl) ?_ _
      refine hKc _ _ ?_
      clear hKc hif
      obtain ⟨hj1, hlt⟩ := HW6.out.1.junk hf hsee
      have hK2 : K2 ≤ K + s := by obtain ⟨F, k2, q1, q2, q3, q4⟩ := HW6.out.1.eq; omega
      obtain ⟨told, hb6, -⟩ := HW6.out.1.blk
      obtain ⟨-, -, -, c3, -⟩ := hb6.at
      have f3 := hb6.frz 3
      have HJ2 : Hid (WK f w (w6.setCell ⟨p, 3, none⟩ (.int .i64 ((K2 : Int) + 1))) p g (.func (.func lk) #[] #[]) (.slice (some ⟨g, off, none⟩) n cap) (.slice av nf cv) (.slice a2 n2 c2) wants K j l fs fs2 (s + 1) (K2 + 1) (j2 + 1) ∧ fs2.length = n2 ∧ s < n) := by
        rw [show ((K2 : Int) + 1) = ((K2 + 1 : Nat) : Int) by omega]
        exact ⟨hj1, HW6.out.2, by have := HN.out.1; omega⟩
      have hkw : IntKind.i64.wrap ((K2 : Int) + 1) = (K2 : Int) + 1 := by rw [IntKind.wrap_i64]; omega
      have hsw : IntKind.i64.wrap ((s : Int) + 1) = (s : Int) + 1 := by rw [IntKind.wrap_i64]; omega
      clear hj1 hlt hb6 HW6 hS6
      go_wp2
      first
        | exact ⟨⟨s + 1, n2, a2, c2, by have := HJ2.out.2.2; omega, by go_num, rfl, by omega, fs2, K2 + 1, j2 + 1, HJ2.out.1, HJ2.out.2.1⟩, by have := HJ2.out.2.2; simp [intOf]; omega⟩
        | (go_roundw
           case rel => exact ⟨s + 1, n2, a2, c2, by have := HJ2.out.2.2; omega, by go_num, rfl, by omega, fs2, K2 + 1, j2 + 1, HJ2.out.1, HJ2.out.2.1⟩
           case measure => have := HJ2.out.2.2; simp [intOf]; omega)
    | whole m =>
      rw [hsee] at hcall
      change Calls _ _ _ _ (fun e w' => e = .returned (.tuple #[.int .i64 1, .int .i64 (m : Int)]) ∧ Sm wr.drew w') at hcall
      go_upto_region 2 with fail
      rename_i Kc hKc
      refine wp_region_held (S := fun w' => w'.cell? ⟨p, 0, none⟩ = some (.func (.func lk) #[] #[]) ∧ w'.cell? ⟨p, 1, none⟩ = some (.slice (some ⟨g, off, none⟩) n cap)) (by kernel_rfl) ?_
      change wpAnyH _ _ _ _ _ _ _ _ (World.drew _)
      generalize wr.drew = w5 at *
      refine takeR (i := 0) (v := .pointer (some ⟨p, 0, none⟩)) (some 9) rfl rfl (by kernel_rfl) (by kernel_rfl) (by kernel_rfl) (fun _ _ _ h => h) (Or.inl ⟨by kernel_rfl, fun w' hSw => by kernel_rfl⟩) hS5 ?_
      simp only [Act.put, List.setIfInBounds_toArray, List.set_cons_zero, List.set_cons_succ]
      refine takeR (i := 1) (v := .pointer (some ⟨p, 0, none⟩)) (some 10) rfl rfl (by kernel_rfl) (by kernel_rfl) (by kernel_rfl) (fun _ _ _ h => h) (Or.inl ⟨by kernel_rfl, fun w' hSw => by kernel_rfl⟩) hS5 ?_
      simp only [Act.put, List.setIfInBounds_toArray, List.set_cons_zero, List.set_cons_succ]
      refine takeR (i := 2) (v := .pointer (some ⟨p, 0, none⟩)) (some 11) rfl rfl (by kernel_rfl) (by kernel_rfl) (by kernel_rfl) (fun _ _ _ h => h) (Or.inl ⟨by kernel_rfl, fun w' hSw => by kernel_rfl⟩) hS5 ?_
      simp only [Act.put, List.setIfInBounds_toArray, List.set_cons_zero, List.set_cons_succ]
      refine takeR (i := 3) (v := (.func (.func lk) #[] #[])) (some 12) rfl rfl (by kernel_rfl) (by kernel_rfl) (by kernel_rfl) (fun _ _ _ h => h) (Or.inl ⟨by kernel_rfl, fun w' hSw => by have q0 := hSw.1; clear hSw; go_simp⟩) hS5 ?_
      simp only [Act.put, List.setIfInBounds_toArray, List.set_cons_zero, List.set_cons_succ]
      refine takeR (i := 4) (v := .pointer (some ⟨p, 0, none⟩)) (some 13) rfl rfl (by kernel_rfl) (by kernel_rfl) (by kernel_rfl) (fun _ _ _ h => h) (Or.inl ⟨by kernel_rfl, fun w' hSw => by kernel_rfl⟩) hS5 ?_
      simp only [Act.put, List.setIfInBounds_toArray, List.set_cons_zero, List.set_cons_succ]
      refine takeR (i := 5) (v := .pointer (some ⟨p, 0, none⟩)) (some 14) rfl rfl (by kernel_rfl) (by kernel_rfl) (by kernel_rfl) (fun _ _ _ h => h) (Or.inl ⟨by kernel_rfl, fun w' hSw => by kernel_rfl⟩) hS5 ?_
      simp only [Act.put, List.setIfInBounds_toArray, List.set_cons_zero, List.set_cons_succ]
      refine takeR (i := 6) (v := .pointer (some ⟨p, 1, none⟩)) (some 15) rfl rfl (by kernel_rfl) (by kernel_rfl) (by kernel_rfl) (fun _ _ _ h => h) (Or.inl ⟨by kernel_rfl, fun w' hSw => by kernel_rfl⟩) hS5 ?_
      simp only [Act.put, List.setIfInBounds_toArray, List.set_cons_zero, List.set_cons_succ]
      refine takeR (i := 7) (v := (.slice (some ⟨g, off, none⟩) n cap)) (some 16) rfl rfl (by kernel_rfl) (by kernel_rfl) (by kernel_rfl) (fun _ _ _ h => h) (Or.inl ⟨by kernel_rfl, fun w' hSw => by have q0 := hSw.2; clear hSw; go_simp⟩) hS5 ?_
      simp only [Act.put, List.setIfInBounds_toArray, List.set_cons_zero, List.set_cons_succ]
      refine takeR (i := 8) (v := .int .i64 (s : Int)) (some 17) rfl rfl (by kernel_rfl) (by kernel_rfl) (by kernel_rfl) (fun _ _ _ h => h) (Or.inl ⟨by kernel_rfl, fun w' hSw => by kernel_rfl⟩) hS5 ?_
      simp only [Act.put, List.setIfInBounds_toArray, List.set_cons_zero, List.set_cons_succ]
      refine takeR (i := 9) (v := .slice (some ⟨g, o', none⟩) (n - s) (cap - s)) (some 18) rfl rfl (by kernel_rfl) (by kernel_rfl) (by kernel_rfl) (fun _ _ _ h => h) (Or.inl ⟨by kernel_rfl, fun w' hSw => by clear hSw; go_simp⟩) hS5 ?_
      simp only [Act.put, List.setIfInBounds_toArray, List.set_cons_zero, List.set_cons_succ]
      refine wpAnyH_ready (rs := [10]) (by kernel_rfl) (by simp) ?_
      refine AllReadyH.cons rfl (fun K1 hK1 => ?_) AllReadyH.nil
      rw [if_pos (by kernel_rfl)]
      refine callR (d := some 19) rfl lk #[.slice (some ⟨g, o', none⟩) (n - s) (cap - s)] (exec_fv (.tmp 12) (.tmp 18) rfl (by kernel_rfl) (by kernel_rfl) hcf) hcall ?_
      rintro e w6 ⟨rfl, hsm⟩
      refine ⟨_, rfl, ?_⟩
      have HW6 : Hid (WK f w w6 p g (.func (.func lk) #[] #[]) (.slice (some ⟨g, off, none⟩) n cap) (.slice av nf cv) (.slice a2 n2 c2) wants K j l fs fs2 s K2 j2 ∧ fs2.length = n2) := ⟨HWd.out.1.sm hsm, HWd.out.2⟩
      have hS6 : w6.cell? ⟨p, 0, none⟩ = some (.func (.func lk) #[] #[]) ∧ w6.cell? ⟨p, 1, none⟩ = some (.slice (some ⟨g, off, none⟩) n cap) := by obtain ⟨told, h1, _⟩ := HW6.out.1.blk; exact ⟨h1.at.1, h1.at.2.1⟩
      refine hK1.out _ _ hS6 (fun hSx => ?_)
      clear hK1 hSx hcall hsm HWd hS5
      simp only [Act.put, List.setIfInBounds_toArray, List.set_cons_zero, List.set_cons_succ]
      refine takeR (i := 11) (v := .tuple #[.int .i64 1, .int .i64 (m : Int)]) (some 8) rfl rfl (by kernel_rfl) (by kernel_rfl) (by kernel_rfl) (fun _ _ _ h => h) (Or.inl ⟨by kernel_rfl, fun w' hSw => by kernel_rfl⟩) hS6 ?_
      simp only [Act.put, List.setIfInBounds_toArray, List.set_cons_zero, List.set_cons_succ]
      refine takeR (i := 12) (v := .int .i64 1) (some 20) rfl rfl (by kernel_rfl) (by kernel_rfl) (by kernel_rfl) (fun _ _ _ h => h) (Or.inl ⟨by kernel_rfl, fun w' hSw => by kernel_rfl⟩) hS6 ?_
      simp only [Act.put, List.setIfInBounds_toArray, List.set_cons_zero, List.set_cons_succ]
      refine takeR (i := 13) (v := .int .i64 (m : Int)) (some 21) rfl rfl (by kernel_rfl) (by kernel_rfl) (by kernel_rfl) (fun _ _ _ h => h) (Or.inl ⟨by kernel_rfl, fun w' hSw => by kernel_rfl⟩) hS6 ?_
      simp only [Act.put, List.setIfInBounds_toArray, List.set_cons_zero, List.set_cons_succ]
      refine takeR (i := 14) (v := .int .i64 1) (some 6) rfl rfl (by kernel_rfl) (by kernel_rfl) (by kernel_rfl) (fun _ _ _ h => h) (Or.inl ⟨by kernel_rfl, fun w' hSw => by kernel_rfl⟩) hS6 ?_
      simp only [Act.put, List.setIfInBounds_toArray, List.set_cons_zero, List.set_cons_succ]
      refine takeR (i := 15) (v := .int .i64 (m : Int)) (some 7) rfl rfl (by kernel_rfl) (by kernel_rfl) (by kernel_rfl) (fun _ _ _ h => h) (Or.inl ⟨by kernel_rfl, fun w' hSw => by kernel_rfl⟩) hS6 ?_
      simp only [Act.put, List.setIfInBounds_toArray, List.set_cons_zero, List.set_cons_succ]
      refine wpAnyH_done (by kernel_rfl) ?_ _
      refine hKc _ _ ?_
      clear hKc hif
      obtain ⟨hm0, hml, -⟩ := hf.whole hsee
      rw [List.length_drop, HN.out.1] at hml
      obtain ⟨told2, hb6, ht6⟩ := HW6.out.1.blk
      obtain ⟨-, c1, -, -, -⟩ := hb6.at
      have hK2 : K2 ≤ K + s := by obtain ⟨F, k2, q1, q2, q3, q4⟩ := HW6.out.1.eq; omega
      have hgp := HW6.out.1.gp
      have hfrm := frame_any (c := cap - s) hb6 (LSrc.take (LSrc.drop (ByAt.src HW6.out.1.row) s) m) hgp.2.1 hgp.1 (n := m) (by rw [List.length_take, List.length_drop, HN.out.1]; omega) hm0 (by omega) ht6 (by omega)
      have hmw : IntKind.i64.wrap ((s : Int) + (m : Int)) = (s : Int) + (m : Int) := by rw [IntKind.wrap_i64]; omega
      have hsm1 : (s : Int) ≤ (s : Int) + (m : Int) := by omega
      have hsm2 : (s : Int) + (m : Int) ≤ (cap : Int) := by omega
      have hcs : ¬ cap = s := by omega
      clear hb6 hgp hS6
      go_upto_region 5 with fail
      rename_i Kd hKd
      refine wp_region_lit ?_
      refine wpList_runTo rfl (some 25) rfl (.slice a2 n2 c2) w6 (by kernel_rfl) ?_
      simp only [Act.put, List.setIfInBounds_toArray, List.set_cons_zero, List.set_cons_succ]
      refine wpList_runTo rfl (some 26) rfl (.pointer (some ⟨p, 0, none⟩)) w6 (by kernel_rfl) ?_
      simp only [Act.put, List.setIfInBounds_toArray, List.set_cons_zero, List.set_cons_succ]
      refine wpList_runTo rfl (some 27) rfl (.pointer (some ⟨p, 0, none⟩)) w6 (by kernel_rfl) ?_
      simp only [Act.put, List.setIfInBounds_toArray, List.set_cons_zero, List.set_cons_succ]
      refine wpList_runTo rfl (some 28) rfl (.pointer (some ⟨p, 0, none⟩)) w6 (by kernel_rfl) ?_
      simp only [Act.put, List.setIfInBounds_toArray, List.set_cons_zero, List.set_cons_succ]
      refine wpList_runTo rfl (some 29) rfl (.pointer (some ⟨p, 1, none⟩)) w6 (by kernel_rfl) ?_
      simp only [Act.put, List.setIfInBounds_toArray, List.set_cons_zero, List.set_cons_succ]
      refine wpList_runTo rfl (some 30) rfl ((.slice (some ⟨g, off, none⟩) n cap)) w6 (by go_simp) ?_
      simp only [Act.put, List.setIfInBounds_toArray, List.set_cons_zero, List.set_cons_succ]
      refine wpList_runTo rfl (some 31) rfl (.int .i64 (s : Int)) w6 (by kernel_rfl) ?_
      simp only [Act.put, List.setIfInBounds_toArray, List.set_cons_zero, List.set_cons_succ]
      refine wpList_runTo rfl (some 32) rfl (.int .i64 (s : Int)) w6 (by kernel_rfl) ?_
      simp only [Act.put, List.setIfInBounds_toArray, List.set_cons_zero, List.set_cons_succ]
      refine wpList_runTo rfl (some 33) rfl (.int .i64 (m : Int)) w6 (by kernel_rfl) ?_
      simp only [Act.put, List.setIfInBounds_toArray, List.set_cons_zero, List.set_cons_succ]
      refine wpList_runTo rfl (some 34) rfl (.int .i64 ((s : Int) + (m : Int))) w6 (by go_simp) ?_
      simp only [Act.put, List.setIfInBounds_toArray, List.set_cons_zero, List.set_cons_succ]
      refine wpList_runTo rfl (some 35) rfl (.slice (some ⟨g, off + s, none⟩) m (cap - s)) w6 (by go_simp; omega) ?_
      simp only [Act.put, List.setIfInBounds_toArray, List.set_cons_zero, List.set_cons_succ]
      refine wpList_callF rfl (some 36) rfl 54 #[.pointer (some ⟨p, 0, none⟩), .slice (some ⟨g, off + s, none⟩) m (cap - s)] (by kernel_rfl) hfrm ?_
      rintro e w7 ⟨vf, rfl, hb7, hby7, hfr7, hnv7⟩
      refine ⟨_, rfl, ?_⟩
      simp only [Act.put, List.setIfInBounds_toArray, List.set_cons_zero, List.set_cons_succ]
      obtain ⟨aof, cof, hvf, -⟩ := RowAt.form hby7
      obtain ⟨v8, w8, hrun, hwk8, -, -, a8, c8, rfl⟩ := HW6.out.1.whole hf hsee hb7 hby7 hfr7 hnv7 (by have := HW6.out.2; omega) 30 (by rw [hvf]; rfl)
      have HJ8 : Hid (WK f w w8 p g (.func (.func lk) #[] #[]) (.slice (some ⟨g, off, none⟩) n cap) (.slice av nf cv) (.slice a8 (fs2.length + 1) c8) wants K j l fs (fs2 ++ [⟨vf, j2, (l.drop s).take m⟩]) (s + m) K2 0 ∧ fs2.length = n2) := ⟨hwk8, HW6.out.2⟩
      clear hwk8 hb7 hby7 hfr7 hnv7 HW6 hfrm
      subst hvf
      refine wpList_runTo rfl (some 37) rfl (.slice (some ⟨w7.heap.size, 0, none⟩) 1 1) (w7.alloc (.cells #[.slice aof ((l.drop s).take m).length cof, .int .i64 (j2 : Int)] 36)) (by kernel_rfl) ?_
      simp only [Act.put, List.setIfInBounds_toArray, List.set_cons_zero, List.set_cons_succ]
      refine wpList_runTo rfl (some 38) rfl (.slice a8 (fs2.length + 1) c8) w8 (exec_append (.tmp 25) (.tmp 37) 30 rfl (by kernel_rfl) (by kernel_rfl) hrun) ?_
      simp only [Act.put, List.setIfInBounds_toArray, List.set_cons_zero, List.set_cons_succ]
      clear hrun
      refine wpList_runTo rfl (some 1) rfl (.slice a8 (fs2.length + 1) c8) w8 (by kernel_rfl) ?_
      simp only [Act.put, List.setIfInBounds_toArray, List.set_cons_zero, List.set_cons_succ]
      refine wpList_nil ?_
      refine hKd _ _ ?_
      clear hKd
      obtain ⟨n8, hn8⟩ : ∃ n8, fs2.length + 1 = n8 := ⟨_, rfl⟩
      have HN8 : Hid (fs2.length + 1 = n8 ∧ fs2.length = n2) := ⟨hn8, HJ8.out.2⟩
      rw [hn8] at HJ8 ⊢
      clear hn8
      generalize ((l.drop s).take m).length = lf at *
      go_wp2
      first
        | exact ⟨⟨s + m, n8, a8, c8, by omega, by go_num, rfl, by have := HN8.out; omega, _, K2, 0, HJ8.out.1, by rw [List.length_append]; exact HN8.out.1⟩, by simp [intOf]; omega⟩
        | (go_roundw
           case rel => exact ⟨s + m, n8, a8, c8, by omega, by go_num, rfl, by have := HN8.out; omega, _, K2, 0, HJ8.out.1, by rw [List.length_append]; exact HN8.out.1⟩
           case measure => simp [intOf]; omega)
    | begun m =>
      rw [hsee] at hcall
      change Calls _ _ _ _ (fun e w' => e = .returned (.tuple #[.int .i64 0, .int .i64 (m : Int)]) ∧ Sm wr.drew w') at hcall
      go_upto_region 2 with fail
      rename_i Kc hKc
      refine wp_region_held (S := fun w' => w'.cell? ⟨p, 0, none⟩ = some (.func (.func lk) #[] #[]) ∧ w'.cell? ⟨p, 1, none⟩ = some (.slice (some ⟨g, off, none⟩) n cap)) (by kernel_rfl) ?_
      change wpAnyH _ _ _ _ _ _ _ _ (World.drew _)
      generalize wr.drew = w5 at *
      refine takeR (i := 0) (v := .pointer (some ⟨p, 0, none⟩)) (some 9) rfl rfl (by kernel_rfl) (by kernel_rfl) (by kernel_rfl) (fun _ _ _ h => h) (Or.inl ⟨by kernel_rfl, fun w' hSw => by kernel_rfl⟩) hS5 ?_
      simp only [Act.put, List.setIfInBounds_toArray, List.set_cons_zero, List.set_cons_succ]
      refine takeR (i := 1) (v := .pointer (some ⟨p, 0, none⟩)) (some 10) rfl rfl (by kernel_rfl) (by kernel_rfl) (by kernel_rfl) (fun _ _ _ h => h) (Or.inl ⟨by kernel_rfl, fun w' hSw => by kernel_rfl⟩) hS5 ?_
      simp only [Act.put, List.setIfInBounds_toArray, List.set_cons_zero, List.set_cons_succ]
      refine takeR (i := 2) (v := .pointer (some ⟨p, 0, none⟩)) (some 11) rfl rfl (by kernel_rfl) (by kernel_rfl) (by kernel_rfl) (fun _ _ _ h => h) (Or.inl ⟨by kernel_rfl, fun w' hSw => by kernel_rfl⟩) hS5 ?_
      simp only [Act.put, List.setIfInBounds_toArray, List.set_cons_zero, List.set_cons_succ]
      refine takeR (i := 3) (v := (.func (.func lk) #[] #[])) (some 12) rfl rfl (by kernel_rfl) (by kernel_rfl) (by kernel_rfl) (fun _ _ _ h => h) (Or.inl ⟨by kernel_rfl, fun w' hSw => by have q0 := hSw.1; clear hSw; go_simp⟩) hS5 ?_
      simp only [Act.put, List.setIfInBounds_toArray, List.set_cons_zero, List.set_cons_succ]
      refine takeR (i := 4) (v := .pointer (some ⟨p, 0, none⟩)) (some 13) rfl rfl (by kernel_rfl) (by kernel_rfl) (by kernel_rfl) (fun _ _ _ h => h) (Or.inl ⟨by kernel_rfl, fun w' hSw => by kernel_rfl⟩) hS5 ?_
      simp only [Act.put, List.setIfInBounds_toArray, List.set_cons_zero, List.set_cons_succ]
      refine takeR (i := 5) (v := .pointer (some ⟨p, 0, none⟩)) (some 14) rfl rfl (by kernel_rfl) (by kernel_rfl) (by kernel_rfl) (fun _ _ _ h => h) (Or.inl ⟨by kernel_rfl, fun w' hSw => by kernel_rfl⟩) hS5 ?_
      simp only [Act.put, List.setIfInBounds_toArray, List.set_cons_zero, List.set_cons_succ]
      refine takeR (i := 6) (v := .pointer (some ⟨p, 1, none⟩)) (some 15) rfl rfl (by kernel_rfl) (by kernel_rfl) (by kernel_rfl) (fun _ _ _ h => h) (Or.inl ⟨by kernel_rfl, fun w' hSw => by kernel_rfl⟩) hS5 ?_
      simp only [Act.put, List.setIfInBounds_toArray, List.set_cons_zero, List.set_cons_succ]
      refine takeR (i := 7) (v := (.slice (some ⟨g, off, none⟩) n cap)) (some 16) rfl rfl (by kernel_rfl) (by kernel_rfl) (by kernel_rfl) (fun _ _ _ h => h) (Or.inl ⟨by kernel_rfl, fun w' hSw => by have q0 := hSw.2; clear hSw; go_simp⟩) hS5 ?_
      simp only [Act.put, List.setIfInBounds_toArray, List.set_cons_zero, List.set_cons_succ]
      refine takeR (i := 8) (v := .int .i64 (s : Int)) (some 17) rfl rfl (by kernel_rfl) (by kernel_rfl) (by kernel_rfl) (fun _ _ _ h => h) (Or.inl ⟨by kernel_rfl, fun w' hSw => by kernel_rfl⟩) hS5 ?_
      simp only [Act.put, List.setIfInBounds_toArray, List.set_cons_zero, List.set_cons_succ]
      refine takeR (i := 9) (v := .slice (some ⟨g, o', none⟩) (n - s) (cap - s)) (some 18) rfl rfl (by kernel_rfl) (by kernel_rfl) (by kernel_rfl) (fun _ _ _ h => h) (Or.inl ⟨by kernel_rfl, fun w' hSw => by clear hSw; go_simp⟩) hS5 ?_
      simp only [Act.put, List.setIfInBounds_toArray, List.set_cons_zero, List.set_cons_succ]
      refine wpAnyH_ready (rs := [10]) (by kernel_rfl) (by simp) ?_
      refine AllReadyH.cons rfl (fun K1 hK1 => ?_) AllReadyH.nil
      rw [if_pos (by kernel_rfl)]
      refine callR (d := some 19) rfl lk #[.slice (some ⟨g, o', none⟩) (n - s) (cap - s)] (exec_fv (.tmp 12) (.tmp 18) rfl (by kernel_rfl) (by kernel_rfl) hcf) hcall ?_
      rintro e w6 ⟨rfl, hsm⟩
      refine ⟨_, rfl, ?_⟩
      have HW6 : Hid (WK f w w6 p g (.func (.func lk) #[] #[]) (.slice (some ⟨g, off, none⟩) n cap) (.slice av nf cv) (.slice a2 n2 c2) wants K j l fs fs2 s K2 j2 ∧ fs2.length = n2) := ⟨HWd.out.1.sm hsm, HWd.out.2⟩
      have hS6 : w6.cell? ⟨p, 0, none⟩ = some (.func (.func lk) #[] #[]) ∧ w6.cell? ⟨p, 1, none⟩ = some (.slice (some ⟨g, off, none⟩) n cap) := by obtain ⟨told, h1, _⟩ := HW6.out.1.blk; exact ⟨h1.at.1, h1.at.2.1⟩
      refine hK1.out _ _ hS6 (fun hSx => ?_)
      clear hK1 hSx hcall hsm HWd hS5
      simp only [Act.put, List.setIfInBounds_toArray, List.set_cons_zero, List.set_cons_succ]
      refine takeR (i := 11) (v := .tuple #[.int .i64 0, .int .i64 (m : Int)]) (some 8) rfl rfl (by kernel_rfl) (by kernel_rfl) (by kernel_rfl) (fun _ _ _ h => h) (Or.inl ⟨by kernel_rfl, fun w' hSw => by kernel_rfl⟩) hS6 ?_
      simp only [Act.put, List.setIfInBounds_toArray, List.set_cons_zero, List.set_cons_succ]
      refine takeR (i := 12) (v := .int .i64 0) (some 20) rfl rfl (by kernel_rfl) (by kernel_rfl) (by kernel_rfl) (fun _ _ _ h => h) (Or.inl ⟨by kernel_rfl, fun w' hSw => by kernel_rfl⟩) hS6 ?_
      simp only [Act.put, List.setIfInBounds_toArray, List.set_cons_zero, List.set_cons_succ]
      refine takeR (i := 13) (v := .int .i64 (m : Int)) (some 21) rfl rfl (by kernel_rfl) (by kernel_rfl) (by kernel_rfl) (fun _ _ _ h => h) (Or.inl ⟨by kernel_rfl, fun w' hSw => by kernel_rfl⟩) hS6 ?_
      simp only [Act.put, List.setIfInBounds_toArray, List.set_cons_zero, List.set_cons_succ]
      refine takeR (i := 14) (v := .int .i64 0) (some 6) rfl rfl (by kernel_rfl) (by kernel_rfl) (by kernel_rfl) (fun _ _ _ h => h) (Or.inl ⟨by kernel_rfl, fun w' hSw => by kernel_rfl⟩) hS6 ?_
      simp only [Act.put, List.setIfInBounds_toArray, List.set_cons_zero, List.set_cons_succ]
      refine takeR (i := 15) (v := .int .i64 (m : Int)) (some 7) rfl rfl (by kernel_rfl) (by kernel_rfl) (by kernel_rfl) (fun _ _ _ h => h) (Or.inl ⟨by kernel_rfl, fun w' hSw => by kernel_rfl⟩) hS6 ?_
      simp only [Act.put, List.setIfInBounds_toArray, List.set_cons_zero, List.set_cons_succ]
      refine wpAnyH_done (by kernel_rfl) ?_ _
      refine hKc _ _ ?_
      clear hKc hif
      obtain ⟨told2, hb6, ht6⟩ := HW6.out.1.blk
      obtain ⟨gp1, gp2, gp3, gp4, gp5⟩ := HW6.out.1.gp
      obtain ⟨-, c1, c2', -, -⟩ := hb6.at
      have f2 := hb6.frz 2
      have f1 := hb6.frz 1
      have hmb := hbeg _ _ hsee
      have hst : Fr w6 (w6.setCell ⟨p, 2, none⟩ (.int .i64 (m : Int))) (fun b => b = p) := Fr.setCell _ _ _ _ rfl
      have hb7 := hb6.set2 m
      have hrow7 : ByAt (w6.setCell ⟨p, 2, none⟩ (.int .i64 (m : Int))) (.slice (some ⟨g, off, none⟩) n cap) l := RowAt.fr HW6.out.1.row hst fun b hb e => gp1 (by have : (some g : Option Nat) = some b := hb; injection this with this; exact this.trans e)
      have hdel := Delete_any (s := s) hrow7 HN.out.1 hs (by omega)
      have c17 := hb7.at.2.1
      have HB7 : Hid (FmB (w6.setCell ⟨p, 2, none⟩ (.int .i64 (m : Int))) p (.func (.func lk) #[] #[]) (.slice (some ⟨g, off, none⟩) n cap) m K2 told2 ∧ told2 + j2 = K2 ∧ Fr w6 (w6.setCell ⟨p, 2, none⟩ (.int .i64 (m : Int))) (fun b => b = p) ∧ g ≠ p) := ⟨hb7, ht6, hst, gp1⟩
      clear hb6 hst hb7 hrow7 hS6 gp1 gp2 gp3 gp4 gp5 ht6
      go_upto_region 12 with fail
      clear c1 c2' f2 f1
      generalize w6.setCell ⟨p, 2, none⟩ (.int .i64 (m : Int)) = w7 at *
      go_wp2_with (go_at_call 55; fail)
      refine hdel.mono ?_
      rintro e w8 ⟨rfl, hby8, hfr8⟩
      have hb8 := HB7.out.1.fr hfr8 (fun e => HB7.out.2.2.2 e.symm)
      have c18 := hb8.at.2.1
      have f18 := hb8.frz 1
      have HE : Hid (WE f w (w8.setCell ⟨p, 1, none⟩ (.slice (some ⟨g, off, none⟩) (n - s) cap)) p g off cap (.func (.func lk) #[] #[]) (.slice av nf cv) (.slice a2 n2 c2) K j l fs) := by
        have hs9 : Fr w8 (w8.setCell ⟨p, 1, none⟩ (.slice (some ⟨g, off, none⟩) (n - s) cap)) (fun b => b = p) := Fr.setCell _ _ _ _ rfl
        have hall : Fr w6 (w8.setCell ⟨p, 1, none⟩ (.slice (some ⟨g, off, none⟩) (n - s) cap)) (fun b => b = p ∨ b = g) := (HB7.out.2.2.1.trans hfr8 (e3 := fun b => b = p ∨ b = g) fun _ _ q => q).trans hs9 fun _ _ q => by rcases q with q | q; exact q; exact .inl q
        obtain ⟨F, k2, q1, q2, q3, q4⟩ := HW6.out.1.eq
        have hwl := walkL_begun hsee j2
        rw [hwl] at q4
        simp only [List.append_nil, Nat.add_zero] at q4
        obtain ⟨gp1, gp2, gp3, gp4, gp5⟩ := HW6.out.1.gp
        refine ⟨⟨fs2, m, K2, told2, n - s, hb8.set1 _, ?_, ?_, ?_, ?_, ?_, ⟨HW6.out.1.found.row.fr hall fun b hb e => ?_, fun x hx => RowAt.fr (HW6.out.1.found.each x hx) hall fun b hb e => ?_, HW6.out.1.found.sep⟩, ?_, HW6.out.1.new, HW6.out.1.news, HW6.out.1.apart⟩, HW6.out.1.fr.trans hall fun b _ q => ?_⟩
        · rw [q4]; exact HB7.out.2.1
        · rw [q4]; exact q2
        · rw [q4]; show n - s = (l.drop s).length; rw [List.length_drop, HN.out.1]
        · rw [q4]; exact RowAt.fr hby8 hs9 fun b hb e => gp1 (by have : (some g : Option Nat) = some b := hb; injection this with this; exact this.trans e)
        · rw [q4]; exact hsee
        · rcases e with e | e
          · exact gp3 (e ▸ hb)
          · exact gp4 (e ▸ hb)
        · rcases gp5 x hx with q | q
          · rcases e with e | e
            · exact q.1 (e ▸ hb)
            · exact HW6.out.1.apart x hx (e ▸ hb)
          · rw [q] at hb; cases hb
        · rw [q4]; exact q1
        · rcases q with (q | q) | (q | q)
          · exact .inl q
          · exact .inr (.inr q)
          · exact .inl q
          · exact .inr (.inl q)
      clear hdel hby8 hfr8 hb8 HB7 HW6 c17
      go_wp2
      first
        | (rw [Exit.noGoto_ret]; go_ret; exact ⟨_, rfl, HE.out⟩)
        | (go_ret; exact ⟨_, rfl, HE.out⟩)
end Go.Proofs.YtkpoheknmcepnaaGreatDoor
