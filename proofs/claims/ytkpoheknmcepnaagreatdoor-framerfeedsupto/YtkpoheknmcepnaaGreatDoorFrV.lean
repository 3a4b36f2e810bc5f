import Derived.Test.YtkpoheknmcepnaaGreatDoorFrRefH

namespace Go.Proofs.YtkpoheknmcepnaaGreatDoor
set_option linter.unusedVariables false
set_option linter.unusedSimpArgs false
open Go.RowKit Go.Great

set_option maxRecDepth 100000 in
set_option maxHeartbeats 400000 in
theorem lent_any (a : Option Addr) (n cap : Nat) (d : Nat → Nat) (w : World) (hn : n ≤ 140737488351232) (hs : Src w a n d) :
    Calls Tryz.prog 36 #[.slice a n cap] w fun e w' => e = .returned (.slice (some ⟨w.heap.size, 0, none⟩) (n + 8) (n + 8)) ∧ OwnA w' w.heap.size (n + 8) (fun j => if j < n then d j else 201) ∧ Below w.heap.size w w' := by
  have hmk := make_bytes n (by omega)
  obtain ⟨W2, hcp, ho, hbl⟩ := copy_bytes a n (n + 8) cap (n + 8) w.heap.size d _ _ (hs.below ((Below.refl _ w).alloc (Nat.le_refl _) _)) (OwnA.made w (n + 8)) (by omega) w.heap.size w ((Below.refl _ w).alloc (Nat.le_refl _) _) (Nat.le_refl _)
  have HO : Hid (OwnA W2 w.heap.size (n + 8) (fun j => if j < n then d j else 0) ∧ Below w.heap.size w W2) := ⟨ho, hbl⟩
  clear hs ho hbl
  go_enter Tryz.func36, Tryz.ntmps36
  go_wp2
  go_loopw [4] (fun i w' => ∃ k : Nat, n ≤ k ∧ k ≤ n + 8 ∧ i = .int .i64 k ∧ OwnA w' w.heap.size (n + 8) (fun j => if j < n then d j else if j < k then 201 else 0) ∧ Below w.heap.size w w') (fun i _ => n + 8 - (intOf i).toNat)
  case atStart => exact ⟨n, Nat.le_refl _, by omega, rfl, HO.out.1.ext fun j hj => by by_cases e : j < n <;> simp [e], HO.out.2⟩
  case round =>
    obtain ⟨k, hk1, hk2, rfl, ho, hbl⟩ := hrel
    by_cases hlt : k < n + 8
    · have hlt' : (k : Int) < (n : Int) + 8 := by omega
      have hc := ho.cell k hlt
      have hf := ho.froz k
      have HP : Hid (OwnA wr w.heap.size (n + 8) (fun j => if j < n then d j else if j < k then 201 else 0) ∧ Below w.heap.size w wr) := ⟨ho, hbl⟩
      clear ho hbl
      go_wp2
      refine ⟨⟨k + 1, by omega, by omega, by go_num, (HP.out.1.set k 201 hlt (by decide)).ext fun j hj => ?_, HP.out.2.setCell (Nat.le_refl _) _⟩, by simp [intOf]; omega⟩
      show (if j = k then 201 else if j < n then d j else if j < k then 201 else 0) = if j < n then d j else if j < k + 1 then 201 else 0
      by_cases e : j = k
      · rw [if_pos e, if_neg (by omega), if_pos (by omega)]
      · rw [if_neg e]
        by_cases e2 : j < n
        · rw [if_pos e2, if_pos e2]
        · rw [if_neg e2, if_neg e2]
          by_cases e3 : j < k
          · rw [if_pos e3, if_pos (by omega)]
          · rw [if_neg e3, if_neg (by omega)]
    · have ek : k = n + 8 := by omega
      subst ek
      have HP : Hid (OwnA wr w.heap.size (n + 8) (fun j => if j < n then d j else if j < n + 8 then 201 else 0) ∧ Below w.heap.size w wr) := ⟨ho, hbl⟩
      clear ho hbl
      go_wp2
      go_ret
      refine ⟨rfl, HP.out.1.ext fun j hj => ?_, HP.out.2⟩
      by_cases e : j < n
      · simp [e]
      · simp [e, hj]


def stlD (n k : Nat) (d : Nat → Nat) (j : Nat) : Nat := if j < k then 77 else if j < n then d j else 201
set_option maxRecDepth 100000 in
set_option maxHeartbeats 1000000 in
theorem still_any (g n cap : Nat) (a : Option Addr) (cap' : Nat) (d : Nat → Nat) (w : World) (hn : n ≤ 1000000000) (hs : Src w a n d) (hg : ∀ b off, a = some ⟨b, off, none⟩ → 0 < n → b ≠ g) (ho : OwnA w g (n + 8) (fun j => if j < n then d j else 201)) :
    Calls Tryz.prog 37 #[.slice (some ⟨g, 0, none⟩) (n + 8) cap, .slice a n cap'] w fun e w' => e = .returned (.bool true) ∧ Fr w w' (fun b => b = g) := by
  have HS : Hid (Src w a n d ∧ (∀ b off, a = some ⟨b, off, none⟩ → 0 < n → b ≠ g)) := ⟨hs, hg⟩
  have HO : Hid (OwnA w g (n + 8) (stlD n 0 d)) := ho.ext fun j hj => by simp [stlD]
  clear hs ho hg
  go_enter Tryz.func37, Tryz.ntmps37
  go_wp2
  go_loopw [5, 6] (fun x5 x6 wr => ∃ k : Nat, k ≤ n + 8 ∧ x5 = .bool true ∧ x6 = .int .i64 (k : Int) ∧ Hid (OwnA wr g (n + 8) (stlD n k d) ∧ Fr w wr (fun b => b = g))) (fun _ x6 _ => n + 8 - (intOf x6).toNat)
  case atStart => exact ⟨0, Nat.zero_le _, rfl, rfl, HO.out, Fr.refl _ _⟩
  case round =>
    obtain ⟨k, hk, rfl, rfl, HP⟩ := hrel
    by_cases hlt : k < n + 8
    · have hlt' : (k : Int) < (n : Int) + 8 := by omega
      have hc := HP.out.1.cell k hlt
      have hf := HP.out.1.froz k
      have hkw : IntKind.i64.wrap ((k : Int) + 1) = (k : Int) + 1 := by rw [IntKind.wrap_i64]; omega
      have HX : Hid (∀ q, OwnA ((wr.drewN q).setCell ⟨g, k, none⟩ (.int .u8 77)) g (n + 8) (stlD n (k + 1) d) ∧ Fr w ((wr.drewN q).setCell ⟨g, k, none⟩ (.int .u8 77)) (fun b => b = g)) := fun q => by
        have hd : OwnA (wr.drewN q) g (n + 8) (stlD n k d) := HP.out.1
        refine ⟨(hd.set k 77 hlt (by decide)).ext fun j hj => ?_, (HP.out.2.drewN q).trans (Fr.setCell _ _ _ (fun b => b = g) rfl) fun _ _ q => q.elim id id⟩
        unfold stlD
        by_cases e : j = k
        · rw [if_pos e, if_pos (show j < k + 1 by omega)]
        · rw [if_neg e]
          by_cases e2 : j < k
          · rw [if_pos e2, if_pos (show j < k + 1 by omega)]
          · rw [if_neg e2, if_neg (show ¬ j < k + 1 by omega)]
      have hek : stlD n k d k = if k < n then d k else 201 := by unfold stlD; rw [if_neg (by omega)]
      rw [hek] at hc
      by_cases hkn : k < n
      · have hkn' : (k : Int) < (n : Int) := by omega
        rw [if_pos hkn] at hc
        rcases HS.out.1 with h0 | ⟨b, off, ea, hr⟩
        · omega
        · have hc2 := (HP.out.2).cell (hr k hkn).1 (HS.out.2 b off ea (by omega))
          subst ea
          have hge : decide (n ≤ k) = false := decide_eq_false (by omega)
          clear hr HP hek
          go_wp2
          go_quiet (fail)
          go_wp2
          exact ⟨⟨k + 1, by omega, rfl, by go_num, HX.out _⟩, by simp [intOf]; omega⟩
      · have hge' : (n : Int) ≤ (k : Int) := by omega
        have hkn' : decide ((k : Int) < (n : Int)) = false := decide_eq_false (by omega)
        rw [if_neg hkn] at hc
        clear HP hek
        go_wp2
        go_quiet (fail)
        go_wp2
        exact ⟨⟨k + 1, by omega, rfl, by go_num, HX.out _⟩, by simp [intOf]; omega⟩
    · have ek : k = n + 8 := by omega
      have hnl : ¬ (k : Int) < (n : Int) + 8 := by omega
      have HX : Hid (Fr w wr (fun b => b = g)) := HP.out.2
      clear HP ek
      go_wp2
      go_ret
      exact ⟨rfl, HX.out⟩
end Go.Proofs.YtkpoheknmcepnaaGreatDoor

namespace Go.Proofs.YtkpoheknmcepnaaGreatDoor
set_option linter.unusedVariables false
set_option linter.unusedSimpArgs false
open Go.RowKit Go.Great

/-- The byte that an owner with a mark writes at a place. -/
def atN (m i : Nat) : Nat := (m + i * (1 + m / 256)) % 256
def atB (m i : Nat) : UInt8 := UInt8.ofNat (atN m i)
theorem atB_nat (m i : Nat) : (atB m i).toNat = atN m i := by
  have : atN m i < 256 := Nat.mod_lt _ (by decide)
  unfold atB; simp; omega
def atL (m n : Nat) : List UInt8 := (List.range n).map (atB m)
theorem atL_len (m n : Nat) : (atL m n).length = n := by simp [atL]
theorem atL_snoc (m n : Nat) : atL m (n + 1) = atL m n ++ [atB m n] := by simp [atL, List.range_succ]
set_option maxRecDepth 100000 in
theorem at_any (v : Value) (m i : Nat) (hv : v.oneCell' = true) (hc : v.cells = #[v]) (w : World) (hm : m ≤ 1000000000) (hi : i ≤ 1000000000) :
    Calls Tryz.prog 71 #[.agg #[v, .int .i64 (m : Int)], .int .i64 (i : Int)] w fun e w' => e = .returned (.int .u8 ((atB m i).toNat : Int)) ∧ Below w.heap.size w w' := by
  have hq : m / 256 ≤ 3906250 := by omega
  obtain ⟨q, hqq⟩ : ∃ q, m / 256 = q := ⟨_, rfl⟩
  have hmul : i * (1 + q) ≤ 1000000000 * 3906251 := Nat.mul_le_mul hi (by omega)
  obtain ⟨P, hP⟩ : ∃ P, i * (1 + q) = P := ⟨_, rfl⟩
  rw [hP] at hmul
  have hPI : (i : Int) * (1 + (q : Int)) = (P : Int) := by rw [← hP]; push_cast; rfl
  have hA : ((atB m i).toNat : Int) = ((m : Int) + (P : Int)) % 256 := by
    rw [atB_nat]; unfold atN; rw [hqq, hP]; omega
  have hd : (m : Int) / 256 = (q : Int) := by omega
  rw [hA]
  have h1 : (w.alloc (.cells #[v, .int .i64 (m : Int)] 134)).cell? ⟨w.heap.size, 1, none⟩ = some (.int .i64 (m : Int)) := by simp
  have HB : Hid (Below w.heap.size w (w.alloc (.cells #[v, .int .i64 (m : Int)] 134))) := (Below.refl _ w).alloc (Nat.le_refl _) _
  have y1 : IntKind.i64.wrap (1 + (q : Int)) = 1 + (q : Int) := by rw [IntKind.wrap_i64]; omega
  have y2 : IntKind.i64.wrap ((i : Int) * (1 + (q : Int))) = (P : Int) := by rw [hPI, IntKind.wrap_i64]; omega
  have y3 : IntKind.i64.wrap ((m : Int) + (P : Int)) = (m : Int) + (P : Int) := by rw [IntKind.wrap_i64]; omega
  clear hA hP hqq hq hmul hPI
  go_enter Tryz.func71, Tryz.ntmps71
  go_wp2
  go_ret
  exact ⟨rfl, HB.out⟩
set_option maxRecDepth 100000 in
set_option maxHeartbeats 2000000 in
theorem frames_any {w : World} {va vb : Value} {fs1 fs2 : List Fm} (h1 : FoundAt w va fs1) (h2 : FoundAt w vb fs2) (he : fsOf fs1 = fsOf fs2) (hl : fs1.length ≤ 1000000000) :
    Calls Tryz.prog 41 #[va, vb] w fun e w' => e = .returned (.bool true) ∧ Fr w w' (fun _ => False) := by
  have hl2 : fs2.length = fs1.length := by have := congrArg List.length he; simpa [fsOf] using this.symm
  obtain ⟨aa, ca, rfl, -⟩ := h1.row.form
  obtain ⟨ab, cb, rfl, -⟩ := h2.row.form
  rw [hl2] at h2 ⊢
  obtain ⟨n, hn⟩ : ∃ n, fs1.length = n := ⟨_, rfl⟩
  rw [hn] at h1 h2 hl hl2 ⊢
  have HS : Hid (FoundAt w (.slice aa n ca) fs1 ∧ FoundAt w (.slice ab n cb) fs2 ∧ fsOf fs1 = fsOf fs2 ∧ fs1.length = n ∧ fs2.length = n) := ⟨h1, h2, he, hn, hl2⟩
  clear h1 h2 he hn hl2
  go_enter Tryz.func41, Tryz.ntmps41
  go_wp2
  go_loopw [5] (fun x wr => ∃ i : Nat, i ≤ n ∧ x = .int .i64 (i : Int) ∧ Hid (Fr w wr (fun _ => False))) (fun x _ => n - (intOf x).toNat)
  case atStart => exact ⟨0, Nat.zero_le _, rfl, Fr.refl _ _⟩
  case round =>
    obtain ⟨i, hi, rfl, HF⟩ := hrel
    by_cases hlt : i < n
    · obtain ⟨x, hx⟩ : ∃ x, fs1[i]? = some x := ⟨_, List.getElem?_eq_getElem (by have := HS.out.2.2.2.1; omega)⟩
      obtain ⟨y, hy⟩ : ∃ y, fs2[i]? = some y := ⟨_, List.getElem?_eq_getElem (by have := HS.out.2.2.2.2; omega)⟩
      have hF9 : Fr w wr.drew (fun _ => False) := HF.out.trans (Fr.of_below (Below.drew (Below.refl _ wr)) (fun _ => False)) fun _ _ q => q.elim id id
      have hW9 := HS.out.1.fr0 hF9
      have hP9 := HS.out.2.1.fr0 hF9
      obtain ⟨gw, ow, cw', curw, ew, -⟩ := hW9.row.more (by have := HS.out.2.2.2.1; omega)
      injection ew with ew1 ew2 ew3
      subst ew1
      obtain ⟨gp, op, cp', curp, ep, -⟩ := hP9.row.more (by have := HS.out.2.2.2.2; omega)
      injection ep with ep1 ep2 ep3
      subst ep1
      obtain ⟨hc1, hc2⟩ := hW9.at HS.out.2.2.2.1 hx
      obtain ⟨hd1, hd2⟩ := hP9.at HS.out.2.2.2.2 hy
      have hbx := hW9.each x (List.mem_of_getElem? hx)
      have hby := hP9.each y (List.mem_of_getElem? hy)
      have hxy : (x.l, x.j) = (y.l, y.j) := by
        have e1 : (fsOf fs1)[i]? = some (x.l, x.j) := by simp [fsOf, hx]
        have e2 : (fsOf fs2)[i]? = some (y.l, y.j) := by simp [fsOf, hy]
        rw [HS.out.2.2.1, e2] at e1
        injection e1 with e1
        exact e1.symm
      injection hxy with hxy1 hxy2
      obtain ⟨ax, cx, hxv, -⟩ := RowAt.form hbx
      obtain ⟨ay, cy, hyv, -⟩ := RowAt.form hby
      rw [hxv] at hc1 hbx
      rw [hyv] at hd1 hby
      rw [← hxy1] at hby hd1
      rw [← hxy2] at hd2
      clear hxv hyv hxy1 hxy2 hW9 hP9 hx hy ew2 ew3 ep2 ep3
      generalize x.l = L at *
      generalize x.j = xj at *
      obtain ⟨lx, hlx⟩ : ∃ lx, L.length = lx := ⟨_, rfl⟩
      rw [hlx] at hc1 hbx hd1 hby
      have HF9 : Hid (Fr w wr.drew (fun _ => False)) := hF9
      have hSS : wr.drew.cell? ⟨gw, ow + i * 2, none⟩ = some (.slice ax lx cx) ∧ wr.drew.cell? ⟨gw, ow + i * 2 + 1, none⟩ = some (.int .i64 (xj : Int)) ∧ ByAt wr.drew (.slice ax lx cx) L ∧ wr.drew.cell? ⟨gp, op + i * 2, none⟩ = some (.slice ay lx cy) ∧ wr.drew.cell? ⟨gp, op + i * 2 + 1, none⟩ = some (.int .i64 (xj : Int)) ∧ ByAt wr.drew (.slice ay lx cy) L := ⟨hc1, hc2, hbx, hd1, hd2, hby⟩
      clear hc1 hc2 hbx hd1 hd2 hby hF9 hlx HF
      have hlt' : (i : Int) < (n : Int) := by omega
      have hin : ¬ (n : Int) ≤ (i : Int) := by omega
      have hiw : IntKind.i64.wrap ((i : Int) + 1) = (i : Int) + 1 := by rw [IntKind.wrap_i64]; omega
      go_upto_region 6 with fail
      rename_i Kc hKc
      refine wp_region_held (S := fun w' => w'.cell? ⟨gw, ow + i * 2, none⟩ = some (.slice ax lx cx) ∧ w'.cell? ⟨gw, ow + i * 2 + 1, none⟩ = some (.int .i64 (xj : Int)) ∧ ByAt w' (.slice ax lx cx) L ∧ w'.cell? ⟨gp, op + i * 2, none⟩ = some (.slice ay lx cy) ∧ w'.cell? ⟨gp, op + i * 2 + 1, none⟩ = some (.int .i64 (xj : Int)) ∧ ByAt w' (.slice ay lx cy) L) (by kernel_rfl) ?_
      change wpAnyH _ _ _ _ _ _ _ _ (World.drew _)
      generalize wr.drew = w9 at *
      refine takeR (i := 0) (v := .slice (some ⟨gw, ow, none⟩) n ca) (some 17) rfl rfl (by kernel_rfl) (by kernel_rfl) (by kernel_rfl) (fun _ _ _ h => h) (Or.inl ⟨by kernel_rfl, fun w' hSw => by kernel_rfl⟩) hSS ?_
      simp only [Act.put, List.setIfInBounds_toArray, List.set_cons_zero, List.set_cons_succ]
      refine takeR (i := 1) (v := .int .i64 (i : Int)) (some 18) rfl rfl (by kernel_rfl) (by kernel_rfl) (by kernel_rfl) (fun _ _ _ h => h) (Or.inl ⟨by kernel_rfl, fun w' hSw => by kernel_rfl⟩) hSS ?_
      simp only [Act.put, List.setIfInBounds_toArray, List.set_cons_zero, List.set_cons_succ]
      refine takeR (i := 2) (v := .pointer (some ⟨gw, ow + i * 2, none⟩)) (some 19) rfl rfl (by kernel_rfl) (by kernel_rfl) (by kernel_rfl) (fun _ _ _ h => h) (Or.inl ⟨by kernel_rfl, fun w' hSw => by go_simp⟩) hSS ?_
      simp only [Act.put, List.setIfInBounds_toArray, List.set_cons_zero, List.set_cons_succ]
      refine takeR (i := 3) (v := .pointer (some ⟨gw, ow + i * 2, none⟩)) (some 20) rfl rfl (by kernel_rfl) (by kernel_rfl) (by kernel_rfl) (fun _ _ _ h => h) (Or.inl ⟨by kernel_rfl, fun w' hSw => by go_simp⟩) hSS ?_
      simp only [Act.put, List.setIfInBounds_toArray, List.set_cons_zero, List.set_cons_succ]
      refine takeR (i := 4) (v := .slice ax lx cx) (some 21) rfl rfl (by kernel_rfl) (by kernel_rfl) (by kernel_rfl) (fun _ _ _ h => h) (Or.inl ⟨by kernel_rfl, fun w' hSw => by have q0 := hSw.1; go_simp⟩) hSS ?_
      simp only [Act.put, List.setIfInBounds_toArray, List.set_cons_zero, List.set_cons_succ]
      refine takeR (i := 5) (v := .string ⟨L.toArray⟩) (some 22) rfl rfl (by kernel_rfl) (by kernel_rfl) (by kernel_rfl) (fun _ _ _ h => h) (Or.inl ⟨by kernel_rfl, fun w' hSw => by exact exec_convert (v := .slice ax lx cx) (.tmp 21) rfl (by kernel_rfl) (conv_by hSw.2.2.1)⟩) hSS ?_
      simp only [Act.put, List.setIfInBounds_toArray, List.set_cons_zero, List.set_cons_succ]
      refine takeR (i := 6) (v := .slice (some ⟨gp, op, none⟩) n cb) (some 23) rfl rfl (by kernel_rfl) (by kernel_rfl) (by kernel_rfl) (fun _ _ _ h => h) (Or.inl ⟨by kernel_rfl, fun w' hSw => by kernel_rfl⟩) hSS ?_
      simp only [Act.put, List.setIfInBounds_toArray, List.set_cons_zero, List.set_cons_succ]
      refine takeR (i := 7) (v := .int .i64 (i : Int)) (some 24) rfl rfl (by kernel_rfl) (by kernel_rfl) (by kernel_rfl) (fun _ _ _ h => h) (Or.inl ⟨by kernel_rfl, fun w' hSw => by kernel_rfl⟩) hSS ?_
      simp only [Act.put, List.setIfInBounds_toArray, List.set_cons_zero, List.set_cons_succ]
      refine takeR (i := 8) (v := .pointer (some ⟨gp, op + i * 2, none⟩)) (some 25) rfl rfl (by kernel_rfl) (by kernel_rfl) (by kernel_rfl) (fun _ _ _ h => h) (Or.inl ⟨by kernel_rfl, fun w' hSw => by go_simp⟩) hSS ?_
      simp only [Act.put, List.setIfInBounds_toArray, List.set_cons_zero, List.set_cons_succ]
      refine takeR (i := 9) (v := .pointer (some ⟨gp, op + i * 2, none⟩)) (some 26) rfl rfl (by kernel_rfl) (by kernel_rfl) (by kernel_rfl) (fun _ _ _ h => h) (Or.inl ⟨by kernel_rfl, fun w' hSw => by go_simp⟩) hSS ?_
      simp only [Act.put, List.setIfInBounds_toArray, List.set_cons_zero, List.set_cons_succ]
      refine takeR (i := 10) (v := .slice ay lx cy) (some 27) rfl rfl (by kernel_rfl) (by kernel_rfl) (by kernel_rfl) (fun _ _ _ h => h) (Or.inl ⟨by kernel_rfl, fun w' hSw => by have q0 := hSw.2.2.2.1; go_simp⟩) hSS ?_
      simp only [Act.put, List.setIfInBounds_toArray, List.set_cons_zero, List.set_cons_succ]
      refine takeR (i := 11) (v := .string ⟨L.toArray⟩) (some 28) rfl rfl (by kernel_rfl) (by kernel_rfl) (by kernel_rfl) (fun _ _ _ h => h) (Or.inl ⟨by kernel_rfl, fun w' hSw => by exact exec_convert (v := .slice ay lx cy) (.tmp 27) rfl (by kernel_rfl) (conv_by hSw.2.2.2.2.2)⟩) hSS ?_
      simp only [Act.put, List.setIfInBounds_toArray, List.set_cons_zero, List.set_cons_succ]
      refine takeR (i := 12) (v := .bool false) (some 29) rfl rfl (by kernel_rfl) (by kernel_rfl) (by kernel_rfl) (fun _ _ _ h => h) (Or.inl ⟨by kernel_rfl, fun w' hSw => by clear hSw; go_simp⟩) hSS ?_
      simp only [Act.put, List.setIfInBounds_toArray, List.set_cons_zero, List.set_cons_succ]
      refine takeR (i := 13) (v := .bool false) (some 30) rfl rfl (by kernel_rfl) (by kernel_rfl) (by kernel_rfl) (fun _ _ _ h => h) (Or.inl ⟨by kernel_rfl, fun w' hSw => by kernel_rfl⟩) hSS ?_
      simp only [Act.put, List.setIfInBounds_toArray, List.set_cons_zero, List.set_cons_succ]
      refine takeR (i := 14) (v := .slice (some ⟨gw, ow, none⟩) n ca) (some 31) rfl rfl (by kernel_rfl) (by kernel_rfl) (by kernel_rfl) (fun _ _ _ h => h) (Or.inl ⟨by kernel_rfl, fun w' hSw => by kernel_rfl⟩) hSS ?_
      simp only [Act.put, List.setIfInBounds_toArray, List.set_cons_zero, List.set_cons_succ]
      refine takeR (i := 15) (v := .int .i64 (i : Int)) (some 32) rfl rfl (by kernel_rfl) (by kernel_rfl) (by kernel_rfl) (fun _ _ _ h => h) (Or.inl ⟨by kernel_rfl, fun w' hSw => by kernel_rfl⟩) hSS ?_
      simp only [Act.put, List.setIfInBounds_toArray, List.set_cons_zero, List.set_cons_succ]
      refine takeR (i := 16) (v := .pointer (some ⟨gw, ow + i * 2, none⟩)) (some 33) rfl rfl (by kernel_rfl) (by kernel_rfl) (by kernel_rfl) (fun _ _ _ h => h) (Or.inl ⟨by kernel_rfl, fun w' hSw => by go_simp⟩) hSS ?_
      simp only [Act.put, List.setIfInBounds_toArray, List.set_cons_zero, List.set_cons_succ]
      refine takeR (i := 17) (v := .pointer (some ⟨gw, ow + i * 2 + 1, none⟩)) (some 34) rfl rfl (by kernel_rfl) (by kernel_rfl) (by kernel_rfl) (fun _ _ _ h => h) (Or.inl ⟨by kernel_rfl, fun w' hSw => by go_simp⟩) hSS ?_
      simp only [Act.put, List.setIfInBounds_toArray, List.set_cons_zero, List.set_cons_succ]
      refine takeR (i := 18) (v := .int .i64 (xj : Int)) (some 35) rfl rfl (by kernel_rfl) (by kernel_rfl) (by kernel_rfl) (fun _ _ _ h => h) (Or.inl ⟨by kernel_rfl, fun w' hSw => by have q0 := hSw.2.1; go_simp⟩) hSS ?_
      simp only [Act.put, List.setIfInBounds_toArray, List.set_cons_zero, List.set_cons_succ]
      refine takeR (i := 19) (v := .slice (some ⟨gp, op, none⟩) n cb) (some 36) rfl rfl (by kernel_rfl) (by kernel_rfl) (by kernel_rfl) (fun _ _ _ h => h) (Or.inl ⟨by kernel_rfl, fun w' hSw => by kernel_rfl⟩) hSS ?_
      simp only [Act.put, List.setIfInBounds_toArray, List.set_cons_zero, List.set_cons_succ]
      refine takeR (i := 20) (v := .int .i64 (i : Int)) (some 37) rfl rfl (by kernel_rfl) (by kernel_rfl) (by kernel_rfl) (fun _ _ _ h => h) (Or.inl ⟨by kernel_rfl, fun w' hSw => by kernel_rfl⟩) hSS ?_
      simp only [Act.put, List.setIfInBounds_toArray, List.set_cons_zero, List.set_cons_succ]
      refine takeR (i := 21) (v := .pointer (some ⟨gp, op + i * 2, none⟩)) (some 38) rfl rfl (by kernel_rfl) (by kernel_rfl) (by kernel_rfl) (fun _ _ _ h => h) (Or.inl ⟨by kernel_rfl, fun w' hSw => by go_simp⟩) hSS ?_
      simp only [Act.put, List.setIfInBounds_toArray, List.set_cons_zero, List.set_cons_succ]
      refine takeR (i := 22) (v := .pointer (some ⟨gp, op + i * 2 + 1, none⟩)) (some 39) rfl rfl (by kernel_rfl) (by kernel_rfl) (by kernel_rfl) (fun _ _ _ h => h) (Or.inl ⟨by kernel_rfl, fun w' hSw => by go_simp⟩) hSS ?_
      simp only [Act.put, List.setIfInBounds_toArray, List.set_cons_zero, List.set_cons_succ]
      refine takeR (i := 23) (v := .int .i64 (xj : Int)) (some 40) rfl rfl (by kernel_rfl) (by kernel_rfl) (by kernel_rfl) (fun _ _ _ h => h) (Or.inl ⟨by kernel_rfl, fun w' hSw => by have q0 := hSw.2.2.2.2.1; go_simp⟩) hSS ?_
      simp only [Act.put, List.setIfInBounds_toArray, List.set_cons_zero, List.set_cons_succ]
      refine takeR (i := 24) (v := .bool false) (some 41) rfl rfl (by kernel_rfl) (by kernel_rfl) (by kernel_rfl) (fun _ _ _ h => h) (Or.inl ⟨by kernel_rfl, fun w' hSw => by clear hSw; go_simp⟩) hSS ?_
      simp only [Act.put, List.setIfInBounds_toArray, List.set_cons_zero, List.set_cons_succ]
      refine takeR (i := 25) (v := .bool false) (some 42) rfl rfl (by kernel_rfl) (by kernel_rfl) (by kernel_rfl) (fun _ _ _ h => h) (Or.inl ⟨by kernel_rfl, fun w' hSw => by kernel_rfl⟩) hSS ?_
      simp only [Act.put, List.setIfInBounds_toArray, List.set_cons_zero, List.set_cons_succ]
      refine wpAnyH_done (by kernel_rfl) ?_ _
      refine hKc _ _ ?_
      clear hKc hSS
      go_wp2
      go_roundw
      case rel => exact ⟨i + 1, by omega, by go_num, HF9.out⟩
      case measure => simp [intOf]; omega
    · have hge : ¬ (i : Int) < (n : Int) := by omega
      go_wp2
      go_ret
      exact ⟨rfl, HF.out⟩
end Go.Proofs.YtkpoheknmcepnaaGreatDoor

namespace Go.Proofs.YtkpoheknmcepnaaGreatDoor
set_option linter.unusedVariables false
set_option linter.unusedSimpArgs false
open Go.RowKit Go.Great

/-- Bytes that are their owner's: the slice, the mark, how many. -/
structure Ow where
  v : Value
  m : Nat
  n : Nat
def owV (e : Ow) : List Value := [e.v, .int .i64 (e.m : Int)]
theorem owV_len (e : Ow) : (owV e).length = 2 := rfl
structure OwsAt (w : World) (vl : Value) (E : List Ow) : Prop where
  row : RowAt w 134 2 vl E.length (flatL owV E)
  each : ∀ e, e ∈ E → ByAt w e.v (atL e.m e.n) ∧ e.m ≤ 1000000000 ∧ e.n ≤ 1000000000
/-- Lists that are their owner's. -/
structure Lw where
  v : Value
  m : Int
  n : Nat
def lwV (e : Lw) : List Value := [e.v, .int .i64 e.m]
theorem lwV_len (e : Lw) : (lwV e).length = 2 := rfl
def mkV (m : Int) : List Value := [.slice none 0 0, .int .i64 m]
def mkF (m : Int) (n : Nat) : List Value := flatL (fun _ => mkV m) (List.range n)
structure LwsAt (w : World) (vL : Value) (E : List Lw) : Prop where
  row : RowAt w 137 2 vL E.length (flatL lwV E)
  each : ∀ e, e ∈ E → RowAt w 36 2 e.v e.n (mkF e.m e.n) ∧ -1000000000 ≤ e.m ∧ e.m ≤ 0 ∧ e.n ≤ 2000000000
/-- The owner. -/
def OwB (w : World) (p : Nat) (vl vL vh vw : Value) : Prop := w.heap[p]? = some (.cells #[vl, vL, vh, vw] 53 (0, 0))
section
variable {w w' : World} {p : Nat} {vl vL vh vw : Value}
theorem OwB.at (h : OwB w p vl vL vh vw) : w.cell? ⟨p, 0, none⟩ = some vl ∧ w.cell? ⟨p, 1, none⟩ = some vL ∧ w.cell? ⟨p, 2, none⟩ = some vh ∧ w.cell? ⟨p, 3, none⟩ = some vw := ⟨cell_at h rfl, cell_at h rfl, cell_at h rfl, cell_at h rfl⟩
theorem OwB.frz (h : OwB w p vl vL vh vw) (i : Nat) : w.frozen? ⟨p, i, none⟩ = false := frozen_of_row w p i _ _ h
theorem OwB.set0 (h : OwB w p vl vL vh vw) (v : Value) : OwB (w.setCell ⟨p, 0, none⟩ v) p v vL vh vw := by
  unfold OwB at h ⊢; rw [setCell_eq_setRow w p 0 _ _ _ v h, setRow_heap w p _ _ _ _ h]; rfl
theorem OwB.set1 (h : OwB w p vl vL vh vw) (v : Value) : OwB (w.setCell ⟨p, 1, none⟩ v) p vl v vh vw := by
  unfold OwB at h ⊢; rw [setCell_eq_setRow w p 1 _ _ _ v h, setRow_heap w p _ _ _ _ h]; rfl
theorem OwB.set2 (h : OwB w p vl vL vh vw) (v : Value) : OwB (w.setCell ⟨p, 2, none⟩ v) p vl vL v vw := by
  unfold OwB at h ⊢; rw [setCell_eq_setRow w p 2 _ _ _ v h, setRow_heap w p _ _ _ _ h]; rfl
theorem OwB.set3 (h : OwB w p vl vL vh vw) (v : Value) : OwB (w.setCell ⟨p, 3, none⟩ v) p vl vL vh v := by
  unfold OwB at h ⊢; rw [setCell_eq_setRow w p 3 _ _ _ v h, setRow_heap w p _ _ _ _ h]; rfl
theorem OwB.lt (h : OwB w p vl vL vh vw) : p < w.heap.size := (Array.getElem?_eq_some_iff.1 h).1
theorem OwB.fr {ex : Nat → Prop} (h : OwB w p vl vL vh vw) (hf : Fr w w' ex) (hn : ¬ ex p) : OwB w' p vl vL vh vw := (hf.block p h.lt hn).trans h
end
theorem OwsAt.fr0 {w w' : World} {vl : Value} {E : List Ow} (h : OwsAt w vl E) (hf : Fr w w' (fun _ => False)) : OwsAt w' vl E := ⟨h.row.fr hf fun _ _ q => q, fun e he => ⟨RowAt.fr (h.each e he).1 hf fun _ _ q => q, (h.each e he).2⟩⟩
theorem LwsAt.fr0 {w w' : World} {vl : Value} {E : List Lw} (h : LwsAt w vl E) (hf : Fr w w' (fun _ => False)) : LwsAt w' vl E := ⟨h.row.fr hf fun _ _ q => q, fun e he => ⟨RowAt.fr (h.each e he).1 hf fun _ _ q => q, (h.each e he).2⟩⟩
theorem OwsAt.at {w : World} {g o n c i : Nat} {E : List Ow} {e : Ow} (h : OwsAt w (.slice (some ⟨g, o, none⟩) n c) E) (hn : E.length = n) (hx : E[i]? = some e) : w.cell? ⟨g, o + i * 2, none⟩ = some e.v ∧ w.cell? ⟨g, o + i * 2 + 1, none⟩ = some (.int .i64 (e.m : Int)) := by
  subst hn
  have h0 := flatL_get (f := owV) owV_len hx (k := 0) (by decide)
  have h1 := flatL_get (f := owV) owV_len hx (k := 1) (by decide)
  refine ⟨h.row.cell rfl (j := i * 2) h0, ?_⟩
  rw [Nat.add_assoc]; exact h.row.cell rfl (j := i * 2 + 1) h1
theorem LwsAt.at {w : World} {g o n c i : Nat} {E : List Lw} {e : Lw} (h : LwsAt w (.slice (some ⟨g, o, none⟩) n c) E) (hn : E.length = n) (hx : E[i]? = some e) : w.cell? ⟨g, o + i * 2, none⟩ = some e.v ∧ w.cell? ⟨g, o + i * 2 + 1, none⟩ = some (.int .i64 e.m) := by
  subst hn
  have h0 := flatL_get (f := lwV) lwV_len hx (k := 0) (by decide)
  have h1 := flatL_get (f := lwV) lwV_len hx (k := 1) (by decide)
  refine ⟨h.row.cell rfl (j := i * 2) h0, ?_⟩
  rw [Nat.add_assoc]; exact h.row.cell rfl (j := i * 2 + 1) h1
theorem atL_get {m n k : Nat} (h : k < n) : (atL m n)[k]? = some (atB m k) := by
  unfold atL; rw [List.getElem?_map, List.getElem?_range h]; rfl
theorem ByAt.byte {w : World} {g o n c k : Nat} {l : List UInt8} {x : UInt8} (h : ByAt w (.slice (some ⟨g, o, none⟩) n c) l) (hk : l[k]? = some x) : w.cell? ⟨g, o + k, none⟩ = some (.int .u8 (x.toNat : Int)) := by
  obtain ⟨hlt, e⟩ := List.getElem?_eq_some_iff.1 hk
  rw [lsrc_cell (ByAt.src h) hlt, e]
set_option maxRecDepth 100000 in
set_option maxHeartbeats 2000000 in
theorem looks_any {w : World} {p : Nat} {vl vL vh vw : Value} {E : List Ow} (hb : OwB w p vl vL vh vw) (hE : OwsAt w vl E) (hl : E.length ≤ 1000000000) :
    Calls Tryz.prog 44 #[.pointer (some ⟨p, 0, none⟩)] w fun e w' => e = .returned (.bool true) ∧ Fr w w' (fun _ => False) := by
  obtain ⟨al, cl, rfl, -⟩ := hE.row.form
  obtain ⟨n, hn⟩ : ∃ n, E.length = n := ⟨_, rfl⟩
  rw [hn] at hb hE hl
  have HS : Hid (OwB w p (.slice al n cl) vL vh vw ∧ OwsAt w (.slice al n cl) E ∧ E.length = n) := ⟨hb, hE, hn⟩
  clear hb hE hn
  go_enter Tryz.func44, Tryz.ntmps44
  go_wp2
  go_loopw [3, 4] (fun x3 _ wr => ∃ i : Nat, i ≤ n ∧ x3 = .int .i64 (i : Int) ∧ Hid (Fr w wr (fun _ => False))) (fun x3 _ _ => n - (intOf x3).toNat)
  case atStart => exact ⟨0, Nat.zero_le _, rfl, Fr.refl _ _⟩
  case round =>
    obtain ⟨i, hi, rfl, HF⟩ := hrel
    obtain ⟨k0, -, -, -⟩ := (HS.out.1.fr HF.out id).at
    by_cases hlt : i < n
    · have hlt' : (i : Int) < (n : Int) := by omega
      have hiw : IntKind.i64.wrap ((i : Int) + 1) = (i : Int) + 1 := by rw [IntKind.wrap_i64]; omega
      obtain ⟨e, he⟩ : ∃ e, E[i]? = some e := ⟨_, List.getElem?_eq_getElem (by have := HS.out.2.2; omega)⟩
      have hem : e ∈ E := List.mem_of_getElem? he
      obtain ⟨gl, ol, cl', curl, ew, -⟩ := HS.out.2.1.row.more (by have := HS.out.2.2; omega)
      injection ew with ew1 ew2 ew3
      subst ew1
      obtain ⟨hby, hm9, hn9⟩ := HS.out.2.1.each e hem
      obtain ⟨ae, ce, hev, -⟩ := RowAt.form hby
      rw [atL_len] at hev
      obtain ⟨hc1, hc2⟩ := HS.out.2.1.at HS.out.2.2 he
      rw [hev] at hc1 hby
      generalize e.n = ne at *
      generalize e.m = me at *
      have HE : Hid (OwB w p (.slice (some ⟨gl, ol, none⟩) n cl) vL vh vw ∧ w.cell? ⟨gl, ol + i * 2, none⟩ = some (.slice ae ne ce) ∧ w.cell? ⟨gl, ol + i * 2 + 1, none⟩ = some (.int .i64 (me : Int)) ∧ ByAt w (.slice ae ne ce) (atL me ne)) := ⟨HS.out.1, hc1, hc2, hby⟩
      clear hc1 hc2 hby hev hem he ew2 ew3
      go_wp2
      go_loopw [4] (fun x4 wr => ∃ k : Nat, k ≤ ne ∧ x4 = .int .i64 (k : Int) ∧ Hid (Fr w wr (fun _ => False))) (fun x4 _ => ne - (intOf x4).toNat)
      case atStart => exact ⟨0, Nat.zero_le _, rfl, HF.out⟩
      case round =>
        obtain ⟨k, hk, rfl, HG⟩ := hrel
        obtain ⟨k0, -, -, -⟩ := (HE.out.1.fr HG.out id).at
        have kc1 := HG.out.cell HE.out.2.1 id
        have kc2 := HG.out.cell HE.out.2.2.1 id
        by_cases hkl : k < ne
        · have hkl' : (k : Int) < (ne : Int) := by omega
          have hkw : IntKind.i64.wrap ((k : Int) + 1) = (k : Int) + 1 := by rw [IntKind.wrap_i64]; omega
          obtain ⟨ge, oe, ce', cure, ee, -⟩ := RowAt.more HE.out.2.2.2 (by rw [atL_len]; omega)
          injection ee with ee1 ee2 ee3
          subst ee1
          have hG9 : Fr w wr.drew (fun _ => False) := HG.out.drew
          have kb := hG9.cell (HE.out.2.2.2.byte (atL_get hkl)) id
          have kk0 := (HE.out.1.fr hG9 id).at.1
          have kk1 := hG9.cell HE.out.2.1 id
          have kk2 := hG9.cell HE.out.2.2.1 id
          have hat := at_any (.slice (some ⟨ge, oe, none⟩) ne ce) me k rfl rfl wr.drew (by omega) (by omega)
          obtain ⟨x, hx⟩ : ∃ x, (atB me k).toNat = x := ⟨_, rfl⟩
          rw [hx] at kb hat
          have hSS : wr.drew.cell? ⟨p, 0, none⟩ = some (.slice (some ⟨gl, ol, none⟩) n cl) ∧ wr.drew.cell? ⟨gl, ol + i * 2, none⟩ = some (.slice (some ⟨ge, oe, none⟩) ne ce) ∧ wr.drew.cell? ⟨gl, ol + i * 2 + 1, none⟩ = some (.int .i64 (me : Int)) ∧ wr.drew.cell? ⟨ge, oe + k, none⟩ = some (.int .u8 (x : Int)) := ⟨kk0, kk1, kk2, kb⟩
          have HG9 : Hid (Fr w wr.drew (fun _ => False)) := hG9
          clear kk0 kk1 kk2 kb hG9 hx ee2 ee3
          go_upto_region 7 with fail
          rename_i Kc hKc
          refine wp_region_held (S := fun w' => w'.cell? ⟨p, 0, none⟩ = some (.slice (some ⟨gl, ol, none⟩) n cl) ∧ w'.cell? ⟨gl, ol + i * 2, none⟩ = some (.slice (some ⟨ge, oe, none⟩) ne ce) ∧ w'.cell? ⟨gl, ol + i * 2 + 1, none⟩ = some (.int .i64 (me : Int)) ∧ w'.cell? ⟨ge, oe + k, none⟩ = some (.int .u8 (x : Int))) (by kernel_rfl) ?_
          change wpAnyH _ _ _ _ _ _ _ _ (World.drew _)
          generalize wr.drew = w9 at *
          refine takeR (i := 0) (v := .pointer (some ⟨p, 0, none⟩)) (some 27) rfl rfl (by kernel_rfl) (by kernel_rfl) (by kernel_rfl) (fun _ _ _ h => h) (Or.inl ⟨by kernel_rfl, fun w' hSw => by kernel_rfl⟩) hSS ?_
          simp only [Act.put, List.setIfInBounds_toArray, List.set_cons_zero, List.set_cons_succ]
          refine takeR (i := 1) (v := .pointer (some ⟨p, 0, none⟩)) (some 28) rfl rfl (by kernel_rfl) (by kernel_rfl) (by kernel_rfl) (fun _ _ _ h => h) (Or.inl ⟨by kernel_rfl, fun w' hSw => by kernel_rfl⟩) hSS ?_
          simp only [Act.put, List.setIfInBounds_toArray, List.set_cons_zero, List.set_cons_succ]
          refine takeR (i := 2) (v := .pointer (some ⟨p, 0, none⟩)) (some 29) rfl rfl (by kernel_rfl) (by kernel_rfl) (by kernel_rfl) (fun _ _ _ h => h) (Or.inl ⟨by kernel_rfl, fun w' hSw => by kernel_rfl⟩) hSS ?_
          simp only [Act.put, List.setIfInBounds_toArray, List.set_cons_zero, List.set_cons_succ]
          refine takeR (i := 3) (v := .slice (some ⟨gl, ol, none⟩) n cl) (some 30) rfl rfl (by kernel_rfl) (by kernel_rfl) (by kernel_rfl) (fun _ _ _ h => h) (Or.inl ⟨by kernel_rfl, fun w' hSw => by have q0 := hSw.1; go_simp⟩) hSS ?_
          simp only [Act.put, List.setIfInBounds_toArray, List.set_cons_zero, List.set_cons_succ]
          refine takeR (i := 4) (v := .int .i64 (i : Int)) (some 31) rfl rfl (by kernel_rfl) (by kernel_rfl) (by kernel_rfl) (fun _ _ _ h => h) (Or.inl ⟨by kernel_rfl, fun w' hSw => by kernel_rfl⟩) hSS ?_
          simp only [Act.put, List.setIfInBounds_toArray, List.set_cons_zero, List.set_cons_succ]
          refine takeR (i := 5) (v := .pointer (some ⟨gl, ol + i * 2, none⟩)) (some 32) rfl rfl (by kernel_rfl) (by kernel_rfl) (by kernel_rfl) (fun _ _ _ h => h) (Or.inl ⟨by kernel_rfl, fun w' hSw => by clear hSw; go_simp⟩) hSS ?_
          simp only [Act.put, List.setIfInBounds_toArray, List.set_cons_zero, List.set_cons_succ]
          refine takeR (i := 6) (v := .pointer (some ⟨gl, ol + i * 2, none⟩)) (some 33) rfl rfl (by kernel_rfl) (by kernel_rfl) (by kernel_rfl) (fun _ _ _ h => h) (Or.inl ⟨by kernel_rfl, fun w' hSw => by clear hSw; go_simp⟩) hSS ?_
          simp only [Act.put, List.setIfInBounds_toArray, List.set_cons_zero, List.set_cons_succ]
          refine takeR (i := 7) (v := .slice (some ⟨ge, oe, none⟩) ne ce) (some 34) rfl rfl (by kernel_rfl) (by kernel_rfl) (by kernel_rfl) (fun _ _ _ h => h) (Or.inl ⟨by kernel_rfl, fun w' hSw => by have q0 := hSw.2.1; go_simp⟩) hSS ?_
          simp only [Act.put, List.setIfInBounds_toArray, List.set_cons_zero, List.set_cons_succ]
          refine takeR (i := 8) (v := .int .i64 (k : Int)) (some 35) rfl rfl (by kernel_rfl) (by kernel_rfl) (by kernel_rfl) (fun _ _ _ h => h) (Or.inl ⟨by kernel_rfl, fun w' hSw => by kernel_rfl⟩) hSS ?_
          simp only [Act.put, List.setIfInBounds_toArray, List.set_cons_zero, List.set_cons_succ]
          refine takeR (i := 9) (v := .pointer (some ⟨ge, oe + k, none⟩)) (some 36) rfl rfl (by kernel_rfl) (by kernel_rfl) (by kernel_rfl) (fun _ _ _ h => h) (Or.inl ⟨by kernel_rfl, fun w' hSw => by clear hSw; go_simp⟩) hSS ?_
          simp only [Act.put, List.setIfInBounds_toArray, List.set_cons_zero, List.set_cons_succ]
          refine takeR (i := 10) (v := .int .u8 (x : Int)) (some 37) rfl rfl (by kernel_rfl) (by kernel_rfl) (by kernel_rfl) (fun _ _ _ h => h) (Or.inl ⟨by kernel_rfl, fun w' hSw => by have q0 := hSw.2.2.2; go_simp⟩) hSS ?_
          simp only [Act.put, List.setIfInBounds_toArray, List.set_cons_zero, List.set_cons_succ]
          refine takeR (i := 11) (v := .pointer (some ⟨p, 0, none⟩)) (some 38) rfl rfl (by kernel_rfl) (by kernel_rfl) (by kernel_rfl) (fun _ _ _ h => h) (Or.inl ⟨by kernel_rfl, fun w' hSw => by kernel_rfl⟩) hSS ?_
          simp only [Act.put, List.setIfInBounds_toArray, List.set_cons_zero, List.set_cons_succ]
          refine takeR (i := 12) (v := .pointer (some ⟨p, 0, none⟩)) (some 39) rfl rfl (by kernel_rfl) (by kernel_rfl) (by kernel_rfl) (fun _ _ _ h => h) (Or.inl ⟨by kernel_rfl, fun w' hSw => by kernel_rfl⟩) hSS ?_
          simp only [Act.put, List.setIfInBounds_toArray, List.set_cons_zero, List.set_cons_succ]
          refine takeR (i := 13) (v := .pointer (some ⟨p, 0, none⟩)) (some 40) rfl rfl (by kernel_rfl) (by kernel_rfl) (by kernel_rfl) (fun _ _ _ h => h) (Or.inl ⟨by kernel_rfl, fun w' hSw => by kernel_rfl⟩) hSS ?_
          simp only [Act.put, List.setIfInBounds_toArray, List.set_cons_zero, List.set_cons_succ]
          refine takeR (i := 14) (v := .slice (some ⟨gl, ol, none⟩) n cl) (some 41) rfl rfl (by kernel_rfl) (by kernel_rfl) (by kernel_rfl) (fun _ _ _ h => h) (Or.inl ⟨by kernel_rfl, fun w' hSw => by have q0 := hSw.1; go_simp⟩) hSS ?_
          simp only [Act.put, List.setIfInBounds_toArray, List.set_cons_zero, List.set_cons_succ]
          refine takeR (i := 15) (v := .int .i64 (i : Int)) (some 42) rfl rfl (by kernel_rfl) (by kernel_rfl) (by kernel_rfl) (fun _ _ _ h => h) (Or.inl ⟨by kernel_rfl, fun w' hSw => by kernel_rfl⟩) hSS ?_
          simp only [Act.put, List.setIfInBounds_toArray, List.set_cons_zero, List.set_cons_succ]
          refine takeR (i := 16) (v := .pointer (some ⟨gl, ol + i * 2, none⟩)) (some 43) rfl rfl (by kernel_rfl) (by kernel_rfl) (by kernel_rfl) (fun _ _ _ h => h) (Or.inl ⟨by kernel_rfl, fun w' hSw => by clear hSw; go_simp⟩) hSS ?_
          simp only [Act.put, List.setIfInBounds_toArray, List.set_cons_zero, List.set_cons_succ]
          refine takeR (i := 17) (v := .agg #[.slice (some ⟨ge, oe, none⟩) ne ce, .int .i64 (me : Int)]) (some 44) rfl rfl (by kernel_rfl) (by kernel_rfl) (by kernel_rfl) (fun _ _ _ h => h) (Or.inl ⟨by kernel_rfl, fun w' hSw => by have q0 := hSw.2.1; have q1 := hSw.2.2.1; clear hSw; go_simp⟩) hSS ?_
          simp only [Act.put, List.setIfInBounds_toArray, List.set_cons_zero, List.set_cons_succ]
          refine takeR (i := 18) (v := .int .i64 (k : Int)) (some 45) rfl rfl (by kernel_rfl) (by kernel_rfl) (by kernel_rfl) (fun _ _ _ h => h) (Or.inl ⟨by kernel_rfl, fun w' hSw => by kernel_rfl⟩) hSS ?_
          simp only [Act.put, List.setIfInBounds_toArray, List.set_cons_zero, List.set_cons_succ]
          refine wpAnyH_ready (rs := [19]) (by kernel_rfl) (by simp) ?_
          refine AllReadyH.cons rfl (fun K1 hK1 => ?_) AllReadyH.nil
          rw [if_pos (by kernel_rfl)]
          refine callR (d := some 46) rfl 71 #[.agg #[.slice (some ⟨ge, oe, none⟩) ne ce, .int .i64 (me : Int)], .int .i64 (k : Int)] (by kernel_rfl) hat ?_
          rintro e w10 ⟨rfl, hB10⟩
          have hF10 : Fr w9 w10 (fun _ => False) := Fr.of_below hB10 _
          have HG10 : Hid (Fr w w10 (fun _ => False)) := HG9.out.trans hF10 fun _ _ q => q.elim id id
          have hS10 : w10.cell? ⟨p, 0, none⟩ = some (.slice (some ⟨gl, ol, none⟩) n cl) ∧ w10.cell? ⟨gl, ol + i * 2, none⟩ = some (.slice (some ⟨ge, oe, none⟩) ne ce) ∧ w10.cell? ⟨gl, ol + i * 2 + 1, none⟩ = some (.int .i64 (me : Int)) ∧ w10.cell? ⟨ge, oe + k, none⟩ = some (.int .u8 (x : Int)) := ⟨hF10.cell hSS.1 id, hF10.cell hSS.2.1 id, hF10.cell hSS.2.2.1 id, hF10.cell hSS.2.2.2 id⟩
          refine ⟨_, rfl, ?_⟩
          refine hK1.out _ _ hS10 (fun _ => ?_)
          clear hK1 hB10 hSS hat hF10 HG9
          simp only [Act.put, List.setIfInBounds_toArray, List.set_cons_zero, List.set_cons_succ]
          refine takeR (i := 20) (v := .bool false) (some 47) rfl rfl (by kernel_rfl) (by kernel_rfl) (by kernel_rfl) (fun _ _ _ h => h) (Or.inl ⟨by kernel_rfl, fun w' hSw => by clear hSw; go_simp⟩) hS10 ?_
          simp only [Act.put, List.setIfInBounds_toArray, List.set_cons_zero, List.set_cons_succ]
          refine wpAnyH_done (by kernel_rfl) ?_ _
          refine hKc _ _ ?_
          clear hKc hS10
          go_wp2
          go_roundw
          case rel => exact ⟨k + 1, by omega, by go_num, HG10.out⟩
          case measure => simp [intOf]; omega
        · have hkl' : ¬ (k : Int) < (ne : Int) := by omega
          have hiw2 : IntKind.i64.wrap ((i : Int) + 1) = (i : Int) + 1 := by rw [IntKind.wrap_i64]; omega
          go_wp2
          go_roundw
          case rel => exact ⟨i + 1, by omega, by go_num, HG.out⟩
          case measure => simp [intOf]; omega
    · have hge : ¬ (i : Int) < (n : Int) := by omega
      go_wp2
      go_ret
      exact ⟨rfl, HF.out⟩
end Go.Proofs.YtkpoheknmcepnaaGreatDoor

namespace Go.Proofs.YtkpoheknmcepnaaGreatDoor
set_option linter.unusedVariables false
set_option linter.unusedSimpArgs false
open Go.RowKit Go.Great

theorem mkV_len (m : Int) : (mkV m).length = 2 := rfl
theorem mkF_get {m : Int} {n k : Nat} (h : k < n) : (mkF m n)[k * 2]? = some (.slice none 0 0) ∧ (mkF m n)[k * 2 + 1]? = some (.int .i64 m) := by
  have hx : (List.range n)[k]? = some k := List.getElem?_range h
  have h0 := flatL_get (f := fun _ : Nat => mkV m) (fun _ => mkV_len m) hx (k := 0) (by decide)
  have h1 := flatL_get (f := fun _ : Nat => mkV m) (fun _ => mkV_len m) hx (k := 1) (by decide)
  exact ⟨h0, h1⟩
theorem mkF_len (m : Int) (n : Nat) : (mkF m n).length = n * 2 := by unfold mkF; rw [flatL_len (fun _ => mkV_len m), List.length_range]
theorem mkF_snoc (m : Int) (n : Nat) : mkF m (n + 1) = mkF m n ++ mkV m := by unfold mkF; rw [List.range_succ, flatL_app, flatL_one]
set_option maxRecDepth 100000 in
set_option maxHeartbeats 2000000 in
theorem marked_any {w : World} {p : Nat} {vl vL vh vw : Value} {E : List Lw} (hb : OwB w p vl vL vh vw) (hE : LwsAt w vL E) (hl : E.length ≤ 1000000000) :
    Calls Tryz.prog 45 #[.pointer (some ⟨p, 0, none⟩)] w fun e w' => e = .returned (.bool true) ∧ Fr w w' (fun _ => False) := by
  obtain ⟨al, cl, rfl, -⟩ := hE.row.form
  obtain ⟨n, hn⟩ : ∃ n, E.length = n := ⟨_, rfl⟩
  rw [hn] at hb hE hl
  have HS : Hid (OwB w p vl (.slice al n cl) vh vw ∧ LwsAt w (.slice al n cl) E ∧ E.length = n) := ⟨hb, hE, hn⟩
  clear hb hE hn
  go_enter Tryz.func45, Tryz.ntmps45
  go_wp2
  go_loopw [3, 4] (fun x3 _ wr => ∃ i : Nat, i ≤ n ∧ x3 = .int .i64 (i : Int) ∧ Hid (Fr w wr (fun _ => False))) (fun x3 _ _ => n - (intOf x3).toNat)
  case atStart => exact ⟨0, Nat.zero_le _, rfl, Fr.refl _ _⟩
  case round =>
    obtain ⟨i, hi, rfl, HF⟩ := hrel
    obtain ⟨-, k0, -, -⟩ := (HS.out.1.fr HF.out id).at
    by_cases hlt : i < n
    · have hlt' : (i : Int) < (n : Int) := by omega
      have hiw : IntKind.i64.wrap ((i : Int) + 1) = (i : Int) + 1 := by rw [IntKind.wrap_i64]; omega
      obtain ⟨e, he⟩ : ∃ e, E[i]? = some e := ⟨_, List.getElem?_eq_getElem (by have := HS.out.2.2; omega)⟩
      have hem : e ∈ E := List.mem_of_getElem? he
      obtain ⟨gl, ol, cl', curl, ew, -⟩ := HS.out.2.1.row.more (by have := HS.out.2.2; omega)
      injection ew with ew1 ew2 ew3
      subst ew1
      obtain ⟨hby, hm9, hm10, hn9⟩ := HS.out.2.1.each e hem
      obtain ⟨ae, ce, hev, -⟩ := RowAt.form hby
      obtain ⟨hc1, hc2⟩ := HS.out.2.1.at HS.out.2.2 he
      rw [hev] at hc1 hby
      generalize e.n = ne at *
      generalize e.m = me at *
      have HE : Hid (OwB w p vl (.slice (some ⟨gl, ol, none⟩) n cl) vh vw ∧ w.cell? ⟨gl, ol + i * 2, none⟩ = some (.slice ae ne ce) ∧ w.cell? ⟨gl, ol + i * 2 + 1, none⟩ = some (.int .i64 me) ∧ RowAt w 36 2 (.slice ae ne ce) ne (mkF me ne)) := ⟨HS.out.1, hc1, hc2, hby⟩
      clear hc1 hc2 hby hev hem he ew2 ew3
      go_wp2
      go_loopw [4] (fun x4 wr => ∃ k : Nat, k ≤ ne ∧ x4 = .int .i64 (k : Int) ∧ Hid (Fr w wr (fun _ => False))) (fun x4 _ => ne - (intOf x4).toNat)
      case atStart => exact ⟨0, Nat.zero_le _, rfl, HF.out⟩
      case round =>
        obtain ⟨k, hk, rfl, HG⟩ := hrel
        obtain ⟨-, k0, -, -⟩ := (HE.out.1.fr HG.out id).at
        have kc1 := HG.out.cell HE.out.2.1 id
        have kc2 := HG.out.cell HE.out.2.2.1 id
        by_cases hkl : k < ne
        · have hkl' : (k : Int) < (ne : Int) := by omega
          have hkw : IntKind.i64.wrap ((k : Int) + 1) = (k : Int) + 1 := by rw [IntKind.wrap_i64]; omega
          obtain ⟨ge, oe, ce', cure, ee, -⟩ := RowAt.more HE.out.2.2.2 (by omega)
          injection ee with ee1 ee2 ee3
          subst ee1
          have hG9 : Fr w wr.drew (fun _ => False) := HG.out.drew
          have kb0 := hG9.cell (HE.out.2.2.2.cell rfl (j := k * 2) (mkF_get hkl).1) id
          have kb1 := hG9.cell (HE.out.2.2.2.cell rfl (j := k * 2 + 1) (mkF_get hkl).2) id
          rw [← Nat.add_assoc] at kb1
          have kk0 := (HE.out.1.fr hG9 id).at.2.1
          have kk1 := hG9.cell HE.out.2.1 id
          have kk2 := hG9.cell HE.out.2.2.1 id
          have hSS : wr.drew.cell? ⟨p, 1, none⟩ = some (.slice (some ⟨gl, ol, none⟩) n cl) ∧ wr.drew.cell? ⟨gl, ol + i * 2, none⟩ = some (.slice (some ⟨ge, oe, none⟩) ne ce) ∧ wr.drew.cell? ⟨gl, ol + i * 2 + 1, none⟩ = some (.int .i64 me) ∧ wr.drew.cell? ⟨ge, oe + k * 2, none⟩ = some (.slice none 0 0) ∧ wr.drew.cell? ⟨ge, oe + k * 2 + 1, none⟩ = some (.int .i64 me) := ⟨kk0, kk1, kk2, kb0, kb1⟩
          have HG9 : Hid (Fr w wr.drew (fun _ => False)) := hG9
          clear kk0 kk1 kk2 kb0 kb1 hG9 ee2 ee3
          go_upto_region 7 with fail
          rename_i Kc hKc
          refine wp_region_held (S := fun w' => w'.cell? ⟨p, 1, none⟩ = some (.slice (some ⟨gl, ol, none⟩) n cl) ∧ w'.cell? ⟨gl, ol + i * 2, none⟩ = some (.slice (some ⟨ge, oe, none⟩) ne ce) ∧ w'.cell? ⟨gl, ol + i * 2 + 1, none⟩ = some (.int .i64 me) ∧ w'.cell? ⟨ge, oe + k * 2, none⟩ = some (.slice none 0 0) ∧ w'.cell? ⟨ge, oe + k * 2 + 1, none⟩ = some (.int .i64 me)) (by kernel_rfl) ?_
          change wpAnyH _ _ _ _ _ _ _ _ (World.drew _)
          generalize wr.drew = w9 at *
          refine takeR (i := 0) (v := .pointer (some ⟨p, 0, none⟩)) (some 27) rfl rfl (by kernel_rfl) (by kernel_rfl) (by kernel_rfl) (fun _ _ _ h => h) (Or.inl ⟨by kernel_rfl, fun w' hSw => by kernel_rfl⟩) hSS ?_
          simp only [Act.put, List.setIfInBounds_toArray, List.set_cons_zero, List.set_cons_succ]
          refine takeR (i := 1) (v := .pointer (some ⟨p, 0, none⟩)) (some 28) rfl rfl (by kernel_rfl) (by kernel_rfl) (by kernel_rfl) (fun _ _ _ h => h) (Or.inl ⟨by kernel_rfl, fun w' hSw => by kernel_rfl⟩) hSS ?_
          simp only [Act.put, List.setIfInBounds_toArray, List.set_cons_zero, List.set_cons_succ]
          refine takeR (i := 2) (v := .pointer (some ⟨p, 1, none⟩)) (some 29) rfl rfl (by kernel_rfl) (by kernel_rfl) (by kernel_rfl) (fun _ _ _ h => h) (Or.inl ⟨by kernel_rfl, fun w' hSw => by kernel_rfl⟩) hSS ?_
          simp only [Act.put, List.setIfInBounds_toArray, List.set_cons_zero, List.set_cons_succ]
          refine takeR (i := 3) (v := .slice (some ⟨gl, ol, none⟩) n cl) (some 30) rfl rfl (by kernel_rfl) (by kernel_rfl) (by kernel_rfl) (fun _ _ _ h => h) (Or.inl ⟨by kernel_rfl, fun w' hSw => by have q0 := hSw.1; go_simp⟩) hSS ?_
          simp only [Act.put, List.setIfInBounds_toArray, List.set_cons_zero, List.set_cons_succ]
          refine takeR (i := 4) (v := .int .i64 (i : Int)) (some 31) rfl rfl (by kernel_rfl) (by kernel_rfl) (by kernel_rfl) (fun _ _ _ h => h) (Or.inl ⟨by kernel_rfl, fun w' hSw => by kernel_rfl⟩) hSS ?_
          simp only [Act.put, List.setIfInBounds_toArray, List.set_cons_zero, List.set_cons_succ]
          refine takeR (i := 5) (v := .pointer (some ⟨gl, ol + i * 2, none⟩)) (some 32) rfl rfl (by kernel_rfl) (by kernel_rfl) (by kernel_rfl) (fun _ _ _ h => h) (Or.inl ⟨by kernel_rfl, fun w' hSw => by clear hSw; go_simp⟩) hSS ?_
          simp only [Act.put, List.setIfInBounds_toArray, List.set_cons_zero, List.set_cons_succ]
          refine takeR (i := 6) (v := .pointer (some ⟨gl, ol + i * 2, none⟩)) (some 33) rfl rfl (by kernel_rfl) (by kernel_rfl) (by kernel_rfl) (fun _ _ _ h => h) (Or.inl ⟨by kernel_rfl, fun w' hSw => by clear hSw; go_simp⟩) hSS ?_
          simp only [Act.put, List.setIfInBounds_toArray, List.set_cons_zero, List.set_cons_succ]
          refine takeR (i := 7) (v := .slice (some ⟨ge, oe, none⟩) ne ce) (some 34) rfl rfl (by kernel_rfl) (by kernel_rfl) (by kernel_rfl) (fun _ _ _ h => h) (Or.inl ⟨by kernel_rfl, fun w' hSw => by have q0 := hSw.2.1; go_simp⟩) hSS ?_
          simp only [Act.put, List.setIfInBounds_toArray, List.set_cons_zero, List.set_cons_succ]
          refine takeR (i := 8) (v := .int .i64 (k : Int)) (some 35) rfl rfl (by kernel_rfl) (by kernel_rfl) (by kernel_rfl) (fun _ _ _ h => h) (Or.inl ⟨by kernel_rfl, fun w' hSw => by kernel_rfl⟩) hSS ?_
          simp only [Act.put, List.setIfInBounds_toArray, List.set_cons_zero, List.set_cons_succ]
          refine takeR (i := 9) (v := .pointer (some ⟨ge, oe + k * 2, none⟩)) (some 36) rfl rfl (by kernel_rfl) (by kernel_rfl) (by kernel_rfl) (fun _ _ _ h => h) (Or.inl ⟨by kernel_rfl, fun w' hSw => by clear hSw; go_simp⟩) hSS ?_
          simp only [Act.put, List.setIfInBounds_toArray, List.set_cons_zero, List.set_cons_succ]
          refine takeR (i := 10) (v := .pointer (some ⟨ge, oe + k * 2 + 1, none⟩)) (some 37) rfl rfl (by kernel_rfl) (by kernel_rfl) (by kernel_rfl) (fun _ _ _ h => h) (Or.inl ⟨by kernel_rfl, fun w' hSw => by clear hSw; go_simp⟩) hSS ?_
          simp only [Act.put, List.setIfInBounds_toArray, List.set_cons_zero, List.set_cons_succ]
          refine takeR (i := 11) (v := .int .i64 me) (some 38) rfl rfl (by kernel_rfl) (by kernel_rfl) (by kernel_rfl) (fun _ _ _ h => h) (Or.inl ⟨by kernel_rfl, fun w' hSw => by have q0 := hSw.2.2.2.2; go_simp⟩) hSS ?_
          simp only [Act.put, List.setIfInBounds_toArray, List.set_cons_zero, List.set_cons_succ]
          refine takeR (i := 12) (v := .pointer (some ⟨p, 0, none⟩)) (some 39) rfl rfl (by kernel_rfl) (by kernel_rfl) (by kernel_rfl) (fun _ _ _ h => h) (Or.inl ⟨by kernel_rfl, fun w' hSw => by kernel_rfl⟩) hSS ?_
          simp only [Act.put, List.setIfInBounds_toArray, List.set_cons_zero, List.set_cons_succ]
          refine takeR (i := 13) (v := .pointer (some ⟨p, 0, none⟩)) (some 40) rfl rfl (by kernel_rfl) (by kernel_rfl) (by kernel_rfl) (fun _ _ _ h => h) (Or.inl ⟨by kernel_rfl, fun w' hSw => by kernel_rfl⟩) hSS ?_
          simp only [Act.put, List.setIfInBounds_toArray, List.set_cons_zero, List.set_cons_succ]
          refine takeR (i := 14) (v := .pointer (some ⟨p, 1, none⟩)) (some 41) rfl rfl (by kernel_rfl) (by kernel_rfl) (by kernel_rfl) (fun _ _ _ h => h) (Or.inl ⟨by kernel_rfl, fun w' hSw => by kernel_rfl⟩) hSS ?_
          simp only [Act.put, List.setIfInBounds_toArray, List.set_cons_zero, List.set_cons_succ]
          refine takeR (i := 15) (v := .slice (some ⟨gl, ol, none⟩) n cl) (some 42) rfl rfl (by kernel_rfl) (by kernel_rfl) (by kernel_rfl) (fun _ _ _ h => h) (Or.inl ⟨by kernel_rfl, fun w' hSw => by have q0 := hSw.1; go_simp⟩) hSS ?_
          simp only [Act.put, List.setIfInBounds_toArray, List.set_cons_zero, List.set_cons_succ]
          refine takeR (i := 16) (v := .int .i64 (i : Int)) (some 43) rfl rfl (by kernel_rfl) (by kernel_rfl) (by kernel_rfl) (fun _ _ _ h => h) (Or.inl ⟨by kernel_rfl, fun w' hSw => by kernel_rfl⟩) hSS ?_
          simp only [Act.put, List.setIfInBounds_toArray, List.set_cons_zero, List.set_cons_succ]
          refine takeR (i := 17) (v := .pointer (some ⟨gl, ol + i * 2, none⟩)) (some 44) rfl rfl (by kernel_rfl) (by kernel_rfl) (by kernel_rfl) (fun _ _ _ h => h) (Or.inl ⟨by kernel_rfl, fun w' hSw => by clear hSw; go_simp⟩) hSS ?_
          simp only [Act.put, List.setIfInBounds_toArray, List.set_cons_zero, List.set_cons_succ]
          refine takeR (i := 18) (v := .pointer (some ⟨gl, ol + i * 2 + 1, none⟩)) (some 45) rfl rfl (by kernel_rfl) (by kernel_rfl) (by kernel_rfl) (fun _ _ _ h => h) (Or.inl ⟨by kernel_rfl, fun w' hSw => by clear hSw; go_simp⟩) hSS ?_
          simp only [Act.put, List.setIfInBounds_toArray, List.set_cons_zero, List.set_cons_succ]
          refine takeR (i := 19) (v := .int .i64 me) (some 46) rfl rfl (by kernel_rfl) (by kernel_rfl) (by kernel_rfl) (fun _ _ _ h => h) (Or.inl ⟨by kernel_rfl, fun w' hSw => by have q0 := hSw.2.2.1; go_simp⟩) hSS ?_
          simp only [Act.put, List.setIfInBounds_toArray, List.set_cons_zero, List.set_cons_succ]
          refine takeR (i := 20) (v := .bool false) (some 47) rfl rfl (by kernel_rfl) (by kernel_rfl) (by kernel_rfl) (fun _ _ _ h => h) (Or.inl ⟨by kernel_rfl, fun w' hSw => by clear hSw; go_simp⟩) hSS ?_
          simp only [Act.put, List.setIfInBounds_toArray, List.set_cons_zero, List.set_cons_succ]
          refine takeR (i := 21) (v := .bool false) (some 48) rfl rfl (by kernel_rfl) (by kernel_rfl) (by kernel_rfl) (fun _ _ _ h => h) (Or.inl ⟨by kernel_rfl, fun w' hSw => by kernel_rfl⟩) hSS ?_
          simp only [Act.put, List.setIfInBounds_toArray, List.set_cons_zero, List.set_cons_succ]
          refine takeR (i := 22) (v := .pointer (some ⟨p, 0, none⟩)) (some 49) rfl rfl (by kernel_rfl) (by kernel_rfl) (by kernel_rfl) (fun _ _ _ h => h) (Or.inl ⟨by kernel_rfl, fun w' hSw => by kernel_rfl⟩) hSS ?_
          simp only [Act.put, List.setIfInBounds_toArray, List.set_cons_zero, List.set_cons_succ]
          refine takeR (i := 23) (v := .pointer (some ⟨p, 0, none⟩)) (some 50) rfl rfl (by kernel_rfl) (by kernel_rfl) (by kernel_rfl) (fun _ _ _ h => h) (Or.inl ⟨by kernel_rfl, fun w' hSw => by kernel_rfl⟩) hSS ?_
          simp only [Act.put, List.setIfInBounds_toArray, List.set_cons_zero, List.set_cons_succ]
          refine takeR (i := 24) (v := .pointer (some ⟨p, 1, none⟩)) (some 51) rfl rfl (by kernel_rfl) (by kernel_rfl) (by kernel_rfl) (fun _ _ _ h => h) (Or.inl ⟨by kernel_rfl, fun w' hSw => by kernel_rfl⟩) hSS ?_
          simp only [Act.put, List.setIfInBounds_toArray, List.set_cons_zero, List.set_cons_succ]
          refine takeR (i := 25) (v := .slice (some ⟨gl, ol, none⟩) n cl) (some 52) rfl rfl (by kernel_rfl) (by kernel_rfl) (by kernel_rfl) (fun _ _ _ h => h) (Or.inl ⟨by kernel_rfl, fun w' hSw => by have q0 := hSw.1; go_simp⟩) hSS ?_
          simp only [Act.put, List.setIfInBounds_toArray, List.set_cons_zero, List.set_cons_succ]
          refine takeR (i := 26) (v := .int .i64 (i : Int)) (some 53) rfl rfl (by kernel_rfl) (by kernel_rfl) (by kernel_rfl) (fun _ _ _ h => h) (Or.inl ⟨by kernel_rfl, fun w' hSw => by kernel_rfl⟩) hSS ?_
          simp only [Act.put, List.setIfInBounds_toArray, List.set_cons_zero, List.set_cons_succ]
          refine takeR (i := 27) (v := .pointer (some ⟨gl, ol + i * 2, none⟩)) (some 54) rfl rfl (by kernel_rfl) (by kernel_rfl) (by kernel_rfl) (fun _ _ _ h => h) (Or.inl ⟨by kernel_rfl, fun w' hSw => by clear hSw; go_simp⟩) hSS ?_
          simp only [Act.put, List.setIfInBounds_toArray, List.set_cons_zero, List.set_cons_succ]
          refine takeR (i := 28) (v := .pointer (some ⟨gl, ol + i * 2, none⟩)) (some 55) rfl rfl (by kernel_rfl) (by kernel_rfl) (by kernel_rfl) (fun _ _ _ h => h) (Or.inl ⟨by kernel_rfl, fun w' hSw => by clear hSw; go_simp⟩) hSS ?_
          simp only [Act.put, List.setIfInBounds_toArray, List.set_cons_zero, List.set_cons_succ]
          refine takeR (i := 29) (v := .slice (some ⟨ge, oe, none⟩) ne ce) (some 56) rfl rfl (by kernel_rfl) (by kernel_rfl) (by kernel_rfl) (fun _ _ _ h => h) (Or.inl ⟨by kernel_rfl, fun w' hSw => by have q0 := hSw.2.1; go_simp⟩) hSS ?_
          simp only [Act.put, List.setIfInBounds_toArray, List.set_cons_zero, List.set_cons_succ]
          refine takeR (i := 30) (v := .int .i64 (k : Int)) (some 57) rfl rfl (by kernel_rfl) (by kernel_rfl) (by kernel_rfl) (fun _ _ _ h => h) (Or.inl ⟨by kernel_rfl, fun w' hSw => by kernel_rfl⟩) hSS ?_
          simp only [Act.put, List.setIfInBounds_toArray, List.set_cons_zero, List.set_cons_succ]
          refine takeR (i := 31) (v := .pointer (some ⟨ge, oe + k * 2, none⟩)) (some 58) rfl rfl (by kernel_rfl) (by kernel_rfl) (by kernel_rfl) (fun _ _ _ h => h) (Or.inl ⟨by kernel_rfl, fun w' hSw => by clear hSw; go_simp⟩) hSS ?_
          simp only [Act.put, List.setIfInBounds_toArray, List.set_cons_zero, List.set_cons_succ]
          refine takeR (i := 32) (v := .pointer (some ⟨ge, oe + k * 2, none⟩)) (some 59) rfl rfl (by kernel_rfl) (by kernel_rfl) (by kernel_rfl) (fun _ _ _ h => h) (Or.inl ⟨by kernel_rfl, fun w' hSw => by clear hSw; go_simp⟩) hSS ?_
          simp only [Act.put, List.setIfInBounds_toArray, List.set_cons_zero, List.set_cons_succ]
          refine takeR (i := 33) (v := .slice none 0 0) (some 60) rfl rfl (by kernel_rfl) (by kernel_rfl) (by kernel_rfl) (fun _ _ _ h => h) (Or.inl ⟨by kernel_rfl, fun w' hSw => by have q0 := hSw.2.2.2.1; go_simp⟩) hSS ?_
          simp only [Act.put, List.setIfInBounds_toArray, List.set_cons_zero, List.set_cons_succ]
          refine takeR (i := 34) (v := .int .i64 0) (some 61) rfl rfl (by kernel_rfl) (by kernel_rfl) (by kernel_rfl) (fun _ _ _ h => h) (Or.inl ⟨by kernel_rfl, fun w' hSw => by kernel_rfl⟩) hSS ?_
          simp only [Act.put, List.setIfInBounds_toArray, List.set_cons_zero, List.set_cons_succ]
          refine takeR (i := 35) (v := .bool false) (some 62) rfl rfl (by kernel_rfl) (by kernel_rfl) (by kernel_rfl) (fun _ _ _ h => h) (Or.inl ⟨by kernel_rfl, fun w' hSw => by clear hSw; go_simp⟩) hSS ?_
          simp only [Act.put, List.setIfInBounds_toArray, List.set_cons_zero, List.set_cons_succ]
          refine takeR (i := 36) (v := .bool false) (some 63) rfl rfl (by kernel_rfl) (by kernel_rfl) (by kernel_rfl) (fun _ _ _ h => h) (Or.inl ⟨by kernel_rfl, fun w' hSw => by kernel_rfl⟩) hSS ?_
          simp only [Act.put, List.setIfInBounds_toArray, List.set_cons_zero, List.set_cons_succ]
          refine wpAnyH_done (by kernel_rfl) ?_ _
          refine hKc _ _ ?_
          clear hKc hSS
          go_wp2
          go_roundw
          case rel => exact ⟨k + 1, by omega, by go_num, HG9.out⟩
          case measure => simp [intOf]; omega
        · have hkl' : ¬ (k : Int) < (ne : Int) := by omega
          go_wp2
          go_roundw
          case rel => exact ⟨i + 1, by omega, by go_num, HG.out⟩
          case measure => simp [intOf]; omega
    · have hge : ¬ (i : Int) < (n : Int) := by omega
      go_wp2
      go_ret
      exact ⟨rfl, HF.out⟩
end Go.Proofs.YtkpoheknmcepnaaGreatDoor

namespace Go.Proofs.YtkpoheknmcepnaaGreatDoor
set_option linter.unusedVariables false
set_option linter.unusedSimpArgs false
open Go.RowKit Go.Great

/-- How an append went: in place, or into a new block. -/
def Grew (w w' : World) (v v' : Value) (n m size : Nat) (news : List Value) : Prop :=
  (∃ g off cap, v = .slice (some ⟨g, off, none⟩) n cap ∧ v' = .slice (some ⟨g, off, none⟩) (n + m) cap ∧ w' = w.setCells g (off + n * size) news) ∨ (v'.ownBlock = some w.heap.size ∧ Fr w w' (fun _ => False))
/-- append onto a row: in place, or into a new block. -/
theorem run_append_row2 {P : Program} (w : World) (t ty e : TypeId) (i : TypeInfo) (z : Value) (size bytes : Nat) (ht : P.underlying t = some (.slice e)) (hi : P.info? e = some i) (hz : i.zero = some z)
    (hsize : i.size = size) (hby : i.bytes = bytes) (hzs : z.cells.size = size)
    (v : Value) (n : Nat) (xs : List Value) (hown : RowAt w e size v n xs)
    (a : Addr) (m c : Nat) (news : List Value) (hl : news.length = m * size) (hnews : ∀ j u, news[j]? = some u → w.cell? (a.add j) = some u) (h1 : ∀ u ∈ news, u.oneCell' = true)
    (hm : 0 < m ∨ 0 < n) (h63 : n + m ≤ maxLen) (hbytes : (n + m) * bytes ≤ 140737488355328) :
    ∃ v' w', (Builtin.append_ #[t, t] ty #[v, .slice (some a) m c]).run P w = .ok v' w' ∧ RowAt w' e size v' (n + m) (xs ++ news) ∧ Grew w w' v v' n m size news := by
  subst hsize
  subst hby
  have hsmall : n + m ≤ 9223372036854775807 := by simp only [maxLen] at h63; omega
  have hlen : (xs ++ news).length = (n + m) * i.size := by rw [List.length_append, hown.1, hl, Nat.add_mul]
  have grown : ∀ (old : Nat), old < n + m →
      RowAt (w.drew.alloc (.cells (xs.toArray ++ news.toArray ++ Builtin.zeroCells z.cells (grownCap w (n + m) old e - (n + m))) e)) e i.size
        (.slice (some ⟨w.heap.size, 0, none⟩) (n + m) (grownCap w (n + m) old e)) (n + m) (xs ++ news) ∧
      ∀ k, k < w.heap.size → (w.drew.alloc (.cells (xs.toArray ++ news.toArray ++ Builtin.zeroCells z.cells (grownCap w (n + m) old e - (n + m))) e)).heap[k]? = w.heap[k]? := by
    intro old ho
    have hge := grownCap_ge w (n + m) old e
    have hcm : grownCap w (n + m) old e ≤ maxLen := grownCap_le_maxLen w (n + m) old e h63
    refine ⟨⟨hlen, .inr ⟨w.heap.size, 0, _, _, rfl, heap_alloc_new w.drew _, hge, hcm, ?_, ?_⟩⟩, fun k hk => Below.heap_alloc w.drew _ k hk⟩
    · simp only [Array.size_append, List.size_toArray, size_zeroCells, hzs, hown.1, hl, ← Nat.add_mul]
      rw [show n + m + (grownCap w (n + m) old e - (n + m)) = grownCap w (n + m) old e by omega]; omega
    · simp only [Array.toList_append, List.append_assoc, List.drop_zero]
      rw [← List.append_assoc, ← hlen]
      exact List.take_left
  have frw : ∀ (o : Obj) (ex : Nat → Prop), Fr w (w.drew.alloc o) ex := fun o ex => ⟨rfl, rfl, rfl, by simp, fun b hb _ => Below.heap_alloc w.drew _ b hb⟩
  rcases hown.2 with ⟨rfl, rfl⟩ | ⟨g, off, cap, cur, rfl, hg, hnc, hcm, hcs, htake⟩
  · have hx : xs = [] := List.eq_nil_of_length_eq_zero (by simpa using hown.1)
    subst hx
    have hr := run_append_nil (P := P) w t ty e i z ht hi hz a m c news hl hnews (by omega) (by omega) (by have hb := hbytes; simp only [Nat.zero_add] at hb; omega)
    have hgr := grown 0 (by omega)
    simp only [Nat.zero_add, List.nil_append, Array.empty_append] at hgr ⊢
    exact ⟨_, _, hr, hgr.1, .inr ⟨rfl, frw _ _⟩⟩
  · by_cases hroom : n + m ≤ cap
    · have e1 : (n + m) * i.size ≤ cap * i.size := Nat.mul_le_mul_right _ hroom
      have e2 : (n + m) * i.size = n * i.size + news.length := by rw [Nat.add_mul, hl]
      have hthere : ∀ j, j < news.length → (w.cell? ⟨g, off + n * i.size + j, none⟩).isSome = true := fun j hj => by
        rw [cell_of_row _ _ _ _ _ _ hg, Array.getElem?_eq_getElem (by omega)]; rfl
      have hr := run_append_room_cells (P := P) w t ty e i ht hi g off n cap a m c news hl hnews h1 hroom hthere (fun j hj => frozen_of_row w g _ _ _ hg)
      have hF := Fr.setCells g (fun b => (Value.slice (some ⟨g, off, none⟩) n cap).ownBlock = some b) rfl news (off + n * i.size) w
      have hblk : ∀ (vs : List Value) (o : Nat) (w1 : World) (cur : Array Value), w1.heap[g]? = some (.cells cur e (0, 0)) → o + vs.length ≤ cur.size → (w1.setCells g o vs).heap[g]? = some (.cells (cur.toList.take o ++ vs ++ cur.toList.drop (o + vs.length)).toArray e (0, 0)) := by
        intro vs
        induction vs with
        | nil => intro o w1 cur h _; rw [World.setCells, h]; simp
        | cons u r ih =>
          intro o w1 cur h hsz
          rw [World.setCells, setCell_eq_setRow w1 g o cur e (0, 0) u h]
          simp only [List.length_cons] at hsz
          rw [ih (o + 1) _ _ (setRow_heap w1 g cur _ e (0, 0) h) (by simp; omega)]
          have hs : (cur.setIfInBounds o u).toList = cur.toList.set o u := by simp
          have hlt : o < cur.toList.length := by rw [Array.length_toList]; omega
          have e5 : (List.take (o + 1) cur.toList).set o u = List.take o cur.toList ++ [u] := by
            rw [List.take_succ_eq_append_getElem hlt, List.set_append_right _ _ (by simp; omega)]
            have e7 : (List.take o cur.toList).length = o := by rw [List.length_take]; omega
            rw [e7, Nat.sub_self]; rfl
          have e6 : List.take (o + 1) (cur.setIfInBounds o u).toList ++ r ++ List.drop (o + 1 + r.length) (cur.setIfInBounds o u).toList = List.take o cur.toList ++ (u :: r) ++ List.drop (o + (u :: r).length) cur.toList := by
            rw [hs, List.take_set, e5, List.drop_set, if_pos (by omega), List.length_cons, show o + 1 + r.length = o + (r.length + 1) by omega]; simp
          rw [e6]
      refine ⟨_, _, hr, ⟨hlen, .inr ⟨g, off, cap, _, rfl, hblk news _ w cur hg (by omega), hroom, hcm, ?_, ?_⟩⟩, .inl ⟨g, off, cap, rfl, rfl, rfl⟩⟩
      · simp only [List.size_toArray, List.length_append, List.length_take, List.length_drop, Array.length_toList]; omega
      · have hd : (List.take (off + n * i.size) cur.toList ++ news ++ List.drop (off + n * i.size + news.length) cur.toList).drop off = xs ++ news ++ List.drop (off + n * i.size + news.length) cur.toList := by
          rw [List.append_assoc, List.drop_append_of_le_length (by rw [List.length_take, Array.length_toList]; omega), List.drop_take, show off + n * i.size - off = n * i.size by omega, htake, List.append_assoc]
        rw [hd, ← hlen]
        exact List.take_left
    · have holds : ∀ j u, xs[j]? = some u → w.cell? ((⟨g, off, none⟩ : Addr).add j) = some u := fun j u hj => by
        rw [Addr.add_mid]; exact hown.cell rfl hj
      have hr := run_append_grow (P := P) w t ty e i z ht hi hz ⟨g, off, none⟩ n cap xs hown.1 holds a m c news hl hnews (by omega) (by omega) (growslice_fits (by omega) hbytes)
      have hgr := grown cap (by omega)
      exact ⟨_, _, hr, hgr.1, .inr ⟨rfl, frw _ _⟩⟩
theorem RowAt.setJ {w : World} {e : TypeId} {size n g off cap : Nat} {xs : List Value} (h : RowAt w e size (.slice (some ⟨g, off, none⟩) n cap) n xs) {j : Nat} (hj : j < xs.length) (u : Value) :
    RowAt (w.setCell ⟨g, off + j, none⟩ u) e size (.slice (some ⟨g, off, none⟩) n cap) n (xs.set j u) := by
  rcases h.2 with ⟨h0, _⟩ | ⟨g', off', cap', cur, h1, h2, h3, h4, h5, h6⟩
  · cases h0
  · injection h1 with h1 _ hc
    injection h1 with h1
    injection h1 with h1 h1' _
    subst h1 h1' hc
    refine ⟨by rw [List.length_set]; exact h.1, .inr ⟨g, off, cap, cur.setIfInBounds (off + j) u, rfl, ?_, h3, h4, by rw [Array.size_setIfInBounds]; exact h5, ?_⟩⟩
    · rw [setCell_eq_setRow w g (off + j) _ _ _ _ h2]; exact setRow_heap _ _ _ _ _ _ h2
    · rw [Array.toList_setIfInBounds, List.drop_set, if_neg (by omega), show off + j - off = j by omega, List.take_set, h6]
theorem RowAt.sets {e : TypeId} {size n g off cap : Nat} : ∀ (us : List Value) {w : World} {xs : List Value} {j : Nat}, RowAt w e size (.slice (some ⟨g, off, none⟩) n cap) n xs → j + us.length ≤ xs.length →
    RowAt (w.setCells g (off + j) us) e size (.slice (some ⟨g, off, none⟩) n cap) n (xs.take j ++ us ++ xs.drop (j + us.length))
  | [], w, xs, j, h, hj => by
    show RowAt w _ _ _ _ _
    rw [List.append_nil, List.length_nil, Nat.add_zero, List.take_append_drop]; exact h
  | u :: r, w, xs, j, h, hj => by
    rw [List.length_cons] at hj
    show RowAt ((w.setCell ⟨g, off + j, none⟩ u).setCells g (off + j + 1) r) _ _ _ _ _
    have h1 := RowAt.sets r (h.setJ (j := j) (by omega) u) (j := j + 1) (by rw [List.length_set]; omega)
    rw [Nat.add_assoc off j 1]
    have e1 : (xs.set j u).take (j + 1) = xs.take j ++ [u] := by
      rw [List.take_succ_eq_append_getElem (by rw [List.length_set]; omega), List.getElem_set_self, List.take_set, List.set_eq_of_length_le (by rw [List.length_take]; omega)]
    have e2 : (xs.set j u).drop (j + 1 + r.length) = xs.drop (j + 1 + r.length) := by rw [List.drop_set, if_pos (by omega)]
    rw [e1, e2] at h1
    rw [List.length_cons, show j + (r.length + 1) = j + 1 + r.length by omega]
    rw [List.append_assoc (xs.take j) [u] r] at h1
    exact h1
/-- What lies elsewhere, or ahead of where v grows. -/
def Und (s : Nat) (u : Value) (k : Nat) (v : Value) (n : Nat) : Prop := ∀ g off cap, v = .slice (some ⟨g, off, none⟩) n cap → u.ownBlock ≠ some g ∨ ∃ off0 c0, u = .slice (some ⟨g, off0, none⟩) k c0 ∧ off0 + k * s ≤ off + n * s
theorem Und.refl (s : Nat) (v : Value) (n : Nat) : Und s v n v n := fun g off cap e => .inr ⟨off, cap, e, Nat.le_refl _⟩
theorem Und.of_ne {s : Nat} {u v : Value} {k n : Nat} (h : ∀ b, v.ownBlock = some b → u.ownBlock ≠ some b) : Und s u k v n := fun g off cap e => .inl (h g (by rw [e]; rfl))
section
variable {w w' : World} {v v' u : Value} {n m size k : Nat} {news : List Value}
theorem Grew.fr (h : Grew w w' v v' n m size news) : Fr w w' (fun b => v.ownBlock = some b) := by
  rcases h with ⟨g, off, cap, rfl, rfl, rfl⟩ | ⟨_, h⟩
  · exact Fr.setCells g (fun b => (Value.slice (some ⟨g, off, none⟩) n cap).ownBlock = some b) rfl _ _ _
  · exact h.mono fun _ _ q => q.elim
theorem Grew.newer (h : Grew w w' v v' n m size news) : newer w v v' := by
  rcases h with ⟨g, off, cap, rfl, rfl, rfl⟩ | ⟨h, _⟩
  · exact .inl rfl
  · exact .inr ⟨_, h, Nat.le_refl _⟩
theorem Grew.keep (h : Grew w w' v v' n m size news) {e : TypeId} {ys : List Value} (hu : RowAt w e size u k ys) (hk : Und size u k v n) : RowAt w' e size u k ys := by
  rcases h with ⟨g, off, cap, rfl, rfl, rfl⟩ | ⟨_, h⟩
  · rcases hk g off cap rfl with q | ⟨off0, c0, rfl, q⟩
    · exact hu.fr (Fr.setCells g (fun b => b = g) rfl _ _ _) fun b hb e => q (e ▸ hb)
    · exact hu.ahead q
  · exact hu.fr h fun _ _ q => q
theorem Grew.und (h : Grew w w' v v' n m size news) (hk : Und size u k v n) (hl : ∀ b, u.ownBlock = some b → b < w.heap.size) : Und size u k v' (n + m) := by
  rcases h with ⟨g, off, cap, rfl, rfl, rfl⟩ | ⟨h, _⟩
  · intro g' off' cap' e
    injection e with e _ _
    injection e with e
    injection e with e1 e2 _
    subst e1 e2
    rcases hk g off cap rfl with q | ⟨off0, c0, q1, q2⟩
    · exact .inl q
    · exact .inr ⟨off0, c0, q1, by rw [Nat.add_mul]; omega⟩
  · exact Und.of_ne fun b hb q => by
      rw [h] at hb
      injection hb with hb
      have := hl b q
      omega
end
theorem infoLw : ∃ i, Tryz.prog.info? 137 = some i ∧ i.zero = some (.agg #[.slice none 0 0, .int .i64 0]) ∧ i.size = 2 ∧ i.bytes = 32 := by
  have h : (Tryz.prog.info? 137).map (fun i => (i.zero, i.size, i.bytes)) = some (some (.agg #[.slice none 0 0, .int .i64 0]), 2, 32) := by kernel_rfl
  obtain ⟨i, hi, he⟩ := Option.map_eq_some_iff.1 h
  injection he with h1 h2
  injection h2 with h2 h3
  exact ⟨i, hi, h1, h2, h3⟩
theorem infoOw : ∃ i, Tryz.prog.info? 134 = some i ∧ i.zero = some (.agg #[.slice none 0 0, .int .i64 0]) ∧ i.size = 2 ∧ i.bytes = 32 := by
  have h : (Tryz.prog.info? 134).map (fun i => (i.zero, i.size, i.bytes)) = some (some (.agg #[.slice none 0 0, .int .i64 0]), 2, 32) := by kernel_rfl
  obtain ⟨i, hi, he⟩ := Option.map_eq_some_iff.1 h
  injection he with h1 h2
  injection h2 with h2 h3
  exact ⟨i, hi, h1, h2, h3⟩
/-- One more thing of two cells in a row. -/
theorem two_app {w : World} {T E : TypeId} {i : TypeInfo} (hT : Tryz.prog.underlying T = some (.slice E)) (hi : Tryz.prog.info? E = some i) (hz : i.zero = some (.agg #[.slice none 0 0, .int .i64 0])) (hsz : i.size = 2) (hby : i.bytes = 32)
    {v a b : Value} {n : Nat} {xs : List Value} (h : RowAt w E 2 v n xs) (ha : a.oneCell' = true) (hb : b.oneCell' = true) (hn : n ≤ 1000000000) :
    ∃ a8 c8 w8, (Builtin.append_ #[T, T] T #[v, .slice (some ⟨w.heap.size, 0, none⟩) 1 1]).run Tryz.prog (w.alloc (.cells #[a, b] E)) = .ok (.slice a8 (n + 1) c8) w8 ∧ RowAt w8 E 2 (.slice a8 (n + 1) c8) (n + 1) (xs ++ [a, b]) ∧ Grew (w.alloc (.cells #[a, b] E)) w8 v (.slice a8 (n + 1) c8) n 1 2 [a, b] := by
  have hF7 : Fr w (w.alloc (.cells #[a, b] E)) (fun _ => False) := Fr.alloc _ _ _
  have hb7 : (w.alloc (.cells #[a, b] E)).heap[w.heap.size]? = some (.cells #[a, b] E (0, 0)) := heap_alloc_new w _
  generalize w.alloc (.cells #[a, b] E) = w7 at *
  obtain ⟨v', w', hr, hrow, hg⟩ := run_append_row2 (P := Tryz.prog) w7 T T E i _ 2 32 hT hi hz hsz hby (by rfl) v n xs (h.fr hF7 fun _ _ q => q) ⟨w.heap.size, 0, none⟩ 1 1 [a, b] rfl
    (fun k u hk => by rw [Addr.add_mid, cell_of_row _ _ _ _ _ _ hb7, Nat.zero_add]; simpa using hk) (fun u hu => by simp at hu; rcases hu with rfl | rfl; exact ha; exact hb) (.inl (by decide)) (by unfold maxLen; omega) (by omega)
  obtain ⟨a8, c8, rfl, _⟩ := hrow.form
  exact ⟨a8, c8, w', hr, hrow, hg⟩
end Go.Proofs.YtkpoheknmcepnaaGreatDoor

namespace Go.Proofs.YtkpoheknmcepnaaGreatDoor
set_option linter.unusedVariables false
set_option linter.unusedSimpArgs false
open Go.RowKit Go.Great

/-- What listed stands on: the owner, its lists, the list that is written over. -/
structure LI (w wr : World) (p : Nat) (vl vL vh vw : Value) (LE : List Lw) (ex : Nat → Prop) : Prop where
  blk : OwB wr p vl vL vh vw
  row : RowAt wr 137 2 vL LE.length (flatL lwV LE)
  each : ∀ e, e ∈ LE → RowAt wr 36 2 e.v e.n (mkF e.m e.n) ∧ -1000000000 ≤ e.m ∧ e.m ≤ 0 ∧ e.n ≤ 2000000000
  fr : Fr w wr ex
section
variable {w wr wx : World} {p : Nat} {vl vL vh vw : Value} {LE : List Lw} {ex : Nat → Prop}
/-- One list more is put down. -/
theorem LI.app (h : LI w wr p vl vL vh vw LE ex) {v : Value} {m : Int} {n N : Nat} (hr : RowAt wr 36 2 v n (mkF m n)) (hm : -1000000000 ≤ m ∧ m ≤ 0) (hn : n ≤ 2000000000) (hN : LE.length = N) (hN1 : N ≤ 100000000) (hex : ex p) (hexL : ∀ b, vL.ownBlock = some b → b < w.heap.size → ex b) :
    ∃ a8 c8 w8, (Builtin.append_ #[51, 51] 51 #[vL, .slice (some ⟨wr.heap.size, 0, none⟩) 1 1]).run Tryz.prog (wr.alloc (.cells #[v, .int .i64 m] 137)) = .ok (.slice a8 (N + 1) c8) w8 ∧ OwB w8 p vl vL vh vw ∧ LI w (w8.setCell ⟨p, 1, none⟩ (.slice a8 (N + 1) c8)) p vl (.slice a8 (N + 1) c8) vh vw (LE ++ [⟨v, m, n⟩]) ex ∧ newer wr vL (.slice a8 (N + 1) c8) ∧
      (∀ {e : TypeId} {u : Value} {k : Nat} {ys : List Value}, RowAt wr e 2 u k ys → e ≠ 137 → e ≠ 53 → RowAt (w8.setCell ⟨p, 1, none⟩ (.slice a8 (N + 1) c8)) e 2 u k ys) := by
  subst hN
  obtain ⟨i, hi, hz, hsz, hby⟩ := infoLw
  obtain ⟨av, cv, rfl, -⟩ := hr.form
  have hF7 : Fr wr (wr.alloc (.cells #[.slice av n cv, .int .i64 m] 137)) (fun _ => False) := Fr.alloc _ _ _
  obtain ⟨a8, c8, w8, hrun, hrow8, hg⟩ := two_app Tryz.underlying51 hi hz hsz hby h.row (a := .slice av n cv) (b := .int .i64 m) rfl rfl (by omega)
  have hF8 := hg.fr
  have hpne : vL.ownBlock ≠ some p := h.row.ne_type h.blk (by decide)
  have hb8 : OwB w8 p vl vL vh vw := (h.blk.fr hF7 id).fr hF8 hpne
  have hS : Fr w8 (w8.setCell ⟨p, 1, none⟩ (.slice a8 (LE.length + 1) c8)) (fun b => b = p) := Fr.setCell _ _ _ _ rfl
  have keep : ∀ {e : TypeId} {u : Value} {k : Nat} {ys : List Value}, RowAt wr e 2 u k ys → e ≠ 137 → e ≠ 53 → RowAt (w8.setCell ⟨p, 1, none⟩ (.slice a8 (LE.length + 1) c8)) e 2 u k ys := fun hu he1 he2 => by
    refine RowAt.fr (RowAt.fr (hu.fr hF7 fun _ _ q => q) hF8 fun b hb q => ?_) hS fun b hb q => ?_
    · obtain ⟨_, cur, hc⟩ := hu.lt hb
      exact h.row.ne_type hc (fun e => he1 e.symm) q
    · subst q; exact hu.ne_type h.blk he2 hb
  have hz := h.fr.size
  refine ⟨a8, c8, w8, hrun, hb8, ⟨hb8.set1 _, ?_, fun e he => ?_, ?_⟩, ?_, keep⟩
  · have hne8 : (Value.slice a8 (LE.length + 1) c8).ownBlock ≠ some p := hrow8.ne_type hb8 (by decide)
    rw [List.length_append, flatL_app, flatL_one]
    exact hrow8.fr hS fun b hb q => hne8 (q ▸ hb)
  · rcases List.mem_append.1 he with q | q
    · exact ⟨keep (h.each e q).1 (by decide) (by decide), (h.each e q).2⟩
    · obtain rfl := List.mem_singleton.1 q
      exact ⟨keep hr (by decide) (by decide), hm.1, hm.2, hn⟩
  · refine ((h.fr.trans hF7 (e3 := ex) fun _ _ q => q.elim id False.elim).trans hF8 (e3 := ex) fun b hb q => ?_).trans hS fun b hb q => ?_
    · rcases q with q | q
      · exact q
      · exact hexL b q hb
    · rcases q with q | q
      · exact q
      · rw [q]; exact hex
  · rcases hg.newer with q | ⟨g, q, hg'⟩
    · exact .inl q
    · exact .inr ⟨g, q, Nat.le_trans hF7.size hg'⟩
end
end Go.Proofs.YtkpoheknmcepnaaGreatDoor
