/-
  The reference's heap: least.
-/
import Derived.Test.YtdnhhcbabdoomaaHRef0
namespace Go.Proofs.Ytdnhhcbabdoomaa
set_option linter.unusedVariables false
set_option linter.unusedSimpArgs false
open Go.RowKit Go.Great

/-- Which ones count. -/
def cnd (R : List RIt) (f : Nat → Bool) (k : Nat) : Option Th := match R[k]? with
  | some a => if a.gone || f k then none else some a.x
  | none => none
def rp (R : List RIt) (b : Nat) : Nat := (R.getD b ⟨0, ⟨0, 0⟩, true⟩).p
def bpV (R : List RIt) : Option Nat → Value
  | none => .pointer none
  | some b => ptr (rp R b)
/-- Those that are left out: none, or a list of truths. -/
def OutV (w : World) (n : Nat) (ov : Value) (f : Nat → Bool) : Prop := (ov = .slice none 0 0 ∧ ∀ k, f k = false) ∨ ∃ ob, ov = .slice (some ⟨ob, 0, none⟩) n n ∧ ∀ k, k < n → w.cell? ⟨ob, k, none⟩ = some (.bool (f k))
theorem OutV.sm {w w' : World} {n : Nat} {ov : Value} {f : Nat → Bool} (h : OutV w n ov f) (hf : Fr w w' (fun _ => False)) : OutV w' n ov f := by
  rcases h with h | ⟨ob, h1, h2⟩
  · exact .inl h
  · exact .inr ⟨ob, h1, fun k hk => hf.cell (h2 k hk) (fun q => q)⟩
theorem rp_at {R : List RIt} {b : Nat} {a : RIt} (h : R[b]? = some a) : rp R b = a.p := by unfold rp; rw [List.getD_eq_getElem?_getD, h]; rfl
theorem cnd_some {R : List RIt} {f : Nat → Bool} {k : Nat} {x : Th} (h : cnd R f k = some x) : ∃ a, R[k]? = some a ∧ a.x = x := by
  unfold cnd at h
  cases ha : R[k]? with
  | none => rw [ha] at h; cases h
  | some a =>
    rw [ha] at h
    refine ⟨a, rfl, ?_⟩
    by_cases e : (a.gone || f k) = true
    · simp [e] at h
    · simp [e] at h; exact h
theorem bst_at {lt : Th → Th → Bool} {R : List RIt} {f : Nat → Bool} : ∀ (n b : Nat), bst lt (cnd R f) n = some b → ∃ y, cnd R f b = some y
  | 0, b, h => by cases h
  | n + 1, b, h => by
    unfold bst at h
    cases hc : cnd R f n with
    | none => rw [hc] at h; exact bst_at n b h
    | some x =>
      rw [hc] at h
      cases hb : bst lt (cnd R f) n with
      | none => rw [hb] at h; injection h with h; exact ⟨x, h ▸ hc⟩
      | some b0 =>
        rw [hb] at h
        obtain ⟨y, hy⟩ := bst_at n b0 hb
        simp only [hy] at h
        split at h
        · injection h with h; exact ⟨x, h ▸ hc⟩
        · injection h with h; exact ⟨y, h ▸ hy⟩
theorem nil_neq (w : World) : (binOp .neq 35 (.slice none 0 0) (.slice none 0 0)).run Try.prog w = .ok (.bool false) w := by kernel_rfl
theorem some_neq (a : Addr) (n c : Nat) (w : World) : (binOp .neq 35 (.slice (some a) n c) (.slice none 0 0)).run Try.prog w = .ok (.bool true) w := by kernel_rfl
section
variable {w w' : World} {o h : Nat} {v : Value} {R : List RIt}
set_option maxRecDepth 100000 in
set_option maxHeartbeats 4000000 in
theorem least_any (H : RH w o h v R) (ov : Value) (f : Nat → Bool) (hov : OutV w R.length ov f) :
    Calls Try.prog 81 #[ptr h, ov] w fun e w' => e = .returned (bpV R (bst (lsB o) (cnd R f) R.length)) ∧ Fr w w' (fun _ => False) := by
  have HH : Hid (RH w o h v R ∧ OutV w R.length ov f) := ⟨H, hov⟩
  obtain ⟨ao, cap, hvf, _⟩ := H.row.form
  have hlen := H.le
  subst hvf
  have HR : Hid (∀ n, n = R.length → bpV R (bst (lsB o) (cnd R f) n) = bpV R (bst (lsB o) (cnd R f) R.length)) := fun n hn => by rw [hn]
  generalize bpV R (bst (lsB o) (cnd R f) R.length) = RV at *
  clear H hov
  go_enter Try.func81, Try.ntmps81
  go_wp2
  go_loopw [5, 6] (fun x5 x6 wr => ∃ k : Nat, k ≤ R.length ∧ x6 = .int .i64 (k : Int) ∧ x5 = bpV R (bst (lsB o) (cnd R f) k) ∧ Hid (Fr w wr (fun _ => False))) (fun _ x6 _ => R.length - (RowKit.intOf x6).toNat)
  case atStart => exact ⟨0, Nat.zero_le _, rfl, rfl, Fr.refl _ _⟩
  case round =>
    obtain ⟨k, hk, rfl, rfl, HF⟩ := hrel
    have HH2 : Hid (RH wr o h (.slice ao R.length cap) R ∧ OutV wr R.length ov f) := ⟨HH.out.1.sm HF.out, HH.out.2.sm HF.out⟩
    have d1 : wr.cell? ⟨h, 1, none⟩ = some (.slice ao R.length cap) := HH2.out.1.blk.cell 1
    by_cases hlt : k < R.length
    · have hki : (k : Int) < (R.length : Int) := by omega
      obtain ⟨a, ha⟩ := get_some R hlt
      obtain ⟨g, off, cap', hv, _, _, h4⟩ := HH2.out.1.slice (by omega)
      injection hv with e1 _ e2
      subst e1 e2
      have hc := h4 k a ha
      have hg : wr.cell? ⟨a.p, 3, none⟩ = some (.bool a.gone) := (HH2.out.1.its k a ha).cell 3
      have hb1 : (k : Int) + 1 < 9223372036854775808 := by omega
      have HA : Hid (R[k]? = some a) := ha
      have HST : Hid (bst (lsB o) (cnd R f) (k + 1) = match cnd R f k, bst (lsB o) (cnd R f) k with | none, b => b | some _, none => some k | some x, some b => match cnd R f b with | some y => if lsB o x y then some k else some b | none => some b) := rfl
      clear h4 ha
      go_upto_region 6 with fail
      go_cut [38] from 25 to 38 (fun x38 wx => x38 = .bool (a.gone || f k) ∧ wx = wr)
      case first => as_aux_lemma =>
        cases hgo : a.gone with
        | true =>
          rw [hgo] at hg
          go_wp2
          go_meet
          exact ⟨by rw [hgo]; rfl, rfl⟩
        | false =>
          rw [hgo] at hg
          rcases HH2.out.2 with ⟨rfl, hf0⟩ | ⟨ob, rfl, hcl⟩
          · have hfk := hf0 k
            have hnn := nil_neq wr
            go_wp2
            go_meet
            exact ⟨by rw [hfk, hgo]; rfl, rfl⟩
          · have hfk := hcl k hlt
            have hnn := some_neq ⟨ob, 0, none⟩ R.length R.length wr
            go_wp2
            go_meet
            exact ⟨by simp [hgo], rfl⟩
      case rest =>
        obtain ⟨rfl, hw⟩ := hcut
        subst hw
        have HCK : Hid (cnd R f k = if (a.gone || f k) = true then none else some a.x) := by show cnd R f k = _; unfold cnd; rw [HA.out]
        have HRP : Hid (rp R k = a.p) := rp_at HA.out
        generalize hgf : (a.gone || f k) = gf at *
        cases gf with
        | true => as_aux_lemma =>
          have hst : bst (lsB o) (cnd R f) (k + 1) = bst (lsB o) (cnd R f) k := by
            have h1 := HST.out
            rw [HCK.out] at h1
            exact h1
          have HS1 : Hid (bpV R (bst (lsB o) (cnd R f) (k + 1)) = bpV R (bst (lsB o) (cnd R f) k)) := by show bpV R _ = _; rw [hst]
          generalize bpV R (bst (lsB o) (cnd R f) k) = V5 at *
          clear hst HST
          go_wp2
          exact ⟨⟨k + 1, by omega, by go_num, HS1.out.symm, HF.out⟩, by simp [RowKit.intOf]; omega⟩
        | false =>
          cases hb : bst (lsB o) (cnd R f) k with
          | none => as_aux_lemma =>
            have HS1 : Hid (bpV R (bst (lsB o) (cnd R f) (k + 1)) = ptr a.p) := by
              have h1 := HST.out
              rw [HCK.out, hb] at h1
              show bpV R _ = _
              rw [h1]
              show ptr (rp R k) = _
              rw [HRP.out]
            simp only [bpV]
            clear hb HST
            go_wp2
            exact ⟨⟨k + 1, by omega, by go_num, HS1.out.symm, HF.out⟩, by simp [RowKit.intOf]; omega⟩
          | some b =>
            obtain ⟨y, hy⟩ := bst_at k b hb
            obtain ⟨a2, ha2, hxy⟩ := cnd_some hy
            have HS1 : Hid (bst (lsB o) (cnd R f) (k + 1) = if lsB o a.x a2.x = true then some k else some b) := by
              have h1 : bst (lsB o) (cnd R f) (k + 1) = (match cnd R f b with | some y => if lsB o a.x y then some k else some b | none => some b) := by
                have h2 := HST.out
                rw [HCK.out, hb] at h2
                exact h2
              rw [hy] at h1
              show bst (lsB o) (cnd R f) (k + 1) = _
              rw [hxy]
              exact h1
            have HP2 : Hid (rp R b = a2.p) := rp_at ha2
            have hbp : bpV R (some b) = ptr a2.p := by show ptr (rp R b) = _; rw [HP2.out]
            rw [hbp]
            have HA2 : Hid (R[b]? = some a2) := ha2
            have hls := Less_any o (o : Int) rfl a.x a2.x
            clear hbp hb hy hxy ha2 HST HCK
            go_upto_region 9 with fail
            go_cut [8] from 42 to 54 (fun x8 wx => x8 = .bool (lsB o a.x a2.x) ∧ Hid (Fr w wx (fun _ => False)))
            case first => as_aux_lemma =>
              rename_i K0 hJ9 hKd
              refine wp_mono (Q := Exit.then K0 (fun _ _ _ => False)) ?_ (fun e a w hh => by cases e <;> first | exact hh | exact hh.elim)
              refine wp_region_held (S := fun w' => w'.cell? ⟨h, 0, none⟩ = some (.int .i64 (o : Int)) ∧ w'.cell? ⟨a.p, 0, none⟩ = some (.int .i64 a.x.k) ∧ w'.cell? ⟨a.p, 1, none⟩ = some (.int .i64 a.x.g) ∧ w'.cell? ⟨a2.p, 0, none⟩ = some (.int .i64 a2.x.k) ∧ w'.cell? ⟨a2.p, 1, none⟩ = some (.int .i64 a2.x.g)) (by kernel_rfl) ?_
              change wpAnyH _ _ _ _ _ _ _ _ (World.drew _)
              have F6 : Fr wc wc.drew (fun _ => False) := (Fr.refl wc _).drew
              have H6 : Hid (RH wc.drew o h (.slice (some ⟨g, off, none⟩) R.length cap) R ∧ Fr w wc.drew (fun _ => False)) := ⟨HH2.out.1.sm F6, HF.out.trans F6 fun _ _ q => by rcases q with q | q <;> exact q⟩
              generalize wc.drew = w6 at *
              clear F6
              have hS : (w6.cell? ⟨h, 0, none⟩ = some (.int .i64 (o : Int)) ∧ w6.cell? ⟨a.p, 0, none⟩ = some (.int .i64 a.x.k) ∧ w6.cell? ⟨a.p, 1, none⟩ = some (.int .i64 a.x.g) ∧ w6.cell? ⟨a2.p, 0, none⟩ = some (.int .i64 a2.x.k) ∧ w6.cell? ⟨a2.p, 1, none⟩ = some (.int .i64 a2.x.g)) := ⟨H6.out.1.blk.cell 0, (H6.out.1.its k a HA.out).cell 0, (H6.out.1.its k a HA.out).cell 1, (H6.out.1.its b a2 HA2.out).cell 0, (H6.out.1.its b a2 HA2.out).cell 1⟩
              refine takeR (i := 0) (v := ptr h) (some 42) rfl rfl (by kernel_rfl) (by kernel_rfl) (by kernel_rfl) (fun _ _ _ h => h) (Or.inl ⟨by kernel_rfl, fun w' hSw => by kernel_rfl⟩) hS ?_
              simp only [Act.put, List.setIfInBounds_toArray, List.set_cons_zero, List.set_cons_succ]
              refine takeR (i := 1) (v := .pointer (some ⟨h, 0, none⟩)) (some 43) rfl rfl (by kernel_rfl) (by kernel_rfl) (by kernel_rfl) (fun _ _ _ h => h) (Or.inl ⟨by kernel_rfl, fun w' hSw => by kernel_rfl⟩) hS ?_
              simp only [Act.put, List.setIfInBounds_toArray, List.set_cons_zero, List.set_cons_succ]
              refine takeR (i := 2) (v := .pointer (some ⟨h, 0, none⟩)) (some 44) rfl rfl (by kernel_rfl) (by kernel_rfl) (by kernel_rfl) (fun _ _ _ h => h) (Or.inl ⟨by kernel_rfl, fun w' hSw => by kernel_rfl⟩) hS ?_
              simp only [Act.put, List.setIfInBounds_toArray, List.set_cons_zero, List.set_cons_succ]
              refine takeR (i := 3) (v := .int .i64 (o : Int)) (some 45) rfl rfl (by kernel_rfl) (by kernel_rfl) (by kernel_rfl) (fun _ _ _ h => h) (Or.inl ⟨by kernel_rfl, fun w' hSw => by have q := hSw.1; clear hSw; go_simp⟩) hS ?_
              simp only [Act.put, List.setIfInBounds_toArray, List.set_cons_zero, List.set_cons_succ]
              refine takeR (i := 4) (v := ptr a.p) (some 46) rfl rfl (by kernel_rfl) (by kernel_rfl) (by kernel_rfl) (fun _ _ _ h => h) (Or.inl ⟨by kernel_rfl, fun w' hSw => by kernel_rfl⟩) hS ?_
              simp only [Act.put, List.setIfInBounds_toArray, List.set_cons_zero, List.set_cons_succ]
              refine takeR (i := 5) (v := .pointer (some ⟨a.p, 0, none⟩)) (some 47) rfl rfl (by kernel_rfl) (by kernel_rfl) (by kernel_rfl) (fun _ _ _ h => h) (Or.inl ⟨by kernel_rfl, fun w' hSw => by kernel_rfl⟩) hS ?_
              simp only [Act.put, List.setIfInBounds_toArray, List.set_cons_zero, List.set_cons_succ]
              refine takeR (i := 6) (v := .pointer (some ⟨a.p, 0, none⟩)) (some 48) rfl rfl (by kernel_rfl) (by kernel_rfl) (by kernel_rfl) (fun _ _ _ h => h) (Or.inl ⟨by kernel_rfl, fun w' hSw => by kernel_rfl⟩) hS ?_
              simp only [Act.put, List.setIfInBounds_toArray, List.set_cons_zero, List.set_cons_succ]
              refine takeR (i := 7) (v := .agg #[.int .i64 a.x.k, .int .i64 a.x.g]) (some 49) rfl rfl (by kernel_rfl) (by kernel_rfl) (by kernel_rfl) (fun _ _ _ h => h) (Or.inl ⟨by kernel_rfl, fun w' hSw => by have q := hSw.2.1; have q' := hSw.2.2.1; clear hSw; go_simp⟩) hS ?_
              simp only [Act.put, List.setIfInBounds_toArray, List.set_cons_zero, List.set_cons_succ]
              refine takeR (i := 8) (v := ptr a2.p) (some 50) rfl rfl (by kernel_rfl) (by kernel_rfl) (by kernel_rfl) (fun _ _ _ h => h) (Or.inl ⟨by kernel_rfl, fun w' hSw => by kernel_rfl⟩) hS ?_
              simp only [Act.put, List.setIfInBounds_toArray, List.set_cons_zero, List.set_cons_succ]
              refine takeR (i := 9) (v := .pointer (some ⟨a2.p, 0, none⟩)) (some 51) rfl rfl (by kernel_rfl) (by kernel_rfl) (by kernel_rfl) (fun _ _ _ h => h) (Or.inl ⟨by kernel_rfl, fun w' hSw => by kernel_rfl⟩) hS ?_
              simp only [Act.put, List.setIfInBounds_toArray, List.set_cons_zero, List.set_cons_succ]
              refine takeR (i := 10) (v := .pointer (some ⟨a2.p, 0, none⟩)) (some 52) rfl rfl (by kernel_rfl) (by kernel_rfl) (by kernel_rfl) (fun _ _ _ h => h) (Or.inl ⟨by kernel_rfl, fun w' hSw => by kernel_rfl⟩) hS ?_
              simp only [Act.put, List.setIfInBounds_toArray, List.set_cons_zero, List.set_cons_succ]
              refine takeR (i := 11) (v := .agg #[.int .i64 a2.x.k, .int .i64 a2.x.g]) (some 53) rfl rfl (by kernel_rfl) (by kernel_rfl) (by kernel_rfl) (fun _ _ _ h => h) (Or.inl ⟨by kernel_rfl, fun w' hSw => by have q := hSw.2.2.2.1; have q' := hSw.2.2.2.2; clear hSw; go_simp⟩) hS ?_
              simp only [Act.put, List.setIfInBounds_toArray, List.set_cons_zero, List.set_cons_succ]
              refine wpAnyH_ready (rs := [12]) (by kernel_rfl) (by simp) ?_
              refine AllReadyH.cons rfl (fun K1 hK1 => ?_) AllReadyH.nil
              rw [if_pos (by kernel_rfl)]
              refine callR (d := some 54) rfl 15 #[.int .i64 (o : Int), .agg #[.int .i64 a.x.k, .int .i64 a.x.g], .agg #[.int .i64 a2.x.k, .int .i64 a2.x.g]] (by kernel_rfl) (hls w6) ?_
              rintro e w7 ⟨rfl, hf⟩
              have H7 : Hid (RH w7 o h (.slice (some ⟨g, off, none⟩) R.length cap) R ∧ Fr w w7 (fun _ => False)) := ⟨H6.out.1.sm hf, H6.out.2.trans hf fun _ _ q => by rcases q with q | q <;> exact q⟩
              have hS7 : (w7.cell? ⟨h, 0, none⟩ = some (.int .i64 (o : Int)) ∧ w7.cell? ⟨a.p, 0, none⟩ = some (.int .i64 a.x.k) ∧ w7.cell? ⟨a.p, 1, none⟩ = some (.int .i64 a.x.g) ∧ w7.cell? ⟨a2.p, 0, none⟩ = some (.int .i64 a2.x.k) ∧ w7.cell? ⟨a2.p, 1, none⟩ = some (.int .i64 a2.x.g)) := ⟨H7.out.1.blk.cell 0, (H7.out.1.its k a HA.out).cell 0, (H7.out.1.its k a HA.out).cell 1, (H7.out.1.its b a2 HA2.out).cell 0, (H7.out.1.its b a2 HA2.out).cell 1⟩
              refine ⟨_, rfl, ?_⟩
              refine hK1.out _ _ hS7 (fun _ => ?_)
              clear hK1 hf hS
              simp only [Act.put, List.setIfInBounds_toArray, List.set_cons_zero, List.set_cons_succ]
              refine takeR (i := 13) (v := .bool (lsB o a.x a2.x)) (some 8) rfl rfl (by kernel_rfl) (by kernel_rfl) (by kernel_rfl) (fun _ _ _ h => h) (Or.inl ⟨by kernel_rfl, fun w' hSw => by kernel_rfl⟩) hS7 ?_
              simp only [Act.put, List.setIfInBounds_toArray, List.set_cons_zero, List.set_cons_succ]
              refine wpAnyH_done (by kernel_rfl) ?_ _
              refine hKd _ _ ?_
              go_meet
              exact ⟨rfl, H7.out.2⟩
            case rest => as_aux_lemma =>
              obtain ⟨rfl, HF7⟩ := hcut
              clear hls d1 hc hg
              cases hl : lsB o a.x a2.x with
              | true =>
                have HS2 : Hid (bpV R (bst (lsB o) (cnd R f) (k + 1)) = ptr a.p) := by
                  show bpV R _ = _
                  rw [HS1.out, hl, if_pos rfl]
                  show ptr (rp R k) = _
                  rw [HRP.out]
                go_wp2
                exact ⟨⟨k + 1, by omega, by go_num, HS2.out.symm, HF7.out⟩, by simp [RowKit.intOf]; omega⟩
              | false =>
                have HS2 : Hid (bpV R (bst (lsB o) (cnd R f) (k + 1)) = ptr a2.p) := by
                  show bpV R _ = _
                  rw [HS1.out, hl, if_neg (by simp)]
                  show ptr (rp R b) = _
                  rw [HP2.out]
                go_wp2
                exact ⟨⟨k + 1, by omega, by go_num, HS2.out.symm, HF7.out⟩, by simp [RowKit.intOf]; omega⟩
    · have hki : ¬ (k : Int) < (R.length : Int) := by omega
      have hcr := HR.out k (by omega)
      rw [hcr]
      clear hcr
      go_wp2
      go_ret
      exact ⟨rfl, HF.out⟩
end
end Go.Proofs.Ytdnhhcbabdoomaa
