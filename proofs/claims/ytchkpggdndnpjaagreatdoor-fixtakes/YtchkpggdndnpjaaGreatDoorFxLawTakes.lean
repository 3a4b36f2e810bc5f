/-
  fix: FixTakes' walk.
-/
import Derived.Test.YtchkpggdndnpjaaGreatDoorG46
namespace Go.Proofs.YtchkpggdndnpjaaGreatDoor
set_option linter.unusedVariables false
set_option linter.unusedSimpArgs false
open Go.RowKit Go.Great

theorem rdF_err {l : List UInt8} {e : Int} {k : Nat} (h : rdF l = .error (e, k)) : e ≠ 0 := by
  unfold rdF at h
  split at h
  · unfold rdV at h
    split at h
    · cases h
    · injection h with h
      obtain ⟨h, _⟩ := Prod.mk.inj h
      omega
  · injection h with h
    obtain ⟨h, _⟩ := Prod.mk.inj h
    omega
theorem addF_err {f : Fld} {r : Except (Int × Nat) (List Fld)} {x : Int × Nat} (h : addF f r = .error x) : r = .error x := by
  cases r with
  | ok l => cases h
  | error y => exact h
theorem rdAll_err (t : List UInt8) : ∀ (n a : Nat) (e : Int) (k : Nat), rdAll t n a = .error (e, k) → e ≠ 0
  | 0, a, e, k, h => by cases h
  | n + 1, a, e, k, h => by
    unfold rdAll at h
    split at h
    · split at h
      · rename_i f j hf
        exact rdAll_err t n (a + j) e k (addF_err h)
      · rename_i e' j hf
        injection h with h
        obtain ⟨h, _⟩ := Prod.mk.inj h
        rw [← h]
        exact rdF_err hf
    · cases h
theorem body_err {l : List UInt8} {e : Int} {k : Nat} (h : bodyL l = .error (e, k)) : e ≠ 0 := by
  unfold bodyL at h
  split at h
  · injection h with h; obtain ⟨h, _⟩ := Prod.mk.inj h; omega
  · split at h
    · injection h with h; obtain ⟨h, _⟩ := Prod.mk.inj h; omega
    · split at h
      · cases h
      · injection h with h; obtain ⟨h, _⟩ := Prod.mk.inj h; omega
theorem last_err {l : List UInt8} {a n : Nat} {e : Int} {k : Nat} (h : lastL l a n = some (e, k)) : e ≠ 0 := by
  unfold lastL at h
  split at h
  · injection h with h; obtain ⟨h, _⟩ := Prod.mk.inj h; omega
  · split at h
    · injection h with h; obtain ⟨h, _⟩ := Prod.mk.inj h; omega
    · split at h
      · injection h with h; obtain ⟨h, _⟩ := Prod.mk.inj h; omega
      · split at h
        · cases h
        · injection h with h; obtain ⟨h, _⟩ := Prod.mk.inj h; omega
theorem split_err {l : List UInt8} {e : Int} {k : Nat} (h : splitL l = .error (e, k)) : e ≠ 0 := by
  unfold splitL at h
  split at h
  · injection h with h; obtain ⟨h, _⟩ := Prod.mk.inj h; omega
  · split at h
    · rename_i x hx
      injection h with h
      rw [h] at hx
      exact body_err hx
    · split at h
      · rename_i x hx
        injection h with h
        rw [h] at hx
        exact last_err hx
      · exact rdAll_err _ _ _ e k h
def NeE (o : Option (Int × Nat × Int)) : Prop := ∀ e a t, o = some (e, a, t) → e ≠ 0
theorem NeE.or {a b : Option (Int × Nat × Int)} (h : NeE a) (k : NeE b) : NeE (orX a b) := by
  unfold orX
  split
  · exact h
  · exact k
theorem rk_ne (fs : List Fld) : NeE (rkE fs) := fun e a t h => by
  unfold rkE at h
  split at h
  · cases h; decide
  · split at h
    · split at h
      · cases h; decide
      · cases h
    · cases h; decide
theorem ce_ne (fs : List Fld) (l : List Slt) : NeE (ceE fs l) := fun e a t h => by
  unfold ceE at h
  obtain ⟨k, -, h⟩ := List.exists_of_findSome?_eq_some h
  split at h
  · cases h
  · unfold ceA at h
    split at h
    · cases h
    · split at h
      · rename_i f _ _ _
        cases hk : knB f.1 <;> (rw [hk] at h; cases h; decide)
      · split at h
        · cases h; decide
        · split at h
          · cases h
          · rename_i f _ _ _ _ _ _ s _
            cases hk : rdBo s.2.2 (bs f.2) <;> (rw [hk] at h; cases h <;> decide)
theorem cm_ne (fs : List Fld) (l : List Slt) : NeE (cmE fs l) := fun e a t h => by
  unfold cmE at h
  obtain ⟨k, -, h⟩ := List.exists_of_findSome?_eq_some h
  unfold cmT at h
  cases hk : (k.2.1 && (plN fs k.1 == fs.length)) <;> (rw [hk] at h; cases h <;> decide)
theorem if3 {p q r : Prop} [Decidable p] [Decidable q] [Decidable r] {x y u : Int × Nat × Int} {o : Option (Int × Nat × Int)} (h : (if p then some x else if q then some y else if r then none else some u) = o) : (o = none ∧ r) ∨ o = some x ∨ o = some y ∨ o = some u := by
  subst h
  by_cases h1 : p
  · rw [if_pos h1]; exact .inr (.inl rfl)
  · rw [if_neg h1]
    by_cases h2 : q
    · rw [if_pos h2]; exact .inr (.inr (.inl rfl))
    · rw [if_neg h2]
      by_cases h3 : r
      · rw [if_pos h3]; exact .inl ⟨rfl, h3⟩
      · rw [if_neg h3]; exact .inr (.inr (.inr rfl))
theorem cf_ne (fs : List Fld) (M : Msg) : NeE (cfE fs M) := fun e a t h => by
  rcases if3 h with ⟨k, -⟩ | k | k | k
  · cases k
  · cases k; decide
  · cases k; decide
  · cases k; decide
theorem rdX_ne (fs : List Fld) : NeE (rdX fs) := (rk_ne _).or ((ce_ne _ _).or ((cm_ne _ _).or (cf_ne _ _)))
theorem dc_err {l : List UInt8} {e : Int} {a : Nat} (h : dcL l = .error (e, a)) : e ≠ 0 := by
  unfold dcL at h
  split at h
  · rename_i x hx
    injection h with h
    rw [h] at hx
    exact split_err hx
  · split at h
    · cases h
    · rename_i hx
      cases h
      exact rdX_ne _ _ _ _ hx
theorem dc_ok {l : List UInt8} {A : Msg} (h : dcL l = .ok A) : A.ok ∧ valE A = 0 := by
  unfold dcL at h
  split at h
  · cases h
  · rename_i fs hs
    split at h
    · rename_i hx
      injection h with h
      subst h
      refine ⟨gaM_ok fun t ht => (slts_mem.1 ht).1, ?_⟩
      unfold rdX orX at hx
      have hc : cfE fs (rdM fs) = none := by
        split at hx
        · cases hx
        · split at hx
          · cases hx
          · split at hx
            · cases hx
            · exact hx
      rcases if3 hc with ⟨-, hv⟩ | k | k | k
      · exact hv
      all_goals cases k
    · cases h
set_option maxRecDepth 100000 in
set_option maxHeartbeats 4000000 in
theorem FixTakes_law (v : Value) (l : List UInt8) (w : World) (hl : l.length ≤ 9223372036854775807) (hs : SrcB w v l) (he : Env w) :
    Calls Tryz.prog 3 #[v] w fun e w' => e = .returned (.bool true) ∧ Below w.heap.size w w' := by
  have HE : Hid (Env w ∧ SrcB w v l) := ⟨he, hs⟩
  have hsh := shown_any w he.mon he.pow he.ety
  clear he hs
  go_enter Tryz.func3, Tryz.ntmps3
  go_wp2_with (go_at_call 9; fail)
  refine hsh.mono ?_
  clear hsh
  rintro e w1 ⟨rfl, hb1⟩
  have HB1 : Hid (Below w.heap.size w w1) := hb1
  clear hb1
  have HD := Decode_any v l w1 hl (HE.out.2.below HB1.out) (HE.out.1.below HB1.out).mon (HE.out.1.below HB1.out).pow (HE.out.1.below HB1.out).ety
  go_upto_region 2 with fail
  rename_i K2 hK2
  refine wp_region_lit ?_
  refine wpList_runTo rfl (some 17) rfl (v) w1 (by kernel_rfl) ?_
  refine wpList_callF rfl (some 18) rfl 10 #[v] (by kernel_rfl) HD ?_
  rintro e w2 hD
  obtain ⟨A, ev, hxe, HF⟩ : ∃ A ev, e = .returned (.tuple #[.agg (Msg.cs A), ev]) ∧ Hid (Below w.heap.size w w2 ∧ ((ev = .nilIface ∧ A.ok ∧ valE A = 0) ∨ (A = zeroM ∧ ∃ g e a, ev = .iface 56 (.pointer (some ⟨g, 0, none⟩)) ∧ FaultAt w2 g e a ∧ e ≠ 0))) := by
    obtain ⟨hb, h⟩ := hD
    have hb' : Below w.heap.size w w2 := HB1.out.trans (hb.mono HB1.out.size)
    revert h
    cases hd : dcL l with
    | ok A =>
      rintro rfl
      exact ⟨A, _, rfl, hb', .inl ⟨rfl, dc_ok hd⟩⟩
    | error x =>
      obtain ⟨e1, a1⟩ := x
      rintro ⟨g, -, rfl, hf⟩
      exact ⟨zeroM, _, rfl, hb', .inr ⟨rfl, g, e1, a1, rfl, hf, dc_err hd⟩⟩
  subst hxe
  clear hD HD HB1
  refine ⟨_, rfl, ?_⟩
  refine wpList_runTo rfl (some 16) rfl (.tuple #[.agg A.cs, ev]) w2 (by kernel_rfl) ?_
  refine wpList_runTo rfl (some 19) rfl (.agg A.cs) w2 (by kernel_rfl) ?_
  refine wpList_runTo rfl (some 20) rfl (ev) w2 (by kernel_rfl) ?_
  refine wpList_runTo rfl (some 4) rfl (.pointer (some ⟨w2.heap.size, 0, none⟩)) (w2.alloc (.cells zeroM.cs 25)) (by kernel_rfl) ?_
  simp only [Act.put, List.setIfInBounds_toArray, List.set_cons_zero, List.set_cons_succ]
  refine wpList_store_row rfl 25 (.tmp 4) (.tmp 19) rfl w2.heap.size A.cs (by rfl) (by rfl) 25 _ (heap_alloc_new w2 _) (by rw [Msg.cs_size]; kernel_rfl) (by simp only [Msg.cs_size]) (Msg.cs_one _) ?_
  refine wpList_runTo rfl (some 5) rfl (ev) ((w2.alloc (.cells zeroM.cs 25)).setRow w2.heap.size A.cs) (by kernel_rfl) ?_
  refine wpList_nil ?_
  refine hK2 _ _ ?_
  clear hK2
  simp only [Act.put, List.setIfInBounds_toArray, List.set_cons_zero, List.set_cons_succ]
  have HO3 : Hid (LM w ((w2.alloc (.cells zeroM.cs 25)).setRow w2.heap.size A.cs) w2.heap.size A ∧ Below w2.heap.size w2 ((w2.alloc (.cells zeroM.cs 25)).setRow w2.heap.size A.cs)) := ⟨⟨put_own, HF.out.1.trans (put_below.mono HF.out.1.size)⟩, put_below⟩
  generalize (w2.alloc (.cells zeroM.cs 25)).setRow w2.heap.size A.cs = w3 at *
  generalize hcs : A.cs = CS at *
  have Hcs : Hid (A.cs = CS) := hcs
  clear hcs
  rcases HF.out.2 with ⟨rfl, hA, hv⟩ | ⟨hA, g, e, a, rfl, hf, he⟩
  · have HA : Hid (A.ok) := hA
    have HVE : Hid (valE A = 0) := hv
    have HO : Hid (LM w w3 w2.heap.size A) := HO3.out.1
    clear hA hv HO3 HF
    generalize w2.heap.size = g4 at *
    go_upto_region 8 with fail
    refine wp_region_lit ?_
    refine wpList_loadM HO.out.msg (.tmp 4) rfl rfl rfl ?_
    simp only [Act.put, List.setIfInBounds_toArray, List.set_cons_zero, List.set_cons_succ]
    rw [Hcs.out]
    go_wp2_with (go_at_call 12; fail)
    have hvc := Valid_any A w3 (HE.out.1.below HO.out.below).mon HA.out
    rw [Hcs.out] at hvc
    refine hvc.mono ?_
    clear hvc
    rintro e w4 ⟨rfl, hb4⟩
    have HO4 : Hid (LM w w4 g4 A) := HO.out.low hb4
    clear hb4 HO
    have HE4 := HE.out.1.below HO4.out.below
    obtain ⟨b, hj, hlb, hEn⟩ := Encode_ok A w4 HE4.mon HE4.pow HA.out HVE.out
    have HV : Hid (Vld A ∧ joinL (encF A) = .ok b ∧ b.length ≤ 1024) := ⟨vld_of HVE.out, hj, hlb⟩
    rw [HVE.out]
    rw [Hcs.out] at hEn
    clear hj HE4
    generalize valN A = N at *
    go_upto_region 9 with fail
    refine wp_region_lit ?_
    refine wpList_loadM HO4.out.msg (.tmp 4) rfl rfl rfl ?_
    simp only [Act.put, List.setIfInBounds_toArray, List.set_cons_zero, List.set_cons_succ]
    rw [Hcs.out]
    go_wp2_with (go_at_call 13; fail)
    refine hEn.mono ?_
    clear hEn
    rintro e w5 ⟨u, rfl, ho5, hb5⟩
    have HO5 : Hid (LM w w5 g4 A ∧ SrcB w5 u b) := ⟨HO4.out.low hb5, ho5.src⟩
    clear hb5 ho5 HO4
    obtain ⟨av, cv, rfl⟩ : ∃ a c, u = .slice a b.length c := by obtain ⟨a, c, h, -⟩ := HO5.out.2; exact ⟨a, c, h⟩
    have HD := Decode_back HV.out.1 HV.out.2.1 hlb (.slice av b.length cv) w5 HO5.out.2 (HE.out.1.below HO5.out.1.below)
    generalize b.length = n at *
    clear hlb
    go_upto_region 10 with fail
    rename_i K8 hK8
    refine wp_region_lit ?_
    refine wpList_runTo rfl (some 48) rfl (.slice av n cv) w5 (by kernel_rfl) ?_
    refine wpList_callF rfl (some 49) rfl 10 #[.slice av n cv] (by kernel_rfl) HD ?_
    rintro e w6 ⟨rfl, hb6⟩
    refine ⟨_, rfl, ?_⟩
    refine wpList_runTo rfl (some 47) rfl (.tuple #[.agg A.cs, .nilIface]) w6 (by kernel_rfl) ?_
    refine wpList_runTo rfl (some 50) rfl (.agg A.cs) w6 (by kernel_rfl) ?_
    refine wpList_runTo rfl (some 51) rfl (.nilIface) w6 (by kernel_rfl) ?_
    refine wpList_runTo rfl (some 13) rfl (.pointer (some ⟨w6.heap.size, 0, none⟩)) (w6.alloc (.cells zeroM.cs 25)) (by kernel_rfl) ?_
    simp only [Act.put, List.setIfInBounds_toArray, List.set_cons_zero, List.set_cons_succ]
    refine wpList_store_row rfl 25 (.tmp 13) (.tmp 50) rfl w6.heap.size A.cs (by rfl) (by rfl) 25 _ (heap_alloc_new w6 _) (by rw [Msg.cs_size]; kernel_rfl) (by simp only [Msg.cs_size]) (Msg.cs_one _) ?_
    refine wpList_runTo rfl (some 14) rfl (.nilIface) ((w6.alloc (.cells zeroM.cs 25)).setRow w6.heap.size A.cs) (by kernel_rfl) ?_
    refine wpList_nil ?_
    refine hK8 _ _ ?_
    clear hK8
    simp only [Act.put, List.setIfInBounds_toArray, List.set_cons_zero, List.set_cons_succ]
    have HO7 : Hid (LM w ((w6.alloc (.cells zeroM.cs 25)).setRow w6.heap.size A.cs) g4 A ∧ OwnM ((w6.alloc (.cells zeroM.cs 25)).setRow w6.heap.size A.cs) w6.heap.size A) := ⟨(HO5.out.1.low hb6).low put_below, put_own⟩
    clear hb6 HD HO5
    generalize (w6.alloc (.cells zeroM.cs 25)).setRow w6.heap.size A.cs = w7 at *
    generalize w6.heap.size = g6 at *
    go_upto_region 11 with fail
    rename_i K11 hK11
    refine wp_region_lit ?_
    refine wpList_runTo rfl (some 52) rfl (.int .i64 0) w7 (by kernel_rfl) ?_
    refine wpList_runTo rfl (some 53) rfl (.bool true) w7 (by kernel_rfl) ?_
    refine wpList_runTo rfl (some 54) rfl (.bool true) w7 (by kernel_rfl) ?_
    refine wpList_runToG (by kernel_rfl) (some 55) rfl (.int .i64 0) w7 (by kernel_rfl) ?_
    simp only [Act.put, List.setIfInBounds_toArray, List.set_cons_zero, List.set_cons_succ]
    refine wpList_runToG (by kernel_rfl) (some 56) rfl (.bool true) w7 (by kernel_rfl) ?_
    simp only [Act.put, List.setIfInBounds_toArray, List.set_cons_zero, List.set_cons_succ]
    refine wpList_runTo rfl (some 57) rfl (.bool true) w7 (by kernel_rfl) ?_
    refine wpList_runTo rfl (some 58) rfl (.bool true) w7 (by kernel_rfl) ?_
    refine wpList_runToG (by kernel_rfl) (some 59) rfl (.nilIface) w7 (by kernel_rfl) ?_
    simp only [Act.put, List.setIfInBounds_toArray, List.set_cons_zero, List.set_cons_succ]
    refine wpList_runToG (by kernel_rfl) (some 60) rfl (.bool true) w7 (by kernel_rfl) ?_
    simp only [Act.put, List.setIfInBounds_toArray, List.set_cons_zero, List.set_cons_succ]
    refine wpList_runTo rfl (some 61) rfl (.bool true) w7 (by kernel_rfl) ?_
    refine wpList_runTo rfl (some 62) rfl (.bool true) w7 (by kernel_rfl) ?_
    simp only [Act.put, List.setIfInBounds_toArray, List.set_cons_zero, List.set_cons_succ]
    refine wpList_loadG HO7.out.2 (.tmp 13) (by kernel_rfl) rfl rfl ?_
    simp only [Act.put, List.setIfInBounds_toArray, List.set_cons_zero, List.set_cons_succ]
    refine wpList_loadG HO7.out.1.msg (.tmp 4) (by kernel_rfl) rfl rfl ?_
    refine wpList_runToG (by kernel_rfl) (some 65) rfl (.bool true) w7 (by exact eqM_run (.tmp 63) (.tmp 64) rfl rfl rfl _) ?_
    simp only [Act.put, List.setIfInBounds_toArray, List.set_cons_zero, List.set_cons_succ]
    refine wpList_runTo rfl (some 66) rfl (.bool true) w7 (by kernel_rfl) ?_
    refine wpList_runTo rfl (some 2) rfl (.bool true) w7 (by kernel_rfl) ?_
    refine wpList_nil ?_
    refine hK11 _ _ ?_
    clear hK11
    simp only [Act.put, List.setIfInBounds_toArray, List.set_cons_zero, List.set_cons_succ]
    go_wp2
    go_ret
    exact ⟨rfl, HO7.out.1.below⟩
  · subst hA
    have HFa := lawFault_at g e a w3 (hf.below HO3.out.2 hf.lt) he
    have HO : Hid (LM w w3 w2.heap.size zeroM) := HO3.out.1
    clear hf he HO3 HF
    generalize w2.heap.size = g4 at *
    go_wp2_with (go_at_call 11; fail)
    refine HFa.mono ?_
    rintro x w4 ⟨rfl, q, rfl⟩
    have HO4 : Hid (LM w (w3.drewN q) g4 zeroM) := HO.out.low (below_drewN (Below.refl _ w3) q)
    clear HO HFa
    generalize w3.drewN q = w4 at *
    go_upto_region 7 with fail
    rename_i K7 hK7
    refine wp_region_lit ?_
    refine wpList_runTo rfl (some 31) rfl (.bool true) w4 (by kernel_rfl) ?_
    refine wpList_runTo rfl (some 32) rfl (.bool true) w4 (by kernel_rfl) ?_
    simp only [Act.put, List.setIfInBounds_toArray, List.set_cons_zero, List.set_cons_succ]
    refine wpList_loadG HO4.out.msg (.tmp 4) (by kernel_rfl) rfl rfl ?_
    refine wpList_runToG (by kernel_rfl) (some 34) rfl (.agg zeroM.cs) w4 (by kernel_rfl) ?_
    simp only [Act.put, List.setIfInBounds_toArray, List.set_cons_zero, List.set_cons_succ]
    refine wpList_runToG (by kernel_rfl) (some 35) rfl (.bool true) w4 (by exact eqM_run (.tmp 33) (.tmp 34) rfl rfl rfl _) ?_
    simp only [Act.put, List.setIfInBounds_toArray, List.set_cons_zero, List.set_cons_succ]
    refine wpList_runTo rfl (some 36) rfl (.bool true) w4 (by kernel_rfl) ?_
    refine wpList_runTo rfl (some 2) rfl (.bool true) w4 (by kernel_rfl) ?_
    refine wpList_nil ?_
    refine hK7 _ _ ?_
    clear hK7
    simp only [Act.put, List.setIfInBounds_toArray, List.set_cons_zero, List.set_cons_succ]
    go_wp2
    go_ret
    exact ⟨rfl, HO4.out.below⟩
end Go.Proofs.YtchkpggdndnpjaaGreatDoor
