/-
  bin: BinTurned, walked.
-/
import Derived.Test.YthadnogcocmfgaaGreatDoorBShown
import Derived.OwnWalk
namespace Go.Proofs.YthadnogcocmfgaaGreatDoor
set_option linter.unusedVariables false
open Go.RowKit Go.Great Go.Lib

theorem at_place (a : Int) (n : Nat) (h0 : ¬ n = 0) (a0 : -9223372036854775808 ≤ a) (a1 : a ≤ 9223372036854775807) : ∃ p : Nat, p < n ∧ (a < 0 ∧ (a + 1).tmod (n : Int) = -(p : Int) ∨ 0 ≤ a ∧ a % (n : Int) = (p : Int)) := by
  by_cases h : a < 0
  · refine ⟨((-(a + 1)) % (n : Int)).toNat, ?_, .inl ⟨h, ?_⟩⟩
    · have h1 := Int.emod_lt_of_pos (-(a + 1)) (show (0 : Int) < n by omega)
      have h2 := Int.emod_nonneg (-(a + 1)) (show (n : Int) ≠ 0 by omega)
      omega
    · have h2 := Int.emod_nonneg (-(a + 1)) (show (n : Int) ≠ 0 by omega)
      rw [Int.toNat_of_nonneg h2, ← Int.tmod_eq_emod_of_nonneg (by omega), Int.neg_tmod, Int.neg_neg]
  · refine ⟨(a % (n : Int)).toNat, ?_, .inr ⟨by omega, ?_⟩⟩
    · have h1 := Int.emod_lt_of_pos a (show (0 : Int) < n by omega)
      have h2 := Int.emod_nonneg a (show (n : Int) ≠ 0 by omega)
      omega
    · have h2 := Int.emod_nonneg a (show (n : Int) ≠ 0 by omega)
      omega
theorem dL_set_ne (l : List UInt8) {k j : Nat} (c : UInt8) (h : j ≠ k) : dL (l.set k c) j = dL l j := by
  unfold dL; simp [List.getD, List.getElem?_set_ne (Ne.symm h)]
theorem dL_set_eq (l : List UInt8) {k : Nat} (c : UInt8) (h : k < l.length) : dL (l.set k c) k = c.toNat := by
  unfold dL; simp [List.getD, h]
def tuL (l : List UInt8) (k : Nat) (t : UInt8) : List UInt8 := l.set k (l.getD k 0 ^^^ t)
theorem tuL_length (l : List UInt8) (k : Nat) (t : UInt8) : (tuL l k t).length = l.length := List.length_set
theorem tuL_zero (l : List UInt8) (k : Nat) : tuL l k 0 = l := by
  unfold tuL
  refine dL_ext (by simp) fun j hj => ?_
  by_cases e : j = k
  · subst e
    rw [dL_set_eq _ _ (by simpa using hj)]; simp [dL]
  · exact dL_set_ne _ _ e
theorem decE_some {l : List UInt8} (h : ∀ A, decL l ≠ .ok A) : (decE l).isSome = true := by
  unfold decE
  cases hd : decL l with
  | error x => rfl
  | ok A => exact absurd hd (h A)
theorem tu_dec {M : Msg} (h : valE M = 0) {k : Nat} (hk : k < (frameL M).length) (t : UInt8) : ∃ bad, (decE (tuL (frameL M) k t)).isSome = bad ∧ ((t.toNat : Int) != 0) = bad := by
  obtain ⟨M', h1, _⟩ := dec_frame h
  by_cases ht : t = 0
  · subst ht
    refine ⟨false, ?_, rfl⟩
    rw [tuL_zero]; unfold decE; rw [h1]; rfl
  · refine ⟨true, decE_some fun B => turned (tuL_length _ _ _).symm hk (fun j hj hne => (dL_set_ne _ _ hne).symm) ?_ h1, ?_⟩
    · unfold tuL
      rw [dL_set_eq _ _ hk]
      unfold dL
      intro e
      apply ht
      have e2 := UInt8.toNat_inj.1 e
      have := congrArg ((frameL M).getD k 0 ^^^ ·) e2
      simpa [← UInt8.xor_assoc] using this.symm
    · have : t.toNat ≠ 0 := fun e => ht (UInt8.toNat_inj.1 e)
      simp; omega
theorem cut_dec {M : Msg} (h : valE M = 0) {k : Nat} (hk : k < (frameL M).length) : (decE ((frameL M).take k)).isSome = true :=
  decE_some (other_length h (by rw [List.length_take]; omega) fun h10 => dL_take (by rw [List.length_take] at h10; omega))
theorem more_dec {M : Msg} (h : valE M = 0) (t : UInt8) : (decE (frameL M ++ [t])).isSome = true := by
  obtain ⟨M', h1, _⟩ := dec_frame h
  have := (start_ok (dec_ok h1).1).1
  exact decE_some (other_length h (by simp) fun _ => dL_left (by omega))
/-- An error, or none. -/
def ErrB (bad : Bool) (v : Value) : Prop := if bad then ∃ b, v = .iface 87 (.pointer (some ⟨b, 0, none⟩)) else v = .nilIface
theorem Decode_is (a : Option Addr) (g off n cap : Nat) (l : List UInt8) (w : World) (hn : n = l.length) (hcap : n ≤ cap) (hmax : n ≤ 140737488351232) (ha : n = 0 ∨ a = some ⟨g, off, none⟩) (hl : At w g off l) (hM : Mon w) (bad : Bool) (hb : (decE l).isSome = bad) :
    Calls Tryz.prog 12 #[.slice a n cap] w fun e w' => ∃ (D : Msg) (v : Value), e = .returned (.tuple #[.agg D.cs, v]) ∧ ErrB bad v ∧ Below w.heap.size w w' := by
  refine (Decode_any a g off n cap l w hn hcap hmax ha hl hM).mono ?_
  rintro e w' ⟨v, rfl, hE, hbl⟩
  refine ⟨_, v, rfl, ?_, hbl⟩
  subst hb
  unfold ErrB
  cases hd : decE l with
  | none => rw [hd] at hE; exact hE
  | some x => exact hE.some hd
theorem ownA_at {w : World} {g m : Nat} {f : Nat → Nat} {l : List UInt8} (h : OwnA w g m f) (hl : ∀ j, j < l.length → j < m ∧ f j = dL l j) : At w g 0 l := fun j c hj => by
  have hjl := (List.getElem?_eq_some_iff.1 hj).1
  obtain ⟨h1, h2⟩ := hl j hjl
  obtain ⟨c', hc', ec⟩ := dL_at hjl
  rw [hj] at hc'
  injection hc' with hc'
  subst hc'
  rw [Nat.zero_add, h.cell j h1, h2, ec]
theorem OwnA.ownsRow {w : World} {g n B : Nat} {f : Nat → Nat} {l : List UInt8} (h : OwnA w g (n + 8) f) (hn : n = l.length) (hmax : n + 8 ≤ maxLen) (hf : ∀ j, j < n → f j = dL l j) (hB : B ≤ g) : w.ownsRow B 5 1 (.slice (some ⟨g, 0, none⟩) n (n + 8)) n (byteCells l) := by
  obtain ⟨arr, h1, h2, h3⟩ := h
  refine ⟨by simp [byteCells]; omega, .inr ⟨g, n + 8, arr, rfl, hB, h1, by omega, hmax, by omega, ?_⟩⟩
  apply List.ext_getElem?
  intro j
  by_cases hj : j < n
  · obtain ⟨c, hc, ec⟩ := dL_at (show j < l.length by omega)
    rw [List.getElem?_take, if_pos (by omega), Array.getElem?_toList, (h3 j (by omega)).1, hf j hj, ec]
    simp [byteCells, hc]
  · rw [List.getElem?_eq_none (by simp; omega), List.getElem?_eq_none (by simp [byteCells]; omega)]
theorem row_at {w : World} {g n cap B : Nat} {l : List UInt8} (h : w.ownsRow B 5 1 (.slice (some ⟨g, 0, none⟩) n cap) n (byteCells l)) : At w g 0 l := fun j c hj => by
  have := h.cells (g := g) rfl j (.int .u8 (c.toNat : Int)) (by simp [byteCells, hj])
  rwa [addr_add] at this
theorem info5' : ∃ i0 : TypeInfo, Tryz.prog.info? 5 = some i0 ∧ i0.size = 1 := by
  cases h : Tryz.prog.info? 5 with
  | none => have := size5; rw [h] at this; cases this
  | some i => have := size5; rw [h] at this; exact ⟨i, rfl, by injection this⟩
set_option maxRecDepth 100000 in
set_option maxHeartbeats 2000000 in
theorem BinTurned_law (M : Msg) (hz : M.ok) (hS : M.okS) (at_ : Int) (hat : (Lit.int .i64 at_).wf = true) (t : Int) (ht : (Lit.int .i64 t).wf = true) (w : World) (hM : Mon w) :
    Calls Tryz.prog 6 #[.agg M.cs, .int .i64 at_, .int .i64 t] w fun e w' => e = .returned (.bool true) ∧ Below w.heap.size w w' := by
  obtain ⟨a0, a1⟩ := bounds_i64 hat
  have hcv := u8_wrap t
  generalize UInt8.ofNat (u64N t % 256) = T at hcv
  have HM : Hid (0 < w.heap.size ∧ Mon w ∧ M.ok) := ⟨hM.lt, hM, hz⟩
  have HO1 : Hid (OwnM (w.alloc (.cells M.cs 23)) w.heap.size M ∧ Below w.heap.size w (w.alloc (.cells M.cs 23))) := ⟨heap_alloc_new w _, (Below.refl _ w).alloc (Nat.le_refl _) _⟩
  clear hS hM hz hat ht
  go_enter Tryz.func6, Tryz.ntmps6
  go_upto_region 1 with fail
  generalize w.alloc (.cells M.cs 23) = w1 at *
  generalize hcs : M.cs = CS at *
  go_wp2_with (go_at_call 9; fail)
  refine (shown_any w1 (HM.out.2.1.below HO1.out.2 HM.out.1)).mono ?_
  rintro e w2 ⟨rfl, hb2⟩
  have HO2 : Hid (OwnM w2 w.heap.size M ∧ Below w.heap.size w w2) := ⟨HO1.out.1.low hb2, HO1.out.2.trans (hb2.mono HO1.out.2.size)⟩
  clear HO1 hb2
  by_cases h0 : valE M = 0
  · have HE : Hid (Unit → _) := fun _ => Encode_yes M w2 (HM.out.2.1.below HO2.out.2 HM.out.1) HM.out.2.2 h0
    have hFL := frame_length h0
    have hFS := (size_eq (valid_fit h0).1).2.1
    rw [← hFL] at hFS
    have HP : Hid (∀ k, k < (frameL M).length → (decE ((frameL M).take k)).isSome = true ∧ ∃ bad, (decE (tuL (frameL M) k T)).isSome = bad ∧ ((T.toNat : Int) != 0) = bad) := fun k hk => ⟨cut_dec h0 hk, tu_dec h0 hk T⟩
    have HA : Hid ((decE (frameL M ++ [T])).isSome = true ∧ (frameL M).length ≤ 418 ∧ 10 ≤ (frameL M).length) := ⟨more_dec h0 T, hFS, by
      obtain ⟨M', h1, _⟩ := dec_frame h0
      exact (start_ok (dec_ok h1).1).1⟩
    generalize hFr : frameL M = FR at *
    rw [hcs] at HE
    clear hFL hFS h0 hFr
    go_upto_region 2 with fail
    refine wp_region_lit ?_
    refine wpList_loadM HO2.out.1 (.tmp 3) rfl rfl rfl ?_
    simp only [Act.put, List.setIfInBounds_toArray, List.set_cons_zero, List.set_cons_succ]
    rw [hcs]
    go_wp2_with (go_at_call 11; fail)
    refine (HE.out ()).mono ?_
    rintro e w3 ⟨g, rfl, ho3, hge, hb3⟩
    have HO3 : Hid (Below w.heap.size w w3 ∧ OwnL w3 g FR) := ⟨HO2.out.2.trans (hb3.mono HO2.out.2.size), ho3⟩
    clear ho3 hge hb3 HE HO2 hcs
    obtain ⟨n, hn⟩ : ∃ n, n = FR.length := ⟨_, rfl⟩
    rw [← hn] at HP HA ⊢
    have HN : Hid (n = FR.length) := hn
    clear hn
    have hn0 : ¬ n = 0 := by have := HA.out; omega
    have hn0' : ¬ (n : Int) = 0 := by omega
    obtain ⟨p, hp, hat⟩ := at_place at_ n hn0 a0 a1
    have hp' : (p : Int) < (n : Int) := by omega
    have hpl : (p : Int) ≤ (n : Int) := by omega
    have hpl2 : p ≤ n := by omega
    obtain ⟨hcut, bad, hbad, hTb⟩ := HP.out p hp
    have HCut : Hid ((decE (FR.take p)).isSome = true ∧ (decE (tuL FR p T)).isSome = bad) := ⟨hcut, hbad⟩
    clear hcut hbad HP
    have HD1 : Hid (Unit → _) := fun _ => Decode_is (some ⟨g, 0, none⟩) g 0 p n (FR.take p) w3 (by rw [List.length_take, ← HN.out]; omega) hpl2 (by have := HA.out; omega) (.inr rfl) (HO3.out.2.at_.take p) (HM.out.2.1.below HO3.out.1 HM.out.1) true HCut.out.1
    obtain ⟨i0, hi, hz1⟩ := info5'
    rcases hat with ⟨hsg, hat⟩ | ⟨hsg, hat⟩
    all_goals
      go_upto_region 9 with fail
      try simp only [hat]
      refine wp_region_lit ?_
      refine wpList_runTo rfl (some 42) rfl (.slice (some ⟨g, 0, none⟩) n n) w3 (by kernel_rfl) ?_
      refine wpList_runTo rfl (some 43) rfl (.int .i64 (p : Int)) w3 (by kernel_rfl) ?_
      simp only [Act.put, List.setIfInBounds_toArray, List.set_cons_zero, List.set_cons_succ]
      iterate 3 go_step
      refine wpList_callW rfl (some 45) rfl 12 #[.slice (some ⟨g, 0, none⟩) p n] (by kernel_rfl) (HD1.out ()) ?_
      rintro e w4 ⟨D4, v4, rfl, ⟨b4, rfl⟩, hb4⟩
      refine ⟨_, rfl, ?_⟩
      generalize hC4 : D4.cs = C4 at *
      refine wpList_runTo rfl (some 41) rfl (.tuple #[.agg C4, .iface 87 (.pointer (some ⟨b4, 0, none⟩))]) w4 (by kernel_rfl) ?_
      refine wpList_runTo rfl (some 46) rfl (.agg C4) w4 (by kernel_rfl) ?_
      refine wpList_runTo rfl (some 47) rfl (.iface 87 (.pointer (some ⟨b4, 0, none⟩))) w4 (by kernel_rfl) ?_
      refine wpList_runTo rfl (some 11) rfl (.pointer (some ⟨w4.heap.size, 0, none⟩)) (w4.alloc (.cells zeroM.cs 23)) (by kernel_rfl) ?_
      refine wpList_store_row rfl 23 (.tmp 11) (.tmp 46) rfl w4.heap.size C4 (by kernel_rfl) (by kernel_rfl) 23 _ (heap_alloc_new w4 _) (by rw [← hC4, Msg.cs_size]; kernel_rfl) (by rw [← hC4, Msg.cs_size, Msg.cs_size]) (by rw [← hC4]; exact Msg.cs_one _) ?_
      rw [World.setRow_alloc_new]
      refine wpList_runTo rfl (some 12) rfl (.iface 87 (.pointer (some ⟨b4, 0, none⟩))) (w4.alloc (.cells C4 23)) (by kernel_rfl) ?_
      refine wpList_nil ?_
      simp only [Act.put, List.setIfInBounds_toArray, List.set_cons_zero, List.set_cons_succ]
      have HO5 : Hid (Below w.heap.size w (w4.alloc (.cells C4 23)) ∧ OwnL (w4.alloc (.cells C4 23)) g FR) := by
        have h35 : Below w3.heap.size w3 (w4.alloc (.cells C4 23)) := hb4.alloc hb4.size _
        exact ⟨HO3.out.1.trans (h35.mono HO3.out.1.size), HO3.out.2.below h35 HO3.out.2.lt⟩
      clear hb4 HD1 HO3 hC4
      generalize w4.heap.size = B4 at *
      generalize w4.alloc (.cells C4 23) = w5 at *
      have HL : Hid (Unit → _) := fun _ => lent_any (some ⟨g, 0, none⟩) n n (dL FR) w5 (by have := HA.out; omega) (HO5.out.2.at_.src n HN.out)
      go_upto_region 10 with fail
      refine wp_region_lit ?_
      refine wpList_runTo rfl (some 49) rfl (.slice (some ⟨g, 0, none⟩) n n) w5 (by kernel_rfl) ?_
      refine wpList_callW rfl (some 50) rfl 14 #[.slice (some ⟨g, 0, none⟩) n n] (by kernel_rfl) (HL.out ()) ?_
      rintro e w6 ⟨rfl, ho6, hb6⟩
      refine ⟨_, rfl, ?_⟩
      refine wpList_runTo rfl (some 51) rfl (.int .i64 t) w6 (by kernel_rfl) ?_
      refine wpList_runTo rfl (some 52) rfl (.int .u8 (T.toNat : Int)) w6 (by rw [← hcv]; kernel_rfl) ?_
      refine wpList_runTo rfl (some 53) rfl (.slice (some ⟨w6.heap.size, 0, none⟩) 1 1) (w6.alloc (.cells #[.int .u8 (T.toNat : Int)] 5)) (by kernel_rfl) ?_
      simp only [Act.put, List.setIfInBounds_toArray, List.set_cons_zero, List.set_cons_succ]
      have HW6 : Hid ((w6.alloc (.cells #[.int .u8 (T.toNat : Int)] 5)).ownsRow w5.heap.size 5 1 (.slice (some ⟨w5.heap.size, 0, none⟩) n (n + 8)) n (byteCells FR) ∧ Below w5.heap.size w5 (w6.alloc (.cells #[.int .u8 (T.toNat : Int)] 5))) :=
        ⟨(ho6.ownsRow HN.out (by have := HA.out; unfold maxLen; omega) (fun j hj => if_pos hj) (Nat.le_refl _)).alloc _, hb6.alloc hb6.size _⟩
      have hnew : Hid (∀ j u, [Value.int .u8 (T.toNat : Int)][j]? = some u → (w6.alloc (.cells #[.int .u8 (T.toNat : Int)] 5)).cell? ((⟨w6.heap.size, 0, none⟩ : Addr).add j) = some u) := cell_one_new w6 (.int .u8 (T.toNat : Int)) 5
      refine wpList_append_fits_any _ rfl (.tmp 50) (.tmp 53) 28 rfl w5.heap.size 5 i0 1 Tryz.underlying28 hi hz1 w5.heap.size n (n + 8) (byteCells FR) rfl HW6.out.1 (some ⟨w6.heap.size, 0, none⟩) 1 1 [.int .u8 (T.toNat : Int)] rfl rfl (fun h => by cases h) (fun ad h => by cases h; exact hnew.out) (fun x hx => by simp at hx; subst hx; rfl) (by omega) ?_
      intro w7 ho7 hg7
      simp only [Act.put, List.setIfInBounds_toArray, List.set_cons_zero, List.set_cons_succ]
      have h57 : Below w5.heap.size w5 w7 := below_grownBy HW6.out.2 hg7 (Nat.le_refl _) (fun k hk => by injection hk with hk; omega)
      have HO7 : Hid (Below w.heap.size w w7 ∧ OwnL w7 g FR ∧ At w7 w5.heap.size 0 (FR ++ [T])) := ⟨HO5.out.1.trans (h57.mono HO5.out.1.size), HO5.out.2.below h57 HO5.out.2.lt, row_at (by simpa [byteCells] using ho7)⟩
      clear h57 ho7 hg7 hnew HW6 ho6 hb6 HL HO5
      generalize w5.heap.size = g6 at *
      generalize w6.heap.size = g7 at *
      have HD2 : Hid (Unit → _) := fun _ => Decode_is (some ⟨g6, 0, none⟩) g6 0 (n + 1) (n + 8) (FR ++ [T]) w7 (by rw [List.length_append, ← HN.out]; rfl) (by omega) (by have := HA.out; omega) (.inr rfl) HO7.out.2.2 (HM.out.2.1.below HO7.out.1 HM.out.1) true HA.out.1
      refine wpList_callW rfl (some 55) rfl 12 #[.slice (some ⟨g6, 0, none⟩) (n + 1) (n + 8)] (by kernel_rfl) (HD2.out ()) ?_
      rintro e w8 ⟨D8, v8, rfl, ⟨b8, rfl⟩, hb8⟩
      refine ⟨_, rfl, ?_⟩
      generalize hC8 : D8.cs = C8 at *
      refine wpList_runTo rfl (some 48) rfl (.tuple #[.agg C8, .iface 87 (.pointer (some ⟨b8, 0, none⟩))]) w8 (by kernel_rfl) ?_
      refine wpList_runTo rfl (some 56) rfl (.agg C8) w8 (by kernel_rfl) ?_
      refine wpList_runTo rfl (some 57) rfl (.iface 87 (.pointer (some ⟨b8, 0, none⟩))) w8 (by kernel_rfl) ?_
      refine wpList_runTo rfl (some 13) rfl (.pointer (some ⟨w8.heap.size, 0, none⟩)) (w8.alloc (.cells zeroM.cs 23)) (by kernel_rfl) ?_
      refine wpList_store_row rfl 23 (.tmp 13) (.tmp 56) rfl w8.heap.size C8 (by kernel_rfl) (by kernel_rfl) 23 _ (heap_alloc_new w8 _) (by rw [← hC8, Msg.cs_size]; kernel_rfl) (by rw [← hC8, Msg.cs_size, Msg.cs_size]) (by rw [← hC8]; exact Msg.cs_one _) ?_
      rw [World.setRow_alloc_new]
      refine wpList_runTo rfl (some 14) rfl (.iface 87 (.pointer (some ⟨b8, 0, none⟩))) (w8.alloc (.cells C8 23)) (by kernel_rfl) ?_
      refine wpList_nil ?_
      simp only [Act.put, List.setIfInBounds_toArray, List.set_cons_zero, List.set_cons_succ]
      have HO9 : Hid (Below w.heap.size w (w8.alloc (.cells C8 23)) ∧ OwnL (w8.alloc (.cells C8 23)) g FR) := by
        have h79 : Below w7.heap.size w7 (w8.alloc (.cells C8 23)) := hb8.alloc hb8.size _
        exact ⟨HO7.out.1.trans (h79.mono HO7.out.1.size), HO7.out.2.1.below h79 HO7.out.2.1.lt⟩
      clear hb8 HD2 HO7 hC8
      generalize w8.heap.size = B8 at *
      generalize w8.alloc (.cells C8 23) = w9 at *
      go_wp2_with (go_at_call 14; fail)
      refine (lent_any (some ⟨g, 0, none⟩) n n (dL FR) w9 (by have := HA.out; omega) (HO9.out.2.at_.src n HN.out)).mono ?_
      rintro e wa ⟨rfl, hoa, hba⟩
      have HOa : Hid (Below w.heap.size w wa ∧ OwnA wa w9.heap.size (n + 8) (fun j => if j < n then dL FR j else 201) ∧ w.heap.size ≤ w9.heap.size) := ⟨HO9.out.1.trans (hba.mono HO9.out.1.size), hoa, HO9.out.1.size⟩
      clear hoa hba HO9
      generalize w9.heap.size = g9 at *
      have hpz : p < n + 8 := by omega
      have hpz' : (p : Int) < (n : Int) + 8 := by omega
      have hc := HOa.out.2.1.cell p hpz
      rw [if_pos hp] at hc
      have hf := HOa.out.2.1.froz p
      have hxor := u8_xor_nat (dL FR p) T.toNat (dL_lt _ _) T.toNat_lt
      have HOb : Hid (Below w.heap.size w (wa.setCell ⟨g9, p, none⟩ (.int .u8 ((dL FR p ^^^ T.toNat : Nat) : Int))) ∧ At (wa.setCell ⟨g9, p, none⟩ (.int .u8 ((dL FR p ^^^ T.toNat : Nat) : Int))) g9 0 (tuL FR p T)) := by
        refine ⟨HOa.out.1.setCell HOa.out.2.2 _, ownA_at (HOa.out.2.1.set p _ hpz (Nat.xor_lt_two_pow (n := 8) (dL_lt _ _) T.toNat_lt)) fun j hj => ?_⟩
        rw [tuL_length, ← HN.out] at hj
        refine ⟨by omega, ?_⟩
        show (if j = p then dL FR p ^^^ T.toNat else if j < n then dL FR j else 201) = _
        by_cases e : j = p
        · rw [if_pos e, e]
          unfold tuL
          rw [dL_set_eq _ _ (by rw [← HN.out]; exact hp), UInt8.toNat_xor]
          rfl
        · rw [if_neg e, if_pos hj]
          exact (dL_set_ne _ _ e).symm
      generalize dL FR p = dp at *
      go_upto_region 13 with fail
      generalize wa.setCell ⟨g9, p, none⟩ (.int .u8 ((dp ^^^ T.toNat : Nat) : Int)) = wb at *
      have HD3 : Hid (Unit → _) := fun _ => Decode_is (some ⟨g9, 0, none⟩) g9 0 n (n + 8) (tuL FR p T) wb (by rw [tuL_length, ← HN.out]) (by omega) (by have := HA.out; omega) (.inr rfl) HOb.out.2 (HM.out.2.1.below HOb.out.1 HM.out.1) bad HCut.out.2
      clear hc hf hxor HOa
      refine wp_region_lit ?_
      refine wpList_runTo rfl (some 71) rfl (.slice (some ⟨g9, 0, none⟩) n (n + 8)) wb (by kernel_rfl) ?_
      refine wpList_callW rfl (some 72) rfl 12 #[.slice (some ⟨g9, 0, none⟩) n (n + 8)] (by kernel_rfl) (HD3.out ()) ?_
      rintro e wd ⟨Dd, vd, rfl, hEd, hbd⟩
      refine ⟨_, rfl, ?_⟩
      generalize hCd : Dd.cs = Cd at *
      refine wpList_runTo rfl (some 70) rfl (.tuple #[.agg Cd, vd]) wd (by kernel_rfl) ?_
      refine wpList_runTo rfl (some 73) rfl (.agg Cd) wd (by kernel_rfl) ?_
      refine wpList_runTo rfl (some 74) rfl vd wd (by kernel_rfl) ?_
      refine wpList_runTo rfl (some 16) rfl (.pointer (some ⟨wd.heap.size, 0, none⟩)) (wd.alloc (.cells zeroM.cs 23)) (by kernel_rfl) ?_
      refine wpList_store_row rfl 23 (.tmp 16) (.tmp 73) rfl wd.heap.size Cd (by kernel_rfl) (by kernel_rfl) 23 _ (heap_alloc_new wd _) (by rw [← hCd, Msg.cs_size]; kernel_rfl) (by rw [← hCd, Msg.cs_size, Msg.cs_size]) (by rw [← hCd]; exact Msg.cs_one _) ?_
      rw [World.setRow_alloc_new]
      refine wpList_runTo rfl (some 17) rfl vd (wd.alloc (.cells Cd 23)) (by kernel_rfl) ?_
      refine wpList_nil ?_
      simp only [Act.put, List.setIfInBounds_toArray, List.set_cons_zero, List.set_cons_succ]
      have HOe : Hid (Below w.heap.size w (wd.alloc (.cells Cd 23))) := by
        have hbe : Below wb.heap.size wb (wd.alloc (.cells Cd 23)) := hbd.alloc hbd.size _
        exact HOb.out.1.trans (hbe.mono HOb.out.1.size)
      clear hbd HD3 HOb hCd
      generalize wd.heap.size = Bd at *
      generalize wd.alloc (.cells Cd 23) = we at *
      clear hat hsg hpz hpz' hp hp' hpl hpl2 hn0 hn0' HCut HA HN
      cases bad with
      | true =>
        obtain ⟨bd, rfl⟩ := hEd
        go_wp2
        go_ret
        exact ⟨rfl, HOe.out⟩
      | false =>
        obtain rfl : vd = .nilIface := hEd
        go_wp2
        go_ret
        exact ⟨rfl, HOe.out⟩
  · have HE : Hid (Unit → _) := fun _ => Encode_no M w2 (HM.out.2.1.below HO2.out.2 HM.out.1) HM.out.2.2 h0
    rw [hcs] at HE
    have hvb : (valE M != 0) = true := by simpa using h0
    generalize valE M = VE at *
    go_upto_region 2 with fail
    refine wp_region_lit ?_
    refine wpList_loadM HO2.out.1 (.tmp 3) rfl rfl rfl ?_
    simp only [Act.put, List.setIfInBounds_toArray, List.set_cons_zero, List.set_cons_succ]
    rw [hcs]
    go_wp2_with (go_at_call 11; fail)
    refine (HE.out ()).mono ?_
    rintro e w4 ⟨rfl, hb4⟩
    have HB4 : Hid (Below w.heap.size w w4) := HO2.out.2.trans (hb4.mono HO2.out.2.size)
    clear hb4 HE HO2
    go_wp2
    go_ret
    exact ⟨rfl, HB4.out⟩
end Go.Proofs.YthadnogcocmfgaaGreatDoor
