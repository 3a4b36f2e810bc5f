/-
  bin: BinOneWay, walked.
-/
import Derived.Test.YthadnogcocmfgaaGreatDoorBShown
import Derived.Test.YthadnogcocmfgaaGreatDoorOwnIn
namespace Go.Proofs.YthadnogcocmfgaaGreatDoor
set_option linter.unusedVariables false
open Go.RowKit Go.Great Go.Lib

/-- Bytes that came in, as a list. -/
def inL (d : Nat → Nat) (n : Nat) : List UInt8 := (List.range n).map fun j => UInt8.ofNat (d j)
theorem inL_length (d : Nat → Nat) (n : Nat) : (inL d n).length = n := by simp [inL]
theorem in_at {w : World} {a : Option Addr} {n : Nat} {d : Nat → Nat} (hs : Src w a n d) : ∃ g off, (n = 0 ∨ a = some ⟨g, off, none⟩) ∧ At w g off (inL d n) := by
  rcases hs with h0 | ⟨b, off, rfl, hr⟩
  · subst h0
    exact ⟨0, 0, .inl rfl, fun j c hj => by simp [inL] at hj⟩
  · refine ⟨b, off, .inr rfl, fun j c hj => ?_⟩
    have hjn : j < n := by have := (List.getElem?_eq_some_iff.1 hj).1; rwa [inL_length] at this
    obtain ⟨h1, h2⟩ := hr j hjn
    have e : c = UInt8.ofNat (d j) := by simp [inL, hjn] at hj; exact hj.symm
    rw [h1, e, u8_ofNat, Nat.mod_eq_of_lt h2]
theorem dec_isok {l : List UInt8} {M : Msg} (h : decL l = .ok M) : M.ok := by
  obtain ⟨_, _, h3, _⟩ := dec_ok h
  exact rdL_ok _ _ _ (kind_ok (dL_lt l 4)) (fun j hj => by have := (mem_js.1 hj).2.1; omega) h3
set_option maxRecDepth 100000 in
set_option maxHeartbeats 1000000 in
theorem BinOneWay_law (a : Option Addr) (n cap : Nat) (d : Nat → Nat) (hn : n ≤ 140737488351232) (hc : n ≤ cap) (ha : a = none → n = 0 ∧ cap = 0) (w : World) (hs : Src w a n d) (hM : Mon w) :
    Calls Tryz.prog 4 #[.slice a n cap] w fun e w' => e = .returned (.bool true) ∧ Below w.heap.size w w' := by
  obtain ⟨g, off, hag, hat⟩ := in_at hs
  have hln := inL_length d n
  generalize inL d n = l at *
  have HM : Hid (0 < w.heap.size ∧ Mon w ∧ n = l.length ∧ n ≤ 140737488351232 ∧ n ≤ cap ∧ (n = 0 ∨ a = some ⟨g, off, none⟩) ∧ At w g off l) := ⟨hM.lt, hM, hln.symm, hn, hc, hag, hat⟩
  clear hs ha hn hc hM hln hag hat
  go_enter Tryz.func4, Tryz.ntmps4
  go_wp2_with (go_at_call 9; fail)
  refine (shown_any w HM.out.2.1).mono ?_
  rintro e w2 ⟨rfl, hb2⟩
  have HB2 : Hid (Below w.heap.size w w2 ∧ At w2 g off l) := ⟨hb2, HM.out.2.2.2.2.2.2.below hb2 (Nat.le_refl _)⟩
  clear hb2
  have HD : Hid (Unit → _) := fun _ => Decode_any a g off n cap l w2 HM.out.2.2.1 HM.out.2.2.2.2.1 HM.out.2.2.2.1 HM.out.2.2.2.2.2.1 HB2.out.2 (HM.out.2.1.below HB2.out.1 HM.out.1)
  go_upto_region 2 with fail
  refine wp_region_lit ?_
  refine wpList_runTo rfl (some 12) rfl (.slice a n cap) w2 (by kernel_rfl) ?_
  refine wpList_callW rfl (some 13) rfl 12 #[.slice a n cap] (by kernel_rfl) (HD.out ()) ?_
  intro e w3 h3
  obtain ⟨DE, hDE, v, rfl, hE3, hb3⟩ := gen4 (p := fun X => ∃ v, e = .returned (.tuple #[.agg (decM l).cs, v]) ∧ ErrV X v w2 w3 ∧ Below w2.heap.size w2 w3) (decE l) h3
  clear h3
  refine ⟨_, rfl, ?_⟩
  generalize hDM : decM l = DM at *
  generalize hMC : DM.cs = MC at *
  refine wpList_runTo rfl (some 11) rfl (.tuple #[.agg MC, v]) w3 (by kernel_rfl) ?_
  refine wpList_runTo rfl (some 14) rfl (.agg MC) w3 (by kernel_rfl) ?_
  refine wpList_runTo rfl (some 15) rfl v w3 (by kernel_rfl) ?_
  refine wpList_runTo rfl (some 4) rfl (.pointer (some ⟨w3.heap.size, 0, none⟩)) (w3.alloc (.cells zeroM.cs 23)) (by kernel_rfl) ?_
  refine wpList_store_row rfl 23 (.tmp 4) (.tmp 14) rfl w3.heap.size MC (by kernel_rfl) (by kernel_rfl) 23 _ (heap_alloc_new w3 _) (by rw [← hMC, Msg.cs_size]; kernel_rfl) (by rw [← hMC, Msg.cs_size, Msg.cs_size]) (by rw [← hMC]; exact Msg.cs_one _) ?_
  rw [World.setRow_alloc_new]
  refine wpList_runTo rfl (some 5) rfl v (w3.alloc (.cells MC 23)) (by kernel_rfl) ?_
  refine wpList_nil ?_
  simp only [Act.put, List.setIfInBounds_toArray, List.set_cons_zero, List.set_cons_succ]
  have HO4 : Hid (Below w.heap.size w (w3.alloc (.cells MC 23)) ∧ OwnM (w3.alloc (.cells MC 23)) w3.heap.size DM ∧ At (w3.alloc (.cells MC 23)) g off l) := by
    have h24 : Below w2.heap.size w2 (w3.alloc (.cells MC 23)) := hb3.alloc hb3.size _
    exact ⟨HB2.out.1.trans (h24.mono HB2.out.1.size), by unfold OwnM; rw [hMC]; exact heap_alloc_new w3 _, HB2.out.2.below h24 (Nat.le_refl _)⟩
  clear hb3 HD HB2
  generalize hB3 : w3.heap.size = B3 at *
  generalize w3.alloc (.cells MC 23) = w4 at *
  clear hB3
  cases hdec : decL l with
  | error x =>
    have hde : DE = some x := by rw [hDE]; unfold decE; rw [hdec]
    have hdm : DM = zeroM := by rw [← hDM]; unfold decM; rw [hdec]
    subst hde
    obtain ⟨k, ek⟩ := x
    obtain ⟨b, rfl, _, _⟩ := hE3
    clear hDE hDM hdec
    subst hdm
    have hMC2 : Hid (zeroM.cs = MC) := hMC
    clear hMC
    go_upto_region 4 with fail
    refine wp_region_lit ?_
    refine wpList_runTo rfl (some 22) rfl (.bool true) w4 (by kernel_rfl) ?_
    refine wpList_runTo rfl (some 23) rfl (.bool true) w4 (by kernel_rfl) ?_
    refine wpList_loadG HO4.out.2.1 (.tmp 4) (by kernel_rfl) rfl (by kernel_rfl) ?_
    simp only [Act.put, List.setIfInBounds_toArray, List.set_cons_zero, List.set_cons_succ]
    refine wpList_runToG (by kernel_rfl) (some 25) rfl (.agg zeroM.cs) w4 (by kernel_rfl) ?_
    simp only [Act.put, List.setIfInBounds_toArray, List.set_cons_zero, List.set_cons_succ]
    refine wpList_runToG (by kernel_rfl) (some 26) rfl (.bool true) w4 (eqM_run (M := zeroM) (.tmp 24) (.tmp 25) rfl (by kernel_rfl) (by kernel_rfl) w4) ?_
    simp only [Act.put, List.setIfInBounds_toArray, List.set_cons_zero, List.set_cons_succ]
    generalize zeroM.cs = ZC at *
    refine wpList_runTo rfl (some 27) rfl (.bool true) w4 (by kernel_rfl) ?_
    refine wpList_runTo rfl (some 2) rfl (.bool true) w4 (by kernel_rfl) ?_
    refine wpList_nil ?_
    simp only [Act.put, List.setIfInBounds_toArray, List.set_cons_zero, List.set_cons_succ]
    go_wp2
    go_ret
    exact ⟨rfl, HO4.out.1⟩
  | ok M =>
    have hde : DE = none := by rw [hDE]; unfold decE; rw [hdec]
    have hdm : DM = M := by rw [← hDM]; unfold decM; rw [hdec]
    subst hde
    have hv : v = .nilIface := hE3
    subst hv
    obtain ⟨hval, hfr⟩ := one_way hdec
    have hok := dec_isok hdec
    have hl10 := (start_ok (dec_ok hdec).1).1
    clear hDE hDM hdec hE3
    subst hdm
    have HF : Hid (valE DM = 0 ∧ frameL DM = l ∧ DM.ok ∧ 10 ≤ l.length) := ⟨hval, hfr, hok, hl10⟩
    clear hval hfr hok hl10
    obtain rfl : a = some ⟨g, off, none⟩ := by
      rcases HM.out.2.2.2.2.2.1 with h | h
      · have := HF.out.2.2.2; have := HM.out.2.2.1; omega
      · exact h
    go_upto_region 5 with fail
    refine wp_region_lit ?_
    refine wpList_loadM HO4.out.2.1 (.tmp 4) rfl rfl rfl ?_
    simp only [Act.put, List.setIfInBounds_toArray, List.set_cons_zero, List.set_cons_succ]
    rw [hMC]
    have HV : Hid (Unit → Calls Tryz.prog 10 #[.agg MC] w4 fun e w' => e = .returned (.tuple #[.int .i64 0, .int .i64 (valN DM)]) ∧ Below w4.heap.size w4 w') := fun _ => by
      have := Valid_any DM w4 (HM.out.2.1.below HO4.out.1 HM.out.1) HF.out.2.2.1
      rw [HF.out.1, hMC] at this
      exact this
    go_wp2_with (go_at_call 10; fail)
    refine (HV.out ()).mono ?_
    clear HV
    rintro e w5 ⟨rfl, hb5⟩
    have HO5 : Hid (Below w.heap.size w w5 ∧ OwnM w5 B3 DM ∧ At w5 g off l) := ⟨HO4.out.1.trans (hb5.mono HO4.out.1.size), HO4.out.2.1.low hb5, HO4.out.2.2.below hb5 (Nat.le_refl _)⟩
    clear hb5 HO4
    generalize valN DM = VN at *
    have HE : Hid (Unit → Calls Tryz.prog 11 #[.agg MC] w5 fun e w' => ∃ g2, e = .returned (.tuple #[.slice (some ⟨g2, 0, none⟩) n n, .int .i64 0]) ∧ OwnL w' g2 l ∧ w5.heap.size ≤ g2 ∧ Below w5.heap.size w5 w') := fun _ => by
      have := Encode_yes DM w5 (HM.out.2.1.below HO5.out.1 HM.out.1) HF.out.2.2.1 HF.out.1
      rw [HF.out.2.1, ← HM.out.2.2.1, hMC] at this
      exact this
    go_upto_region 6 with fail
    refine wp_region_lit ?_
    refine wpList_loadM HO5.out.2.1 (.tmp 4) rfl rfl rfl ?_
    simp only [Act.put, List.setIfInBounds_toArray, List.set_cons_zero, List.set_cons_succ]
    rw [hMC]
    go_wp2_with (go_at_call 11; fail)
    refine (HE.out ()).mono ?_
    clear HE
    rintro e w6 ⟨g2, rfl, ho6, _, hb6⟩
    have hc1 := conv_at (cap := cap) (HO5.out.2.2.below hb6 (Nat.le_refl _)) n HM.out.2.2.1
    have hc2 := conv_at (cap := n) ho6.at_ n HM.out.2.2.1
    have HB6 : Hid (Below w.heap.size w w6) := HO5.out.1.trans (hb6.mono HO5.out.1.size)
    clear ho6 hb6 HO5 hMC
    generalize (ByteArray.mk l.toArray) = LS at *
    go_wp2
    go_ret
    exact ⟨ret_bool (by simp), HB6.out⟩
end Go.Proofs.YthadnogcocmfgaaGreatDoor
