/-
  StorePlays, the walk.
-/
import Derived.Test.YtekkckfoikpljaaSStep2
namespace Go.Proofs.Ytekkckfoikpljaa
set_option linter.unusedVariables false
set_option linter.unusedSimpArgs false
open Go.RowKit Go.Great

/-- A step that came in. -/
structure SD where
  k : Int
  on : Int
  a : Int
  b : Int
  many : Int
  M : Msg
def SD.v (s : SD) : List Value := stV s.k s.on s.a s.b s.many s.M
def StepsIn (W : World) (a : Option Addr) (n : Nat) (ss : Nat → SD) : Prop := n = 0 ∨ ∃ g off, a = some ⟨g, off, none⟩ ∧ ∀ i, i < n → W.rangeAt g (off + i * 47) (ss i).v ∧ -9223372036854775808 ≤ (ss i).on ∧ (ss i).on ≤ 9223372036854775807
theorem range_below {B : Nat} {w w' : World} {g o : Nat} {xs : List Value} (h : w.rangeAt g o xs) (hb : Below w.heap.size w w') : w'.rangeAt g o xs := fun j u hu => by
  have := h j u hu
  rw [hb.cell (p := ⟨g, o + j, none⟩) (World.block_lt_of_cell? _ _ this)]
  exact this
theorem loadSt_run {op : Oper} {a : Act} {w : World} {g o : Nat} {s : SD} (h : w.rangeAt g o s.v) (t : Operand) (ho : op.op = .load 54 t) (hx : a.eval t = .pointer (some ⟨g, o, none⟩)) : (execOp a.eval op).run Try.prog w = .ok (.value (.agg s.v.toArray)) w := by
  have hl := run_loadVar_mid (P := Try.prog) w g o 54 s.v _ h Try.underlying54 rfl (by unfold SD.v; rw [stV_len]; kernel_rfl)
  unfold execOp
  simp only [ho, hx, Instr.loadAt, Instr.sureAddr, Sem.run_bind, Sem.run_pure, Result.andThen_ok, hl]
theorem ixS_run {op : Oper} {a : Act} {g o n c i : Nat} (x y : Operand) (ho : op.op = .indexAddr 46 x y) (hx : a.eval x = .slice (some ⟨g, o, none⟩) n c) (hy : a.eval y = .int .i64 (i : Int)) (hi : i < n) (w : World) : (execOp a.eval op).run Try.prog w = .ok (.value (.pointer (some ⟨g, o + i * 47, none⟩))) w := by
  have h1 : (i : Int) < (n : Int) := by omega
  have h2 : ¬ (n : Int) ≤ (i : Int) := by omega
  unfold execOp
  simp only [ho, hx, hy]
  go_simp
theorem step_all {W w : World} {pw : Nat} {ps : List PR} {hs : List Hd} {vP vH : Value} {N : Nat} (s : SD) (h : St W w pw ps hs vP vH N) (hp0 : 0 < ps.length) (hN : N ≤ 800000) (hh : hs.length ≤ 80000) (hp1 : ps.length ≤ 80000) (ho1 : -9223372036854775808 ≤ s.on) (ho2 : s.on ≤ 9223372036854775807) :
    Calls Try.prog 15 #[.pointer (some ⟨pw, 0, none⟩), .agg s.v.toArray] w fun e w' => e = .returned (.bool true) ∧ ∃ ps' hs' vP' vH', St W w' pw ps' hs' vP' vH' (N + 300) ∧ 0 < ps'.length ∧ ps'.length ≤ ps.length + 1 ∧ hs'.length ≤ hs.length + 2 := by
  obtain ⟨k, on, a, b, many, M⟩ := s
  by_cases hk : k = 1
  · subst hk
    refine (step_new on a b many M h hp1).mono ?_
    rintro e w' ⟨rfl, ps', vP', h1, h2, h3, -⟩
    exact ⟨rfl, ps', hs, vP', vH, ⟨⟨h1.ws.blk, h1.ws.prow, h1.ws.ps.mono (by omega), h1.ws.hrow, h1.ws.hs⟩, h1.lo, h1.below⟩, by omega, h2, by omega⟩
  · refine (step_rest k on a b many M h hk hp0 hN hh hp1 ho1 ho2).mono ?_
    rintro e w' ⟨rfl, ps', hs', vH', h1, h2, h3⟩
    exact ⟨rfl, ps', hs', vP, vH', h1, by omega, by omega, h3⟩
theorem st_zero {W w : World} (hb : Below W.heap.size W w) : St W (w.alloc (.cells #[.slice none 0 0, .slice none 0 0] 51)) w.heap.size [] [] (.slice none 0 0) (.slice none 0 0) 0 :=
  ⟨⟨heap_alloc_new w _, RowAt.none0 _ _ _, ⟨fun i P h => by simp at h, fun i j P Q _ h => by simp at h⟩, RowAt.none0 _ _ _, fun x hx => by cases hx⟩,
    ⟨hb.size, fun i P h => by simp at h, (fun b hb => by cases hb), (fun b hb => by cases hb)⟩, Sm.below (Fr.alloc w _ _) hb⟩
set_option maxRecDepth 100000 in
set_option maxHeartbeats 4000000 in
theorem StorePlays_law (a0 : Option Addr) (len0 cap0 : Nat) (ss : Nat → SD) (hlen : len0 ≤ 9223372036854775807) (W : World) (hin : StepsIn W a0 len0 ss) :
    Calls Try.prog 6 #[.slice a0 len0 cap0] W fun e w' => e = .returned (.bool true) ∧ Below W.heap.size W w' := by
  have hsh := shown_any W
  have HI : Hid (StepsIn W a0 len0 ss) := hin
  clear hin
  go_enter Try.func6, Try.ntmps6
  go_upto_region 2 with (go_at_call 7; refine hsh.mono ?_; rintro e w1 ⟨rfl, hb1⟩)
  clear hsh
  have HZ : Hid _ := st_zero hb1
  clear hb1
  rename_i Kc hKc
  refine wp_region_lit ?_
  refine wpList_runTo rfl (some 9) rfl (.agg #[.slice none 0 0, .slice none 0 0]) w1 (by kernel_rfl) ?_
  simp only [Act.put, List.setIfInBounds_toArray, List.set_cons_zero, List.set_cons_succ]
  refine wpList_runTo rfl (some 10) rfl (.pointer (some ⟨w1.heap.size, 0, none⟩)) (w1.alloc (.cells #[.slice none 0 0, .slice none 0 0] 51)) (by kernel_rfl) ?_
  simp only [Act.put, List.setIfInBounds_toArray, List.set_cons_zero, List.set_cons_succ]
  refine wpList_runTo rfl (some 4) rfl (.pointer (some ⟨w1.heap.size, 0, none⟩)) (w1.alloc (.cells #[.slice none 0 0, .slice none 0 0] 51)) (by kernel_rfl) ?_
  simp only [Act.put, List.setIfInBounds_toArray, List.set_cons_zero, List.set_cons_succ]
  refine wpList_nil ?_
  refine hKc _ _ ?_
  clear hKc
  generalize w1.alloc (.cells #[.slice none 0 0, .slice none 0 0] 51) = w2 at *
  generalize w1.heap.size = pw at *
  go_upto_region 3 with fail
  rename_i Kc hKc
  refine wp_region_lit ?_
  refine wpList_runTo rfl (some 11) rfl (.pointer (some ⟨pw, 0, none⟩)) w2 (by kernel_rfl) ?_
  simp only [Act.put, List.setIfInBounds_toArray, List.set_cons_zero, List.set_cons_succ]
  refine wpList_runTo rfl (some 12) rfl (.agg (stV 1 0 3 0 0 zeroM).toArray) w2 (by kernel_rfl) ?_
  simp only [Act.put, List.setIfInBounds_toArray, List.set_cons_zero, List.set_cons_succ]
  have hst := step_new 0 3 0 0 zeroM HZ.out (by simp)
  generalize (stV 1 0 3 0 0 zeroM).toArray = sv at *
  go_wp2_with (go_at_call 15; fail)
  refine hst.mono ?_
  rintro e w3 ⟨rfl, ps1, vP1, h1, -, -, h4⟩
  have hl1 : ps1.length = 1 := h4 ⟨by decide, by decide⟩
  have hf1 := h1.ws.prow.form
  rw [hl1] at hf1
  obtain ⟨aP, cP, rfl, -⟩ := hf1
  have c0 : w3.cell? ⟨pw, 0, none⟩ = some (.slice aP 1 cP) := cell_at h1.ws.blk rfl
  have HS : Hid (∃ ps hs vP vH, St W w3 pw ps hs vP vH (300 * 0) ∧ 0 < ps.length ∧ ps.length ≤ 1 + 0 ∧ hs.length ≤ 2 * 0) := ⟨ps1, [], _, _, h1, by omega, by omega, by simp⟩
  clear hst h1 h4 hl1 HZ
  go_upto_region 7 with fail
  clear c0
  obtain ⟨T, hT1, hT2, hT3⟩ : ∃ T : Nat, (∀ j : Nat, j < T → (j : Int) < (len0 : Int) ∧ (j : Int) < 200) ∧ ¬ ((T : Int) < (len0 : Int) ∧ (T : Int) < 200) ∧ T ≤ 200 := ⟨min len0 200, fun j hj => by omega, by omega, by omega⟩
  go_loopw [6, 7] (fun x6 _ wr => ∃ j : Nat, j ≤ T ∧ x6 = .int .i64 (j : Int) ∧ Hid (∃ ps hs vP vH, St W wr pw ps hs vP vH (300 * j) ∧ 0 < ps.length ∧ ps.length ≤ 1 + j ∧ hs.length ≤ 2 * j)) (fun x6 _ _ => T - (intOf x6).toNat)
  case atStart => exact ⟨0, Nat.zero_le _, rfl, HS.out⟩
  case round =>
    obtain ⟨j, hj, rfl, HJ⟩ := hrel
    by_cases hlt : j < T
    · obtain ⟨hj1, hj2⟩ := hT1 j hlt
      have hjw : IntKind.i64.wrap ((j : Int) + 1) = (j : Int) + 1 := by rw [IntKind.wrap_i64]; omega
      rcases HI.out with h0 | ⟨g, off, ha0, hr⟩
      · omega
      subst ha0
      obtain ⟨hrg, hb1, hb2⟩ := hr j (by omega)
      obtain ⟨ps, hs, vP, vH, hst, hp0, hp1, hh⟩ := HJ.out
      have HRG : Hid (wr.rangeAt g (off + j * 47) (ss j).v) := range_below (B := 0) hrg hst.below
      have hcall := step_all (ss j) hst hp0 (by omega) (by omega) (by omega) hb1 hb2
      have HLE : Hid (ps.length ≤ 1 + j ∧ hs.length ≤ 2 * j) := ⟨hp1, hh⟩
      clear hr hrg hb1 hb2 hst hp0 hp1 hh HJ
      go_upto_region 9 with fail
      rename_i Kd hKd
      refine wp_region_lit ?_
      refine wpList_runTo rfl (some 38) rfl (.pointer (some ⟨pw, 0, none⟩)) wr (by kernel_rfl) ?_
      simp only [Act.put, List.setIfInBounds_toArray, List.set_cons_zero, List.set_cons_succ]
      refine wpList_runTo rfl (some 39) rfl (.slice (some ⟨g, off, none⟩) len0 cap0) wr (by kernel_rfl) ?_
      simp only [Act.put, List.setIfInBounds_toArray, List.set_cons_zero, List.set_cons_succ]
      refine wpList_runTo rfl (some 40) rfl (.int .i64 (j : Int)) wr (by kernel_rfl) ?_
      simp only [Act.put, List.setIfInBounds_toArray, List.set_cons_zero, List.set_cons_succ]
      refine wpList_runTo rfl (some 41) rfl (.pointer (some ⟨g, off + j * 47, none⟩)) wr (by exact ixS_run (n := len0) (c := cap0) (.tmp 39) (.tmp 40) rfl (by kernel_rfl) (by kernel_rfl) (by omega) wr) ?_
      simp only [Act.put, List.setIfInBounds_toArray, List.set_cons_zero, List.set_cons_succ]
      refine wpList_runTo rfl (some 42) rfl (.agg (ss j).v.toArray) wr (by exact loadSt_run HRG.out (.tmp 41) rfl (by kernel_rfl)) ?_
      simp only [Act.put, List.setIfInBounds_toArray, List.set_cons_zero, List.set_cons_succ]
      generalize (ss j).v.toArray = sv2 at *
      clear HRG
      go_wp2_with (go_at_call 15; fail)
      refine hcall.mono ?_
      rintro e w5 ⟨rfl, ps', hs', vP', vH', h1, h2, h3, h4⟩
      have hlk := looks_any h1.ws
      have HS5 : Hid (St W w5 pw ps' hs' vP' vH' (300 * j + 300) ∧ 0 < ps'.length ∧ ps'.length ≤ 1 + (j + 1) ∧ hs'.length ≤ 2 * (j + 1)) := ⟨h1, h2, by have := HLE.out; omega, by have := HLE.out; omega⟩
      clear h1 h2 h3 h4 hcall
      go_wp2_with (go_at_call 16; fail)
      refine hlk.mono ?_
      rintro e w6 ⟨rfl, hsm⟩
      have H6 : Hid (∃ ps hs vP vH, St W w6 pw ps hs vP vH (300 * (j + 1)) ∧ 0 < ps.length ∧ ps.length ≤ 1 + (j + 1) ∧ hs.length ≤ 2 * (j + 1)) := ⟨ps', hs', vP', vH', HS5.out.1.sm hsm, HS5.out.2⟩
      clear hlk hsm HS5
      go_wp2
      first
        | exact ⟨⟨j + 1, by omega, by go_num, H6.out⟩, by simp [intOf]; omega⟩
        | (go_roundw
           case rel => exact ⟨j + 1, by omega, by go_num, H6.out⟩
           case measure => simp [intOf]; omega)
    · obtain rfl : j = T := by omega
      obtain ⟨ps, hs, vP, vH, hst, -⟩ := HJ.out
      have HBE : Hid (Below W.heap.size W wr) := hst.below
      clear hst HJ
      by_cases hm : (j : Int) < (len0 : Int)
      · have hm2 : ¬ (j : Int) < 200 := fun e => hT2 ⟨hm, e⟩
        clear hT1 hT2
        go_wp2
        (try simp only [Exit.inBlock, Exit.then])
        go_ret
        exact ⟨rfl, HBE.out⟩
      · clear hT1 hT2
        go_wp2
        (try simp only [Exit.inBlock, Exit.then])
        go_ret
        exact ⟨rfl, HBE.out⟩
end Go.Proofs.Ytekkckfoikpljaa
