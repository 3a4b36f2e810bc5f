/-
  HeapPlays: the walk.
-/
import Derived.Test.YtdnhhcbabdoomaaHP11a
import Derived.Test.YtdnhhcbabdoomaaHShown
namespace Go.Proofs.Ytdnhhcbabdoomaa
set_option linter.unusedVariables false
set_option linter.unusedSimpArgs false
open Go.RowKit Go.Great
attribute [local irreducible] wpList

theorem lenD_run {op : Oper} {a : Act} {ao : Option Addr} {n c : Nat} (x : Operand) (ho : op.op = .call { callee := .builtin .len, args := #[x], argTypes := #[82] }) (hx : a.eval x = .slice ao n c) (w : World) : (execOp a.eval op).run Try.prog w = .ok (.value (.int .i64 (n : Int))) w := by
  unfold execOp
  simp only [ho, resolve, invoke, builtin, Sem.run_bind, Sem.run_pure, Result.andThen_ok, List.map_toArray, List.map_cons, List.map_nil, hx]
  go_simp
theorem ltK_run {op : Oper} {a : Act} {p q : Int} (x y : Operand) (ho : op.op = .binOp .lss 3 x y 3) (hx : a.eval x = .int .i64 p) (hy : a.eval y = .int .i64 q) (w : World) : (execOp a.eval op).run Try.prog w = .ok (.value (.bool (decide (p < q)))) w := by
  unfold execOp
  simp only [ho, hx, hy]
  go_simp
set_option maxRecDepth 100000 in
set_option maxHeartbeats 8000000 in
theorem HeapPlays_law (a0 : Option Addr) (n c0 : Nat) (t : Nat → Dd) (hn : n ≤ maxLen) (w : World) (hs : SrcD w a0 n t) :
    Calls Try.prog 7 #[.slice a0 n c0] w fun e w' => e = .returned (.bool true) ∧ Below w.heap.size w w' := by
  have HS : Hid (SrcD w a0 n t ∧ n ≤ maxLen) := ⟨hs, hn⟩
  have hsh := shown_any w
  clear hs hn
  go_enter Try.func7, Try.ntmps7
  go_wp2_with (go_at_call 8; fail)
  refine hsh.mono ?_
  rintro e w1 ⟨rfl, hf1⟩
  have HF1 : Hid (Fr w w1 (fun _ => False)) := hf1
  clear hf1 hsh
  go_upto_region 3 with fail
  have HM : Hid (MW w (w1.alloc (.cells #[.pointer none, .pointer none, .pointer none, .pointer none, .pointer none, .pointer none, .slice none 0 0, .slice none 0 0] 89)) w1.heap.size 0 0 (fun _ => 0) (fun _ => 0)) := by
    have f := HF1.out.trans (Fr.alloc w1 (.cells #[.pointer none, .pointer none, .pointer none, .pointer none, .pointer none, .pointer none, .slice none 0 0, .slice none 0 0] 89) (fun _ => False)) (e3 := fun b => w.heap.size ≤ b) fun _ _ q => by rcases q with q | q <;> exact q.elim
    refine ⟨fun k hk => (by omega), fun k hk => (by omega), ⟨_, Blk.new _ _ _, rfl, fun k hk => (by omega), fun k hk => (by omega), fun k hk => ?_, rfl, rfl⟩, HF1.out.size, fun k hk => (by omega), fun a b _ hb => (by omega), fun a b _ hb => (by omega), f⟩
    obtain rfl | rfl | rfl | rfl | rfl | rfl : k = 0 ∨ k = 1 ∨ k = 2 ∨ k = 3 ∨ k = 4 ∨ k = 5 := by omega
    all_goals exact ⟨_, rfl⟩
  generalize w1.alloc (.cells #[.pointer none, .pointer none, .pointer none, .pointer none, .pointer none, .pointer none, .slice none 0 0, .slice none 0 0] 89) = w2 at *
  generalize w1.heap.size = wb at *
  clear HF1
  go_wp2
  go_loopw [5] (fun x5 wr => ∃ i : Nat, i ≤ 3 ∧ x5 = .int .i64 (i : Int) ∧ Hid (∃ h r, MW w wr wb i i h r)) (fun x5 _ => 3 - (RowKit.intOf x5).toNat)
  case atStart =>
    exact ⟨0, by decide, rfl, ⟨_, _, HM.out⟩⟩
  case round =>
    clear HM
    obtain ⟨i, hi3, rfl, HQ⟩ := hrel
    by_cases hlt : i < 3
    · have hii : (i : Int) < 3 := by omega
      have hib : (i : Int) + 1 < 9223372036854775808 := by omega

      obtain ⟨h, r, hR⟩ := HQ.out
      have HR : Hid (MW w wr wb i i h r) := hR
      clear hR HQ
      go_upto_region 6 with fail
      rename_i K hK
      refine wp_region_held (S := fun _ => True) (by kernel_rfl) ?_
      change wpAnyH _ _ _ _ _ _ _ _ (World.drew _)
      have fd : Fr wr wr.drew (fun _ => False) := (Fr.refl wr _).drew
      generalize wr.drew = Wd at *
      have hS : True := trivial
      refine takeR (i := 0) (v := ptr wb) (some 15) rfl rfl (by kernel_rfl) (by kernel_rfl) (by kernel_rfl) (fun _ _ _ h => h) (Or.inl ⟨by kernel_rfl, fun w' hSw => by kernel_rfl⟩) hS ?_
      simp only [Act.put, List.setIfInBounds_toArray, List.set_cons_zero, List.set_cons_succ]
      refine takeR (i := 1) (v := .int .i64 (i : Int)) (some 16) rfl rfl (by kernel_rfl) (by kernel_rfl) (by kernel_rfl) (fun _ _ _ h => h) (Or.inl ⟨by kernel_rfl, fun w' hSw => by kernel_rfl⟩) hS ?_
      simp only [Act.put, List.setIfInBounds_toArray, List.set_cons_zero, List.set_cons_succ]
      refine takeR (i := 2) (v := .int .i64 (i : Int)) (some 17) rfl rfl (by kernel_rfl) (by kernel_rfl) (by kernel_rfl) (fun _ _ _ h => h) (Or.inl ⟨by kernel_rfl, fun w' hSw => by kernel_rfl⟩) hS ?_
      simp only [Act.put, List.setIfInBounds_toArray, List.set_cons_zero, List.set_cons_succ]
      refine takeR (i := 4) (v := ptr wb) (some 19) rfl rfl (by kernel_rfl) (by kernel_rfl) (by kernel_rfl) (fun _ _ _ h => h) (Or.inl ⟨by kernel_rfl, fun w' hSw => by kernel_rfl⟩) hS ?_
      simp only [Act.put, List.setIfInBounds_toArray, List.set_cons_zero, List.set_cons_succ]
      refine takeR (i := 5) (v := .pointer (some ⟨wb, 0, none⟩)) (some 20) rfl rfl (by kernel_rfl) (by kernel_rfl) (by kernel_rfl) (fun _ _ _ h => h) (Or.inl ⟨by kernel_rfl, fun w' hSw => by kernel_rfl⟩) hS ?_
      simp only [Act.put, List.setIfInBounds_toArray, List.set_cons_zero, List.set_cons_succ]
      refine wpAnyH_ready (rs := [3]) (by kernel_rfl) (by simp) ?_
      refine AllReadyH.cons rfl (fun K1 hK1 => ?_) AllReadyH.nil
      rw [if_pos (by kernel_rfl)]
      refine callR (d := some 18) rfl 10 #[.int .i64 (i : Int)] (by kernel_rfl) (made_O (B := w.heap.size) i (i : Int) rfl hlt _ (by have := HR.out.fr.size; have := fd.size; omega)) ?_
      rintro ee W1 ⟨rfl, h1, f1⟩
      refine ⟨_, rfl, ?_⟩
      obtain ⟨ph, hph⟩ : ∃ b, b = Wd.heap.size := ⟨_, rfl⟩
      rw [← hph] at h1 ⊢
      have f2 : Fr wr W1 (fun _ => False) := fd.trans f1 fun _ _ q => by rcases q with q | q <;> exact q
      have hle : wr.heap.size ≤ ph := by rw [hph]; exact fd.size
      clear fd f1 hph
      refine hK1.out _ _ hS (fun _ => ?_)
      clear hK1
      simp only [Act.put, List.setIfInBounds_toArray, List.set_cons_zero, List.set_cons_succ]
      refine takeR (i := 6) (v := .pointer (some ⟨wb, 0 + i, none⟩)) (some 21) rfl rfl (by kernel_rfl) (by kernel_rfl) (by kernel_rfl) (fun _ _ _ h => h) (Or.inl ⟨by kernel_rfl, fun w' hSw => by exact ixW_run (.inl rfl) (.tmp 20) (.tmp 16) rfl (by kernel_rfl) (by kernel_rfl) hlt _⟩) hS ?_
      simp only [Act.put, List.setIfInBounds_toArray, List.set_cons_zero, List.set_cons_succ]
      refine wpAnyH_ready (rs := [7]) (by kernel_rfl) (by simp) ?_
      refine AllReadyH.cons rfl (fun K1 hK1 => ?_) AllReadyH.nil
      rw [if_pos (by kernel_rfl)]
      obtain ⟨cs, hb, h8, q1, q2, q3, q4, q5⟩ := (HR.out.sm f2).bw
      obtain ⟨p0, hp0⟩ := q3 (0 + i) (by omega)
      refine skipR (d := none) rfl (w' := W1.setCell ⟨wb, 0 + i, none⟩ (ptr ph)) (stP_run (.inl rfl) (.tmp 21) (.tmp 18) rfl (by kernel_rfl) (by kernel_rfl) ((hb.cell _).trans hp0) (hb.frozen _)) ?_
      clear hb h8 q1 q2 q3 q4 q5 hp0 cs p0
      have HR2 : Hid (MW w (W1.setCell ⟨wb, 0 + i, none⟩ (ptr ph)) wb (i + 1) i (fset h i ph) r) := by
        have := HR.out.addH hlt f2 h1 hle
        rw [show (0 + i : Nat) = i by omega]
        exact this
      clear h1 f2 hle HR
      generalize W1.setCell ⟨wb, 0 + i, none⟩ (ptr ph) = W2 at *
      refine hK1.out _ _ hS (fun _ => ?_)
      clear hK1
      simp only [Act.put, List.setIfInBounds_toArray, List.set_cons_zero, List.set_cons_succ]
      refine wpAnyH_done (by kernel_rfl) ?_ _
      clear hS
      refine hK _ _ ?_
      clear hK
      go_upto_region 7 with fail
      rename_i K hK
      refine wp_region_held (S := fun _ => True) (by kernel_rfl) ?_
      change wpAnyH _ _ _ _ _ _ _ _ (World.drew _)
      have fd : Fr W2 W2.drew (fun _ => False) := (Fr.refl W2 _).drew
      generalize W2.drew = Wd at *
      have hS : True := trivial
      refine takeR (i := 0) (v := ptr wb) (some 22) rfl rfl (by kernel_rfl) (by kernel_rfl) (by kernel_rfl) (fun _ _ _ h => h) (Or.inl ⟨by kernel_rfl, fun w' hSw => by kernel_rfl⟩) hS ?_
      simp only [Act.put, List.setIfInBounds_toArray, List.set_cons_zero, List.set_cons_succ]
      refine takeR (i := 1) (v := .int .i64 (i : Int)) (some 23) rfl rfl (by kernel_rfl) (by kernel_rfl) (by kernel_rfl) (fun _ _ _ h => h) (Or.inl ⟨by kernel_rfl, fun w' hSw => by kernel_rfl⟩) hS ?_
      simp only [Act.put, List.setIfInBounds_toArray, List.set_cons_zero, List.set_cons_succ]
      refine takeR (i := 2) (v := .int .i64 (i : Int)) (some 24) rfl rfl (by kernel_rfl) (by kernel_rfl) (by kernel_rfl) (fun _ _ _ h => h) (Or.inl ⟨by kernel_rfl, fun w' hSw => by kernel_rfl⟩) hS ?_
      simp only [Act.put, List.setIfInBounds_toArray, List.set_cons_zero, List.set_cons_succ]
      refine takeR (i := 4) (v := ptr wb) (some 26) rfl rfl (by kernel_rfl) (by kernel_rfl) (by kernel_rfl) (fun _ _ _ h => h) (Or.inl ⟨by kernel_rfl, fun w' hSw => by kernel_rfl⟩) hS ?_
      simp only [Act.put, List.setIfInBounds_toArray, List.set_cons_zero, List.set_cons_succ]
      refine takeR (i := 5) (v := .pointer (some ⟨wb, 3, none⟩)) (some 27) rfl rfl (by kernel_rfl) (by kernel_rfl) (by kernel_rfl) (fun _ _ _ h => h) (Or.inl ⟨by kernel_rfl, fun w' hSw => by kernel_rfl⟩) hS ?_
      simp only [Act.put, List.setIfInBounds_toArray, List.set_cons_zero, List.set_cons_succ]
      refine wpAnyH_ready (rs := [3]) (by kernel_rfl) (by simp) ?_
      refine AllReadyH.cons rfl (fun K1 hK1 => ?_) AllReadyH.nil
      rw [if_pos (by kernel_rfl)]
      refine callR (d := some 25) rfl 40 #[.int .i64 (i : Int)] (by kernel_rfl) (rNew_any i (i : Int) rfl _) ?_
      rintro ee W3 ⟨rfl, h1, f1⟩
      refine ⟨_, rfl, ?_⟩
      obtain ⟨pr, hpr⟩ : ∃ b, b = Wd.heap.size := ⟨_, rfl⟩
      rw [← hpr] at h1 ⊢
      have f2 : Fr W2 W3 (fun _ => False) := fd.trans f1 fun _ _ q => by rcases q with q | q <;> exact q
      have hle : W2.heap.size ≤ pr := by rw [hpr]; exact fd.size
      clear fd f1 hpr
      refine hK1.out _ _ hS (fun _ => ?_)
      clear hK1
      simp only [Act.put, List.setIfInBounds_toArray, List.set_cons_zero, List.set_cons_succ]
      refine takeR (i := 6) (v := .pointer (some ⟨wb, 3 + i, none⟩)) (some 28) rfl rfl (by kernel_rfl) (by kernel_rfl) (by kernel_rfl) (fun _ _ _ h => h) (Or.inl ⟨by kernel_rfl, fun w' hSw => by exact ixW_run (.inr rfl) (.tmp 27) (.tmp 23) rfl (by kernel_rfl) (by kernel_rfl) hlt _⟩) hS ?_
      simp only [Act.put, List.setIfInBounds_toArray, List.set_cons_zero, List.set_cons_succ]
      refine wpAnyH_ready (rs := [7]) (by kernel_rfl) (by simp) ?_
      refine AllReadyH.cons rfl (fun K1 hK1 => ?_) AllReadyH.nil
      rw [if_pos (by kernel_rfl)]
      obtain ⟨cs, hb, h8, q1, q2, q3, q4, q5⟩ := (HR2.out.sm f2).bw
      obtain ⟨p0, hp0⟩ := q3 (3 + i) (by omega)
      refine skipR (d := none) rfl (w' := W3.setCell ⟨wb, 3 + i, none⟩ (ptr pr)) (stP_run (.inr rfl) (.tmp 28) (.tmp 25) rfl (by kernel_rfl) (by kernel_rfl) ((hb.cell _).trans hp0) (hb.frozen _)) ?_
      clear hb h8 q1 q2 q3 q4 q5 hp0 cs p0
      have HR4 : Hid (MW w (W3.setCell ⟨wb, 3 + i, none⟩ (ptr pr)) wb (i + 1) (i + 1) (fset h i ph) (fset r i pr)) := HR2.out.addR hlt (by omega) f2 h1 hle
      clear h1 f2 hle HR2
      generalize W3.setCell ⟨wb, 3 + i, none⟩ (ptr pr) = W4 at *
      refine hK1.out _ _ hS (fun _ => ?_)
      clear hK1
      simp only [Act.put, List.setIfInBounds_toArray, List.set_cons_zero, List.set_cons_succ]
      refine wpAnyH_done (by kernel_rfl) ?_ _
      clear hS
      refine hK _ _ ?_
      clear hK
      go_upto_region 8 with fail
      have hc8 : W4.cell? ⟨wb, 0 + i, none⟩ = some (ptr ph) := by
        obtain ⟨cs, hb, _, q1, _⟩ := HR4.out.bw
        have := q1 i (by omega)
        rw [fset_eq] at this
        rw [show (0 + i : Nat) = i by omega]
        exact (hb.cell i).trans this
      rename_i K hK
      refine wp_region_lit ?_
      refine wpList_runTo rfl (some 29) rfl (ptr wb) W4 (by kernel_rfl) ?_
      simp only [Act.put, List.setIfInBounds_toArray, List.set_cons_zero, List.set_cons_succ]
      refine wpList_runTo rfl (some 30) rfl (.int .i64 (i : Int)) W4 (by kernel_rfl) ?_
      simp only [Act.put, List.setIfInBounds_toArray, List.set_cons_zero, List.set_cons_succ]
      refine wpList_runTo rfl (some 31) rfl (ptr wb) W4 (by kernel_rfl) ?_
      simp only [Act.put, List.setIfInBounds_toArray, List.set_cons_zero, List.set_cons_succ]
      refine wpList_runTo rfl (some 32) rfl (.pointer (some ⟨wb, 0, none⟩)) W4 (by kernel_rfl) ?_
      simp only [Act.put, List.setIfInBounds_toArray, List.set_cons_zero, List.set_cons_succ]
      refine wpList_runTo rfl (some 33) rfl (.pointer (some ⟨wb, 0 + i, none⟩)) W4 (by exact ixW_run (.inl rfl) (.tmp 32) (.tmp 30) rfl (by kernel_rfl) (by kernel_rfl) hlt _) ?_
      simp only [Act.put, List.setIfInBounds_toArray, List.set_cons_zero, List.set_cons_succ]
      refine wpList_runTo rfl (some 34) rfl (ptr ph) W4 (by exact ldC_run (by unfold LC; simp) (.tmp 33) rfl (by kernel_rfl) (hc8)) ?_
      simp only [Act.put, List.setIfInBounds_toArray, List.set_cons_zero, List.set_cons_succ]
      refine wpList_runTo rfl (some 35) rfl (.bool false) W4 (by exact eqNil_run (g := ph) (.tmp 34) (.const (.pointer none)) rfl (by kernel_rfl) (by kernel_rfl) _) ?_
      simp only [Act.put, List.setIfInBounds_toArray, List.set_cons_zero, List.set_cons_succ]
      refine wpList_nil ?_
      refine hK _ _ ?_
      clear hK
      clear hc8
      go_wp2
      exact ⟨⟨i + 1, by omega, by go_num, ⟨_, _, HR4.out⟩⟩, by simp [RowKit.intOf]; omega⟩
    · skip
      have hii : ¬ (i : Int) < 3 := by omega
      have hi : i = 3 := by omega
      subst hi
      obtain ⟨h, r, hR⟩ := HQ.out
      have HP : Hid (∃ S col, PW w wr wb S col ∧ S.C.length ≤ 3 * 0) := ⟨_, _, hR.pw, Nat.zero_le _⟩
      clear hR HQ
      go_wp2
      go_loopw [6] (fun x6 wr => ∃ i : Nat, i ≤ 500 ∧ x6 = .int .i64 (i : Int) ∧ Hid (∃ S col, PW w wr wb S col ∧ S.C.length ≤ 3 * i)) (fun x6 _ => 500 - (RowKit.intOf x6).toNat)
      case atStart =>
        exact ⟨0, by decide, rfl, HP.out⟩
      case round =>
        clear HP
        obtain ⟨i, hi5, rfl, HQ⟩ := hrel
        obtain ⟨S, col, hP, hC⟩ := HQ.out
        have HR : Hid (PW w wr wb S col ∧ S.C.length ≤ 3 * i) := ⟨hP, hC⟩
        clear hP hC HQ
        by_cases h1 : (i : Int) < (n : Int)
        · by_cases h2 : (i : Int) < (500 : Int)
          · have hib : (i : Int) + 1 < 9223372036854775808 := by omega
            have hin : i < n := by omega
            obtain ⟨b, off, rfl, hd⟩ := (HS.out.1.below (below_of HR.out.1.fr)).resolve_left (by omega)
            have hrg := SrcD.rng hd hin
            obtain ⟨_, _, bo, bi, bn, _, _⟩ := hd i hin
            have HD : Hid (i64B (t i).o ∧ i64B (t i).i ∧ i64B (t i).n) := ⟨bo, bi, bn⟩
            clear bo bi bn hd
            go_upto_region 13 with fail
            rename_i K hK
            refine wp_region_lit ?_
            refine wpList_runTo rfl (some 38) rfl (.int .i64 (i : Int)) wr (by kernel_rfl) ?_
            simp only [Act.put, List.setIfInBounds_toArray, List.set_cons_zero, List.set_cons_succ]
            refine wpList_runTo rfl (some 39) rfl (.slice (some ⟨b, off, none⟩) n c0) wr (by kernel_rfl) ?_
            simp only [Act.put, List.setIfInBounds_toArray, List.set_cons_zero, List.set_cons_succ]
            refine wpList_runTo rfl (some 40) rfl (.int .i64 (n : Int)) wr (by exact lenD_run (ao := (some ⟨b, off, none⟩)) (c := c0) (.tmp 39) rfl (by kernel_rfl) _) ?_
            simp only [Act.put, List.setIfInBounds_toArray, List.set_cons_zero, List.set_cons_succ]
            refine wpList_runTo rfl (some 41) rfl (.bool (decide ((i : Int) < (n : Int)))) wr (by exact ltK_run (.tmp 38) (.tmp 40) rfl (by kernel_rfl) (by kernel_rfl) _) ?_
            simp only [Act.put, List.setIfInBounds_toArray, List.set_cons_zero, List.set_cons_succ]
            rw [show decide ((i : Int) < (n : Int)) = true from decide_eq_true h1]
            refine wpList_runTo rfl (some 42) rfl (.bool true) wr (by kernel_rfl) ?_
            simp only [Act.put, List.setIfInBounds_toArray, List.set_cons_zero, List.set_cons_succ]
            refine wpList_runToG (by kernel_rfl) (some 43) rfl (.int .i64 (i : Int)) wr (by kernel_rfl) ?_
            simp only [Act.put, List.setIfInBounds_toArray, List.set_cons_zero, List.set_cons_succ]
            refine wpList_runToG (by kernel_rfl) (some 44) rfl (.bool (decide ((i : Int) < (500 : Int)))) wr (by exact ltK_run (.tmp 43) (.const (.int .i64 500)) rfl (by kernel_rfl) (by kernel_rfl) _) ?_
            simp only [Act.put, List.setIfInBounds_toArray, List.set_cons_zero, List.set_cons_succ]
            rw [show decide ((i : Int) < (500 : Int)) = true from decide_eq_true h2]
            refine wpList_runTo rfl (some 45) rfl (.bool true) wr (by kernel_rfl) ?_
            simp only [Act.put, List.setIfInBounds_toArray, List.set_cons_zero, List.set_cons_succ]
            refine wpList_nil ?_
            refine hK _ _ ?_
            clear hK
            go_upto_region 15 with fail
            rename_i K hK
            refine wp_region_lit ?_
            refine wpList_runTo rfl (some 48) rfl (ptr wb) wr (by kernel_rfl) ?_
            simp only [Act.put, List.setIfInBounds_toArray, List.set_cons_zero, List.set_cons_succ]
            refine wpList_runTo rfl (some 49) rfl (.slice (some ⟨b, off, none⟩) n c0) wr (by kernel_rfl) ?_
            simp only [Act.put, List.setIfInBounds_toArray, List.set_cons_zero, List.set_cons_succ]
            refine wpList_runTo rfl (some 50) rfl (.int .i64 (i : Int)) wr (by kernel_rfl) ?_
            simp only [Act.put, List.setIfInBounds_toArray, List.set_cons_zero, List.set_cons_succ]
            refine wpList_runTo rfl (some 51) rfl (.pointer (some ⟨b, off + i * 6, none⟩)) wr (by exact ixD_run (c := c0) (.tmp 49) (.tmp 50) rfl (by kernel_rfl) (by kernel_rfl) hin _) ?_
            simp only [Act.put, List.setIfInBounds_toArray, List.set_cons_zero, List.set_cons_succ]
            refine wpList_runTo rfl (some 52) rfl (.agg (t i).cs) wr (by exact ldT_run (cs := (t i).cs) hrg Try.underlying93 rfl infoStS (.tmp 51) rfl (by kernel_rfl)) ?_
            simp only [Act.put, List.setIfInBounds_toArray, List.set_cons_zero, List.set_cons_succ]
            refine wpList_callW rfl (some 53) rfl 41 #[ptr wb, .agg (t i).cs] (by kernel_rfl) (step_any HR.out.1 (t i).d (t i).o (t i).i (t i).n ⟨(t i).k, (t i).g⟩ HD.out.1 HD.out.2.1 HD.out.2.2 (by have := HR.out.2; omega)) ?_
            rintro ee W2 ⟨rfl, HN⟩
            refine ⟨_, rfl, ?_⟩
            simp only [Act.put, List.setIfInBounds_toArray, List.set_cons_zero, List.set_cons_succ]
            refine wpList_runTo rfl (some 7) rfl (.bool true) W2 (by kernel_rfl) ?_
            simp only [Act.put, List.setIfInBounds_toArray, List.set_cons_zero, List.set_cons_succ]
            refine wpList_nil ?_
            refine hK _ _ ?_
            clear hK
            have HZ : Hid (∃ S col, PW w W2 wb S col ∧ S.C.length ≤ 3 * (i + 1)) := by
              obtain ⟨S5, col5, p5, hh5, hr5, ln5, ow5, fr5⟩ := HN.out
              exact ⟨S5, col5, p5, by have := HR.out.2; omega⟩
            clear HN HR HD hrg HS
            go_wp2
            exact ⟨⟨i + 1, by omega, by go_num, HZ.out⟩, by simp [RowKit.intOf]; omega⟩
          · have hib : (i : Int) = 500 := by omega
            go_upto_region 13 with fail
            rename_i K hK
            refine wp_region_lit ?_
            refine wpList_runTo rfl (some 38) rfl (.int .i64 (i : Int)) wr (by kernel_rfl) ?_
            simp only [Act.put, List.setIfInBounds_toArray, List.set_cons_zero, List.set_cons_succ]
            refine wpList_runTo rfl (some 39) rfl (.slice a0 n c0) wr (by kernel_rfl) ?_
            simp only [Act.put, List.setIfInBounds_toArray, List.set_cons_zero, List.set_cons_succ]
            refine wpList_runTo rfl (some 40) rfl (.int .i64 (n : Int)) wr (by exact lenD_run (ao := a0) (c := c0) (.tmp 39) rfl (by kernel_rfl) _) ?_
            simp only [Act.put, List.setIfInBounds_toArray, List.set_cons_zero, List.set_cons_succ]
            refine wpList_runTo rfl (some 41) rfl (.bool (decide ((i : Int) < (n : Int)))) wr (by exact ltK_run (.tmp 38) (.tmp 40) rfl (by kernel_rfl) (by kernel_rfl) _) ?_
            simp only [Act.put, List.setIfInBounds_toArray, List.set_cons_zero, List.set_cons_succ]
            rw [show decide ((i : Int) < (n : Int)) = true from decide_eq_true h1]
            refine wpList_runTo rfl (some 42) rfl (.bool true) wr (by kernel_rfl) ?_
            simp only [Act.put, List.setIfInBounds_toArray, List.set_cons_zero, List.set_cons_succ]
            refine wpList_runToG (by kernel_rfl) (some 43) rfl (.int .i64 (i : Int)) wr (by kernel_rfl) ?_
            simp only [Act.put, List.setIfInBounds_toArray, List.set_cons_zero, List.set_cons_succ]
            refine wpList_runToG (by kernel_rfl) (some 44) rfl (.bool (decide ((i : Int) < (500 : Int)))) wr (by exact ltK_run (.tmp 43) (.const (.int .i64 500)) rfl (by kernel_rfl) (by kernel_rfl) _) ?_
            simp only [Act.put, List.setIfInBounds_toArray, List.set_cons_zero, List.set_cons_succ]
            rw [show decide ((i : Int) < (500 : Int)) = false from decide_eq_false h2]
            refine wpList_runTo rfl (some 45) rfl (.bool false) wr (by kernel_rfl) ?_
            simp only [Act.put, List.setIfInBounds_toArray, List.set_cons_zero, List.set_cons_succ]
            refine wpList_nil ?_
            refine hK _ _ ?_
            clear hK
            have HB : Hid (Below w.heap.size w wr) := below_of HR.out.1.fr
            clear HR
            go_wp2
            go_ret
            exact ⟨rfl, HB.out⟩
        · skip
          go_upto_region 13 with fail
          rename_i K hK
          refine wp_region_lit ?_
          refine wpList_runTo rfl (some 38) rfl (.int .i64 (i : Int)) wr (by kernel_rfl) ?_
          simp only [Act.put, List.setIfInBounds_toArray, List.set_cons_zero, List.set_cons_succ]
          refine wpList_runTo rfl (some 39) rfl (.slice a0 n c0) wr (by kernel_rfl) ?_
          simp only [Act.put, List.setIfInBounds_toArray, List.set_cons_zero, List.set_cons_succ]
          refine wpList_runTo rfl (some 40) rfl (.int .i64 (n : Int)) wr (by exact lenD_run (ao := a0) (c := c0) (.tmp 39) rfl (by kernel_rfl) _) ?_
          simp only [Act.put, List.setIfInBounds_toArray, List.set_cons_zero, List.set_cons_succ]
          refine wpList_runTo rfl (some 41) rfl (.bool (decide ((i : Int) < (n : Int)))) wr (by exact ltK_run (.tmp 38) (.tmp 40) rfl (by kernel_rfl) (by kernel_rfl) _) ?_
          simp only [Act.put, List.setIfInBounds_toArray, List.set_cons_zero, List.set_cons_succ]
          rw [show decide ((i : Int) < (n : Int)) = false from decide_eq_false h1]
          refine wpList_runTo rfl (some 42) rfl (.bool false) wr (by kernel_rfl) ?_
          simp only [Act.put, List.setIfInBounds_toArray, List.set_cons_zero, List.set_cons_succ]
          refine wpList_skipG (by kernel_rfl) ?_
          simp only [Act.put, List.setIfInBounds_toArray, List.set_cons_zero, List.set_cons_succ]
          refine wpList_skipG (by kernel_rfl) ?_
          simp only [Act.put, List.setIfInBounds_toArray, List.set_cons_zero, List.set_cons_succ]
          refine wpList_runTo rfl (some 45) rfl (.bool false) wr (by kernel_rfl) ?_
          simp only [Act.put, List.setIfInBounds_toArray, List.set_cons_zero, List.set_cons_succ]
          refine wpList_nil ?_
          refine hK _ _ ?_
          clear hK
          have HB : Hid (Below w.heap.size w wr) := below_of HR.out.1.fr
          clear HR
          go_wp2
          go_ret
          exact ⟨rfl, HB.out⟩
end Go.Proofs.Ytdnhhcbabdoomaa
