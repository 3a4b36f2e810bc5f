/-
  auction's law: whether the fills are fair to one side.
-/
import Derived.Test.YtbhddfcdnpidkaaV33
namespace Go.Proofs.Ytbhddfcdnpidkaa
set_option linter.unusedVariables false
set_option linter.unusedSimpArgs false
open Go.RowKit Go.Great
attribute [local irreducible] wpList

theorem geV_run {op : Oper} {a : Act} {p q : Int} {r : Bool} (x y : Operand) (ho : op.op = .binOp .geq 2 x y 2) (hx : a.eval x = .int .i64 p) (hy : a.eval y = .int .i64 q) (hr : decide (q ≤ p) = r) (w : World) : (execOp a.eval op).run Try.prog w = .ok (.value (.bool r)) w := by
  subst hr
  unfold execOp
  simp only [ho, hx, hy]
  go_simp
theorem leV_run {op : Oper} {a : Act} {p q : Int} {r : Bool} (x y : Operand) (ho : op.op = .binOp .leq 2 x y 2) (hx : a.eval x = .int .i64 p) (hy : a.eval y = .int .i64 q) (hr : decide (p ≤ q) = r) (w : World) : (execOp a.eval op).run Try.prog w = .ok (.value (.bool r)) w := by
  subst hr
  unfold execOp
  simp only [ho, hx, hy]
  go_simp
theorem row_rangeO {w : World} {g o c i n : Nat} {l : List Od} {p : Od} (h : RowAt w 42 15 (.slice (some ⟨g, o, none⟩) n c) n (flatL (fun o => o.cs.toList) l)) (hok : ∀ o ∈ l, o.ok) (hp : l[i]? = some p) : w.rangeAt g (o + i * 15) p.cs.toList := fun j u hu => by
  have hj : j < 15 := by
    have := (List.getElem?_eq_some_iff.1 hu).1
    rw [Array.length_toList, (hok p (List.mem_of_getElem? hp)).sz] at this
    exact this
  have := od_cell h hok hp hj (u := u) (by rw [← Array.getElem?_toList]; exact hu)
  exact this
set_option maxRecDepth 100000 in
set_option maxHeartbeats 8000000 in
theorem fairL_any {w : World} {l : List Od} {F : List Fl} {a af : Option Addr} {c cf : Nat} (buy : Bool) (p : Int) (hr : RowAt w 42 15 (.slice a l.length c) l.length (flatL (fun o => o.cs.toList) l)) (hok : ∀ o ∈ l, o.ok) (hl : l.length ≤ 1000000000000) (hf : RowAt w 39 5 (.slice af F.length cf) F.length (flatL flL F)) (hq : ∀ f ∈ F, 1 ≤ f.q ∧ f.q ≤ 1000000) (hfl : F.length ≤ 1000000000000) (hP : FairP buy p l F) :
    Calls Try.prog 15 #[.slice a l.length c, .slice af F.length cf, .int .i64 p, .bool buy] w fun e w' => e = .returned (.bool true) ∧ Hid (Below w.heap.size w w') := by
  obtain ⟨n, hn⟩ : ∃ n, n = l.length := ⟨_, rfl⟩
  obtain ⟨nf, hnf⟩ : ∃ nf, nf = F.length := ⟨_, rfl⟩
  have HR : Hid (RowAt w 42 15 (.slice a n c) n (flatL (fun o => o.cs.toList) l) ∧ (∀ o ∈ l, o.ok) ∧ n = l.length) := ⟨by rw [hn]; exact hr, hok, hn⟩
  have HT : Hid (∀ (w' : World), Below w.heap.size w w' → ∀ i, Calls Try.prog 35 #[.slice af nf cf, .int .i64 i, .bool buy] w' fun e w'' => e = .returned (.int .i64 (gotF buy i F)) ∧ w'' = w') := fun w' hb i => by
    rw [hnf]
    exact tradedL_any (hf.fr (Fr.of_below hb (fun _ => False)) fun _ _ => id) hq hfl i buy
  have HP : Hid (FairP buy p l F) := hP
  rw [← hn] at hl ⊢
  rw [← hnf]
  clear hr hok hn hf hq hfl hP hnf
  go_enter Try.func15, Try.ntmps15
  go_upto_region 2 with fail
  go_loopw [9] (fun x9 wr => ∃ i : Nat, i ≤ n ∧ x9 = .int .i64 (i : Int) ∧ Hid (Below w.heap.size w wr)) (fun x9 _ => n - (RowKit.intOf x9).toNat)
  case atStart => exact ⟨0, Nat.zero_le _, rfl, Below.refl _ _⟩
  case round =>
    obtain ⟨i, hi, rfl, HW⟩ := hrel
    by_cases hlt : i < n
    · have hlt' : (i : Int) < (n : Int) := by omega
      obtain ⟨o, ho⟩ : ∃ o, l[i]? = some o := ⟨_, List.getElem?_eq_getElem (by rw [← HR.out.2.2]; exact hlt)⟩
      have HRw : Hid (RowAt wr 42 15 (.slice a n c) n (flatL (fun o => o.cs.toList) l)) := HR.out.1.fr (Fr.of_below HW.out (fun _ => False)) fun _ _ => id
      obtain ⟨g, of, c', cur, ea, _⟩ := HRw.out.more (by omega)
      injection ea with ea1 _ ea2
      subst ea1 ea2
      have hoo := HR.out.2.1 o (List.mem_of_getElem? ho)
      have hin := List.mem_of_getElem? ho
      have q0 := od_cell HRw.out HR.out.2.1 ho (j := 0) (by decide) hoo.c0
      rw [Nat.add_zero] at q0
      have q5 := od_cell HRw.out HR.out.2.1 ho (j := 5) (by decide) hoo.c5
      have q7 := od_cell HRw.out HR.out.2.1 ho (j := 7) (by decide) hoo.c7
      have q9 := od_cell HRw.out HR.out.2.1 ho (j := 9) (by decide) hoo.c9
      obtain ⟨oid, hid⟩ : ∃ x, x = o.id := ⟨_, rfl⟩
      obtain ⟨ty, hty0⟩ : ∃ x, x = o.ty := ⟨_, rfl⟩
      obtain ⟨pr, hpr0⟩ : ∃ x, x = o.pr := ⟨_, rfl⟩
      obtain ⟨qt, hqt0⟩ : ∃ x, x = o.qt := ⟨_, rfl⟩
      obtain ⟨N, hN⟩ : ∃ x, x = gotF buy oid F := ⟨_, rfl⟩
      have HO : Hid (l[i]? = some o ∧ o ∈ l ∧ oid = o.id ∧ ty = o.ty ∧ pr = o.pr ∧ qt = o.qt ∧ N = gotF buy oid F) := ⟨ho, hin, hid, hty0, hpr0, hqt0, hN⟩
      have htc := HT.out wr HW.out oid
      rw [← hN] at htc
      rw [← hid] at q0
      rw [← hty0] at q5
      rw [← hpr0] at q7
      rw [← hqt0] at q9
      clear ho hin hid hty0 hpr0 hqt0 hN hoo
      generalize wr = w1 at *
      go_upto_region 4 with fail
      rename_i K hK
      refine wp_region_lit ?_
      refine wpList_runTo rfl (some 20) rfl (.slice af nf cf) w1 (by kernel_rfl) ?_
      simp only [Act.put, List.setIfInBounds_toArray, List.set_cons_zero, List.set_cons_succ]
      refine wpList_runTo rfl (some 21) rfl (.slice (some ⟨g, of, none⟩) n c) w1 (by kernel_rfl) ?_
      simp only [Act.put, List.setIfInBounds_toArray, List.set_cons_zero, List.set_cons_succ]
      refine wpList_runTo rfl (some 22) rfl (.int .i64 (i : Int)) w1 (by kernel_rfl) ?_
      simp only [Act.put, List.setIfInBounds_toArray, List.set_cons_zero, List.set_cons_succ]
      refine wpList_runTo rfl (some 23) rfl (.pointer (some ⟨g, of + i * 15, none⟩)) w1 (by exact ixOr_run (n := n) (c := c) (.tmp 21) (.tmp 22) rfl (by kernel_rfl) (by kernel_rfl) hlt _) ?_
      simp only [Act.put, List.setIfInBounds_toArray, List.set_cons_zero, List.set_cons_succ]
      refine wpList_runTo rfl (some 24) rfl (.pointer (some ⟨g, of + i * 15, none⟩)) w1 (by kernel_rfl) ?_
      simp only [Act.put, List.setIfInBounds_toArray, List.set_cons_zero, List.set_cons_succ]
      refine wpList_runTo rfl (some 25) rfl (.int .i64 oid) w1 (by exact ldN_run (.inr rfl) (.tmp 24) rfl (by kernel_rfl) q0) ?_
      simp only [Act.put, List.setIfInBounds_toArray, List.set_cons_zero, List.set_cons_succ]
      refine wpList_runTo rfl (some 26) rfl (.bool buy) w1 (by kernel_rfl) ?_
      simp only [Act.put, List.setIfInBounds_toArray, List.set_cons_zero, List.set_cons_succ]
      refine wpList_callW rfl (some 27) rfl 35 #[.slice af nf cf, .int .i64 oid, .bool buy] (by kernel_rfl) htc ?_
      clear htc
      rintro e w' ⟨rfl, ew⟩
      replace ew := ew.symm
      subst ew
      refine ⟨_, rfl, ?_⟩
      simp only [Act.put, List.setIfInBounds_toArray, List.set_cons_zero, List.set_cons_succ]
      refine wpList_runTo rfl (some 10) rfl (.int .i64 N) w1 (by kernel_rfl) ?_
      simp only [Act.put, List.setIfInBounds_toArray, List.set_cons_zero, List.set_cons_succ]
      refine wpList_nil ?_
      refine hK _ _ ?_
      clear hK
      have hle : ¬ qt < N := by
        have := HP.out.le o HO.out.2.1
        rw [← HO.out.2.2.1, ← HO.out.2.2.2.2.2.2, ← HO.out.2.2.2.2.2.1] at this
        omega
      have hsuit : 0 < N → suitF buy p o = true := fun h => HP.out.suit o HO.out.2.1 (by rw [← HO.out.2.2.1, ← HO.out.2.2.2.2.2.2]; exact h)
      go_upto_region 5 with fail
      go_cut [71] (fun x71 wx => x71 = .bool false ∧ wx = w1)
      case first => as_aux_lemma =>
        rename_i K hK
        by_cases h0 : 0 < N
        · by_cases hty : ty = 2
          · cases buy with
            | true =>
              refine wp_region_lit ?_
              refine wpList_runTo rfl (some 28) rfl (.int .i64 N) w1 (by kernel_rfl) ?_
              simp only [Act.put, List.setIfInBounds_toArray, List.set_cons_zero, List.set_cons_succ]
              refine wpList_runTo rfl (some 29) rfl (.slice (some ⟨g, of, none⟩) n c) w1 (by kernel_rfl) ?_
              simp only [Act.put, List.setIfInBounds_toArray, List.set_cons_zero, List.set_cons_succ]
              refine wpList_runTo rfl (some 30) rfl (.int .i64 (i : Int)) w1 (by kernel_rfl) ?_
              simp only [Act.put, List.setIfInBounds_toArray, List.set_cons_zero, List.set_cons_succ]
              refine wpList_runTo rfl (some 31) rfl (.pointer (some ⟨g, of + i * 15, none⟩)) w1 (by exact ixOr_run (n := n) (c := c) (.tmp 29) (.tmp 30) rfl (by kernel_rfl) (by kernel_rfl) hlt _) ?_
              simp only [Act.put, List.setIfInBounds_toArray, List.set_cons_zero, List.set_cons_succ]
              refine wpList_runTo rfl (some 32) rfl (.pointer (some ⟨g, of + i * 15 + 9, none⟩)) w1 (by kernel_rfl) ?_
              simp only [Act.put, List.setIfInBounds_toArray, List.set_cons_zero, List.set_cons_succ]
              refine wpList_runTo rfl (some 33) rfl (.int .i64 qt) w1 (by exact ldN_run (.inl rfl) (.tmp 32) rfl (by kernel_rfl) (q9)) ?_
              simp only [Act.put, List.setIfInBounds_toArray, List.set_cons_zero, List.set_cons_succ]
              refine wpList_runTo rfl (some 34) rfl (.bool false) w1 (by exact gtV_run (.tmp 28) (.tmp 33) rfl (by kernel_rfl) (by kernel_rfl) (decide_eq_false (fun h => hle h)) _) ?_
              simp only [Act.put, List.setIfInBounds_toArray, List.set_cons_zero, List.set_cons_succ]
              refine wpList_runTo rfl (some 35) rfl (.bool false) w1 (by kernel_rfl) ?_
              simp only [Act.put, List.setIfInBounds_toArray, List.set_cons_zero, List.set_cons_succ]
              refine wpList_runToG (by kernel_rfl) (some 36) rfl (.int .i64 N) w1 (by kernel_rfl) ?_
              simp only [Act.put, List.setIfInBounds_toArray, List.set_cons_zero, List.set_cons_succ]
              refine wpList_runToG (by kernel_rfl) (some 37) rfl (.bool true) w1 (by exact gt02_run (.tmp 36) rfl (by kernel_rfl) (decide_eq_true (h0)) _) ?_
              simp only [Act.put, List.setIfInBounds_toArray, List.set_cons_zero, List.set_cons_succ]
              refine wpList_runToG (by kernel_rfl) (some 38) rfl (.bool true) w1 (by kernel_rfl) ?_
              simp only [Act.put, List.setIfInBounds_toArray, List.set_cons_zero, List.set_cons_succ]
              refine wpList_runToG (by kernel_rfl) (some 39) rfl (.slice (some ⟨g, of, none⟩) n c) w1 (by kernel_rfl) ?_
              simp only [Act.put, List.setIfInBounds_toArray, List.set_cons_zero, List.set_cons_succ]
              refine wpList_runToG (by kernel_rfl) (some 40) rfl (.int .i64 (i : Int)) w1 (by kernel_rfl) ?_
              simp only [Act.put, List.setIfInBounds_toArray, List.set_cons_zero, List.set_cons_succ]
              refine wpList_runToG (by kernel_rfl) (some 41) rfl (.pointer (some ⟨g, of + i * 15, none⟩)) w1 (by exact ixOr_run (n := n) (c := c) (.tmp 39) (.tmp 40) rfl (by kernel_rfl) (by kernel_rfl) hlt _) ?_
              simp only [Act.put, List.setIfInBounds_toArray, List.set_cons_zero, List.set_cons_succ]
              refine wpList_runToG (by kernel_rfl) (some 42) rfl (.pointer (some ⟨g, of + i * 15 + 5, none⟩)) w1 (by kernel_rfl) ?_
              simp only [Act.put, List.setIfInBounds_toArray, List.set_cons_zero, List.set_cons_succ]
              refine wpList_runToG (by kernel_rfl) (some 43) rfl (.int .i64 ty) w1 (by exact ldN_run (.inr rfl) (.tmp 42) rfl (by kernel_rfl) (q5)) ?_
              simp only [Act.put, List.setIfInBounds_toArray, List.set_cons_zero, List.set_cons_succ]
              refine wpList_runToG (by kernel_rfl) (some 44) rfl (.bool false) w1 (by exact neV_run (.inr rfl) (.tmp 43) (.const (.int .i64 2)) rfl (by kernel_rfl) (by kernel_rfl) (decide_eq_false (fun h => h hty)) _) ?_
              simp only [Act.put, List.setIfInBounds_toArray, List.set_cons_zero, List.set_cons_succ]
              refine wpList_runToG (by kernel_rfl) (some 45) rfl (.bool false) w1 (by exact pick_run (c := false) (.tmp 38) (.tmp 44) rfl (by kernel_rfl) (by kernel_rfl) _) ?_
              simp only [Act.put, List.setIfInBounds_toArray, List.set_cons_zero, List.set_cons_succ]
              refine wpList_runToG (by kernel_rfl) (some 46) rfl (.bool false) w1 (by kernel_rfl) ?_
              simp only [Act.put, List.setIfInBounds_toArray, List.set_cons_zero, List.set_cons_succ]
              refine wpList_skipG (by kernel_rfl) ?_
              simp only [Act.put, List.setIfInBounds_toArray, List.set_cons_zero, List.set_cons_succ]
              refine wpList_skipG (by kernel_rfl) ?_
              simp only [Act.put, List.setIfInBounds_toArray, List.set_cons_zero, List.set_cons_succ]
              refine wpList_skipG (by kernel_rfl) ?_
              simp only [Act.put, List.setIfInBounds_toArray, List.set_cons_zero, List.set_cons_succ]
              refine wpList_skipG (by kernel_rfl) ?_
              simp only [Act.put, List.setIfInBounds_toArray, List.set_cons_zero, List.set_cons_succ]
              refine wpList_skipG (by kernel_rfl) ?_
              simp only [Act.put, List.setIfInBounds_toArray, List.set_cons_zero, List.set_cons_succ]
              refine wpList_skipG (by kernel_rfl) ?_
              simp only [Act.put, List.setIfInBounds_toArray, List.set_cons_zero, List.set_cons_succ]
              refine wpList_skipG (by kernel_rfl) ?_
              simp only [Act.put, List.setIfInBounds_toArray, List.set_cons_zero, List.set_cons_succ]
              refine wpList_skipG (by kernel_rfl) ?_
              simp only [Act.put, List.setIfInBounds_toArray, List.set_cons_zero, List.set_cons_succ]
              refine wpList_skipG (by kernel_rfl) ?_
              simp only [Act.put, List.setIfInBounds_toArray, List.set_cons_zero, List.set_cons_succ]
              refine wpList_skipG (by kernel_rfl) ?_
              simp only [Act.put, List.setIfInBounds_toArray, List.set_cons_zero, List.set_cons_succ]
              refine wpList_skipG (by kernel_rfl) ?_
              simp only [Act.put, List.setIfInBounds_toArray, List.set_cons_zero, List.set_cons_succ]
              refine wpList_skipG (by kernel_rfl) ?_
              simp only [Act.put, List.setIfInBounds_toArray, List.set_cons_zero, List.set_cons_succ]
              refine wpList_skipG (by kernel_rfl) ?_
              simp only [Act.put, List.setIfInBounds_toArray, List.set_cons_zero, List.set_cons_succ]
              refine wpList_skipG (by kernel_rfl) ?_
              simp only [Act.put, List.setIfInBounds_toArray, List.set_cons_zero, List.set_cons_succ]
              refine wpList_skipG (by kernel_rfl) ?_
              simp only [Act.put, List.setIfInBounds_toArray, List.set_cons_zero, List.set_cons_succ]
              refine wpList_skipG (by kernel_rfl) ?_
              simp only [Act.put, List.setIfInBounds_toArray, List.set_cons_zero, List.set_cons_succ]
              refine wpList_skipG (by kernel_rfl) ?_
              simp only [Act.put, List.setIfInBounds_toArray, List.set_cons_zero, List.set_cons_succ]
              refine wpList_skipG (by kernel_rfl) ?_
              simp only [Act.put, List.setIfInBounds_toArray, List.set_cons_zero, List.set_cons_succ]
              refine wpList_skipG (by kernel_rfl) ?_
              simp only [Act.put, List.setIfInBounds_toArray, List.set_cons_zero, List.set_cons_succ]
              refine wpList_skipG (by kernel_rfl) ?_
              simp only [Act.put, List.setIfInBounds_toArray, List.set_cons_zero, List.set_cons_succ]
              refine wpList_skipG (by kernel_rfl) ?_
              simp only [Act.put, List.setIfInBounds_toArray, List.set_cons_zero, List.set_cons_succ]
              refine wpList_skipG (by kernel_rfl) ?_
              simp only [Act.put, List.setIfInBounds_toArray, List.set_cons_zero, List.set_cons_succ]
              refine wpList_skipG (by kernel_rfl) ?_
              simp only [Act.put, List.setIfInBounds_toArray, List.set_cons_zero, List.set_cons_succ]
              refine wpList_runToG (by kernel_rfl) (some 70) rfl (.bool false) w1 (by kernel_rfl) ?_
              simp only [Act.put, List.setIfInBounds_toArray, List.set_cons_zero, List.set_cons_succ]
              refine wpList_runTo rfl (some 71) rfl (.bool false) w1 (by exact pickN_run (c := false) (.tmp 35) (.tmp 70) rfl (by kernel_rfl) (by kernel_rfl) _) ?_
              simp only [Act.put, List.setIfInBounds_toArray, List.set_cons_zero, List.set_cons_succ]
              refine wpList_nil ?_
              refine hK _ _ ?_
              clear hK
              go_meet
              exact ⟨rfl, rfl⟩
            | false =>
              refine wp_region_lit ?_
              refine wpList_runTo rfl (some 28) rfl (.int .i64 N) w1 (by kernel_rfl) ?_
              simp only [Act.put, List.setIfInBounds_toArray, List.set_cons_zero, List.set_cons_succ]
              refine wpList_runTo rfl (some 29) rfl (.slice (some ⟨g, of, none⟩) n c) w1 (by kernel_rfl) ?_
              simp only [Act.put, List.setIfInBounds_toArray, List.set_cons_zero, List.set_cons_succ]
              refine wpList_runTo rfl (some 30) rfl (.int .i64 (i : Int)) w1 (by kernel_rfl) ?_
              simp only [Act.put, List.setIfInBounds_toArray, List.set_cons_zero, List.set_cons_succ]
              refine wpList_runTo rfl (some 31) rfl (.pointer (some ⟨g, of + i * 15, none⟩)) w1 (by exact ixOr_run (n := n) (c := c) (.tmp 29) (.tmp 30) rfl (by kernel_rfl) (by kernel_rfl) hlt _) ?_
              simp only [Act.put, List.setIfInBounds_toArray, List.set_cons_zero, List.set_cons_succ]
              refine wpList_runTo rfl (some 32) rfl (.pointer (some ⟨g, of + i * 15 + 9, none⟩)) w1 (by kernel_rfl) ?_
              simp only [Act.put, List.setIfInBounds_toArray, List.set_cons_zero, List.set_cons_succ]
              refine wpList_runTo rfl (some 33) rfl (.int .i64 qt) w1 (by exact ldN_run (.inl rfl) (.tmp 32) rfl (by kernel_rfl) (q9)) ?_
              simp only [Act.put, List.setIfInBounds_toArray, List.set_cons_zero, List.set_cons_succ]
              refine wpList_runTo rfl (some 34) rfl (.bool false) w1 (by exact gtV_run (.tmp 28) (.tmp 33) rfl (by kernel_rfl) (by kernel_rfl) (decide_eq_false (fun h => hle h)) _) ?_
              simp only [Act.put, List.setIfInBounds_toArray, List.set_cons_zero, List.set_cons_succ]
              refine wpList_runTo rfl (some 35) rfl (.bool false) w1 (by kernel_rfl) ?_
              simp only [Act.put, List.setIfInBounds_toArray, List.set_cons_zero, List.set_cons_succ]
              refine wpList_runToG (by kernel_rfl) (some 36) rfl (.int .i64 N) w1 (by kernel_rfl) ?_
              simp only [Act.put, List.setIfInBounds_toArray, List.set_cons_zero, List.set_cons_succ]
              refine wpList_runToG (by kernel_rfl) (some 37) rfl (.bool true) w1 (by exact gt02_run (.tmp 36) rfl (by kernel_rfl) (decide_eq_true (h0)) _) ?_
              simp only [Act.put, List.setIfInBounds_toArray, List.set_cons_zero, List.set_cons_succ]
              refine wpList_runToG (by kernel_rfl) (some 38) rfl (.bool true) w1 (by kernel_rfl) ?_
              simp only [Act.put, List.setIfInBounds_toArray, List.set_cons_zero, List.set_cons_succ]
              refine wpList_runToG (by kernel_rfl) (some 39) rfl (.slice (some ⟨g, of, none⟩) n c) w1 (by kernel_rfl) ?_
              simp only [Act.put, List.setIfInBounds_toArray, List.set_cons_zero, List.set_cons_succ]
              refine wpList_runToG (by kernel_rfl) (some 40) rfl (.int .i64 (i : Int)) w1 (by kernel_rfl) ?_
              simp only [Act.put, List.setIfInBounds_toArray, List.set_cons_zero, List.set_cons_succ]
              refine wpList_runToG (by kernel_rfl) (some 41) rfl (.pointer (some ⟨g, of + i * 15, none⟩)) w1 (by exact ixOr_run (n := n) (c := c) (.tmp 39) (.tmp 40) rfl (by kernel_rfl) (by kernel_rfl) hlt _) ?_
              simp only [Act.put, List.setIfInBounds_toArray, List.set_cons_zero, List.set_cons_succ]
              refine wpList_runToG (by kernel_rfl) (some 42) rfl (.pointer (some ⟨g, of + i * 15 + 5, none⟩)) w1 (by kernel_rfl) ?_
              simp only [Act.put, List.setIfInBounds_toArray, List.set_cons_zero, List.set_cons_succ]
              refine wpList_runToG (by kernel_rfl) (some 43) rfl (.int .i64 ty) w1 (by exact ldN_run (.inr rfl) (.tmp 42) rfl (by kernel_rfl) (q5)) ?_
              simp only [Act.put, List.setIfInBounds_toArray, List.set_cons_zero, List.set_cons_succ]
              refine wpList_runToG (by kernel_rfl) (some 44) rfl (.bool false) w1 (by exact neV_run (.inr rfl) (.tmp 43) (.const (.int .i64 2)) rfl (by kernel_rfl) (by kernel_rfl) (decide_eq_false (fun h => h hty)) _) ?_
              simp only [Act.put, List.setIfInBounds_toArray, List.set_cons_zero, List.set_cons_succ]
              refine wpList_runToG (by kernel_rfl) (some 45) rfl (.bool false) w1 (by exact pick_run (c := false) (.tmp 38) (.tmp 44) rfl (by kernel_rfl) (by kernel_rfl) _) ?_
              simp only [Act.put, List.setIfInBounds_toArray, List.set_cons_zero, List.set_cons_succ]
              refine wpList_runToG (by kernel_rfl) (some 46) rfl (.bool false) w1 (by kernel_rfl) ?_
              simp only [Act.put, List.setIfInBounds_toArray, List.set_cons_zero, List.set_cons_succ]
              refine wpList_skipG (by kernel_rfl) ?_
              simp only [Act.put, List.setIfInBounds_toArray, List.set_cons_zero, List.set_cons_succ]
              refine wpList_skipG (by kernel_rfl) ?_
              simp only [Act.put, List.setIfInBounds_toArray, List.set_cons_zero, List.set_cons_succ]
              refine wpList_skipG (by kernel_rfl) ?_
              simp only [Act.put, List.setIfInBounds_toArray, List.set_cons_zero, List.set_cons_succ]
              refine wpList_skipG (by kernel_rfl) ?_
              simp only [Act.put, List.setIfInBounds_toArray, List.set_cons_zero, List.set_cons_succ]
              refine wpList_skipG (by kernel_rfl) ?_
              simp only [Act.put, List.setIfInBounds_toArray, List.set_cons_zero, List.set_cons_succ]
              refine wpList_skipG (by kernel_rfl) ?_
              simp only [Act.put, List.setIfInBounds_toArray, List.set_cons_zero, List.set_cons_succ]
              refine wpList_skipG (by kernel_rfl) ?_
              simp only [Act.put, List.setIfInBounds_toArray, List.set_cons_zero, List.set_cons_succ]
              refine wpList_skipG (by kernel_rfl) ?_
              simp only [Act.put, List.setIfInBounds_toArray, List.set_cons_zero, List.set_cons_succ]
              refine wpList_skipG (by kernel_rfl) ?_
              simp only [Act.put, List.setIfInBounds_toArray, List.set_cons_zero, List.set_cons_succ]
              refine wpList_skipG (by kernel_rfl) ?_
              simp only [Act.put, List.setIfInBounds_toArray, List.set_cons_zero, List.set_cons_succ]
              refine wpList_skipG (by kernel_rfl) ?_
              simp only [Act.put, List.setIfInBounds_toArray, List.set_cons_zero, List.set_cons_succ]
              refine wpList_skipG (by kernel_rfl) ?_
              simp only [Act.put, List.setIfInBounds_toArray, List.set_cons_zero, List.set_cons_succ]
              refine wpList_skipG (by kernel_rfl) ?_
              simp only [Act.put, List.setIfInBounds_toArray, List.set_cons_zero, List.set_cons_succ]
              refine wpList_skipG (by kernel_rfl) ?_
              simp only [Act.put, List.setIfInBounds_toArray, List.set_cons_zero, List.set_cons_succ]
              refine wpList_skipG (by kernel_rfl) ?_
              simp only [Act.put, List.setIfInBounds_toArray, List.set_cons_zero, List.set_cons_succ]
              refine wpList_skipG (by kernel_rfl) ?_
              simp only [Act.put, List.setIfInBounds_toArray, List.set_cons_zero, List.set_cons_succ]
              refine wpList_skipG (by kernel_rfl) ?_
              simp only [Act.put, List.setIfInBounds_toArray, List.set_cons_zero, List.set_cons_succ]
              refine wpList_skipG (by kernel_rfl) ?_
              simp only [Act.put, List.setIfInBounds_toArray, List.set_cons_zero, List.set_cons_succ]
              refine wpList_skipG (by kernel_rfl) ?_
              simp only [Act.put, List.setIfInBounds_toArray, List.set_cons_zero, List.set_cons_succ]
              refine wpList_skipG (by kernel_rfl) ?_
              simp only [Act.put, List.setIfInBounds_toArray, List.set_cons_zero, List.set_cons_succ]
              refine wpList_skipG (by kernel_rfl) ?_
              simp only [Act.put, List.setIfInBounds_toArray, List.set_cons_zero, List.set_cons_succ]
              refine wpList_skipG (by kernel_rfl) ?_
              simp only [Act.put, List.setIfInBounds_toArray, List.set_cons_zero, List.set_cons_succ]
              refine wpList_skipG (by kernel_rfl) ?_
              simp only [Act.put, List.setIfInBounds_toArray, List.set_cons_zero, List.set_cons_succ]
              refine wpList_runToG (by kernel_rfl) (some 70) rfl (.bool false) w1 (by kernel_rfl) ?_
              simp only [Act.put, List.setIfInBounds_toArray, List.set_cons_zero, List.set_cons_succ]
              refine wpList_runTo rfl (some 71) rfl (.bool false) w1 (by exact pickN_run (c := false) (.tmp 35) (.tmp 70) rfl (by kernel_rfl) (by kernel_rfl) _) ?_
              simp only [Act.put, List.setIfInBounds_toArray, List.set_cons_zero, List.set_cons_succ]
              refine wpList_nil ?_
              refine hK _ _ ?_
              clear hK
              go_meet
              exact ⟨rfl, rfl⟩
          · have hs := hsuit h0
            have hty' : ¬ o.ty = 2 := by rw [← HO.out.2.2.2.1]; exact hty
            unfold suitF at hs
            rw [decide_eq_false hty', Bool.false_or, ← HO.out.2.2.2.2.1] at hs
            cases buy with
            | true =>
              have hsu : ¬ pr < p := by
                have : p ≤ pr := by simpa using hs
                omega
              skip
              refine wp_region_lit ?_
              refine wpList_runTo rfl (some 28) rfl (.int .i64 N) w1 (by kernel_rfl) ?_
              simp only [Act.put, List.setIfInBounds_toArray, List.set_cons_zero, List.set_cons_succ]
              refine wpList_runTo rfl (some 29) rfl (.slice (some ⟨g, of, none⟩) n c) w1 (by kernel_rfl) ?_
              simp only [Act.put, List.setIfInBounds_toArray, List.set_cons_zero, List.set_cons_succ]
              refine wpList_runTo rfl (some 30) rfl (.int .i64 (i : Int)) w1 (by kernel_rfl) ?_
              simp only [Act.put, List.setIfInBounds_toArray, List.set_cons_zero, List.set_cons_succ]
              refine wpList_runTo rfl (some 31) rfl (.pointer (some ⟨g, of + i * 15, none⟩)) w1 (by exact ixOr_run (n := n) (c := c) (.tmp 29) (.tmp 30) rfl (by kernel_rfl) (by kernel_rfl) hlt _) ?_
              simp only [Act.put, List.setIfInBounds_toArray, List.set_cons_zero, List.set_cons_succ]
              refine wpList_runTo rfl (some 32) rfl (.pointer (some ⟨g, of + i * 15 + 9, none⟩)) w1 (by kernel_rfl) ?_
              simp only [Act.put, List.setIfInBounds_toArray, List.set_cons_zero, List.set_cons_succ]
              refine wpList_runTo rfl (some 33) rfl (.int .i64 qt) w1 (by exact ldN_run (.inl rfl) (.tmp 32) rfl (by kernel_rfl) (q9)) ?_
              simp only [Act.put, List.setIfInBounds_toArray, List.set_cons_zero, List.set_cons_succ]
              refine wpList_runTo rfl (some 34) rfl (.bool false) w1 (by exact gtV_run (.tmp 28) (.tmp 33) rfl (by kernel_rfl) (by kernel_rfl) (decide_eq_false (fun h => hle h)) _) ?_
              simp only [Act.put, List.setIfInBounds_toArray, List.set_cons_zero, List.set_cons_succ]
              refine wpList_runTo rfl (some 35) rfl (.bool false) w1 (by kernel_rfl) ?_
              simp only [Act.put, List.setIfInBounds_toArray, List.set_cons_zero, List.set_cons_succ]
              refine wpList_runToG (by kernel_rfl) (some 36) rfl (.int .i64 N) w1 (by kernel_rfl) ?_
              simp only [Act.put, List.setIfInBounds_toArray, List.set_cons_zero, List.set_cons_succ]
              refine wpList_runToG (by kernel_rfl) (some 37) rfl (.bool true) w1 (by exact gt02_run (.tmp 36) rfl (by kernel_rfl) (decide_eq_true (h0)) _) ?_
              simp only [Act.put, List.setIfInBounds_toArray, List.set_cons_zero, List.set_cons_succ]
              refine wpList_runToG (by kernel_rfl) (some 38) rfl (.bool true) w1 (by kernel_rfl) ?_
              simp only [Act.put, List.setIfInBounds_toArray, List.set_cons_zero, List.set_cons_succ]
              refine wpList_runToG (by kernel_rfl) (some 39) rfl (.slice (some ⟨g, of, none⟩) n c) w1 (by kernel_rfl) ?_
              simp only [Act.put, List.setIfInBounds_toArray, List.set_cons_zero, List.set_cons_succ]
              refine wpList_runToG (by kernel_rfl) (some 40) rfl (.int .i64 (i : Int)) w1 (by kernel_rfl) ?_
              simp only [Act.put, List.setIfInBounds_toArray, List.set_cons_zero, List.set_cons_succ]
              refine wpList_runToG (by kernel_rfl) (some 41) rfl (.pointer (some ⟨g, of + i * 15, none⟩)) w1 (by exact ixOr_run (n := n) (c := c) (.tmp 39) (.tmp 40) rfl (by kernel_rfl) (by kernel_rfl) hlt _) ?_
              simp only [Act.put, List.setIfInBounds_toArray, List.set_cons_zero, List.set_cons_succ]
              refine wpList_runToG (by kernel_rfl) (some 42) rfl (.pointer (some ⟨g, of + i * 15 + 5, none⟩)) w1 (by kernel_rfl) ?_
              simp only [Act.put, List.setIfInBounds_toArray, List.set_cons_zero, List.set_cons_succ]
              refine wpList_runToG (by kernel_rfl) (some 43) rfl (.int .i64 ty) w1 (by exact ldN_run (.inr rfl) (.tmp 42) rfl (by kernel_rfl) (q5)) ?_
              simp only [Act.put, List.setIfInBounds_toArray, List.set_cons_zero, List.set_cons_succ]
              refine wpList_runToG (by kernel_rfl) (some 44) rfl (.bool true) w1 (by exact neV_run (.inr rfl) (.tmp 43) (.const (.int .i64 2)) rfl (by kernel_rfl) (by kernel_rfl) (decide_eq_true (hty)) _) ?_
              simp only [Act.put, List.setIfInBounds_toArray, List.set_cons_zero, List.set_cons_succ]
              refine wpList_runToG (by kernel_rfl) (some 45) rfl (.bool true) w1 (by exact pick_run (c := true) (.tmp 38) (.tmp 44) rfl (by kernel_rfl) (by kernel_rfl) _) ?_
              simp only [Act.put, List.setIfInBounds_toArray, List.set_cons_zero, List.set_cons_succ]
              refine wpList_runToG (by kernel_rfl) (some 46) rfl (.bool true) w1 (by kernel_rfl) ?_
              simp only [Act.put, List.setIfInBounds_toArray, List.set_cons_zero, List.set_cons_succ]
              refine wpList_runToG (by kernel_rfl) (some 47) rfl (.bool true) w1 (by kernel_rfl) ?_
              simp only [Act.put, List.setIfInBounds_toArray, List.set_cons_zero, List.set_cons_succ]
              refine wpList_runToG (by kernel_rfl) (some 48) rfl (.bool true) w1 (by kernel_rfl) ?_
              simp only [Act.put, List.setIfInBounds_toArray, List.set_cons_zero, List.set_cons_succ]
              refine wpList_runToG (by kernel_rfl) (some 49) rfl (.slice (some ⟨g, of, none⟩) n c) w1 (by kernel_rfl) ?_
              simp only [Act.put, List.setIfInBounds_toArray, List.set_cons_zero, List.set_cons_succ]
              refine wpList_runToG (by kernel_rfl) (some 50) rfl (.int .i64 (i : Int)) w1 (by kernel_rfl) ?_
              simp only [Act.put, List.setIfInBounds_toArray, List.set_cons_zero, List.set_cons_succ]
              refine wpList_runToG (by kernel_rfl) (some 51) rfl (.pointer (some ⟨g, of + i * 15, none⟩)) w1 (by exact ixOr_run (n := n) (c := c) (.tmp 49) (.tmp 50) rfl (by kernel_rfl) (by kernel_rfl) hlt _) ?_
              simp only [Act.put, List.setIfInBounds_toArray, List.set_cons_zero, List.set_cons_succ]
              refine wpList_runToG (by kernel_rfl) (some 52) rfl (.pointer (some ⟨g, of + i * 15 + 7, none⟩)) w1 (by kernel_rfl) ?_
              simp only [Act.put, List.setIfInBounds_toArray, List.set_cons_zero, List.set_cons_succ]
              refine wpList_runToG (by kernel_rfl) (some 53) rfl (.int .i64 pr) w1 (by exact ldN_run (.inl rfl) (.tmp 52) rfl (by kernel_rfl) (q7)) ?_
              simp only [Act.put, List.setIfInBounds_toArray, List.set_cons_zero, List.set_cons_succ]
              refine wpList_runToG (by kernel_rfl) (some 54) rfl (.int .i64 p) w1 (by kernel_rfl) ?_
              simp only [Act.put, List.setIfInBounds_toArray, List.set_cons_zero, List.set_cons_succ]
              refine wpList_runToG (by kernel_rfl) (some 55) rfl (.bool false) w1 (by exact ltV_run (.tmp 53) (.tmp 54) rfl (by kernel_rfl) (by kernel_rfl) (decide_eq_false (hsu)) _) ?_
              simp only [Act.put, List.setIfInBounds_toArray, List.set_cons_zero, List.set_cons_succ]
              refine wpList_runToG (by kernel_rfl) (some 56) rfl (.bool false) w1 (by exact pick_run (c := false) (.tmp 48) (.tmp 55) rfl (by kernel_rfl) (by kernel_rfl) _) ?_
              simp only [Act.put, List.setIfInBounds_toArray, List.set_cons_zero, List.set_cons_succ]
              refine wpList_runToG (by kernel_rfl) (some 57) rfl (.bool false) w1 (by kernel_rfl) ?_
              simp only [Act.put, List.setIfInBounds_toArray, List.set_cons_zero, List.set_cons_succ]
              refine wpList_runToG (by kernel_rfl) (some 58) rfl (.bool true) w1 (by kernel_rfl) ?_
              simp only [Act.put, List.setIfInBounds_toArray, List.set_cons_zero, List.set_cons_succ]
              refine wpList_runToG (by kernel_rfl) (some 59) rfl (.bool false) w1 (by kernel_rfl) ?_
              simp only [Act.put, List.setIfInBounds_toArray, List.set_cons_zero, List.set_cons_succ]
              refine wpList_runToG (by kernel_rfl) (some 60) rfl (.bool false) w1 (by kernel_rfl) ?_
              simp only [Act.put, List.setIfInBounds_toArray, List.set_cons_zero, List.set_cons_succ]
              refine wpList_skipG (by kernel_rfl) ?_
              simp only [Act.put, List.setIfInBounds_toArray, List.set_cons_zero, List.set_cons_succ]
              refine wpList_skipG (by kernel_rfl) ?_
              simp only [Act.put, List.setIfInBounds_toArray, List.set_cons_zero, List.set_cons_succ]
              refine wpList_skipG (by kernel_rfl) ?_
              simp only [Act.put, List.setIfInBounds_toArray, List.set_cons_zero, List.set_cons_succ]
              refine wpList_skipG (by kernel_rfl) ?_
              simp only [Act.put, List.setIfInBounds_toArray, List.set_cons_zero, List.set_cons_succ]
              refine wpList_skipG (by kernel_rfl) ?_
              simp only [Act.put, List.setIfInBounds_toArray, List.set_cons_zero, List.set_cons_succ]
              refine wpList_skipG (by kernel_rfl) ?_
              simp only [Act.put, List.setIfInBounds_toArray, List.set_cons_zero, List.set_cons_succ]
              refine wpList_skipG (by kernel_rfl) ?_
              simp only [Act.put, List.setIfInBounds_toArray, List.set_cons_zero, List.set_cons_succ]
              refine wpList_runToG (by kernel_rfl) (some 68) rfl (.bool false) w1 (by kernel_rfl) ?_
              simp only [Act.put, List.setIfInBounds_toArray, List.set_cons_zero, List.set_cons_succ]
              refine wpList_runToG (by kernel_rfl) (some 69) rfl (.bool false) w1 (by exact pickN_run (c := false) (.tmp 57) (.tmp 68) rfl (by kernel_rfl) (by kernel_rfl) _) ?_
              simp only [Act.put, List.setIfInBounds_toArray, List.set_cons_zero, List.set_cons_succ]
              refine wpList_runToG (by kernel_rfl) (some 70) rfl (.bool false) w1 (by exact pick_run (c := false) (.tmp 46) (.tmp 69) rfl (by kernel_rfl) (by kernel_rfl) _) ?_
              simp only [Act.put, List.setIfInBounds_toArray, List.set_cons_zero, List.set_cons_succ]
              refine wpList_runTo rfl (some 71) rfl (.bool false) w1 (by exact pickN_run (c := false) (.tmp 35) (.tmp 70) rfl (by kernel_rfl) (by kernel_rfl) _) ?_
              simp only [Act.put, List.setIfInBounds_toArray, List.set_cons_zero, List.set_cons_succ]
              refine wpList_nil ?_
              refine hK _ _ ?_
              clear hK
              go_meet
              exact ⟨rfl, rfl⟩
            | false =>
              have hsu : ¬ p < pr := by
                have : pr ≤ p := by simpa using hs
                omega
              skip
              refine wp_region_lit ?_
              refine wpList_runTo rfl (some 28) rfl (.int .i64 N) w1 (by kernel_rfl) ?_
              simp only [Act.put, List.setIfInBounds_toArray, List.set_cons_zero, List.set_cons_succ]
              refine wpList_runTo rfl (some 29) rfl (.slice (some ⟨g, of, none⟩) n c) w1 (by kernel_rfl) ?_
              simp only [Act.put, List.setIfInBounds_toArray, List.set_cons_zero, List.set_cons_succ]
              refine wpList_runTo rfl (some 30) rfl (.int .i64 (i : Int)) w1 (by kernel_rfl) ?_
              simp only [Act.put, List.setIfInBounds_toArray, List.set_cons_zero, List.set_cons_succ]
              refine wpList_runTo rfl (some 31) rfl (.pointer (some ⟨g, of + i * 15, none⟩)) w1 (by exact ixOr_run (n := n) (c := c) (.tmp 29) (.tmp 30) rfl (by kernel_rfl) (by kernel_rfl) hlt _) ?_
              simp only [Act.put, List.setIfInBounds_toArray, List.set_cons_zero, List.set_cons_succ]
              refine wpList_runTo rfl (some 32) rfl (.pointer (some ⟨g, of + i * 15 + 9, none⟩)) w1 (by kernel_rfl) ?_
              simp only [Act.put, List.setIfInBounds_toArray, List.set_cons_zero, List.set_cons_succ]
              refine wpList_runTo rfl (some 33) rfl (.int .i64 qt) w1 (by exact ldN_run (.inl rfl) (.tmp 32) rfl (by kernel_rfl) (q9)) ?_
              simp only [Act.put, List.setIfInBounds_toArray, List.set_cons_zero, List.set_cons_succ]
              refine wpList_runTo rfl (some 34) rfl (.bool false) w1 (by exact gtV_run (.tmp 28) (.tmp 33) rfl (by kernel_rfl) (by kernel_rfl) (decide_eq_false (fun h => hle h)) _) ?_
              simp only [Act.put, List.setIfInBounds_toArray, List.set_cons_zero, List.set_cons_succ]
              refine wpList_runTo rfl (some 35) rfl (.bool false) w1 (by kernel_rfl) ?_
              simp only [Act.put, List.setIfInBounds_toArray, List.set_cons_zero, List.set_cons_succ]
              refine wpList_runToG (by kernel_rfl) (some 36) rfl (.int .i64 N) w1 (by kernel_rfl) ?_
              simp only [Act.put, List.setIfInBounds_toArray, List.set_cons_zero, List.set_cons_succ]
              refine wpList_runToG (by kernel_rfl) (some 37) rfl (.bool true) w1 (by exact gt02_run (.tmp 36) rfl (by kernel_rfl) (decide_eq_true (h0)) _) ?_
              simp only [Act.put, List.setIfInBounds_toArray, List.set_cons_zero, List.set_cons_succ]
              refine wpList_runToG (by kernel_rfl) (some 38) rfl (.bool true) w1 (by kernel_rfl) ?_
              simp only [Act.put, List.setIfInBounds_toArray, List.set_cons_zero, List.set_cons_succ]
              refine wpList_runToG (by kernel_rfl) (some 39) rfl (.slice (some ⟨g, of, none⟩) n c) w1 (by kernel_rfl) ?_
              simp only [Act.put, List.setIfInBounds_toArray, List.set_cons_zero, List.set_cons_succ]
              refine wpList_runToG (by kernel_rfl) (some 40) rfl (.int .i64 (i : Int)) w1 (by kernel_rfl) ?_
              simp only [Act.put, List.setIfInBounds_toArray, List.set_cons_zero, List.set_cons_succ]
              refine wpList_runToG (by kernel_rfl) (some 41) rfl (.pointer (some ⟨g, of + i * 15, none⟩)) w1 (by exact ixOr_run (n := n) (c := c) (.tmp 39) (.tmp 40) rfl (by kernel_rfl) (by kernel_rfl) hlt _) ?_
              simp only [Act.put, List.setIfInBounds_toArray, List.set_cons_zero, List.set_cons_succ]
              refine wpList_runToG (by kernel_rfl) (some 42) rfl (.pointer (some ⟨g, of + i * 15 + 5, none⟩)) w1 (by kernel_rfl) ?_
              simp only [Act.put, List.setIfInBounds_toArray, List.set_cons_zero, List.set_cons_succ]
              refine wpList_runToG (by kernel_rfl) (some 43) rfl (.int .i64 ty) w1 (by exact ldN_run (.inr rfl) (.tmp 42) rfl (by kernel_rfl) (q5)) ?_
              simp only [Act.put, List.setIfInBounds_toArray, List.set_cons_zero, List.set_cons_succ]
              refine wpList_runToG (by kernel_rfl) (some 44) rfl (.bool true) w1 (by exact neV_run (.inr rfl) (.tmp 43) (.const (.int .i64 2)) rfl (by kernel_rfl) (by kernel_rfl) (decide_eq_true (hty)) _) ?_
              simp only [Act.put, List.setIfInBounds_toArray, List.set_cons_zero, List.set_cons_succ]
              refine wpList_runToG (by kernel_rfl) (some 45) rfl (.bool true) w1 (by exact pick_run (c := true) (.tmp 38) (.tmp 44) rfl (by kernel_rfl) (by kernel_rfl) _) ?_
              simp only [Act.put, List.setIfInBounds_toArray, List.set_cons_zero, List.set_cons_succ]
              refine wpList_runToG (by kernel_rfl) (some 46) rfl (.bool true) w1 (by kernel_rfl) ?_
              simp only [Act.put, List.setIfInBounds_toArray, List.set_cons_zero, List.set_cons_succ]
              refine wpList_runToG (by kernel_rfl) (some 47) rfl (.bool false) w1 (by kernel_rfl) ?_
              simp only [Act.put, List.setIfInBounds_toArray, List.set_cons_zero, List.set_cons_succ]
              refine wpList_runToG (by kernel_rfl) (some 48) rfl (.bool false) w1 (by kernel_rfl) ?_
              simp only [Act.put, List.setIfInBounds_toArray, List.set_cons_zero, List.set_cons_succ]
              refine wpList_skipG (by kernel_rfl) ?_
              simp only [Act.put, List.setIfInBounds_toArray, List.set_cons_zero, List.set_cons_succ]
              refine wpList_skipG (by kernel_rfl) ?_
              simp only [Act.put, List.setIfInBounds_toArray, List.set_cons_zero, List.set_cons_succ]
              refine wpList_skipG (by kernel_rfl) ?_
              simp only [Act.put, List.setIfInBounds_toArray, List.set_cons_zero, List.set_cons_succ]
              refine wpList_skipG (by kernel_rfl) ?_
              simp only [Act.put, List.setIfInBounds_toArray, List.set_cons_zero, List.set_cons_succ]
              refine wpList_skipG (by kernel_rfl) ?_
              simp only [Act.put, List.setIfInBounds_toArray, List.set_cons_zero, List.set_cons_succ]
              refine wpList_skipG (by kernel_rfl) ?_
              simp only [Act.put, List.setIfInBounds_toArray, List.set_cons_zero, List.set_cons_succ]
              refine wpList_skipG (by kernel_rfl) ?_
              simp only [Act.put, List.setIfInBounds_toArray, List.set_cons_zero, List.set_cons_succ]
              refine wpList_runToG (by kernel_rfl) (some 56) rfl (.bool false) w1 (by kernel_rfl) ?_
              simp only [Act.put, List.setIfInBounds_toArray, List.set_cons_zero, List.set_cons_succ]
              refine wpList_runToG (by kernel_rfl) (some 57) rfl (.bool false) w1 (by kernel_rfl) ?_
              simp only [Act.put, List.setIfInBounds_toArray, List.set_cons_zero, List.set_cons_succ]
              refine wpList_runToG (by kernel_rfl) (some 58) rfl (.bool false) w1 (by kernel_rfl) ?_
              simp only [Act.put, List.setIfInBounds_toArray, List.set_cons_zero, List.set_cons_succ]
              refine wpList_runToG (by kernel_rfl) (some 59) rfl (.bool true) w1 (by kernel_rfl) ?_
              simp only [Act.put, List.setIfInBounds_toArray, List.set_cons_zero, List.set_cons_succ]
              refine wpList_runToG (by kernel_rfl) (some 60) rfl (.bool true) w1 (by kernel_rfl) ?_
              simp only [Act.put, List.setIfInBounds_toArray, List.set_cons_zero, List.set_cons_succ]
              refine wpList_runToG (by kernel_rfl) (some 61) rfl (.slice (some ⟨g, of, none⟩) n c) w1 (by kernel_rfl) ?_
              simp only [Act.put, List.setIfInBounds_toArray, List.set_cons_zero, List.set_cons_succ]
              refine wpList_runToG (by kernel_rfl) (some 62) rfl (.int .i64 (i : Int)) w1 (by kernel_rfl) ?_
              simp only [Act.put, List.setIfInBounds_toArray, List.set_cons_zero, List.set_cons_succ]
              refine wpList_runToG (by kernel_rfl) (some 63) rfl (.pointer (some ⟨g, of + i * 15, none⟩)) w1 (by exact ixOr_run (n := n) (c := c) (.tmp 61) (.tmp 62) rfl (by kernel_rfl) (by kernel_rfl) hlt _) ?_
              simp only [Act.put, List.setIfInBounds_toArray, List.set_cons_zero, List.set_cons_succ]
              refine wpList_runToG (by kernel_rfl) (some 64) rfl (.pointer (some ⟨g, of + i * 15 + 7, none⟩)) w1 (by kernel_rfl) ?_
              simp only [Act.put, List.setIfInBounds_toArray, List.set_cons_zero, List.set_cons_succ]
              refine wpList_runToG (by kernel_rfl) (some 65) rfl (.int .i64 pr) w1 (by exact ldN_run (.inl rfl) (.tmp 64) rfl (by kernel_rfl) (q7)) ?_
              simp only [Act.put, List.setIfInBounds_toArray, List.set_cons_zero, List.set_cons_succ]
              refine wpList_runToG (by kernel_rfl) (some 66) rfl (.int .i64 p) w1 (by kernel_rfl) ?_
              simp only [Act.put, List.setIfInBounds_toArray, List.set_cons_zero, List.set_cons_succ]
              refine wpList_runToG (by kernel_rfl) (some 67) rfl (.bool false) w1 (by exact gtV_run (.tmp 65) (.tmp 66) rfl (by kernel_rfl) (by kernel_rfl) (decide_eq_false (hsu)) _) ?_
              simp only [Act.put, List.setIfInBounds_toArray, List.set_cons_zero, List.set_cons_succ]
              refine wpList_runToG (by kernel_rfl) (some 68) rfl (.bool false) w1 (by exact pick_run (c := false) (.tmp 60) (.tmp 67) rfl (by kernel_rfl) (by kernel_rfl) _) ?_
              simp only [Act.put, List.setIfInBounds_toArray, List.set_cons_zero, List.set_cons_succ]
              refine wpList_runToG (by kernel_rfl) (some 69) rfl (.bool false) w1 (by exact pickN_run (c := false) (.tmp 57) (.tmp 68) rfl (by kernel_rfl) (by kernel_rfl) _) ?_
              simp only [Act.put, List.setIfInBounds_toArray, List.set_cons_zero, List.set_cons_succ]
              refine wpList_runToG (by kernel_rfl) (some 70) rfl (.bool false) w1 (by exact pick_run (c := false) (.tmp 46) (.tmp 69) rfl (by kernel_rfl) (by kernel_rfl) _) ?_
              simp only [Act.put, List.setIfInBounds_toArray, List.set_cons_zero, List.set_cons_succ]
              refine wpList_runTo rfl (some 71) rfl (.bool false) w1 (by exact pickN_run (c := false) (.tmp 35) (.tmp 70) rfl (by kernel_rfl) (by kernel_rfl) _) ?_
              simp only [Act.put, List.setIfInBounds_toArray, List.set_cons_zero, List.set_cons_succ]
              refine wpList_nil ?_
              refine hK _ _ ?_
              clear hK
              go_meet
              exact ⟨rfl, rfl⟩
        · cases buy with
          | true =>
            refine wp_region_lit ?_
            refine wpList_runTo rfl (some 28) rfl (.int .i64 N) w1 (by kernel_rfl) ?_
            simp only [Act.put, List.setIfInBounds_toArray, List.set_cons_zero, List.set_cons_succ]
            refine wpList_runTo rfl (some 29) rfl (.slice (some ⟨g, of, none⟩) n c) w1 (by kernel_rfl) ?_
            simp only [Act.put, List.setIfInBounds_toArray, List.set_cons_zero, List.set_cons_succ]
            refine wpList_runTo rfl (some 30) rfl (.int .i64 (i : Int)) w1 (by kernel_rfl) ?_
            simp only [Act.put, List.setIfInBounds_toArray, List.set_cons_zero, List.set_cons_succ]
            refine wpList_runTo rfl (some 31) rfl (.pointer (some ⟨g, of + i * 15, none⟩)) w1 (by exact ixOr_run (n := n) (c := c) (.tmp 29) (.tmp 30) rfl (by kernel_rfl) (by kernel_rfl) hlt _) ?_
            simp only [Act.put, List.setIfInBounds_toArray, List.set_cons_zero, List.set_cons_succ]
            refine wpList_runTo rfl (some 32) rfl (.pointer (some ⟨g, of + i * 15 + 9, none⟩)) w1 (by kernel_rfl) ?_
            simp only [Act.put, List.setIfInBounds_toArray, List.set_cons_zero, List.set_cons_succ]
            refine wpList_runTo rfl (some 33) rfl (.int .i64 qt) w1 (by exact ldN_run (.inl rfl) (.tmp 32) rfl (by kernel_rfl) (q9)) ?_
            simp only [Act.put, List.setIfInBounds_toArray, List.set_cons_zero, List.set_cons_succ]
            refine wpList_runTo rfl (some 34) rfl (.bool false) w1 (by exact gtV_run (.tmp 28) (.tmp 33) rfl (by kernel_rfl) (by kernel_rfl) (decide_eq_false (fun h => hle h)) _) ?_
            simp only [Act.put, List.setIfInBounds_toArray, List.set_cons_zero, List.set_cons_succ]
            refine wpList_runTo rfl (some 35) rfl (.bool false) w1 (by kernel_rfl) ?_
            simp only [Act.put, List.setIfInBounds_toArray, List.set_cons_zero, List.set_cons_succ]
            refine wpList_runToG (by kernel_rfl) (some 36) rfl (.int .i64 N) w1 (by kernel_rfl) ?_
            simp only [Act.put, List.setIfInBounds_toArray, List.set_cons_zero, List.set_cons_succ]
            refine wpList_runToG (by kernel_rfl) (some 37) rfl (.bool false) w1 (by exact gt02_run (.tmp 36) rfl (by kernel_rfl) (decide_eq_false (h0)) _) ?_
            simp only [Act.put, List.setIfInBounds_toArray, List.set_cons_zero, List.set_cons_succ]
            refine wpList_runToG (by kernel_rfl) (some 38) rfl (.bool false) w1 (by kernel_rfl) ?_
            simp only [Act.put, List.setIfInBounds_toArray, List.set_cons_zero, List.set_cons_succ]
            refine wpList_skipG (by kernel_rfl) ?_
            simp only [Act.put, List.setIfInBounds_toArray, List.set_cons_zero, List.set_cons_succ]
            refine wpList_skipG (by kernel_rfl) ?_
            simp only [Act.put, List.setIfInBounds_toArray, List.set_cons_zero, List.set_cons_succ]
            refine wpList_skipG (by kernel_rfl) ?_
            simp only [Act.put, List.setIfInBounds_toArray, List.set_cons_zero, List.set_cons_succ]
            refine wpList_skipG (by kernel_rfl) ?_
            simp only [Act.put, List.setIfInBounds_toArray, List.set_cons_zero, List.set_cons_succ]
            refine wpList_skipG (by kernel_rfl) ?_
            simp only [Act.put, List.setIfInBounds_toArray, List.set_cons_zero, List.set_cons_succ]
            refine wpList_skipG (by kernel_rfl) ?_
            simp only [Act.put, List.setIfInBounds_toArray, List.set_cons_zero, List.set_cons_succ]
            refine wpList_runToG (by kernel_rfl) (some 45) rfl (.bool false) w1 (by kernel_rfl) ?_
            simp only [Act.put, List.setIfInBounds_toArray, List.set_cons_zero, List.set_cons_succ]
            refine wpList_runToG (by kernel_rfl) (some 46) rfl (.bool false) w1 (by kernel_rfl) ?_
            simp only [Act.put, List.setIfInBounds_toArray, List.set_cons_zero, List.set_cons_succ]
            refine wpList_skipG (by kernel_rfl) ?_
            simp only [Act.put, List.setIfInBounds_toArray, List.set_cons_zero, List.set_cons_succ]
            refine wpList_skipG (by kernel_rfl) ?_
            simp only [Act.put, List.setIfInBounds_toArray, List.set_cons_zero, List.set_cons_succ]
            refine wpList_skipG (by kernel_rfl) ?_
            simp only [Act.put, List.setIfInBounds_toArray, List.set_cons_zero, List.set_cons_succ]
            refine wpList_skipG (by kernel_rfl) ?_
            simp only [Act.put, List.setIfInBounds_toArray, List.set_cons_zero, List.set_cons_succ]
            refine wpList_skipG (by kernel_rfl) ?_
            simp only [Act.put, List.setIfInBounds_toArray, List.set_cons_zero, List.set_cons_succ]
            refine wpList_skipG (by kernel_rfl) ?_
            simp only [Act.put, List.setIfInBounds_toArray, List.set_cons_zero, List.set_cons_succ]
            refine wpList_skipG (by kernel_rfl) ?_
            simp only [Act.put, List.setIfInBounds_toArray, List.set_cons_zero, List.set_cons_succ]
            refine wpList_skipG (by kernel_rfl) ?_
            simp only [Act.put, List.setIfInBounds_toArray, List.set_cons_zero, List.set_cons_succ]
            refine wpList_skipG (by kernel_rfl) ?_
            simp only [Act.put, List.setIfInBounds_toArray, List.set_cons_zero, List.set_cons_succ]
            refine wpList_skipG (by kernel_rfl) ?_
            simp only [Act.put, List.setIfInBounds_toArray, List.set_cons_zero, List.set_cons_succ]
            refine wpList_skipG (by kernel_rfl) ?_
            simp only [Act.put, List.setIfInBounds_toArray, List.set_cons_zero, List.set_cons_succ]
            refine wpList_skipG (by kernel_rfl) ?_
            simp only [Act.put, List.setIfInBounds_toArray, List.set_cons_zero, List.set_cons_succ]
            refine wpList_skipG (by kernel_rfl) ?_
            simp only [Act.put, List.setIfInBounds_toArray, List.set_cons_zero, List.set_cons_succ]
            refine wpList_skipG (by kernel_rfl) ?_
            simp only [Act.put, List.setIfInBounds_toArray, List.set_cons_zero, List.set_cons_succ]
            refine wpList_skipG (by kernel_rfl) ?_
            simp only [Act.put, List.setIfInBounds_toArray, List.set_cons_zero, List.set_cons_succ]
            refine wpList_skipG (by kernel_rfl) ?_
            simp only [Act.put, List.setIfInBounds_toArray, List.set_cons_zero, List.set_cons_succ]
            refine wpList_skipG (by kernel_rfl) ?_
            simp only [Act.put, List.setIfInBounds_toArray, List.set_cons_zero, List.set_cons_succ]
            refine wpList_skipG (by kernel_rfl) ?_
            simp only [Act.put, List.setIfInBounds_toArray, List.set_cons_zero, List.set_cons_succ]
            refine wpList_skipG (by kernel_rfl) ?_
            simp only [Act.put, List.setIfInBounds_toArray, List.set_cons_zero, List.set_cons_succ]
            refine wpList_skipG (by kernel_rfl) ?_
            simp only [Act.put, List.setIfInBounds_toArray, List.set_cons_zero, List.set_cons_succ]
            refine wpList_skipG (by kernel_rfl) ?_
            simp only [Act.put, List.setIfInBounds_toArray, List.set_cons_zero, List.set_cons_succ]
            refine wpList_skipG (by kernel_rfl) ?_
            simp only [Act.put, List.setIfInBounds_toArray, List.set_cons_zero, List.set_cons_succ]
            refine wpList_skipG (by kernel_rfl) ?_
            simp only [Act.put, List.setIfInBounds_toArray, List.set_cons_zero, List.set_cons_succ]
            refine wpList_runToG (by kernel_rfl) (some 70) rfl (.bool false) w1 (by kernel_rfl) ?_
            simp only [Act.put, List.setIfInBounds_toArray, List.set_cons_zero, List.set_cons_succ]
            refine wpList_runTo rfl (some 71) rfl (.bool false) w1 (by exact pickN_run (c := false) (.tmp 35) (.tmp 70) rfl (by kernel_rfl) (by kernel_rfl) _) ?_
            simp only [Act.put, List.setIfInBounds_toArray, List.set_cons_zero, List.set_cons_succ]
            refine wpList_nil ?_
            refine hK _ _ ?_
            clear hK
            go_meet
            exact ⟨rfl, rfl⟩
          | false =>
            refine wp_region_lit ?_
            refine wpList_runTo rfl (some 28) rfl (.int .i64 N) w1 (by kernel_rfl) ?_
            simp only [Act.put, List.setIfInBounds_toArray, List.set_cons_zero, List.set_cons_succ]
            refine wpList_runTo rfl (some 29) rfl (.slice (some ⟨g, of, none⟩) n c) w1 (by kernel_rfl) ?_
            simp only [Act.put, List.setIfInBounds_toArray, List.set_cons_zero, List.set_cons_succ]
            refine wpList_runTo rfl (some 30) rfl (.int .i64 (i : Int)) w1 (by kernel_rfl) ?_
            simp only [Act.put, List.setIfInBounds_toArray, List.set_cons_zero, List.set_cons_succ]
            refine wpList_runTo rfl (some 31) rfl (.pointer (some ⟨g, of + i * 15, none⟩)) w1 (by exact ixOr_run (n := n) (c := c) (.tmp 29) (.tmp 30) rfl (by kernel_rfl) (by kernel_rfl) hlt _) ?_
            simp only [Act.put, List.setIfInBounds_toArray, List.set_cons_zero, List.set_cons_succ]
            refine wpList_runTo rfl (some 32) rfl (.pointer (some ⟨g, of + i * 15 + 9, none⟩)) w1 (by kernel_rfl) ?_
            simp only [Act.put, List.setIfInBounds_toArray, List.set_cons_zero, List.set_cons_succ]
            refine wpList_runTo rfl (some 33) rfl (.int .i64 qt) w1 (by exact ldN_run (.inl rfl) (.tmp 32) rfl (by kernel_rfl) (q9)) ?_
            simp only [Act.put, List.setIfInBounds_toArray, List.set_cons_zero, List.set_cons_succ]
            refine wpList_runTo rfl (some 34) rfl (.bool false) w1 (by exact gtV_run (.tmp 28) (.tmp 33) rfl (by kernel_rfl) (by kernel_rfl) (decide_eq_false (fun h => hle h)) _) ?_
            simp only [Act.put, List.setIfInBounds_toArray, List.set_cons_zero, List.set_cons_succ]
            refine wpList_runTo rfl (some 35) rfl (.bool false) w1 (by kernel_rfl) ?_
            simp only [Act.put, List.setIfInBounds_toArray, List.set_cons_zero, List.set_cons_succ]
            refine wpList_runToG (by kernel_rfl) (some 36) rfl (.int .i64 N) w1 (by kernel_rfl) ?_
            simp only [Act.put, List.setIfInBounds_toArray, List.set_cons_zero, List.set_cons_succ]
            refine wpList_runToG (by kernel_rfl) (some 37) rfl (.bool false) w1 (by exact gt02_run (.tmp 36) rfl (by kernel_rfl) (decide_eq_false (h0)) _) ?_
            simp only [Act.put, List.setIfInBounds_toArray, List.set_cons_zero, List.set_cons_succ]
            refine wpList_runToG (by kernel_rfl) (some 38) rfl (.bool false) w1 (by kernel_rfl) ?_
            simp only [Act.put, List.setIfInBounds_toArray, List.set_cons_zero, List.set_cons_succ]
            refine wpList_skipG (by kernel_rfl) ?_
            simp only [Act.put, List.setIfInBounds_toArray, List.set_cons_zero, List.set_cons_succ]
            refine wpList_skipG (by kernel_rfl) ?_
            simp only [Act.put, List.setIfInBounds_toArray, List.set_cons_zero, List.set_cons_succ]
            refine wpList_skipG (by kernel_rfl) ?_
            simp only [Act.put, List.setIfInBounds_toArray, List.set_cons_zero, List.set_cons_succ]
            refine wpList_skipG (by kernel_rfl) ?_
            simp only [Act.put, List.setIfInBounds_toArray, List.set_cons_zero, List.set_cons_succ]
            refine wpList_skipG (by kernel_rfl) ?_
            simp only [Act.put, List.setIfInBounds_toArray, List.set_cons_zero, List.set_cons_succ]
            refine wpList_skipG (by kernel_rfl) ?_
            simp only [Act.put, List.setIfInBounds_toArray, List.set_cons_zero, List.set_cons_succ]
            refine wpList_runToG (by kernel_rfl) (some 45) rfl (.bool false) w1 (by kernel_rfl) ?_
            simp only [Act.put, List.setIfInBounds_toArray, List.set_cons_zero, List.set_cons_succ]
            refine wpList_runToG (by kernel_rfl) (some 46) rfl (.bool false) w1 (by kernel_rfl) ?_
            simp only [Act.put, List.setIfInBounds_toArray, List.set_cons_zero, List.set_cons_succ]
            refine wpList_skipG (by kernel_rfl) ?_
            simp only [Act.put, List.setIfInBounds_toArray, List.set_cons_zero, List.set_cons_succ]
            refine wpList_skipG (by kernel_rfl) ?_
            simp only [Act.put, List.setIfInBounds_toArray, List.set_cons_zero, List.set_cons_succ]
            refine wpList_skipG (by kernel_rfl) ?_
            simp only [Act.put, List.setIfInBounds_toArray, List.set_cons_zero, List.set_cons_succ]
            refine wpList_skipG (by kernel_rfl) ?_
            simp only [Act.put, List.setIfInBounds_toArray, List.set_cons_zero, List.set_cons_succ]
            refine wpList_skipG (by kernel_rfl) ?_
            simp only [Act.put, List.setIfInBounds_toArray, List.set_cons_zero, List.set_cons_succ]
            refine wpList_skipG (by kernel_rfl) ?_
            simp only [Act.put, List.setIfInBounds_toArray, List.set_cons_zero, List.set_cons_succ]
            refine wpList_skipG (by kernel_rfl) ?_
            simp only [Act.put, List.setIfInBounds_toArray, List.set_cons_zero, List.set_cons_succ]
            refine wpList_skipG (by kernel_rfl) ?_
            simp only [Act.put, List.setIfInBounds_toArray, List.set_cons_zero, List.set_cons_succ]
            refine wpList_skipG (by kernel_rfl) ?_
            simp only [Act.put, List.setIfInBounds_toArray, List.set_cons_zero, List.set_cons_succ]
            refine wpList_skipG (by kernel_rfl) ?_
            simp only [Act.put, List.setIfInBounds_toArray, List.set_cons_zero, List.set_cons_succ]
            refine wpList_skipG (by kernel_rfl) ?_
            simp only [Act.put, List.setIfInBounds_toArray, List.set_cons_zero, List.set_cons_succ]
            refine wpList_skipG (by kernel_rfl) ?_
            simp only [Act.put, List.setIfInBounds_toArray, List.set_cons_zero, List.set_cons_succ]
            refine wpList_skipG (by kernel_rfl) ?_
            simp only [Act.put, List.setIfInBounds_toArray, List.set_cons_zero, List.set_cons_succ]
            refine wpList_skipG (by kernel_rfl) ?_
            simp only [Act.put, List.setIfInBounds_toArray, List.set_cons_zero, List.set_cons_succ]
            refine wpList_skipG (by kernel_rfl) ?_
            simp only [Act.put, List.setIfInBounds_toArray, List.set_cons_zero, List.set_cons_succ]
            refine wpList_skipG (by kernel_rfl) ?_
            simp only [Act.put, List.setIfInBounds_toArray, List.set_cons_zero, List.set_cons_succ]
            refine wpList_skipG (by kernel_rfl) ?_
            simp only [Act.put, List.setIfInBounds_toArray, List.set_cons_zero, List.set_cons_succ]
            refine wpList_skipG (by kernel_rfl) ?_
            simp only [Act.put, List.setIfInBounds_toArray, List.set_cons_zero, List.set_cons_succ]
            refine wpList_skipG (by kernel_rfl) ?_
            simp only [Act.put, List.setIfInBounds_toArray, List.set_cons_zero, List.set_cons_succ]
            refine wpList_skipG (by kernel_rfl) ?_
            simp only [Act.put, List.setIfInBounds_toArray, List.set_cons_zero, List.set_cons_succ]
            refine wpList_skipG (by kernel_rfl) ?_
            simp only [Act.put, List.setIfInBounds_toArray, List.set_cons_zero, List.set_cons_succ]
            refine wpList_skipG (by kernel_rfl) ?_
            simp only [Act.put, List.setIfInBounds_toArray, List.set_cons_zero, List.set_cons_succ]
            refine wpList_skipG (by kernel_rfl) ?_
            simp only [Act.put, List.setIfInBounds_toArray, List.set_cons_zero, List.set_cons_succ]
            refine wpList_runToG (by kernel_rfl) (some 70) rfl (.bool false) w1 (by kernel_rfl) ?_
            simp only [Act.put, List.setIfInBounds_toArray, List.set_cons_zero, List.set_cons_succ]
            refine wpList_runTo rfl (some 71) rfl (.bool false) w1 (by exact pickN_run (c := false) (.tmp 35) (.tmp 70) rfl (by kernel_rfl) (by kernel_rfl) _) ?_
            simp only [Act.put, List.setIfInBounds_toArray, List.set_cons_zero, List.set_cons_succ]
            refine wpList_nil ?_
            refine hK _ _ ?_
            clear hK
            go_meet
            exact ⟨rfl, rfl⟩
      case rest => as_aux_lemma =>
        obtain ⟨rfl, ew⟩ := hcut
        replace ew := ew.symm
        subst ew
        clear hle hsuit
        by_cases hNq : N = qt
        · have hNe : (N == qt) = true := by simp [hNq]
          clear HT
          go_wp2
          exact ⟨⟨i + 1, by omega, by go_num, HW.out⟩, by simp [RowKit.intOf]; omega⟩
        · have hNe : (N == qt) = false := by simp [hNq]
          obtain ⟨at_, hat⟩ : ∃ x, x = suitF buy p o := ⟨_, rfl⟩
          have hat2 : at_ = (decide (ty = 2) || (if buy = true then decide (p ≤ pr) else decide (pr ≤ p))) := by
            rw [hat, HO.out.2.2.2.1, HO.out.2.2.2.2.1]; rfl
          have HAT : Hid (at_ = suitF buy p o ∧ N ≠ qt) := ⟨hat, hNq⟩
          go_upto_region 8 with fail
          go_cut [11] (fun x11 wx => x11 = .bool at_ ∧ wx = w1)
          case first => as_aux_lemma =>
            rename_i K hK
            clear HT HP
            by_cases hty : ty = 2
            · have : at_ = true := by rw [hat2, decide_eq_true hty]; rfl
              subst this
              cases buy with
              | true =>
                refine wp_region_lit ?_
                refine wpList_runTo rfl (some 79) rfl (.slice (some ⟨g, of, none⟩) n c) w1 (by kernel_rfl) ?_
                simp only [Act.put, List.setIfInBounds_toArray, List.set_cons_zero, List.set_cons_succ]
                refine wpList_runTo rfl (some 80) rfl (.int .i64 (i : Int)) w1 (by kernel_rfl) ?_
                simp only [Act.put, List.setIfInBounds_toArray, List.set_cons_zero, List.set_cons_succ]
                refine wpList_runTo rfl (some 81) rfl (.pointer (some ⟨g, of + i * 15, none⟩)) w1 (by exact ixOr_run (n := n) (c := c) (.tmp 79) (.tmp 80) rfl (by kernel_rfl) (by kernel_rfl) hlt _) ?_
                simp only [Act.put, List.setIfInBounds_toArray, List.set_cons_zero, List.set_cons_succ]
                refine wpList_runTo rfl (some 82) rfl (.pointer (some ⟨g, of + i * 15 + 5, none⟩)) w1 (by kernel_rfl) ?_
                simp only [Act.put, List.setIfInBounds_toArray, List.set_cons_zero, List.set_cons_succ]
                refine wpList_runTo rfl (some 83) rfl (.int .i64 ty) w1 (by exact ldN_run (.inr rfl) (.tmp 82) rfl (by kernel_rfl) (q5)) ?_
                simp only [Act.put, List.setIfInBounds_toArray, List.set_cons_zero, List.set_cons_succ]
                refine wpList_runTo rfl (some 84) rfl (.bool true) w1 (by exact eqV_run (.inr rfl) (.tmp 83) (.const (.int .i64 2)) rfl (by kernel_rfl) (by kernel_rfl) (decide_eq_true (hty)) _) ?_
                simp only [Act.put, List.setIfInBounds_toArray, List.set_cons_zero, List.set_cons_succ]
                refine wpList_runTo rfl (some 85) rfl (.bool true) w1 (by kernel_rfl) ?_
                simp only [Act.put, List.setIfInBounds_toArray, List.set_cons_zero, List.set_cons_succ]
                refine wpList_skipG (by kernel_rfl) ?_
                simp only [Act.put, List.setIfInBounds_toArray, List.set_cons_zero, List.set_cons_succ]
                refine wpList_skipG (by kernel_rfl) ?_
                simp only [Act.put, List.setIfInBounds_toArray, List.set_cons_zero, List.set_cons_succ]
                refine wpList_skipG (by kernel_rfl) ?_
                simp only [Act.put, List.setIfInBounds_toArray, List.set_cons_zero, List.set_cons_succ]
                refine wpList_skipG (by kernel_rfl) ?_
                simp only [Act.put, List.setIfInBounds_toArray, List.set_cons_zero, List.set_cons_succ]
                refine wpList_skipG (by kernel_rfl) ?_
                simp only [Act.put, List.setIfInBounds_toArray, List.set_cons_zero, List.set_cons_succ]
                refine wpList_skipG (by kernel_rfl) ?_
                simp only [Act.put, List.setIfInBounds_toArray, List.set_cons_zero, List.set_cons_succ]
                refine wpList_skipG (by kernel_rfl) ?_
                simp only [Act.put, List.setIfInBounds_toArray, List.set_cons_zero, List.set_cons_succ]
                refine wpList_skipG (by kernel_rfl) ?_
                simp only [Act.put, List.setIfInBounds_toArray, List.set_cons_zero, List.set_cons_succ]
                refine wpList_skipG (by kernel_rfl) ?_
                simp only [Act.put, List.setIfInBounds_toArray, List.set_cons_zero, List.set_cons_succ]
                refine wpList_skipG (by kernel_rfl) ?_
                simp only [Act.put, List.setIfInBounds_toArray, List.set_cons_zero, List.set_cons_succ]
                refine wpList_runTo rfl (some 96) rfl (.bool true) w1 (by kernel_rfl) ?_
                simp only [Act.put, List.setIfInBounds_toArray, List.set_cons_zero, List.set_cons_succ]
                refine wpList_runTo rfl (some 97) rfl (.bool true) w1 (by kernel_rfl) ?_
                simp only [Act.put, List.setIfInBounds_toArray, List.set_cons_zero, List.set_cons_succ]
                refine wpList_skipG (by kernel_rfl) ?_
                simp only [Act.put, List.setIfInBounds_toArray, List.set_cons_zero, List.set_cons_succ]
                refine wpList_skipG (by kernel_rfl) ?_
                simp only [Act.put, List.setIfInBounds_toArray, List.set_cons_zero, List.set_cons_succ]
                refine wpList_skipG (by kernel_rfl) ?_
                simp only [Act.put, List.setIfInBounds_toArray, List.set_cons_zero, List.set_cons_succ]
                refine wpList_skipG (by kernel_rfl) ?_
                simp only [Act.put, List.setIfInBounds_toArray, List.set_cons_zero, List.set_cons_succ]
                refine wpList_skipG (by kernel_rfl) ?_
                simp only [Act.put, List.setIfInBounds_toArray, List.set_cons_zero, List.set_cons_succ]
                refine wpList_skipG (by kernel_rfl) ?_
                simp only [Act.put, List.setIfInBounds_toArray, List.set_cons_zero, List.set_cons_succ]
                refine wpList_skipG (by kernel_rfl) ?_
                simp only [Act.put, List.setIfInBounds_toArray, List.set_cons_zero, List.set_cons_succ]
                refine wpList_skipG (by kernel_rfl) ?_
                simp only [Act.put, List.setIfInBounds_toArray, List.set_cons_zero, List.set_cons_succ]
                refine wpList_skipG (by kernel_rfl) ?_
                simp only [Act.put, List.setIfInBounds_toArray, List.set_cons_zero, List.set_cons_succ]
                refine wpList_skipG (by kernel_rfl) ?_
                simp only [Act.put, List.setIfInBounds_toArray, List.set_cons_zero, List.set_cons_succ]
                refine wpList_skipG (by kernel_rfl) ?_
                simp only [Act.put, List.setIfInBounds_toArray, List.set_cons_zero, List.set_cons_succ]
                refine wpList_runTo rfl (some 109) rfl (.bool true) w1 (by kernel_rfl) ?_
                simp only [Act.put, List.setIfInBounds_toArray, List.set_cons_zero, List.set_cons_succ]
                refine wpList_runTo rfl (some 11) rfl (.bool true) w1 (by kernel_rfl) ?_
                simp only [Act.put, List.setIfInBounds_toArray, List.set_cons_zero, List.set_cons_succ]
                refine wpList_nil ?_
                refine hK _ _ ?_
                clear hK
                go_meet
                exact ⟨rfl, rfl⟩
              | false =>
                refine wp_region_lit ?_
                refine wpList_runTo rfl (some 79) rfl (.slice (some ⟨g, of, none⟩) n c) w1 (by kernel_rfl) ?_
                simp only [Act.put, List.setIfInBounds_toArray, List.set_cons_zero, List.set_cons_succ]
                refine wpList_runTo rfl (some 80) rfl (.int .i64 (i : Int)) w1 (by kernel_rfl) ?_
                simp only [Act.put, List.setIfInBounds_toArray, List.set_cons_zero, List.set_cons_succ]
                refine wpList_runTo rfl (some 81) rfl (.pointer (some ⟨g, of + i * 15, none⟩)) w1 (by exact ixOr_run (n := n) (c := c) (.tmp 79) (.tmp 80) rfl (by kernel_rfl) (by kernel_rfl) hlt _) ?_
                simp only [Act.put, List.setIfInBounds_toArray, List.set_cons_zero, List.set_cons_succ]
                refine wpList_runTo rfl (some 82) rfl (.pointer (some ⟨g, of + i * 15 + 5, none⟩)) w1 (by kernel_rfl) ?_
                simp only [Act.put, List.setIfInBounds_toArray, List.set_cons_zero, List.set_cons_succ]
                refine wpList_runTo rfl (some 83) rfl (.int .i64 ty) w1 (by exact ldN_run (.inr rfl) (.tmp 82) rfl (by kernel_rfl) (q5)) ?_
                simp only [Act.put, List.setIfInBounds_toArray, List.set_cons_zero, List.set_cons_succ]
                refine wpList_runTo rfl (some 84) rfl (.bool true) w1 (by exact eqV_run (.inr rfl) (.tmp 83) (.const (.int .i64 2)) rfl (by kernel_rfl) (by kernel_rfl) (decide_eq_true (hty)) _) ?_
                simp only [Act.put, List.setIfInBounds_toArray, List.set_cons_zero, List.set_cons_succ]
                refine wpList_runTo rfl (some 85) rfl (.bool true) w1 (by kernel_rfl) ?_
                simp only [Act.put, List.setIfInBounds_toArray, List.set_cons_zero, List.set_cons_succ]
                refine wpList_skipG (by kernel_rfl) ?_
                simp only [Act.put, List.setIfInBounds_toArray, List.set_cons_zero, List.set_cons_succ]
                refine wpList_skipG (by kernel_rfl) ?_
                simp only [Act.put, List.setIfInBounds_toArray, List.set_cons_zero, List.set_cons_succ]
                refine wpList_skipG (by kernel_rfl) ?_
                simp only [Act.put, List.setIfInBounds_toArray, List.set_cons_zero, List.set_cons_succ]
                refine wpList_skipG (by kernel_rfl) ?_
                simp only [Act.put, List.setIfInBounds_toArray, List.set_cons_zero, List.set_cons_succ]
                refine wpList_skipG (by kernel_rfl) ?_
                simp only [Act.put, List.setIfInBounds_toArray, List.set_cons_zero, List.set_cons_succ]
                refine wpList_skipG (by kernel_rfl) ?_
                simp only [Act.put, List.setIfInBounds_toArray, List.set_cons_zero, List.set_cons_succ]
                refine wpList_skipG (by kernel_rfl) ?_
                simp only [Act.put, List.setIfInBounds_toArray, List.set_cons_zero, List.set_cons_succ]
                refine wpList_skipG (by kernel_rfl) ?_
                simp only [Act.put, List.setIfInBounds_toArray, List.set_cons_zero, List.set_cons_succ]
                refine wpList_skipG (by kernel_rfl) ?_
                simp only [Act.put, List.setIfInBounds_toArray, List.set_cons_zero, List.set_cons_succ]
                refine wpList_skipG (by kernel_rfl) ?_
                simp only [Act.put, List.setIfInBounds_toArray, List.set_cons_zero, List.set_cons_succ]
                refine wpList_runTo rfl (some 96) rfl (.bool true) w1 (by kernel_rfl) ?_
                simp only [Act.put, List.setIfInBounds_toArray, List.set_cons_zero, List.set_cons_succ]
                refine wpList_runTo rfl (some 97) rfl (.bool true) w1 (by kernel_rfl) ?_
                simp only [Act.put, List.setIfInBounds_toArray, List.set_cons_zero, List.set_cons_succ]
                refine wpList_skipG (by kernel_rfl) ?_
                simp only [Act.put, List.setIfInBounds_toArray, List.set_cons_zero, List.set_cons_succ]
                refine wpList_skipG (by kernel_rfl) ?_
                simp only [Act.put, List.setIfInBounds_toArray, List.set_cons_zero, List.set_cons_succ]
                refine wpList_skipG (by kernel_rfl) ?_
                simp only [Act.put, List.setIfInBounds_toArray, List.set_cons_zero, List.set_cons_succ]
                refine wpList_skipG (by kernel_rfl) ?_
                simp only [Act.put, List.setIfInBounds_toArray, List.set_cons_zero, List.set_cons_succ]
                refine wpList_skipG (by kernel_rfl) ?_
                simp only [Act.put, List.setIfInBounds_toArray, List.set_cons_zero, List.set_cons_succ]
                refine wpList_skipG (by kernel_rfl) ?_
                simp only [Act.put, List.setIfInBounds_toArray, List.set_cons_zero, List.set_cons_succ]
                refine wpList_skipG (by kernel_rfl) ?_
                simp only [Act.put, List.setIfInBounds_toArray, List.set_cons_zero, List.set_cons_succ]
                refine wpList_skipG (by kernel_rfl) ?_
                simp only [Act.put, List.setIfInBounds_toArray, List.set_cons_zero, List.set_cons_succ]
                refine wpList_skipG (by kernel_rfl) ?_
                simp only [Act.put, List.setIfInBounds_toArray, List.set_cons_zero, List.set_cons_succ]
                refine wpList_skipG (by kernel_rfl) ?_
                simp only [Act.put, List.setIfInBounds_toArray, List.set_cons_zero, List.set_cons_succ]
                refine wpList_skipG (by kernel_rfl) ?_
                simp only [Act.put, List.setIfInBounds_toArray, List.set_cons_zero, List.set_cons_succ]
                refine wpList_runTo rfl (some 109) rfl (.bool true) w1 (by kernel_rfl) ?_
                simp only [Act.put, List.setIfInBounds_toArray, List.set_cons_zero, List.set_cons_succ]
                refine wpList_runTo rfl (some 11) rfl (.bool true) w1 (by kernel_rfl) ?_
                simp only [Act.put, List.setIfInBounds_toArray, List.set_cons_zero, List.set_cons_succ]
                refine wpList_nil ?_
                refine hK _ _ ?_
                clear hK
                go_meet
                exact ⟨rfl, rfl⟩
            · rw [decide_eq_false hty, Bool.false_or] at hat2
              cases buy with
              | true =>
                simp only [if_true] at hat2
                by_cases hc : p ≤ pr
                · have : at_ = true := by rw [hat2]; exact decide_eq_true hc
                  subst this
                  refine wp_region_lit ?_
                  refine wpList_runTo rfl (some 79) rfl (.slice (some ⟨g, of, none⟩) n c) w1 (by kernel_rfl) ?_
                  simp only [Act.put, List.setIfInBounds_toArray, List.set_cons_zero, List.set_cons_succ]
                  refine wpList_runTo rfl (some 80) rfl (.int .i64 (i : Int)) w1 (by kernel_rfl) ?_
                  simp only [Act.put, List.setIfInBounds_toArray, List.set_cons_zero, List.set_cons_succ]
                  refine wpList_runTo rfl (some 81) rfl (.pointer (some ⟨g, of + i * 15, none⟩)) w1 (by exact ixOr_run (n := n) (c := c) (.tmp 79) (.tmp 80) rfl (by kernel_rfl) (by kernel_rfl) hlt _) ?_
                  simp only [Act.put, List.setIfInBounds_toArray, List.set_cons_zero, List.set_cons_succ]
                  refine wpList_runTo rfl (some 82) rfl (.pointer (some ⟨g, of + i * 15 + 5, none⟩)) w1 (by kernel_rfl) ?_
                  simp only [Act.put, List.setIfInBounds_toArray, List.set_cons_zero, List.set_cons_succ]
                  refine wpList_runTo rfl (some 83) rfl (.int .i64 ty) w1 (by exact ldN_run (.inr rfl) (.tmp 82) rfl (by kernel_rfl) (q5)) ?_
                  simp only [Act.put, List.setIfInBounds_toArray, List.set_cons_zero, List.set_cons_succ]
                  refine wpList_runTo rfl (some 84) rfl (.bool false) w1 (by exact eqV_run (.inr rfl) (.tmp 83) (.const (.int .i64 2)) rfl (by kernel_rfl) (by kernel_rfl) (decide_eq_false (hty)) _) ?_
                  simp only [Act.put, List.setIfInBounds_toArray, List.set_cons_zero, List.set_cons_succ]
                  refine wpList_runTo rfl (some 85) rfl (.bool false) w1 (by kernel_rfl) ?_
                  simp only [Act.put, List.setIfInBounds_toArray, List.set_cons_zero, List.set_cons_succ]
                  refine wpList_runToG (by kernel_rfl) (some 86) rfl (.bool true) w1 (by kernel_rfl) ?_
                  simp only [Act.put, List.setIfInBounds_toArray, List.set_cons_zero, List.set_cons_succ]
                  refine wpList_runToG (by kernel_rfl) (some 87) rfl (.bool true) w1 (by kernel_rfl) ?_
                  simp only [Act.put, List.setIfInBounds_toArray, List.set_cons_zero, List.set_cons_succ]
                  refine wpList_runToG (by kernel_rfl) (some 88) rfl (.slice (some ⟨g, of, none⟩) n c) w1 (by kernel_rfl) ?_
                  simp only [Act.put, List.setIfInBounds_toArray, List.set_cons_zero, List.set_cons_succ]
                  refine wpList_runToG (by kernel_rfl) (some 89) rfl (.int .i64 (i : Int)) w1 (by kernel_rfl) ?_
                  simp only [Act.put, List.setIfInBounds_toArray, List.set_cons_zero, List.set_cons_succ]
                  refine wpList_runToG (by kernel_rfl) (some 90) rfl (.pointer (some ⟨g, of + i * 15, none⟩)) w1 (by exact ixOr_run (n := n) (c := c) (.tmp 88) (.tmp 89) rfl (by kernel_rfl) (by kernel_rfl) hlt _) ?_
                  simp only [Act.put, List.setIfInBounds_toArray, List.set_cons_zero, List.set_cons_succ]
                  refine wpList_runToG (by kernel_rfl) (some 91) rfl (.pointer (some ⟨g, of + i * 15 + 7, none⟩)) w1 (by kernel_rfl) ?_
                  simp only [Act.put, List.setIfInBounds_toArray, List.set_cons_zero, List.set_cons_succ]
                  refine wpList_runToG (by kernel_rfl) (some 92) rfl (.int .i64 pr) w1 (by exact ldN_run (.inl rfl) (.tmp 91) rfl (by kernel_rfl) (q7)) ?_
                  simp only [Act.put, List.setIfInBounds_toArray, List.set_cons_zero, List.set_cons_succ]
                  refine wpList_runToG (by kernel_rfl) (some 93) rfl (.int .i64 p) w1 (by kernel_rfl) ?_
                  simp only [Act.put, List.setIfInBounds_toArray, List.set_cons_zero, List.set_cons_succ]
                  refine wpList_runToG (by kernel_rfl) (some 94) rfl (.bool true) w1 (by exact geV_run (.tmp 92) (.tmp 93) rfl (by kernel_rfl) (by kernel_rfl) (decide_eq_true (hc)) _) ?_
                  simp only [Act.put, List.setIfInBounds_toArray, List.set_cons_zero, List.set_cons_succ]
                  refine wpList_runToG (by kernel_rfl) (some 95) rfl (.bool true) w1 (by exact pick_run (c := true) (.tmp 87) (.tmp 94) rfl (by kernel_rfl) (by kernel_rfl) _) ?_
                  simp only [Act.put, List.setIfInBounds_toArray, List.set_cons_zero, List.set_cons_succ]
                  refine wpList_runTo rfl (some 96) rfl (.bool true) w1 (by exact pickN_run (c := true) (.tmp 85) (.tmp 95) rfl (by kernel_rfl) (by kernel_rfl) _) ?_
                  simp only [Act.put, List.setIfInBounds_toArray, List.set_cons_zero, List.set_cons_succ]
                  refine wpList_runTo rfl (some 97) rfl (.bool true) w1 (by kernel_rfl) ?_
                  simp only [Act.put, List.setIfInBounds_toArray, List.set_cons_zero, List.set_cons_succ]
                  refine wpList_skipG (by kernel_rfl) ?_
                  simp only [Act.put, List.setIfInBounds_toArray, List.set_cons_zero, List.set_cons_succ]
                  refine wpList_skipG (by kernel_rfl) ?_
                  simp only [Act.put, List.setIfInBounds_toArray, List.set_cons_zero, List.set_cons_succ]
                  refine wpList_skipG (by kernel_rfl) ?_
                  simp only [Act.put, List.setIfInBounds_toArray, List.set_cons_zero, List.set_cons_succ]
                  refine wpList_skipG (by kernel_rfl) ?_
                  simp only [Act.put, List.setIfInBounds_toArray, List.set_cons_zero, List.set_cons_succ]
                  refine wpList_skipG (by kernel_rfl) ?_
                  simp only [Act.put, List.setIfInBounds_toArray, List.set_cons_zero, List.set_cons_succ]
                  refine wpList_skipG (by kernel_rfl) ?_
                  simp only [Act.put, List.setIfInBounds_toArray, List.set_cons_zero, List.set_cons_succ]
                  refine wpList_skipG (by kernel_rfl) ?_
                  simp only [Act.put, List.setIfInBounds_toArray, List.set_cons_zero, List.set_cons_succ]
                  refine wpList_skipG (by kernel_rfl) ?_
                  simp only [Act.put, List.setIfInBounds_toArray, List.set_cons_zero, List.set_cons_succ]
                  refine wpList_skipG (by kernel_rfl) ?_
                  simp only [Act.put, List.setIfInBounds_toArray, List.set_cons_zero, List.set_cons_succ]
                  refine wpList_skipG (by kernel_rfl) ?_
                  simp only [Act.put, List.setIfInBounds_toArray, List.set_cons_zero, List.set_cons_succ]
                  refine wpList_skipG (by kernel_rfl) ?_
                  simp only [Act.put, List.setIfInBounds_toArray, List.set_cons_zero, List.set_cons_succ]
                  refine wpList_runTo rfl (some 109) rfl (.bool true) w1 (by kernel_rfl) ?_
                  simp only [Act.put, List.setIfInBounds_toArray, List.set_cons_zero, List.set_cons_succ]
                  refine wpList_runTo rfl (some 11) rfl (.bool true) w1 (by kernel_rfl) ?_
                  simp only [Act.put, List.setIfInBounds_toArray, List.set_cons_zero, List.set_cons_succ]
                  refine wpList_nil ?_
                  refine hK _ _ ?_
                  clear hK
                  go_meet
                  exact ⟨rfl, rfl⟩
                · have : at_ = false := by rw [hat2]; exact decide_eq_false hc
                  subst this
                  refine wp_region_lit ?_
                  refine wpList_runTo rfl (some 79) rfl (.slice (some ⟨g, of, none⟩) n c) w1 (by kernel_rfl) ?_
                  simp only [Act.put, List.setIfInBounds_toArray, List.set_cons_zero, List.set_cons_succ]
                  refine wpList_runTo rfl (some 80) rfl (.int .i64 (i : Int)) w1 (by kernel_rfl) ?_
                  simp only [Act.put, List.setIfInBounds_toArray, List.set_cons_zero, List.set_cons_succ]
                  refine wpList_runTo rfl (some 81) rfl (.pointer (some ⟨g, of + i * 15, none⟩)) w1 (by exact ixOr_run (n := n) (c := c) (.tmp 79) (.tmp 80) rfl (by kernel_rfl) (by kernel_rfl) hlt _) ?_
                  simp only [Act.put, List.setIfInBounds_toArray, List.set_cons_zero, List.set_cons_succ]
                  refine wpList_runTo rfl (some 82) rfl (.pointer (some ⟨g, of + i * 15 + 5, none⟩)) w1 (by kernel_rfl) ?_
                  simp only [Act.put, List.setIfInBounds_toArray, List.set_cons_zero, List.set_cons_succ]
                  refine wpList_runTo rfl (some 83) rfl (.int .i64 ty) w1 (by exact ldN_run (.inr rfl) (.tmp 82) rfl (by kernel_rfl) (q5)) ?_
                  simp only [Act.put, List.setIfInBounds_toArray, List.set_cons_zero, List.set_cons_succ]
                  refine wpList_runTo rfl (some 84) rfl (.bool false) w1 (by exact eqV_run (.inr rfl) (.tmp 83) (.const (.int .i64 2)) rfl (by kernel_rfl) (by kernel_rfl) (decide_eq_false (hty)) _) ?_
                  simp only [Act.put, List.setIfInBounds_toArray, List.set_cons_zero, List.set_cons_succ]
                  refine wpList_runTo rfl (some 85) rfl (.bool false) w1 (by kernel_rfl) ?_
                  simp only [Act.put, List.setIfInBounds_toArray, List.set_cons_zero, List.set_cons_succ]
                  refine wpList_runToG (by kernel_rfl) (some 86) rfl (.bool true) w1 (by kernel_rfl) ?_
                  simp only [Act.put, List.setIfInBounds_toArray, List.set_cons_zero, List.set_cons_succ]
                  refine wpList_runToG (by kernel_rfl) (some 87) rfl (.bool true) w1 (by kernel_rfl) ?_
                  simp only [Act.put, List.setIfInBounds_toArray, List.set_cons_zero, List.set_cons_succ]
                  refine wpList_runToG (by kernel_rfl) (some 88) rfl (.slice (some ⟨g, of, none⟩) n c) w1 (by kernel_rfl) ?_
                  simp only [Act.put, List.setIfInBounds_toArray, List.set_cons_zero, List.set_cons_succ]
                  refine wpList_runToG (by kernel_rfl) (some 89) rfl (.int .i64 (i : Int)) w1 (by kernel_rfl) ?_
                  simp only [Act.put, List.setIfInBounds_toArray, List.set_cons_zero, List.set_cons_succ]
                  refine wpList_runToG (by kernel_rfl) (some 90) rfl (.pointer (some ⟨g, of + i * 15, none⟩)) w1 (by exact ixOr_run (n := n) (c := c) (.tmp 88) (.tmp 89) rfl (by kernel_rfl) (by kernel_rfl) hlt _) ?_
                  simp only [Act.put, List.setIfInBounds_toArray, List.set_cons_zero, List.set_cons_succ]
                  refine wpList_runToG (by kernel_rfl) (some 91) rfl (.pointer (some ⟨g, of + i * 15 + 7, none⟩)) w1 (by kernel_rfl) ?_
                  simp only [Act.put, List.setIfInBounds_toArray, List.set_cons_zero, List.set_cons_succ]
                  refine wpList_runToG (by kernel_rfl) (some 92) rfl (.int .i64 pr) w1 (by exact ldN_run (.inl rfl) (.tmp 91) rfl (by kernel_rfl) (q7)) ?_
                  simp only [Act.put, List.setIfInBounds_toArray, List.set_cons_zero, List.set_cons_succ]
                  refine wpList_runToG (by kernel_rfl) (some 93) rfl (.int .i64 p) w1 (by kernel_rfl) ?_
                  simp only [Act.put, List.setIfInBounds_toArray, List.set_cons_zero, List.set_cons_succ]
                  refine wpList_runToG (by kernel_rfl) (some 94) rfl (.bool false) w1 (by exact geV_run (.tmp 92) (.tmp 93) rfl (by kernel_rfl) (by kernel_rfl) (decide_eq_false (hc)) _) ?_
                  simp only [Act.put, List.setIfInBounds_toArray, List.set_cons_zero, List.set_cons_succ]
                  refine wpList_runToG (by kernel_rfl) (some 95) rfl (.bool false) w1 (by exact pick_run (c := false) (.tmp 87) (.tmp 94) rfl (by kernel_rfl) (by kernel_rfl) _) ?_
                  simp only [Act.put, List.setIfInBounds_toArray, List.set_cons_zero, List.set_cons_succ]
                  refine wpList_runTo rfl (some 96) rfl (.bool false) w1 (by exact pickN_run (c := false) (.tmp 85) (.tmp 95) rfl (by kernel_rfl) (by kernel_rfl) _) ?_
                  simp only [Act.put, List.setIfInBounds_toArray, List.set_cons_zero, List.set_cons_succ]
                  refine wpList_runTo rfl (some 97) rfl (.bool false) w1 (by kernel_rfl) ?_
                  simp only [Act.put, List.setIfInBounds_toArray, List.set_cons_zero, List.set_cons_succ]
                  refine wpList_runToG (by kernel_rfl) (some 98) rfl (.bool true) w1 (by kernel_rfl) ?_
                  simp only [Act.put, List.setIfInBounds_toArray, List.set_cons_zero, List.set_cons_succ]
                  refine wpList_runToG (by kernel_rfl) (some 99) rfl (.bool false) w1 (by kernel_rfl) ?_
                  simp only [Act.put, List.setIfInBounds_toArray, List.set_cons_zero, List.set_cons_succ]
                  refine wpList_runToG (by kernel_rfl) (some 100) rfl (.bool false) w1 (by kernel_rfl) ?_
                  simp only [Act.put, List.setIfInBounds_toArray, List.set_cons_zero, List.set_cons_succ]
                  refine wpList_skipG (by kernel_rfl) ?_
                  simp only [Act.put, List.setIfInBounds_toArray, List.set_cons_zero, List.set_cons_succ]
                  refine wpList_skipG (by kernel_rfl) ?_
                  simp only [Act.put, List.setIfInBounds_toArray, List.set_cons_zero, List.set_cons_succ]
                  refine wpList_skipG (by kernel_rfl) ?_
                  simp only [Act.put, List.setIfInBounds_toArray, List.set_cons_zero, List.set_cons_succ]
                  refine wpList_skipG (by kernel_rfl) ?_
                  simp only [Act.put, List.setIfInBounds_toArray, List.set_cons_zero, List.set_cons_succ]
                  refine wpList_skipG (by kernel_rfl) ?_
                  simp only [Act.put, List.setIfInBounds_toArray, List.set_cons_zero, List.set_cons_succ]
                  refine wpList_skipG (by kernel_rfl) ?_
                  simp only [Act.put, List.setIfInBounds_toArray, List.set_cons_zero, List.set_cons_succ]
                  refine wpList_skipG (by kernel_rfl) ?_
                  simp only [Act.put, List.setIfInBounds_toArray, List.set_cons_zero, List.set_cons_succ]
                  refine wpList_runToG (by kernel_rfl) (some 108) rfl (.bool false) w1 (by kernel_rfl) ?_
                  simp only [Act.put, List.setIfInBounds_toArray, List.set_cons_zero, List.set_cons_succ]
                  refine wpList_runTo rfl (some 109) rfl (.bool false) w1 (by exact pickN_run (c := false) (.tmp 97) (.tmp 108) rfl (by kernel_rfl) (by kernel_rfl) _) ?_
                  simp only [Act.put, List.setIfInBounds_toArray, List.set_cons_zero, List.set_cons_succ]
                  refine wpList_runTo rfl (some 11) rfl (.bool false) w1 (by kernel_rfl) ?_
                  simp only [Act.put, List.setIfInBounds_toArray, List.set_cons_zero, List.set_cons_succ]
                  refine wpList_nil ?_
                  refine hK _ _ ?_
                  clear hK
                  go_meet
                  exact ⟨rfl, rfl⟩
              | false =>
                simp only [Bool.false_eq_true, if_false] at hat2
                by_cases hc : pr ≤ p
                · have : at_ = true := by rw [hat2]; exact decide_eq_true hc
                  subst this
                  refine wp_region_lit ?_
                  refine wpList_runTo rfl (some 79) rfl (.slice (some ⟨g, of, none⟩) n c) w1 (by kernel_rfl) ?_
                  simp only [Act.put, List.setIfInBounds_toArray, List.set_cons_zero, List.set_cons_succ]
                  refine wpList_runTo rfl (some 80) rfl (.int .i64 (i : Int)) w1 (by kernel_rfl) ?_
                  simp only [Act.put, List.setIfInBounds_toArray, List.set_cons_zero, List.set_cons_succ]
                  refine wpList_runTo rfl (some 81) rfl (.pointer (some ⟨g, of + i * 15, none⟩)) w1 (by exact ixOr_run (n := n) (c := c) (.tmp 79) (.tmp 80) rfl (by kernel_rfl) (by kernel_rfl) hlt _) ?_
                  simp only [Act.put, List.setIfInBounds_toArray, List.set_cons_zero, List.set_cons_succ]
                  refine wpList_runTo rfl (some 82) rfl (.pointer (some ⟨g, of + i * 15 + 5, none⟩)) w1 (by kernel_rfl) ?_
                  simp only [Act.put, List.setIfInBounds_toArray, List.set_cons_zero, List.set_cons_succ]
                  refine wpList_runTo rfl (some 83) rfl (.int .i64 ty) w1 (by exact ldN_run (.inr rfl) (.tmp 82) rfl (by kernel_rfl) (q5)) ?_
                  simp only [Act.put, List.setIfInBounds_toArray, List.set_cons_zero, List.set_cons_succ]
                  refine wpList_runTo rfl (some 84) rfl (.bool false) w1 (by exact eqV_run (.inr rfl) (.tmp 83) (.const (.int .i64 2)) rfl (by kernel_rfl) (by kernel_rfl) (decide_eq_false (hty)) _) ?_
                  simp only [Act.put, List.setIfInBounds_toArray, List.set_cons_zero, List.set_cons_succ]
                  refine wpList_runTo rfl (some 85) rfl (.bool false) w1 (by kernel_rfl) ?_
                  simp only [Act.put, List.setIfInBounds_toArray, List.set_cons_zero, List.set_cons_succ]
                  refine wpList_runToG (by kernel_rfl) (some 86) rfl (.bool false) w1 (by kernel_rfl) ?_
                  simp only [Act.put, List.setIfInBounds_toArray, List.set_cons_zero, List.set_cons_succ]
                  refine wpList_runToG (by kernel_rfl) (some 87) rfl (.bool false) w1 (by kernel_rfl) ?_
                  simp only [Act.put, List.setIfInBounds_toArray, List.set_cons_zero, List.set_cons_succ]
                  refine wpList_skipG (by kernel_rfl) ?_
                  simp only [Act.put, List.setIfInBounds_toArray, List.set_cons_zero, List.set_cons_succ]
                  refine wpList_skipG (by kernel_rfl) ?_
                  simp only [Act.put, List.setIfInBounds_toArray, List.set_cons_zero, List.set_cons_succ]
                  refine wpList_skipG (by kernel_rfl) ?_
                  simp only [Act.put, List.setIfInBounds_toArray, List.set_cons_zero, List.set_cons_succ]
                  refine wpList_skipG (by kernel_rfl) ?_
                  simp only [Act.put, List.setIfInBounds_toArray, List.set_cons_zero, List.set_cons_succ]
                  refine wpList_skipG (by kernel_rfl) ?_
                  simp only [Act.put, List.setIfInBounds_toArray, List.set_cons_zero, List.set_cons_succ]
                  refine wpList_skipG (by kernel_rfl) ?_
                  simp only [Act.put, List.setIfInBounds_toArray, List.set_cons_zero, List.set_cons_succ]
                  refine wpList_skipG (by kernel_rfl) ?_
                  simp only [Act.put, List.setIfInBounds_toArray, List.set_cons_zero, List.set_cons_succ]
                  refine wpList_runToG (by kernel_rfl) (some 95) rfl (.bool false) w1 (by kernel_rfl) ?_
                  simp only [Act.put, List.setIfInBounds_toArray, List.set_cons_zero, List.set_cons_succ]
                  refine wpList_runTo rfl (some 96) rfl (.bool false) w1 (by exact pickN_run (c := false) (.tmp 85) (.tmp 95) rfl (by kernel_rfl) (by kernel_rfl) _) ?_
                  simp only [Act.put, List.setIfInBounds_toArray, List.set_cons_zero, List.set_cons_succ]
                  refine wpList_runTo rfl (some 97) rfl (.bool false) w1 (by kernel_rfl) ?_
                  simp only [Act.put, List.setIfInBounds_toArray, List.set_cons_zero, List.set_cons_succ]
                  refine wpList_runToG (by kernel_rfl) (some 98) rfl (.bool false) w1 (by kernel_rfl) ?_
                  simp only [Act.put, List.setIfInBounds_toArray, List.set_cons_zero, List.set_cons_succ]
                  refine wpList_runToG (by kernel_rfl) (some 99) rfl (.bool true) w1 (by kernel_rfl) ?_
                  simp only [Act.put, List.setIfInBounds_toArray, List.set_cons_zero, List.set_cons_succ]
                  refine wpList_runToG (by kernel_rfl) (some 100) rfl (.bool true) w1 (by kernel_rfl) ?_
                  simp only [Act.put, List.setIfInBounds_toArray, List.set_cons_zero, List.set_cons_succ]
                  refine wpList_runToG (by kernel_rfl) (some 101) rfl (.slice (some ⟨g, of, none⟩) n c) w1 (by kernel_rfl) ?_
                  simp only [Act.put, List.setIfInBounds_toArray, List.set_cons_zero, List.set_cons_succ]
                  refine wpList_runToG (by kernel_rfl) (some 102) rfl (.int .i64 (i : Int)) w1 (by kernel_rfl) ?_
                  simp only [Act.put, List.setIfInBounds_toArray, List.set_cons_zero, List.set_cons_succ]
                  refine wpList_runToG (by kernel_rfl) (some 103) rfl (.pointer (some ⟨g, of + i * 15, none⟩)) w1 (by exact ixOr_run (n := n) (c := c) (.tmp 101) (.tmp 102) rfl (by kernel_rfl) (by kernel_rfl) hlt _) ?_
                  simp only [Act.put, List.setIfInBounds_toArray, List.set_cons_zero, List.set_cons_succ]
                  refine wpList_runToG (by kernel_rfl) (some 104) rfl (.pointer (some ⟨g, of + i * 15 + 7, none⟩)) w1 (by kernel_rfl) ?_
                  simp only [Act.put, List.setIfInBounds_toArray, List.set_cons_zero, List.set_cons_succ]
                  refine wpList_runToG (by kernel_rfl) (some 105) rfl (.int .i64 pr) w1 (by exact ldN_run (.inl rfl) (.tmp 104) rfl (by kernel_rfl) (q7)) ?_
                  simp only [Act.put, List.setIfInBounds_toArray, List.set_cons_zero, List.set_cons_succ]
                  refine wpList_runToG (by kernel_rfl) (some 106) rfl (.int .i64 p) w1 (by kernel_rfl) ?_
                  simp only [Act.put, List.setIfInBounds_toArray, List.set_cons_zero, List.set_cons_succ]
                  refine wpList_runToG (by kernel_rfl) (some 107) rfl (.bool true) w1 (by exact leV_run (.tmp 105) (.tmp 106) rfl (by kernel_rfl) (by kernel_rfl) (decide_eq_true (hc)) _) ?_
                  simp only [Act.put, List.setIfInBounds_toArray, List.set_cons_zero, List.set_cons_succ]
                  refine wpList_runToG (by kernel_rfl) (some 108) rfl (.bool true) w1 (by exact pick_run (c := true) (.tmp 100) (.tmp 107) rfl (by kernel_rfl) (by kernel_rfl) _) ?_
                  simp only [Act.put, List.setIfInBounds_toArray, List.set_cons_zero, List.set_cons_succ]
                  refine wpList_runTo rfl (some 109) rfl (.bool true) w1 (by exact pickN_run (c := true) (.tmp 97) (.tmp 108) rfl (by kernel_rfl) (by kernel_rfl) _) ?_
                  simp only [Act.put, List.setIfInBounds_toArray, List.set_cons_zero, List.set_cons_succ]
                  refine wpList_runTo rfl (some 11) rfl (.bool true) w1 (by kernel_rfl) ?_
                  simp only [Act.put, List.setIfInBounds_toArray, List.set_cons_zero, List.set_cons_succ]
                  refine wpList_nil ?_
                  refine hK _ _ ?_
                  clear hK
                  go_meet
                  exact ⟨rfl, rfl⟩
                · have : at_ = false := by rw [hat2]; exact decide_eq_false hc
                  subst this
                  refine wp_region_lit ?_
                  refine wpList_runTo rfl (some 79) rfl (.slice (some ⟨g, of, none⟩) n c) w1 (by kernel_rfl) ?_
                  simp only [Act.put, List.setIfInBounds_toArray, List.set_cons_zero, List.set_cons_succ]
                  refine wpList_runTo rfl (some 80) rfl (.int .i64 (i : Int)) w1 (by kernel_rfl) ?_
                  simp only [Act.put, List.setIfInBounds_toArray, List.set_cons_zero, List.set_cons_succ]
                  refine wpList_runTo rfl (some 81) rfl (.pointer (some ⟨g, of + i * 15, none⟩)) w1 (by exact ixOr_run (n := n) (c := c) (.tmp 79) (.tmp 80) rfl (by kernel_rfl) (by kernel_rfl) hlt _) ?_
                  simp only [Act.put, List.setIfInBounds_toArray, List.set_cons_zero, List.set_cons_succ]
                  refine wpList_runTo rfl (some 82) rfl (.pointer (some ⟨g, of + i * 15 + 5, none⟩)) w1 (by kernel_rfl) ?_
                  simp only [Act.put, List.setIfInBounds_toArray, List.set_cons_zero, List.set_cons_succ]
                  refine wpList_runTo rfl (some 83) rfl (.int .i64 ty) w1 (by exact ldN_run (.inr rfl) (.tmp 82) rfl (by kernel_rfl) (q5)) ?_
                  simp only [Act.put, List.setIfInBounds_toArray, List.set_cons_zero, List.set_cons_succ]
                  refine wpList_runTo rfl (some 84) rfl (.bool false) w1 (by exact eqV_run (.inr rfl) (.tmp 83) (.const (.int .i64 2)) rfl (by kernel_rfl) (by kernel_rfl) (decide_eq_false (hty)) _) ?_
                  simp only [Act.put, List.setIfInBounds_toArray, List.set_cons_zero, List.set_cons_succ]
                  refine wpList_runTo rfl (some 85) rfl (.bool false) w1 (by kernel_rfl) ?_
                  simp only [Act.put, List.setIfInBounds_toArray, List.set_cons_zero, List.set_cons_succ]
                  refine wpList_runToG (by kernel_rfl) (some 86) rfl (.bool false) w1 (by kernel_rfl) ?_
                  simp only [Act.put, List.setIfInBounds_toArray, List.set_cons_zero, List.set_cons_succ]
                  refine wpList_runToG (by kernel_rfl) (some 87) rfl (.bool false) w1 (by kernel_rfl) ?_
                  simp only [Act.put, List.setIfInBounds_toArray, List.set_cons_zero, List.set_cons_succ]
                  refine wpList_skipG (by kernel_rfl) ?_
                  simp only [Act.put, List.setIfInBounds_toArray, List.set_cons_zero, List.set_cons_succ]
                  refine wpList_skipG (by kernel_rfl) ?_
                  simp only [Act.put, List.setIfInBounds_toArray, List.set_cons_zero, List.set_cons_succ]
                  refine wpList_skipG (by kernel_rfl) ?_
                  simp only [Act.put, List.setIfInBounds_toArray, List.set_cons_zero, List.set_cons_succ]
                  refine wpList_skipG (by kernel_rfl) ?_
                  simp only [Act.put, List.setIfInBounds_toArray, List.set_cons_zero, List.set_cons_succ]
                  refine wpList_skipG (by kernel_rfl) ?_
                  simp only [Act.put, List.setIfInBounds_toArray, List.set_cons_zero, List.set_cons_succ]
                  refine wpList_skipG (by kernel_rfl) ?_
                  simp only [Act.put, List.setIfInBounds_toArray, List.set_cons_zero, List.set_cons_succ]
                  refine wpList_skipG (by kernel_rfl) ?_
                  simp only [Act.put, List.setIfInBounds_toArray, List.set_cons_zero, List.set_cons_succ]
                  refine wpList_runToG (by kernel_rfl) (some 95) rfl (.bool false) w1 (by kernel_rfl) ?_
                  simp only [Act.put, List.setIfInBounds_toArray, List.set_cons_zero, List.set_cons_succ]
                  refine wpList_runTo rfl (some 96) rfl (.bool false) w1 (by exact pickN_run (c := false) (.tmp 85) (.tmp 95) rfl (by kernel_rfl) (by kernel_rfl) _) ?_
                  simp only [Act.put, List.setIfInBounds_toArray, List.set_cons_zero, List.set_cons_succ]
                  refine wpList_runTo rfl (some 97) rfl (.bool false) w1 (by kernel_rfl) ?_
                  simp only [Act.put, List.setIfInBounds_toArray, List.set_cons_zero, List.set_cons_succ]
                  refine wpList_runToG (by kernel_rfl) (some 98) rfl (.bool false) w1 (by kernel_rfl) ?_
                  simp only [Act.put, List.setIfInBounds_toArray, List.set_cons_zero, List.set_cons_succ]
                  refine wpList_runToG (by kernel_rfl) (some 99) rfl (.bool true) w1 (by kernel_rfl) ?_
                  simp only [Act.put, List.setIfInBounds_toArray, List.set_cons_zero, List.set_cons_succ]
                  refine wpList_runToG (by kernel_rfl) (some 100) rfl (.bool true) w1 (by kernel_rfl) ?_
                  simp only [Act.put, List.setIfInBounds_toArray, List.set_cons_zero, List.set_cons_succ]
                  refine wpList_runToG (by kernel_rfl) (some 101) rfl (.slice (some ⟨g, of, none⟩) n c) w1 (by kernel_rfl) ?_
                  simp only [Act.put, List.setIfInBounds_toArray, List.set_cons_zero, List.set_cons_succ]
                  refine wpList_runToG (by kernel_rfl) (some 102) rfl (.int .i64 (i : Int)) w1 (by kernel_rfl) ?_
                  simp only [Act.put, List.setIfInBounds_toArray, List.set_cons_zero, List.set_cons_succ]
                  refine wpList_runToG (by kernel_rfl) (some 103) rfl (.pointer (some ⟨g, of + i * 15, none⟩)) w1 (by exact ixOr_run (n := n) (c := c) (.tmp 101) (.tmp 102) rfl (by kernel_rfl) (by kernel_rfl) hlt _) ?_
                  simp only [Act.put, List.setIfInBounds_toArray, List.set_cons_zero, List.set_cons_succ]
                  refine wpList_runToG (by kernel_rfl) (some 104) rfl (.pointer (some ⟨g, of + i * 15 + 7, none⟩)) w1 (by kernel_rfl) ?_
                  simp only [Act.put, List.setIfInBounds_toArray, List.set_cons_zero, List.set_cons_succ]
                  refine wpList_runToG (by kernel_rfl) (some 105) rfl (.int .i64 pr) w1 (by exact ldN_run (.inl rfl) (.tmp 104) rfl (by kernel_rfl) (q7)) ?_
                  simp only [Act.put, List.setIfInBounds_toArray, List.set_cons_zero, List.set_cons_succ]
                  refine wpList_runToG (by kernel_rfl) (some 106) rfl (.int .i64 p) w1 (by kernel_rfl) ?_
                  simp only [Act.put, List.setIfInBounds_toArray, List.set_cons_zero, List.set_cons_succ]
                  refine wpList_runToG (by kernel_rfl) (some 107) rfl (.bool false) w1 (by exact leV_run (.tmp 105) (.tmp 106) rfl (by kernel_rfl) (by kernel_rfl) (decide_eq_false (hc)) _) ?_
                  simp only [Act.put, List.setIfInBounds_toArray, List.set_cons_zero, List.set_cons_succ]
                  refine wpList_runToG (by kernel_rfl) (some 108) rfl (.bool false) w1 (by exact pick_run (c := false) (.tmp 100) (.tmp 107) rfl (by kernel_rfl) (by kernel_rfl) _) ?_
                  simp only [Act.put, List.setIfInBounds_toArray, List.set_cons_zero, List.set_cons_succ]
                  refine wpList_runTo rfl (some 109) rfl (.bool false) w1 (by exact pickN_run (c := false) (.tmp 97) (.tmp 108) rfl (by kernel_rfl) (by kernel_rfl) _) ?_
                  simp only [Act.put, List.setIfInBounds_toArray, List.set_cons_zero, List.set_cons_succ]
                  refine wpList_runTo rfl (some 11) rfl (.bool false) w1 (by kernel_rfl) ?_
                  simp only [Act.put, List.setIfInBounds_toArray, List.set_cons_zero, List.set_cons_succ]
                  refine wpList_nil ?_
                  refine hK _ _ ?_
                  clear hK
                  go_meet
                  exact ⟨rfl, rfl⟩
          case rest => as_aux_lemma =>
            obtain ⟨rfl, ew⟩ := hcut
            replace ew := ew.symm
            subst ew
            clear hat hat2 hNe
            go_upto_region 10 with fail
            go_loopw [12] (fun x12 wr => ∃ k : Nat, k ≤ n ∧ x12 = .int .i64 (k : Int) ∧ Hid (Below w.heap.size w wr)) (fun x12 _ => n - (RowKit.intOf x12).toNat)
            case atStart => exact ⟨0, Nat.zero_le _, rfl, HW.out⟩
            case round =>
              obtain ⟨k, hk, rfl, HW2⟩ := hrel
              generalize wr = w2 at *
              by_cases hltk : k < n
              · have hltk' : (k : Int) < (n : Int) := by omega
                cases at_ with
                | false =>
                  go_wp2
                  exact ⟨⟨i + 1, by omega, by go_num, HW2.out⟩, by simp [RowKit.intOf]; omega⟩
                | true =>
                  obtain ⟨o2, ho2⟩ : ∃ o2, l[k]? = some o2 := ⟨_, List.getElem?_eq_getElem (by rw [← HR.out.2.2]; exact hltk)⟩
                  have hoo2 := HR.out.2.1 o2 (List.mem_of_getElem? ho2)
                  obtain ⟨id2, hid2⟩ : ∃ x, x = o2.id := ⟨_, rfl⟩
                  obtain ⟨bt, hbt⟩ : ∃ x, x = betR buy o o2 := ⟨_, rfl⟩
                  obtain ⟨N2, hN2⟩ : ∃ x, x = gotF buy id2 F := ⟨_, rfl⟩
                  have HRow : Hid (∀ (w' : World), Below w2.heap.size w2 w' → RowAt w' 42 15 (.slice (some ⟨g, of, none⟩) n c) n (flatL (fun o => o.cs.toList) l)) := fun w' h => HR.out.1.fr (Fr.of_below (below_step HW2.out h) (fun _ => False)) fun _ _ => id
                  have HGi : Hid (∀ (w' : World), Below w2.heap.size w2 w' → w'.rangeAt g (of + i * 15) o.cs.toList) := fun w' h => row_rangeO (HRow.out w' h) HR.out.2.1 HO.out.1
                  have HGk : Hid (∀ (w' : World), Below w2.heap.size w2 w' → w'.rangeAt g (of + k * 15) o2.cs.toList) := fun w' h => row_rangeO (HRow.out w' h) HR.out.2.1 ho2
                  have hs1 : o.cs.size = 15 := (HR.out.2.1 o HO.out.2.1).sz
                  have hs2 : o2.cs.size = 15 := hoo2.sz
                  have Hbet : Hid (∀ W, Calls Try.prog 36 #[.agg o.cs, .agg o2.cs, .bool buy] W fun e w' => e = .returned (.bool bt) ∧ Below W.heap.size W w') := fun W => by rw [hbt]; exact betterL_any (HR.out.2.1 o HO.out.2.1) hoo2 buy
                  have HK : Hid (bt = true → ¬ 0 < N2) := fun h => by
                    have := HP.out.first o HO.out.2.1 o2 (List.mem_of_getElem? ho2) (by rw [← HO.out.2.2.1, ← HO.out.2.2.2.2.2.2, ← HO.out.2.2.2.2.2.1]; exact HAT.out.2) HAT.out.1.symm (by rw [← hbt]; exact h)
                    rw [hN2, hid2]; exact this
                  have HQ : Hid (∀ (w' : World), Below w2.heap.size w2 w' → w'.cell? ⟨g, of + k * 15, none⟩ = some (.int .i64 id2)) := fun w' h => by
                    have := od_cell (HRow.out w' h) HR.out.2.1 ho2 (j := 0) (by decide) hoo2.c0
                    rw [Nat.add_zero] at this
                    rw [hid2]; exact this
                  have HTr : Hid (∀ (w' : World), Below w2.heap.size w2 w' → Calls Try.prog 35 #[.slice af nf cf, .int .i64 id2, .bool buy] w' fun e w'' => e = .returned (.int .i64 N2) ∧ w'' = w') := fun w' h => by rw [hN2]; exact HT.out w' (below_step HW2.out h) id2
                  clear ho2 hoo2 hid2 hbt hN2 HRow
                  go_upto_region 12 with fail
                  rename_i K hK
                  refine wp_region_held (S := fun w' => Below w2.heap.size w2 w') (by kernel_rfl) ?_
                  change wpAnyH _ _ _ _ _ _ _ _ (World.drew _)
                  have hS0 : Below w2.heap.size w2 w2.drew := (Below.refl _ w2).drew
                  generalize w2.drew = Z0 at *
                  refine takeR (i := 0) (v := .slice (some ⟨g, of, none⟩) n c) (some 119) rfl rfl (by kernel_rfl) (by kernel_rfl) (by kernel_rfl) (fun _ _ _ h => h) (Or.inl ⟨by kernel_rfl, fun w' hSw => by kernel_rfl⟩) hS0 ?_
                  simp only [Act.put, List.setIfInBounds_toArray, List.set_cons_zero, List.set_cons_succ]
                  refine takeR (i := 1) (v := .int .i64 (i : Int)) (some 120) rfl rfl (by kernel_rfl) (by kernel_rfl) (by kernel_rfl) (fun _ _ _ h => h) (Or.inl ⟨by kernel_rfl, fun w' hSw => by kernel_rfl⟩) hS0 ?_
                  simp only [Act.put, List.setIfInBounds_toArray, List.set_cons_zero, List.set_cons_succ]
                  refine takeR (i := 2) (v := .pointer (some ⟨g, of + i * 15, none⟩)) (some 121) rfl rfl (by kernel_rfl) (by kernel_rfl) (by kernel_rfl) (fun _ _ _ h => h) (Or.inl ⟨by kernel_rfl, fun w' hSw => by exact ixOr_run (n := n) (c := c) (.tmp 119) (.tmp 120) rfl (by kernel_rfl) (by kernel_rfl) hlt _⟩) hS0 ?_
                  simp only [Act.put, List.setIfInBounds_toArray, List.set_cons_zero, List.set_cons_succ]
                  refine takeR (i := 3) (v := .agg o.cs) (some 122) rfl rfl (by kernel_rfl) (by kernel_rfl) (by kernel_rfl) (fun _ _ _ h => h) (Or.inl ⟨by kernel_rfl, fun w' hSw => by exact ldA_run (HGi.out _ hSw) Try.underlying42 rfl (by rw [hs1]; exact infoO) (.tmp 121) rfl (by kernel_rfl)⟩) hS0 ?_
                  simp only [Act.put, List.setIfInBounds_toArray, List.set_cons_zero, List.set_cons_succ]
                  refine takeR (i := 4) (v := .slice (some ⟨g, of, none⟩) n c) (some 123) rfl rfl (by kernel_rfl) (by kernel_rfl) (by kernel_rfl) (fun _ _ _ h => h) (Or.inl ⟨by kernel_rfl, fun w' hSw => by kernel_rfl⟩) hS0 ?_
                  simp only [Act.put, List.setIfInBounds_toArray, List.set_cons_zero, List.set_cons_succ]
                  refine takeR (i := 5) (v := .int .i64 (k : Int)) (some 124) rfl rfl (by kernel_rfl) (by kernel_rfl) (by kernel_rfl) (fun _ _ _ h => h) (Or.inl ⟨by kernel_rfl, fun w' hSw => by kernel_rfl⟩) hS0 ?_
                  simp only [Act.put, List.setIfInBounds_toArray, List.set_cons_zero, List.set_cons_succ]
                  refine takeR (i := 6) (v := .pointer (some ⟨g, of + k * 15, none⟩)) (some 125) rfl rfl (by kernel_rfl) (by kernel_rfl) (by kernel_rfl) (fun _ _ _ h => h) (Or.inl ⟨by kernel_rfl, fun w' hSw => by exact ixOr_run (n := n) (c := c) (.tmp 123) (.tmp 124) rfl (by kernel_rfl) (by kernel_rfl) hltk _⟩) hS0 ?_
                  simp only [Act.put, List.setIfInBounds_toArray, List.set_cons_zero, List.set_cons_succ]
                  refine takeR (i := 7) (v := .agg o2.cs) (some 126) rfl rfl (by kernel_rfl) (by kernel_rfl) (by kernel_rfl) (fun _ _ _ h => h) (Or.inl ⟨by kernel_rfl, fun w' hSw => by exact ldA_run (HGk.out _ hSw) Try.underlying42 rfl (by rw [hs2]; exact infoO) (.tmp 125) rfl (by kernel_rfl)⟩) hS0 ?_
                  simp only [Act.put, List.setIfInBounds_toArray, List.set_cons_zero, List.set_cons_succ]
                  refine takeR (i := 8) (v := .bool buy) (some 127) rfl rfl (by kernel_rfl) (by kernel_rfl) (by kernel_rfl) (fun _ _ _ h => h) (Or.inl ⟨by kernel_rfl, fun w' hSw => by kernel_rfl⟩) hS0 ?_
                  simp only [Act.put, List.setIfInBounds_toArray, List.set_cons_zero, List.set_cons_succ]
                  refine wpAnyH_ready (rs := [9]) (by kernel_rfl) (by simp) ?_
                  refine AllReadyH.cons rfl (fun K1 hK1 => ?_) AllReadyH.nil
                  rw [if_pos (by kernel_rfl)]
                  refine callR (d := some 128) rfl 36 #[.agg o.cs, .agg o2.cs, .bool buy] (by kernel_rfl) (Hbet.out Z0) ?_
                  rintro e Z1 ⟨rfl, hb1⟩
                  refine ⟨_, rfl, ?_⟩
                  have hS1 : Below w2.heap.size w2 Z1 := below_step hS0 hb1
                  refine hK1.out _ _ hS1 (fun hzz => ?_)
                  clear hK1 hzz
                  simp only [Act.put, List.setIfInBounds_toArray, List.set_cons_zero, List.set_cons_succ]
                  refine takeR (i := 10) (v := .bool bt) (some 13) rfl rfl (by kernel_rfl) (by kernel_rfl) (by kernel_rfl) (fun _ _ _ h => h) (Or.inl ⟨by kernel_rfl, fun w' hSw => by kernel_rfl⟩) hS1 ?_
                  simp only [Act.put, List.setIfInBounds_toArray, List.set_cons_zero, List.set_cons_succ]
                  refine wpAnyH_done (by kernel_rfl) ?_ _
                  have HW3 : Hid (Below w.heap.size w Z1) := below_step HW2.out hS1
                  have q3 := HQ.out Z1 hS1
                  have htr3 := HTr.out Z1 hS1
                  clear hS0 hS1 hb1 HQ HTr HGi HGk Hbet HW2
                  generalize Z1 = w3 at *
                  refine hK _ _ ?_
                  clear hK
                  go_upto_region 13 with fail
                  go_cut [145] (fun x145 wx => x145 = .bool false ∧ wx = w3)
                  case first => as_aux_lemma =>
                    rename_i K hK
                    cases bt with
                    | false =>
                      refine wp_region_lit ?_
                      refine wpList_runTo rfl (some 129) rfl (.bool false) w3 (by kernel_rfl) ?_
                      simp only [Act.put, List.setIfInBounds_toArray, List.set_cons_zero, List.set_cons_succ]
                      refine wpList_runTo rfl (some 130) rfl (.bool false) w3 (by kernel_rfl) ?_
                      simp only [Act.put, List.setIfInBounds_toArray, List.set_cons_zero, List.set_cons_succ]
                      refine wpList_skipG (by kernel_rfl) ?_
                      simp only [Act.put, List.setIfInBounds_toArray, List.set_cons_zero, List.set_cons_succ]
                      refine wpList_skipG (by kernel_rfl) ?_
                      simp only [Act.put, List.setIfInBounds_toArray, List.set_cons_zero, List.set_cons_succ]
                      refine wpList_skipG (by kernel_rfl) ?_
                      simp only [Act.put, List.setIfInBounds_toArray, List.set_cons_zero, List.set_cons_succ]
                      refine wpList_runTo rfl (some 134) rfl (.bool false) w3 (by kernel_rfl) ?_
                      simp only [Act.put, List.setIfInBounds_toArray, List.set_cons_zero, List.set_cons_succ]
                      refine wpList_runTo rfl (some 135) rfl (.bool false) w3 (by kernel_rfl) ?_
                      simp only [Act.put, List.setIfInBounds_toArray, List.set_cons_zero, List.set_cons_succ]
                      refine wpList_skipG (by kernel_rfl) ?_
                      simp only [Act.put, List.setIfInBounds_toArray, List.set_cons_zero, List.set_cons_succ]
                      refine wpList_skipG (by kernel_rfl) ?_
                      simp only [Act.put, List.setIfInBounds_toArray, List.set_cons_zero, List.set_cons_succ]
                      refine wpList_skipG (by kernel_rfl) ?_
                      simp only [Act.put, List.setIfInBounds_toArray, List.set_cons_zero, List.set_cons_succ]
                      refine wpList_skipG (by kernel_rfl) ?_
                      simp only [Act.put, List.setIfInBounds_toArray, List.set_cons_zero, List.set_cons_succ]
                      refine wpList_skipG (by kernel_rfl) ?_
                      simp only [Act.put, List.setIfInBounds_toArray, List.set_cons_zero, List.set_cons_succ]
                      refine wpList_skipG (by kernel_rfl) ?_
                      simp only [Act.put, List.setIfInBounds_toArray, List.set_cons_zero, List.set_cons_succ]
                      refine wpList_skipG (by kernel_rfl) ?_
                      simp only [Act.put, List.setIfInBounds_toArray, List.set_cons_zero, List.set_cons_succ]
                      refine wpList_skipG (by kernel_rfl) ?_
                      simp only [Act.put, List.setIfInBounds_toArray, List.set_cons_zero, List.set_cons_succ]
                      refine wpList_skipG (by kernel_rfl) ?_
                      simp only [Act.put, List.setIfInBounds_toArray, List.set_cons_zero, List.set_cons_succ]
                      refine wpList_runTo rfl (some 145) rfl (.bool false) w3 (by kernel_rfl) ?_
                      simp only [Act.put, List.setIfInBounds_toArray, List.set_cons_zero, List.set_cons_succ]
                      refine wpList_nil ?_
                      refine hK _ _ ?_
                      clear hK
                      go_meet
                      exact ⟨rfl, rfl⟩
                    | true =>
                      have h0 : ¬ 0 < N2 := HK.out rfl
                      by_cases hki : k = i
                      · skip
                        refine wp_region_lit ?_
                        refine wpList_runTo rfl (some 129) rfl (.bool true) w3 (by kernel_rfl) ?_
                        simp only [Act.put, List.setIfInBounds_toArray, List.set_cons_zero, List.set_cons_succ]
                        refine wpList_runTo rfl (some 130) rfl (.bool true) w3 (by kernel_rfl) ?_
                        simp only [Act.put, List.setIfInBounds_toArray, List.set_cons_zero, List.set_cons_succ]
                        refine wpList_runToG (by kernel_rfl) (some 131) rfl (.int .i64 (k : Int)) w3 (by kernel_rfl) ?_
                        simp only [Act.put, List.setIfInBounds_toArray, List.set_cons_zero, List.set_cons_succ]
                        refine wpList_runToG (by kernel_rfl) (some 132) rfl (.int .i64 (i : Int)) w3 (by kernel_rfl) ?_
                        simp only [Act.put, List.setIfInBounds_toArray, List.set_cons_zero, List.set_cons_succ]
                        refine wpList_runToG (by kernel_rfl) (some 133) rfl (.bool false) w3 (by exact neV_run (.inr rfl) (p := (k : Int)) (q := (i : Int)) (.tmp 131) (.tmp 132) rfl (by kernel_rfl) (by kernel_rfl) (decide_eq_false (fun h => h (by omega))) _) ?_
                        simp only [Act.put, List.setIfInBounds_toArray, List.set_cons_zero, List.set_cons_succ]
                        refine wpList_runTo rfl (some 134) rfl (.bool false) w3 (by exact pick_run (c := false) (.tmp 130) (.tmp 133) rfl (by kernel_rfl) (by kernel_rfl) _) ?_
                        simp only [Act.put, List.setIfInBounds_toArray, List.set_cons_zero, List.set_cons_succ]
                        refine wpList_runTo rfl (some 135) rfl (.bool false) w3 (by kernel_rfl) ?_
                        simp only [Act.put, List.setIfInBounds_toArray, List.set_cons_zero, List.set_cons_succ]
                        refine wpList_skipG (by kernel_rfl) ?_
                        simp only [Act.put, List.setIfInBounds_toArray, List.set_cons_zero, List.set_cons_succ]
                        refine wpList_skipG (by kernel_rfl) ?_
                        simp only [Act.put, List.setIfInBounds_toArray, List.set_cons_zero, List.set_cons_succ]
                        refine wpList_skipG (by kernel_rfl) ?_
                        simp only [Act.put, List.setIfInBounds_toArray, List.set_cons_zero, List.set_cons_succ]
                        refine wpList_skipG (by kernel_rfl) ?_
                        simp only [Act.put, List.setIfInBounds_toArray, List.set_cons_zero, List.set_cons_succ]
                        refine wpList_skipG (by kernel_rfl) ?_
                        simp only [Act.put, List.setIfInBounds_toArray, List.set_cons_zero, List.set_cons_succ]
                        refine wpList_skipG (by kernel_rfl) ?_
                        simp only [Act.put, List.setIfInBounds_toArray, List.set_cons_zero, List.set_cons_succ]
                        refine wpList_skipG (by kernel_rfl) ?_
                        simp only [Act.put, List.setIfInBounds_toArray, List.set_cons_zero, List.set_cons_succ]
                        refine wpList_skipG (by kernel_rfl) ?_
                        simp only [Act.put, List.setIfInBounds_toArray, List.set_cons_zero, List.set_cons_succ]
                        refine wpList_skipG (by kernel_rfl) ?_
                        simp only [Act.put, List.setIfInBounds_toArray, List.set_cons_zero, List.set_cons_succ]
                        refine wpList_runTo rfl (some 145) rfl (.bool false) w3 (by kernel_rfl) ?_
                        simp only [Act.put, List.setIfInBounds_toArray, List.set_cons_zero, List.set_cons_succ]
                        refine wpList_nil ?_
                        refine hK _ _ ?_
                        clear hK
                        go_meet
                        exact ⟨rfl, rfl⟩
                      · skip
                        refine wp_region_lit ?_
                        refine wpList_runTo rfl (some 129) rfl (.bool true) w3 (by kernel_rfl) ?_
                        simp only [Act.put, List.setIfInBounds_toArray, List.set_cons_zero, List.set_cons_succ]
                        refine wpList_runTo rfl (some 130) rfl (.bool true) w3 (by kernel_rfl) ?_
                        simp only [Act.put, List.setIfInBounds_toArray, List.set_cons_zero, List.set_cons_succ]
                        refine wpList_runToG (by kernel_rfl) (some 131) rfl (.int .i64 (k : Int)) w3 (by kernel_rfl) ?_
                        simp only [Act.put, List.setIfInBounds_toArray, List.set_cons_zero, List.set_cons_succ]
                        refine wpList_runToG (by kernel_rfl) (some 132) rfl (.int .i64 (i : Int)) w3 (by kernel_rfl) ?_
                        simp only [Act.put, List.setIfInBounds_toArray, List.set_cons_zero, List.set_cons_succ]
                        refine wpList_runToG (by kernel_rfl) (some 133) rfl (.bool true) w3 (by exact neV_run (.inr rfl) (p := (k : Int)) (q := (i : Int)) (.tmp 131) (.tmp 132) rfl (by kernel_rfl) (by kernel_rfl) (decide_eq_true (by omega)) _) ?_
                        simp only [Act.put, List.setIfInBounds_toArray, List.set_cons_zero, List.set_cons_succ]
                        refine wpList_runTo rfl (some 134) rfl (.bool true) w3 (by exact pick_run (c := true) (.tmp 130) (.tmp 133) rfl (by kernel_rfl) (by kernel_rfl) _) ?_
                        simp only [Act.put, List.setIfInBounds_toArray, List.set_cons_zero, List.set_cons_succ]
                        refine wpList_runTo rfl (some 135) rfl (.bool true) w3 (by kernel_rfl) ?_
                        simp only [Act.put, List.setIfInBounds_toArray, List.set_cons_zero, List.set_cons_succ]
                        refine wpList_runToG (by kernel_rfl) (some 136) rfl (.slice af nf cf) w3 (by kernel_rfl) ?_
                        simp only [Act.put, List.setIfInBounds_toArray, List.set_cons_zero, List.set_cons_succ]
                        refine wpList_runToG (by kernel_rfl) (some 137) rfl (.slice (some ⟨g, of, none⟩) n c) w3 (by kernel_rfl) ?_
                        simp only [Act.put, List.setIfInBounds_toArray, List.set_cons_zero, List.set_cons_succ]
                        refine wpList_runToG (by kernel_rfl) (some 138) rfl (.int .i64 (k : Int)) w3 (by kernel_rfl) ?_
                        simp only [Act.put, List.setIfInBounds_toArray, List.set_cons_zero, List.set_cons_succ]
                        refine wpList_runToG (by kernel_rfl) (some 139) rfl (.pointer (some ⟨g, of + k * 15, none⟩)) w3 (by exact ixOr_run (n := n) (c := c) (.tmp 137) (.tmp 138) rfl (by kernel_rfl) (by kernel_rfl) hltk _) ?_
                        simp only [Act.put, List.setIfInBounds_toArray, List.set_cons_zero, List.set_cons_succ]
                        refine wpList_runToG (by kernel_rfl) (some 140) rfl (.pointer (some ⟨g, of + k * 15, none⟩)) w3 (by kernel_rfl) ?_
                        simp only [Act.put, List.setIfInBounds_toArray, List.set_cons_zero, List.set_cons_succ]
                        refine wpList_runToG (by kernel_rfl) (some 141) rfl (.int .i64 id2) w3 (by exact ldN_run (.inr rfl) (.tmp 140) rfl (by kernel_rfl) q3) ?_
                        simp only [Act.put, List.setIfInBounds_toArray, List.set_cons_zero, List.set_cons_succ]
                        refine wpList_runToG (by kernel_rfl) (some 142) rfl (.bool buy) w3 (by kernel_rfl) ?_
                        simp only [Act.put, List.setIfInBounds_toArray, List.set_cons_zero, List.set_cons_succ]
                        refine wpList_callG (by kernel_rfl) (some 143) rfl 35 #[.slice af nf cf, .int .i64 id2, .bool buy] (by kernel_rfl) htr3 ?_
                        rintro e w' ⟨rfl, ew⟩
                        replace ew := ew.symm
                        subst ew
                        refine ⟨_, rfl, ?_⟩
                        simp only [Act.put, List.setIfInBounds_toArray, List.set_cons_zero, List.set_cons_succ]
                        refine wpList_runToG (by kernel_rfl) (some 144) rfl (.bool false) w3 (by exact gt02_run (p := N2) (.tmp 143) rfl (by kernel_rfl) (decide_eq_false h0) _) ?_
                        simp only [Act.put, List.setIfInBounds_toArray, List.set_cons_zero, List.set_cons_succ]
                        refine wpList_runTo rfl (some 145) rfl (.bool false) w3 (by exact pick_run (c := false) (.tmp 135) (.tmp 144) rfl (by kernel_rfl) (by kernel_rfl) _) ?_
                        simp only [Act.put, List.setIfInBounds_toArray, List.set_cons_zero, List.set_cons_succ]
                        refine wpList_nil ?_
                        refine hK _ _ ?_
                        clear hK
                        go_meet
                        exact ⟨rfl, rfl⟩
                  case rest => as_aux_lemma =>
                    obtain ⟨rfl, ew⟩ := hcut
                    replace ew := ew.symm
                    subst ew
                    clear htr3 q3
                    go_wp2
                    exact ⟨⟨k + 1, by omega, by go_num, HW3.out⟩, by simp [RowKit.intOf]; omega⟩
              · have hltk' : ¬ (k : Int) < (n : Int) := by omega
                go_wp2
                exact ⟨⟨i + 1, by omega, by go_num, HW2.out⟩, by simp [RowKit.intOf]; omega⟩
    · have hlt' : ¬ (i : Int) < (n : Int) := by omega
      go_wp2
      go_ret
      exact ⟨rfl, HW⟩
end Go.Proofs.Ytbhddfcdnpidkaa
