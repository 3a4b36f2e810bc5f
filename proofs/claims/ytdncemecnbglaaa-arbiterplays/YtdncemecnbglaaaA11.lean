/-
  arbiter's laws: shown.
-/
import Derived.Test.YtdncemecnbglaaaA10
namespace Go.Proofs.Ytdncemecnbglaaa
set_option linter.unusedVariables false
set_option linter.unusedSimpArgs false
open Go.RowKit Go.Great Go.Maps

theorem rtK (n : Nat) (h1 : 1 ≤ n) (h2 : n ≤ 999999999) : rt (pkF n 7) = some n := rt_pk h1 h2 (by decide)
theorem TkR.next0 {a a' : Ab} {k : Kp} {out : List Kp} (h : TkR a k out a') (hks : a.ks = []) (hk : k.n = a.nx) : out = [k] ∧ a' = { a with nx := a.nx + 1, ks := [], si := a.la } := by
  obtain ⟨h1, h2⟩ := h.exact 1 (fun j hj => ⟨k, List.mem_cons_self, by omega⟩) (fun q hq => by
    rw [hks] at hq
    have e : q = k := by simpa using hq
    rw [e, hk]; omega)
  refine ⟨?_, ?_⟩
  · match out, h1 with
    | [q], _ =>
      have := (h.1.at_ 0 q rfl).1
      rw [hks] at this
      have e : q = k := by simpa using this
      rw [e]
  · rw [h2, hks, if_pos (Or.inl hk)]
    have hf : ([k].filter fun q => decide (a.nx + 1 ≤ q.n)) = [] := by simp [hk]
    rw [hf]
theorem TkR.keep0 {a a' : Ab} {k : Kp} {out : List Kp} (h : TkR a k out a') (hks : a.ks = []) (hk : a.nx < k.n) : out = [] ∧ a' = { a with ks := [k], si := a.la } := by
  obtain ⟨h1, h2⟩ := h.exact 0 (fun j hj => absurd hj (Nat.not_lt_zero _)) (fun q hq => by
    rw [hks] at hq
    have e : q = k := by simpa using hq
    rw [e]; omega)
  refine ⟨List.eq_nil_of_length_eq_zero h1, ?_⟩
  rw [h2, hks, if_pos (Or.inr rfl)]
  have hf : ([k].filter fun q => decide (a.nx + 0 ≤ q.n)) = [k] := by
    have : a.nx ≤ k.n := Nat.le_of_lt hk
    simp [this]
  rw [hf]
  rfl
theorem TkR.next1 {a a' : Ab} {k q : Kp} {out : List Kp} (h : TkR a k out a') (hks : a.ks = [q]) (hk : k.n = a.nx) (hq : q.n = a.nx + 1) : out = [k, q] ∧ a' = { a with nx := a.nx + 2, ks := [], si := a.la } := by
  obtain ⟨h1, h2⟩ := h.exact 2 (fun j hj => by
    have : j = 0 ∨ j = 1 := by omega
    rcases this with rfl | rfl
    · exact ⟨k, List.mem_cons_self, hk⟩
    · exact ⟨q, by rw [hks]; exact List.mem_cons_of_mem _ List.mem_cons_self, hq⟩) (fun x hx => by
    rw [hks] at hx
    rcases List.mem_cons.1 hx with e | e
    · rw [e, hk]; omega
    · have e : x = q := by simpa using e
      rw [e, hq]; omega)
  refine ⟨?_, ?_⟩
  · match out, h1 with
    | [x, y], _ =>
      have h3 := h.1.at_ 0 x rfl
      have h4 := h.1.at_ 1 y rfl
      rw [hks] at h3 h4
      have e1 : x = k := by
        rcases List.mem_cons.1 h3.1 with e | e
        · exact e
        · have e : x = q := by simpa using e
          have := h3.2
          rw [e, hq] at this; omega
      have e2 : y = q := by
        rcases List.mem_cons.1 h4.1 with e | e
        · have := h4.2
          rw [e, hk] at this; omega
        · simpa using e
      rw [e1, e2]
  · rw [h2, hks, if_pos (Or.inl hk)]
    have hf : ([k, q].filter fun x => decide (a.nx + 2 ≤ x.n)) = [] := by simp [hk, hq]
    rw [hf]
theorem sh1 {lo : Nat} {l : List Nat} (hl : l = pkF 1 7) {out : List Kp} {a' : Ab} {er : Int}  (h : Hd ⟨3, 10, 1, [], 0, 0, (fun _ => 0)⟩ 0 0 l lo out a' er) : er = 0 ∧ out.length = 1 ∧ a' = ⟨3, 10, 2, [], 0, 0, (bmp (bmp (fun _ => 0) 0) 1)⟩ := by
  obtain ⟨e, k, hk, _, _, ht⟩ := h.fresh (by rw [hl]; exact rtK 1 (by decide) (by decide)) (fun k hk => absurd hk List.not_mem_nil) (show 1 ≤ 1 by decide) (show 1 < 1 + 3 by decide)
  obtain ⟨h1, h2⟩ := ht.next0 rfl hk
  rw [h1, h2]
  exact ⟨e, rfl, rfl⟩
theorem sh2 {lo : Nat} {l : List Nat} (hl : l = pkF 3 7) {out : List Kp} {a' : Ab} {er : Int}  (h : Hd ⟨3, 10, 2, [], 0, 0, (bmp (bmp (fun _ => 0) 0) 1)⟩ 0 5 l lo out a' er) : er = 0 ∧ out.length = 0 ∧ ∃ k3 : Kp, k3.n = 3 ∧ k3.l = pkF 3 7 ∧ a' = ⟨3, 10, 2, [k3], 5, 5, (bmp (bmp (bmp (bmp (fun _ => 0) 0) 1) 0) 1)⟩ := by
  obtain ⟨e, k, hk, hkl, _, ht⟩ := h.fresh (by rw [hl]; exact rtK 3 (by decide) (by decide)) (fun k hk => absurd hk List.not_mem_nil) (show 2 ≤ 3 by decide) (show 3 < 2 + 3 by decide)
  obtain ⟨h1, h2⟩ := ht.keep0 rfl (by rw [hk]; show 2 < 3; decide)
  rw [h1, h2]
  exact ⟨e, rfl, k, hk, hkl.trans hl, rfl⟩
theorem sh3 {lo : Nat} {l : List Nat} (hl : l = pkF 2 7) {out : List Kp} {a' : Ab} {er : Int} {k3 : Kp} (h3 : k3.n = 3) (h : Hd ⟨3, 10, 2, [k3], 5, 5, (bmp (bmp (bmp (bmp (fun _ => 0) 0) 1) 0) 1)⟩ 1 6 l lo out a' er) : er = 0 ∧ (∃ k2, out = [k2, k3]) ∧ a' = ⟨3, 10, 4, [], 6, 6, (bmp (bmp (bmp (bmp (bmp (bmp (fun _ => 0) 0) 1) 0) 1) 4) 5)⟩ := by
  obtain ⟨e, k, hk, hkl, _, ht⟩ := h.fresh (by rw [hl]; exact rtK 2 (by decide) (by decide)) (fun k hk => by
    have e : k = k3 := by
      rcases List.mem_cons.1 hk with e | e
      · exact e
      · exact absurd e List.not_mem_nil
    rw [e, h3]; decide) (show 2 ≤ 2 by decide) (show 2 < 2 + 3 by decide)
  obtain ⟨h1, h2⟩ := ht.next1 rfl hk h3
  rw [h2]
  exact ⟨e, ⟨k, h1⟩, rfl⟩
theorem sh4 {lo : Nat} {l : List Nat} (hl : l = pkF 3 7) {out : List Kp} {a' : Ab} {er : Int}  (h : Hd ⟨3, 10, 4, [], 6, 6, (bmp (bmp (bmp (bmp (bmp (bmp (fun _ => 0) 0) 1) 0) 1) 4) 5)⟩ 1 6 l lo out a' er) : a' = ⟨3, 10, 4, [], 6, 6, (bmp (bmp (bmp (bmp (bmp (bmp (bmp (bmp (fun _ => 0) 0) 1) 0) 1) 4) 5) 4) 6)⟩ := by
  rw [(h.late (by rw [hl]; exact rtK 3 (by decide) (by decide)) (.inr (show 3 < 4 by decide))).2.2]
  rfl
theorem sh5 {lo : Nat} {l : List Nat} (hl : l = pkF 6 7) {out : List Kp} {a' : Ab} {er : Int}  (h : Hd ⟨3, 10, 4, [], 6, 6, (bmp (bmp (bmp (bmp (bmp (bmp (bmp (bmp (fun _ => 0) 0) 1) 0) 1) 4) 5) 4) 6)⟩ 0 7 l lo out a' er) : ∃ k6 : Kp, k6.n = 6 ∧ a' = ⟨3, 10, 4, [k6], 7, 7, (bmp (bmp (bmp (bmp (bmp (bmp (bmp (bmp (bmp (bmp (fun _ => 0) 0) 1) 0) 1) 4) 5) 4) 6) 0) 1)⟩ := by
  obtain ⟨e, k, hk, hkl, _, ht⟩ := h.fresh (by rw [hl]; exact rtK 6 (by decide) (by decide)) (fun k hk => absurd hk List.not_mem_nil) (show 4 ≤ 6 by decide) (show 6 < 4 + 3 by decide)
  obtain ⟨h1, h2⟩ := ht.keep0 rfl (by rw [hk]; show 4 < 6; decide)
  refine ⟨k, hk, ?_⟩
  rw [h2]
  rfl
theorem sh6 {lo : Nat} {l : List Nat} (hl : l = pkF 7 7) {out : List Kp} {a' : Ab} {er : Int} {k6 : Kp} (h6 : k6.n = 6) (h : Hd ⟨3, 10, 4, [k6], 7, 7, (bmp (bmp (bmp (bmp (bmp (bmp (bmp (bmp (bmp (bmp (fun _ => 0) 0) 1) 0) 1) 4) 5) 4) 6) 0) 1)⟩ 0 7 l lo out a' er) : a' = ⟨3, 10, 4, [k6], 7, 7, (bmp (bmp (bmp (bmp (bmp (bmp (bmp (bmp (bmp (bmp (bmp (fun _ => 0) 0) 1) 0) 1) 4) 5) 4) 6) 0) 1) 0)⟩ := by
  rw [(h.far (by rw [hl]; exact rtK 7 (by decide) (by decide)) (fun k hk => by
    have e : k = k6 := by
      rcases List.mem_cons.1 hk with e | e
      · exact e
      · exact absurd e List.not_mem_nil
    rw [e, h6]; decide) (show 4 + 3 ≤ 7 by decide) (show 1 ≤ 3 by decide)).2.2]
  rfl
theorem sh7 {out : List Kp} {a' : Ab} {k6 : Kp} (h : Tk ⟨3, 10, 4, [k6], 7, 7, (bmp (bmp (bmp (bmp (bmp (bmp (bmp (bmp (bmp (bmp (bmp (fun _ => 0) 0) 1) 0) 1) 4) 5) 4) 6) 0) 1) 0)⟩ 16 out a') : out.length = 0 ∧ a' = ⟨3, 10, 4, [k6], 7, 16, (bmp (bmp (bmp (bmp (bmp (bmp (bmp (bmp (bmp (bmp (bmp (fun _ => 0) 0) 1) 0) 1) 4) 5) 4) 6) 0) 1) 0)⟩ := by
  rcases h with ⟨_, h1, h2⟩ | ⟨h1, _⟩
  · rw [h1, h2]
    exact ⟨rfl, rfl⟩
  · cases h1
theorem sh8 {out : List Kp} {a' : Ab} {k6 : Kp} (h6 : k6.n = 6) (h : Tk ⟨3, 10, 4, [k6], 7, 16, (bmp (bmp (bmp (bmp (bmp (bmp (bmp (bmp (bmp (bmp (bmp (fun _ => 0) 0) 1) 0) 1) 4) 5) 4) 6) 0) 1) 0)⟩ 17 out a') : out.length = 1 ∧ a' = ⟨3, 10, 7, [], 17, 17, (bmp (bmp (bmp (bmp (bmp (bmp (bmp (bmp (bmp (bmp (bmp (fun _ => 0) 0) 1) 0) 1) 4) 5) 4) 6) 0) 1) 0)⟩ := by
  rcases h with ⟨h1, _⟩ | ⟨_, m, ⟨k, hk, hm⟩, _, hg, h2⟩
  · cases h1
  · have e : k = k6 := by simpa using hk
    rw [e, h6] at hm
    subst hm
    have hl := hg.len 1 (fun j hj => ⟨k6, List.mem_cons_self, by rw [h6]; omega⟩) (fun q hq => by
      have e : q = k6 := by simpa using hq
      rw [e, h6]; decide)
    refine ⟨hl, ?_⟩
    have e1 := hg.nxe
    have e2 := hg.left
    rw [hl] at e1
    rw [e1] at e2
    have hf : ([k6].filter fun q => decide (6 + 1 ≤ q.n)) = [] := by simp [h6]
    have e3 : a'.ks = [] := e2.trans hf
    rw [h2, e1, e3]
    rfl
theorem sh_wants {ns : List Nat} {rs : List (Nat × Nat)} {k3 : Kp} (h3 : k3.n = 3) (h : wtB ⟨3, 10, 2, [k3], 5, 5, (bmp (bmp (bmp (bmp (fun _ => 0) 0) 1) 0) 1)⟩ (max 5 10) (10 / 2) = false ∧ rs = [] ∨ wtB ⟨3, 10, 2, [k3], 5, 5, (bmp (bmp (bmp (bmp (fun _ => 0) 0) 1) 0) 1)⟩ (max 5 10) (10 / 2) = true ∧ ns.Perm ([k3].map (·.n)) ∧ ns.Pairwise (· ≤ ·) ∧ rs = (wst 2 ns).2) : rs = [(2, 2)] := by
  rcases h with ⟨h1, _⟩ | ⟨_, h1, _, h2⟩
  · cases h1
  · have e : ns = [3] := by
      have : ([k3].map (·.n)) = [3] := by simp [h3]
      rw [this] at h1
      exact List.perm_singleton.1 h1
    rw [h2, e]
    rfl
theorem ldV_run {op : Oper} {a : Act} {w : World} {g o : Nat} {v : Value} (x : Operand) (ho : op.op = .load 35 x) (hx : a.eval x = .pointer (some ⟨g, o, none⟩)) (h : w.cell? ⟨g, o, none⟩ = some v) : (execOp a.eval op).run Try.prog w = .ok (.value v) w := by
  unfold execOp
  simp only [ho, hx]
  go_simp
theorem ixV_run {op : Oper} {a : Act} {g o n c i : Nat} (x y : Operand) (ho : op.op = .indexAddr 32 x y) (hx : a.eval x = .slice (some ⟨g, o, none⟩) n c) (hy : a.eval y = .int .i64 (i : Int)) (hi : i < n) (w : World) : (execOp a.eval op).run Try.prog w = .ok (.value (.pointer (some ⟨g, o + i, none⟩))) w := by
  have h1 : (i : Int) < (n : Int) := by omega
  have h2 : ¬ (n : Int) ≤ (i : Int) := by omega
  unfold execOp
  simp only [ho, hx, hy]
  go_simp
theorem ixR_run {op : Oper} {a : Act} {g o n c i : Nat} (x y : Operand) (ho : op.op = .indexAddr 59 x y) (hx : a.eval x = .slice (some ⟨g, o, none⟩) n c) (hy : a.eval y = .int .i64 (i : Int)) (hi : i < n) (w : World) : (execOp a.eval op).run Try.prog w = .ok (.value (.pointer (some ⟨g, o + i * 2, none⟩))) w := by
  have h1 : (i : Int) < (n : Int) := by omega
  have h2 : ¬ (n : Int) ≤ (i : Int) := by omega
  unfold execOp
  simp only [ho, hx, hy]
  go_simp
theorem lenR_run {op : Oper} {a : Act} {v : Value} {ao : Option Addr} {n c : Nat} (hv : v = .slice ao n c) (x : Operand) (ho : op.op = .call { callee := .builtin .len, args := #[x], argTypes := #[59] }) (hx : a.eval x = v) (w : World) : (execOp a.eval op).run Try.prog w = .ok (.value (.int .i64 (n : Int))) w := by
  subst hv
  unfold execOp
  simp only [ho, resolve, invoke, builtin, Sem.run_bind, Sem.run_pure, Result.andThen_ok, List.map_toArray, List.map_cons, List.map_nil, hx]
  go_simp
theorem infoT : (Try.prog.info? 61).map (·.size) = some 2 := by kernel_rfl
theorem ptrN_run {op : Oper} {a : Act} {ad : Addr} (x : Operand) (y : Operand) (ho : op.op = .binOp .eql 24 x y 24) (hx : a.eval x = .pointer (some ad)) (hy : a.eval y = .pointer none) (w : World) : (execOp a.eval op).run Try.prog w = .ok (.value (.bool false)) w := by
  unfold execOp
  simp only [ho, hx, hy]
  go_simp
set_option maxRecDepth 100000 in
set_option maxHeartbeats 4000000 in
theorem shown_any (w : World) : Calls Try.prog 6 #[] w fun e w' => e = .returned (.bool true) ∧ Hid (Below w.heap.size w w') := by
  have hnew := New_yes w 3 10 (by decide) (by decide) (by decide) (by decide)
  go_enter Try.func6, Try.ntmps6
  go_upto_region 1 with fail
  rename_i K hK
  refine wp_region_lit ?_
  refine wpList_callW rfl (some 13) rfl 7 #[.int .i64 3, .int .i64 10] (by kernel_rfl) hnew ?_
  clear hnew
  rintro e W0 ⟨g, b, rfl, hx0⟩
  refine ⟨_, rfl, ?_⟩
  simp only [Act.put, List.setIfInBounds_toArray, List.set_cons_zero, List.set_cons_succ]
  refine wpList_runTo rfl (some 12) rfl (.tuple #[.pointer (some ⟨g, 0, none⟩), .int .i64 0]) W0 (by kernel_rfl) ?_
  simp only [Act.put, List.setIfInBounds_toArray, List.set_cons_zero, List.set_cons_succ]
  refine wpList_runTo rfl (some 14) rfl (.pointer (some ⟨g, 0, none⟩)) W0 (by kernel_rfl) ?_
  simp only [Act.put, List.setIfInBounds_toArray, List.set_cons_zero, List.set_cons_succ]
  refine wpList_runTo rfl (some 15) rfl (.int .i64 0) W0 (by kernel_rfl) ?_
  simp only [Act.put, List.setIfInBounds_toArray, List.set_cons_zero, List.set_cons_succ]
  refine wpList_runTo rfl (some 1) rfl (.pointer (some ⟨g, 0, none⟩)) W0 (by kernel_rfl) ?_
  simp only [Act.put, List.setIfInBounds_toArray, List.set_cons_zero, List.set_cons_succ]
  refine wpList_runTo rfl (some 2) rfl (.int .i64 0) W0 (by kernel_rfl) ?_
  simp only [Act.put, List.setIfInBounds_toArray, List.set_cons_zero, List.set_cons_succ]
  refine wpList_nil ?_
  refine hK _ _ ?_
  clear hK
  have H0 : Hid (SH w W0 g b ⟨3, 10, 1, [], 0, 0, (fun _ => 0)⟩ 0) := by
    obtain ⟨h1, h2, h3, h4⟩ := hx0.out
    exact ⟨h1, fun k hk => absurd hk List.not_mem_nil, h4, h2, h3, fun i => Nat.le_refl _⟩
  clear hx0
  go_upto_region 2 with fail
  rename_i K hK
  refine wp_region_lit ?_
  refine wpList_runTo rfl (some 16) rfl (.pointer (some ⟨g, 0, none⟩)) W0 (by kernel_rfl) ?_
  simp only [Act.put, List.setIfInBounds_toArray, List.set_cons_zero, List.set_cons_succ]
  refine wpList_runTo rfl (some 17) rfl (.bool false) W0 (by exact ptrN_run (ad := ⟨g, 0, none⟩) (.tmp 16) (.const (.pointer none)) rfl (by kernel_rfl) rfl _) ?_
  simp only [Act.put, List.setIfInBounds_toArray, List.set_cons_zero, List.set_cons_succ]
  refine wpList_runTo rfl (some 18) rfl (.bool false) W0 (by kernel_rfl) ?_
  simp only [Act.put, List.setIfInBounds_toArray, List.set_cons_zero, List.set_cons_succ]
  refine wpList_runToG (by kernel_rfl) (some 19) rfl (.int .i64 0) W0 (by kernel_rfl) ?_
  simp only [Act.put, List.setIfInBounds_toArray, List.set_cons_zero, List.set_cons_succ]
  refine wpList_runToG (by kernel_rfl) (some 20) rfl (.bool false) W0 (by kernel_rfl) ?_
  simp only [Act.put, List.setIfInBounds_toArray, List.set_cons_zero, List.set_cons_succ]
  refine wpList_runTo rfl (some 21) rfl (.bool false) W0 (by kernel_rfl) ?_
  simp only [Act.put, List.setIfInBounds_toArray, List.set_cons_zero, List.set_cons_succ]
  refine wpList_nil ?_
  refine hK _ _ ?_
  clear hK
  obtain H0 : Hid (SH w W0 g b ⟨3, 10, 1, [], 0, 0, (fun _ => 0)⟩ 0 ∧ True) := ⟨H0.out, trivial⟩
  have hpk := packet_any W0 1 7 (by decide) (by decide)
  go_upto_region 4 with fail
  rename_i K hK
  refine wp_region_lit ?_
  refine wpList_runTo rfl (some 23) rfl (.pointer (some ⟨g, 0, none⟩)) W0 (by kernel_rfl) ?_
  simp only [Act.put, List.setIfInBounds_toArray, List.set_cons_zero, List.set_cons_succ]
  refine wpList_callW rfl (some 24) rfl 10 #[.int .i64 1, .int .u8 7] (by kernel_rfl) hpk ?_
  clear hpk
  rintro e P4 ⟨vp, rfl, hxp⟩
  refine ⟨_, rfl, ?_⟩
  simp only [Act.put, List.setIfInBounds_toArray, List.set_cons_zero, List.set_cons_succ]
  have HP : Hid (SH w P4 g b ⟨3, 10, 1, [], 0, 0, (fun _ => 0)⟩ 0 ∧ True) := ⟨H0.out.1.below hxp.out.bel, trivial⟩
  obtain ⟨lp, hlp⟩ : ∃ lp, lp = pkF 1 7 := ⟨_, rfl⟩
  have hbp : By P4 vp lp := by rw [hlp]; exact hxp.out.by'
  have hhe := HP.out.1.hear (by decide) 0 (by decide) 0 (by decide) (by decide) hbp (by rw [hlp, pkF_len]; decide)
  have HLP : Hid (lp = pkF 1 7) := hlp
  clear hxp H0 hlp hbp
  refine wpList_callW rfl (some 25) rfl 9 #[.pointer (some ⟨g, 0, none⟩), .int .i64 0, vp, .int .i64 0] (by kernel_rfl) hhe ?_
  clear hhe
  rintro e W1 ⟨v25, er, rfl, hx⟩
  refine ⟨_, rfl, ?_⟩
  simp only [Act.put, List.setIfInBounds_toArray, List.set_cons_zero, List.set_cons_succ]
  obtain ⟨rfl, hxl, H1⟩ : er = 0 ∧ (∃ ao c, v25 = .slice ao 1 c) ∧ Hid (SH w W1 g b ⟨3, 10, 2, [], 0, 0, (bmp (bmp (fun _ => 0) 0) 1)⟩ 2 ∧ True) := by
    obtain ⟨out, a', h1, h2, h3⟩ := hx.out
    obtain ⟨e1, e2, e3⟩ := sh1 HLP.out h3
    obtain ⟨ao, ca, hf, _⟩ := h2.row.form
    rw [e2] at hf
    rw [e3] at h1
    exact ⟨e1, ⟨ao, ca, hf⟩, h1, trivial⟩
  clear hx HP HLP
  refine wpList_runTo rfl (some 22) rfl (.tuple #[v25, .int .i64 0]) W1 (by kernel_rfl) ?_
  simp only [Act.put, List.setIfInBounds_toArray, List.set_cons_zero, List.set_cons_succ]
  refine wpList_runTo rfl (some 26) rfl (v25) W1 (by kernel_rfl) ?_
  simp only [Act.put, List.setIfInBounds_toArray, List.set_cons_zero, List.set_cons_succ]
  refine wpList_runTo rfl (some 27) rfl (.int .i64 0) W1 (by kernel_rfl) ?_
  simp only [Act.put, List.setIfInBounds_toArray, List.set_cons_zero, List.set_cons_succ]
  refine wpList_runTo rfl (some 3) rfl (v25) W1 (by kernel_rfl) ?_
  simp only [Act.put, List.setIfInBounds_toArray, List.set_cons_zero, List.set_cons_succ]
  refine wpList_runTo rfl (some 4) rfl (.int .i64 0) W1 (by kernel_rfl) ?_
  simp only [Act.put, List.setIfInBounds_toArray, List.set_cons_zero, List.set_cons_succ]
  refine wpList_nil ?_
  refine hK _ _ ?_
  clear hK
  have hpk := packet_any W1 3 7 (by decide) (by decide)
  go_upto_region 5 with fail
  rename_i K hK
  refine wp_region_lit ?_
  refine wpList_runTo rfl (some 29) rfl (.pointer (some ⟨g, 0, none⟩)) W1 (by kernel_rfl) ?_
  simp only [Act.put, List.setIfInBounds_toArray, List.set_cons_zero, List.set_cons_succ]
  refine wpList_callW rfl (some 30) rfl 10 #[.int .i64 3, .int .u8 7] (by kernel_rfl) hpk ?_
  clear hpk
  rintro e P5 ⟨vp, rfl, hxp⟩
  refine ⟨_, rfl, ?_⟩
  simp only [Act.put, List.setIfInBounds_toArray, List.set_cons_zero, List.set_cons_succ]
  have HP : Hid (SH w P5 g b ⟨3, 10, 2, [], 0, 0, (bmp (bmp (fun _ => 0) 0) 1)⟩ 2 ∧ True) := ⟨H1.out.1.below hxp.out.bel, trivial⟩
  obtain ⟨lp, hlp⟩ : ∃ lp, lp = pkF 3 7 := ⟨_, rfl⟩
  have hbp : By P5 vp lp := by rw [hlp]; exact hxp.out.by'
  have hhe := HP.out.1.hear (by decide) 0 (by decide) 5 (by decide) (by decide) hbp (by rw [hlp, pkF_len]; decide)
  have HLP : Hid (lp = pkF 3 7) := hlp
  clear hxp H1 hlp hbp
  refine wpList_callW rfl (some 31) rfl 9 #[.pointer (some ⟨g, 0, none⟩), .int .i64 0, vp, .int .i64 5] (by kernel_rfl) hhe ?_
  clear hhe
  rintro e W2 ⟨v31, er, rfl, hx⟩
  refine ⟨_, rfl, ?_⟩
  simp only [Act.put, List.setIfInBounds_toArray, List.set_cons_zero, List.set_cons_succ]
  obtain ⟨k3, rfl, hyl, H2⟩ : ∃ k3 : Kp, er = 0 ∧ (∃ ao c, v31 = .slice ao 0 c) ∧ Hid (SH w W2 g b ⟨3, 10, 2, [k3], 5, 5, (bmp (bmp (bmp (bmp (fun _ => 0) 0) 1) 0) 1)⟩ 4 ∧ k3.n = 3 ∧ k3.l = pkF 3 7) := by
    obtain ⟨out, a', h1, h2, h3⟩ := hx.out
    obtain ⟨e1, e2, k3, e3, e4, e5⟩ := sh2 HLP.out h3
    obtain ⟨ao, ca, hf, _⟩ := h2.row.form
    rw [e2] at hf
    rw [e5] at h1
    exact ⟨k3, e1, ⟨ao, ca, hf⟩, h1, e3, e4⟩
  clear hx HP HLP
  refine wpList_runTo rfl (some 28) rfl (.tuple #[v31, .int .i64 0]) W2 (by kernel_rfl) ?_
  simp only [Act.put, List.setIfInBounds_toArray, List.set_cons_zero, List.set_cons_succ]
  refine wpList_runTo rfl (some 32) rfl (v31) W2 (by kernel_rfl) ?_
  simp only [Act.put, List.setIfInBounds_toArray, List.set_cons_zero, List.set_cons_succ]
  refine wpList_runTo rfl (some 33) rfl (.int .i64 0) W2 (by kernel_rfl) ?_
  simp only [Act.put, List.setIfInBounds_toArray, List.set_cons_zero, List.set_cons_succ]
  refine wpList_runTo rfl (some 5) rfl (v31) W2 (by kernel_rfl) ?_
  simp only [Act.put, List.setIfInBounds_toArray, List.set_cons_zero, List.set_cons_succ]
  refine wpList_runTo rfl (some 6) rfl (.int .i64 0) W2 (by kernel_rfl) ?_
  simp only [Act.put, List.setIfInBounds_toArray, List.set_cons_zero, List.set_cons_succ]
  refine wpList_nil ?_
  refine hK _ _ ?_
  clear hK
  have hwa := Wants_any H2.out.1.ab 10 (by decide) (by decide)
  go_upto_region 6 with fail
  rename_i K hK
  refine wp_region_lit ?_
  refine wpList_runTo rfl (some 34) rfl (.pointer (some ⟨g, 0, none⟩)) W2 (by kernel_rfl) ?_
  simp only [Act.put, List.setIfInBounds_toArray, List.set_cons_zero, List.set_cons_succ]
  refine wpList_callW rfl (some 35) rfl 17 #[.pointer (some ⟨g, 0, none⟩), .int .i64 10] (by kernel_rfl) hwa ?_
  clear hwa
  rintro e W3 ⟨vw, rfl, hx⟩
  refine ⟨_, rfl, ?_⟩
  simp only [Act.put, List.setIfInBounds_toArray, List.set_cons_zero, List.set_cons_succ]
  refine wpList_runTo rfl (some 7) rfl (vw) W3 (by kernel_rfl) ?_
  simp only [Act.put, List.setIfInBounds_toArray, List.set_cons_zero, List.set_cons_succ]
  refine wpList_nil ?_
  refine hK _ _ ?_
  clear hK
  have H3 : Hid (SH w W3 g b ⟨3, 10, 2, [k3], 5, 5, (bmp (bmp (bmp (bmp (fun _ => 0) 0) 1) 0) 1)⟩ 4 ∧ (k3.n = 3 ∧ k3.l = pkF 3 7) ∧ RowAt W3 61 2 vw 1 (rV [(2, 2)])) := by
    obtain ⟨ns, rs, h1, h2, h3, h4⟩ := hx.out
    have e := sh_wants H2.out.2.1 h4
    subst e
    exact ⟨H2.out.1.below h3, H2.out.2, h1⟩
  clear hx H2
  have hpk := packet_any W3 2 7 (by decide) (by decide)
  go_upto_region 7 with fail
  rename_i K hK
  refine wp_region_lit ?_
  refine wpList_runTo rfl (some 37) rfl (.pointer (some ⟨g, 0, none⟩)) W3 (by kernel_rfl) ?_
  simp only [Act.put, List.setIfInBounds_toArray, List.set_cons_zero, List.set_cons_succ]
  refine wpList_callW rfl (some 38) rfl 10 #[.int .i64 2, .int .u8 7] (by kernel_rfl) hpk ?_
  clear hpk
  rintro e P7 ⟨vp, rfl, hxp⟩
  refine ⟨_, rfl, ?_⟩
  simp only [Act.put, List.setIfInBounds_toArray, List.set_cons_zero, List.set_cons_succ]
  have HP : Hid (SH w P7 g b ⟨3, 10, 2, [k3], 5, 5, (bmp (bmp (bmp (bmp (fun _ => 0) 0) 1) 0) 1)⟩ 4 ∧ (k3.n = 3 ∧ k3.l = pkF 3 7) ∧ RowAt P7 61 2 vw 1 (rV [(2, 2)])) := ⟨H3.out.1.below hxp.out.bel, H3.out.2.1, H3.out.2.2.fr (Fr.of_below hxp.out.bel (fun _ => False)) fun _ _ => id⟩
  obtain ⟨lp, hlp⟩ : ∃ lp, lp = pkF 2 7 := ⟨_, rfl⟩
  have hbp : By P7 vp lp := by rw [hlp]; exact hxp.out.by'
  have hhe := HP.out.1.hear (by decide) 1 (by decide) 6 (by decide) (by decide) hbp (by rw [hlp, pkF_len]; decide)
  have HLP : Hid (lp = pkF 2 7) := hlp
  clear hxp H3 hlp hbp
  refine wpList_callW rfl (some 39) rfl 9 #[.pointer (some ⟨g, 0, none⟩), .int .i64 1, vp, .int .i64 6] (by kernel_rfl) hhe ?_
  clear hhe
  rintro e W4 ⟨v39, er, rfl, hx⟩
  refine ⟨_, rfl, ?_⟩
  simp only [Act.put, List.setIfInBounds_toArray, List.set_cons_zero, List.set_cons_succ]
  obtain ⟨k2, rfl, H4⟩ : ∃ k2 : Kp, er = 0 ∧ Hid (SH w W4 g b ⟨3, 10, 4, [], 6, 6, (bmp (bmp (bmp (bmp (bmp (bmp (fun _ => 0) 0) 1) 0) 1) 4) 5)⟩ 6 ∧ RowAt W4 61 2 vw 1 (rV [(2, 2)]) ∧ RowAt W4 35 1 v39 2 [k2.v, k3.v] ∧ By W4 k3.v (pkF 3 7)) := by
    obtain ⟨out, a', h1, h2, h3⟩ := hx.out
    obtain ⟨e1, ⟨k2, e2⟩, e4⟩ := sh3 HLP.out HP.out.2.1.1 h3
    rw [e4] at h1
    subst e2
    refine ⟨k2, e1, h1, HP.out.2.2.fr h2.fr fun q hq e => ?_, h2.row, by have := (h2.pk k3 (List.mem_cons_of_mem _ List.mem_cons_self)).by'; rw [HP.out.2.1.2] at this; exact this⟩
    obtain ⟨_, cur, hc⟩ := HP.out.2.2.lt hq
    rcases e with rfl | rfl
    · exact HP.out.2.2.ne_type HP.out.1.ab.blk (by decide) hq
    · obtain ⟨es, c, hm⟩ := HP.out.1.ab.map.is
      rw [hm] at hc
      cases hc
  clear hx HP HLP
  refine wpList_runTo rfl (some 36) rfl (.tuple #[v39, .int .i64 0]) W4 (by kernel_rfl) ?_
  simp only [Act.put, List.setIfInBounds_toArray, List.set_cons_zero, List.set_cons_succ]
  refine wpList_runTo rfl (some 40) rfl (v39) W4 (by kernel_rfl) ?_
  simp only [Act.put, List.setIfInBounds_toArray, List.set_cons_zero, List.set_cons_succ]
  refine wpList_runTo rfl (some 41) rfl (.int .i64 0) W4 (by kernel_rfl) ?_
  simp only [Act.put, List.setIfInBounds_toArray, List.set_cons_zero, List.set_cons_succ]
  refine wpList_runTo rfl (some 8) rfl (v39) W4 (by kernel_rfl) ?_
  simp only [Act.put, List.setIfInBounds_toArray, List.set_cons_zero, List.set_cons_succ]
  refine wpList_runTo rfl (some 9) rfl (.int .i64 0) W4 (by kernel_rfl) ?_
  simp only [Act.put, List.setIfInBounds_toArray, List.set_cons_zero, List.set_cons_succ]
  refine wpList_nil ?_
  refine hK _ _ ?_
  clear hK
  obtain ⟨xa, xc, hxf⟩ := hxl
  obtain ⟨ya, yc, hyf⟩ := hyl
  obtain ⟨PF, hPF⟩ : ∃ PF, PF = pkF 3 7 := ⟨_, rfl⟩
  have HPF : Hid (PF = pkF 3 7) := hPF
  obtain ⟨zg, zo, zc, hzf, _⟩ := H4.out.2.2.1.at1 (j := 1) (u := k3.v) rfl
  obtain ⟨wg, wo, wc, wcur, hwf, _⟩ := H4.out.2.1.more (by decide)
  have hcz : ∀ W, RowAt W 35 1 v39 2 [k2.v, k3.v] → W.cell? ⟨zg, zo + 1, none⟩ = some k3.v := fun W hW => hW.cell hzf (j := 1) rfl
  have hcw : ∀ W, RowAt W 61 2 vw 1 (rV [(2, 2)]) → W.rangeAt wg (wo + 0 * 2) (#[Value.int .i64 2, .int .i64 2] : Array Value).toList := fun W hW j u hu => by
    have := hW.cell hwf (j := j) (u := u) hu
    rw [Nat.zero_mul, Nat.add_zero]
    exact this
  go_upto_region 8 with fail
  have hbd : Below W4.heap.size W4 W4.drew := ⟨rfl, rfl, rfl, Nat.le_refl _, fun _ _ => rfl⟩
  have H5 : Hid (SH w W4.drew g b ⟨3, 10, 4, [], 6, 6, (bmp (bmp (bmp (bmp (bmp (bmp (fun _ => 0) 0) 1) 0) 1) 4) 5)⟩ 6 ∧ RowAt W4.drew 61 2 vw 1 (rV [(2, 2)]) ∧ RowAt W4.drew 35 1 v39 2 [k2.v, k3.v] ∧ By W4.drew k3.v PF) := ⟨H4.out.1.below hbd, H4.out.2.1.fr (Fr.of_below hbd (fun _ => False)) fun _ _ => id, H4.out.2.2.1.fr (Fr.of_below hbd (fun _ => False)) fun _ _ => id, by rw [hPF]; exact H4.out.2.2.2.below hbd⟩
  clear hbd H4 hPF
  rename_i K hK
  refine wp_region_held (S := fun w' => RowAt w' 61 2 vw 1 (rV [(2, 2)]) ∧ RowAt w' 35 1 v39 2 [k2.v, k3.v] ∧ By w' k3.v PF) (by kernel_rfl) ?_
  change wpAnyH _ _ _ _ _ _ _ _ (World.drew _)
  generalize W4.drew = WD at *
  have hS := H5.out.2
  refine takeR (i := 0) (v := .int .i64 0) (some 42) rfl rfl (by kernel_rfl) (by kernel_rfl) (by kernel_rfl) (fun _ _ _ h => h) (Or.inl ⟨by kernel_rfl, fun w' hSw => by kernel_rfl⟩) hS ?_
  simp only [Act.put, List.setIfInBounds_toArray, List.set_cons_zero, List.set_cons_succ]
  refine takeR (i := 1) (v := .bool false) (some 43) rfl rfl (by kernel_rfl) (by kernel_rfl) (by kernel_rfl) (fun _ _ _ h => h) (Or.inl ⟨by kernel_rfl, fun w' hSw => by kernel_rfl⟩) hS ?_
  simp only [Act.put, List.setIfInBounds_toArray, List.set_cons_zero, List.set_cons_succ]
  refine takeR (i := 2) (v := .bool false) (some 44) rfl rfl (by kernel_rfl) (by kernel_rfl) (by kernel_rfl) (fun _ _ _ h => h) (Or.inl ⟨by kernel_rfl, fun w' hSw => by kernel_rfl⟩) hS ?_
  simp only [Act.put, List.setIfInBounds_toArray, List.set_cons_zero, List.set_cons_succ]
  refine takeR (i := 3) (v := .int .i64 0) (some 45) rfl rfl (by kernel_rfl) (by kernel_rfl) (by kernel_rfl) (fun _ _ _ h => h) (Or.inl ⟨by kernel_rfl, fun w' hSw => by kernel_rfl⟩) hS ?_
  simp only [Act.put, List.setIfInBounds_toArray, List.set_cons_zero, List.set_cons_succ]
  refine takeR (i := 4) (v := .bool false) (some 46) rfl rfl (by kernel_rfl) (by kernel_rfl) (by kernel_rfl) (fun _ _ _ h => h) (Or.inl ⟨by kernel_rfl, fun w' hSw => by kernel_rfl⟩) hS ?_
  simp only [Act.put, List.setIfInBounds_toArray, List.set_cons_zero, List.set_cons_succ]
  refine takeR (i := 5) (v := .bool false) (some 47) rfl rfl (by kernel_rfl) (by kernel_rfl) (by kernel_rfl) (fun _ _ _ h => h) (Or.inl ⟨by kernel_rfl, fun w' hSw => by kernel_rfl⟩) hS ?_
  simp only [Act.put, List.setIfInBounds_toArray, List.set_cons_zero, List.set_cons_succ]
  refine takeR (i := 6) (v := .bool false) (some 48) rfl rfl (by kernel_rfl) (by kernel_rfl) (by kernel_rfl) (fun _ _ _ h => h) (Or.inl ⟨by kernel_rfl, fun w' hSw => by kernel_rfl⟩) hS ?_
  simp only [Act.put, List.setIfInBounds_toArray, List.set_cons_zero, List.set_cons_succ]
  refine takeR (i := 7) (v := .int .i64 0) (some 49) rfl rfl (by kernel_rfl) (by kernel_rfl) (by kernel_rfl) (fun _ _ _ h => h) (Or.inl ⟨by kernel_rfl, fun w' hSw => by kernel_rfl⟩) hS ?_
  simp only [Act.put, List.setIfInBounds_toArray, List.set_cons_zero, List.set_cons_succ]
  refine takeR (i := 8) (v := .bool false) (some 50) rfl rfl (by kernel_rfl) (by kernel_rfl) (by kernel_rfl) (fun _ _ _ h => h) (Or.inl ⟨by kernel_rfl, fun w' hSw => by kernel_rfl⟩) hS ?_
  simp only [Act.put, List.setIfInBounds_toArray, List.set_cons_zero, List.set_cons_succ]
  refine takeR (i := 9) (v := .bool false) (some 51) rfl rfl (by kernel_rfl) (by kernel_rfl) (by kernel_rfl) (fun _ _ _ h => h) (Or.inl ⟨by kernel_rfl, fun w' hSw => by kernel_rfl⟩) hS ?_
  simp only [Act.put, List.setIfInBounds_toArray, List.set_cons_zero, List.set_cons_succ]
  refine takeR (i := 10) (v := .bool false) (some 52) rfl rfl (by kernel_rfl) (by kernel_rfl) (by kernel_rfl) (fun _ _ _ h => h) (Or.inl ⟨by kernel_rfl, fun w' hSw => by kernel_rfl⟩) hS ?_
  simp only [Act.put, List.setIfInBounds_toArray, List.set_cons_zero, List.set_cons_succ]
  refine takeR (i := 11) (v := v25) (some 53) rfl rfl (by kernel_rfl) (by kernel_rfl) (by kernel_rfl) (fun _ _ _ h => h) (Or.inl ⟨by kernel_rfl, fun w' hSw => by kernel_rfl⟩) hS ?_
  simp only [Act.put, List.setIfInBounds_toArray, List.set_cons_zero, List.set_cons_succ]
  refine takeR (i := 12) (v := .int .i64 ((1 : Nat) : Int)) (some 54) rfl rfl (by kernel_rfl) (by kernel_rfl) (by kernel_rfl) (fun _ _ _ h => h) (Or.inl ⟨by kernel_rfl, fun w' hSw => by exact len_run hxf (.tmp 53) rfl (.inr (.inl rfl)) (by kernel_rfl) _⟩) hS ?_
  simp only [Act.put, List.setIfInBounds_toArray, List.set_cons_zero, List.set_cons_succ]
  refine takeR (i := 13) (v := .bool false) (some 55) rfl rfl (by kernel_rfl) (by kernel_rfl) (by kernel_rfl) (fun _ _ _ h => h) (Or.inl ⟨by kernel_rfl, fun w' hSw => by exact neN_run (p := 1) (q := 1) (.tmp 54) (.const (.int .i64 1)) rfl (by kernel_rfl) rfl (by decide) _⟩) hS ?_
  simp only [Act.put, List.setIfInBounds_toArray, List.set_cons_zero, List.set_cons_succ]
  refine takeR (i := 14) (v := .bool false) (some 56) rfl rfl (by kernel_rfl) (by kernel_rfl) (by kernel_rfl) (fun _ _ _ h => h) (Or.inl ⟨by kernel_rfl, fun w' hSw => by kernel_rfl⟩) hS ?_
  simp only [Act.put, List.setIfInBounds_toArray, List.set_cons_zero, List.set_cons_succ]
  refine takeR (i := 15) (v := .bool false) (some 57) rfl rfl (by kernel_rfl) (by kernel_rfl) (by kernel_rfl) (fun _ _ _ h => h) (Or.inl ⟨by kernel_rfl, fun w' hSw => by kernel_rfl⟩) hS ?_
  simp only [Act.put, List.setIfInBounds_toArray, List.set_cons_zero, List.set_cons_succ]
  refine takeR (i := 16) (v := v31) (some 58) rfl rfl (by kernel_rfl) (by kernel_rfl) (by kernel_rfl) (fun _ _ _ h => h) (Or.inl ⟨by kernel_rfl, fun w' hSw => by kernel_rfl⟩) hS ?_
  simp only [Act.put, List.setIfInBounds_toArray, List.set_cons_zero, List.set_cons_succ]
  refine takeR (i := 17) (v := .int .i64 ((0 : Nat) : Int)) (some 59) rfl rfl (by kernel_rfl) (by kernel_rfl) (by kernel_rfl) (fun _ _ _ h => h) (Or.inl ⟨by kernel_rfl, fun w' hSw => by exact len_run hyf (.tmp 58) rfl (.inr (.inl rfl)) (by kernel_rfl) _⟩) hS ?_
  simp only [Act.put, List.setIfInBounds_toArray, List.set_cons_zero, List.set_cons_succ]
  refine takeR (i := 18) (v := .bool false) (some 60) rfl rfl (by kernel_rfl) (by kernel_rfl) (by kernel_rfl) (fun _ _ _ h => h) (Or.inl ⟨by kernel_rfl, fun w' hSw => by exact neN_run (p := 0) (q := 0) (.tmp 59) (.const (.int .i64 0)) rfl (by kernel_rfl) rfl (by decide) _⟩) hS ?_
  simp only [Act.put, List.setIfInBounds_toArray, List.set_cons_zero, List.set_cons_succ]
  refine takeR (i := 19) (v := .bool false) (some 61) rfl rfl (by kernel_rfl) (by kernel_rfl) (by kernel_rfl) (fun _ _ _ h => h) (Or.inl ⟨by kernel_rfl, fun w' hSw => by kernel_rfl⟩) hS ?_
  simp only [Act.put, List.setIfInBounds_toArray, List.set_cons_zero, List.set_cons_succ]
  refine takeR (i := 20) (v := .bool false) (some 62) rfl rfl (by kernel_rfl) (by kernel_rfl) (by kernel_rfl) (fun _ _ _ h => h) (Or.inl ⟨by kernel_rfl, fun w' hSw => by kernel_rfl⟩) hS ?_
  simp only [Act.put, List.setIfInBounds_toArray, List.set_cons_zero, List.set_cons_succ]
  refine takeR (i := 21) (v := v39) (some 63) rfl rfl (by kernel_rfl) (by kernel_rfl) (by kernel_rfl) (fun _ _ _ h => h) (Or.inl ⟨by kernel_rfl, fun w' hSw => by kernel_rfl⟩) hS ?_
  simp only [Act.put, List.setIfInBounds_toArray, List.set_cons_zero, List.set_cons_succ]
  refine takeR (i := 22) (v := .int .i64 ((2 : Nat) : Int)) (some 64) rfl rfl (by kernel_rfl) (by kernel_rfl) (by kernel_rfl) (fun _ _ _ h => h) (Or.inl ⟨by kernel_rfl, fun w' hSw => by exact len_run hzf (.tmp 63) rfl (.inr (.inl rfl)) (by kernel_rfl) _⟩) hS ?_
  simp only [Act.put, List.setIfInBounds_toArray, List.set_cons_zero, List.set_cons_succ]
  refine takeR (i := 23) (v := .bool false) (some 65) rfl rfl (by kernel_rfl) (by kernel_rfl) (by kernel_rfl) (fun _ _ _ h => h) (Or.inl ⟨by kernel_rfl, fun w' hSw => by exact neN_run (p := 2) (q := 2) (.tmp 64) (.const (.int .i64 2)) rfl (by kernel_rfl) rfl (by decide) _⟩) hS ?_
  simp only [Act.put, List.setIfInBounds_toArray, List.set_cons_zero, List.set_cons_succ]
  refine takeR (i := 24) (v := .bool false) (some 66) rfl rfl (by kernel_rfl) (by kernel_rfl) (by kernel_rfl) (fun _ _ _ h => h) (Or.inl ⟨by kernel_rfl, fun w' hSw => by kernel_rfl⟩) hS ?_
  simp only [Act.put, List.setIfInBounds_toArray, List.set_cons_zero, List.set_cons_succ]
  refine takeR (i := 25) (v := .bool false) (some 67) rfl rfl (by kernel_rfl) (by kernel_rfl) (by kernel_rfl) (fun _ _ _ h => h) (Or.inl ⟨by kernel_rfl, fun w' hSw => by kernel_rfl⟩) hS ?_
  simp only [Act.put, List.setIfInBounds_toArray, List.set_cons_zero, List.set_cons_succ]
  refine takeR (i := 26) (v := vw) (some 68) rfl rfl (by kernel_rfl) (by kernel_rfl) (by kernel_rfl) (fun _ _ _ h => h) (Or.inl ⟨by kernel_rfl, fun w' hSw => by kernel_rfl⟩) hS ?_
  simp only [Act.put, List.setIfInBounds_toArray, List.set_cons_zero, List.set_cons_succ]
  refine takeR (i := 27) (v := .int .i64 ((1 : Nat) : Int)) (some 69) rfl rfl (by kernel_rfl) (by kernel_rfl) (by kernel_rfl) (fun _ _ _ h => h) (Or.inl ⟨by kernel_rfl, fun w' hSw => by exact lenR_run hwf (.tmp 68) rfl (by kernel_rfl) _⟩) hS ?_
  simp only [Act.put, List.setIfInBounds_toArray, List.set_cons_zero, List.set_cons_succ]
  refine takeR (i := 28) (v := .bool false) (some 70) rfl rfl (by kernel_rfl) (by kernel_rfl) (by kernel_rfl) (fun _ _ _ h => h) (Or.inl ⟨by kernel_rfl, fun w' hSw => by exact neN_run (p := 1) (q := 1) (.tmp 69) (.const (.int .i64 1)) rfl (by kernel_rfl) rfl (by decide) _⟩) hS ?_
  simp only [Act.put, List.setIfInBounds_toArray, List.set_cons_zero, List.set_cons_succ]
  refine takeR (i := 29) (v := .bool false) (some 71) rfl rfl (by kernel_rfl) (by kernel_rfl) (by kernel_rfl) (fun _ _ _ h => h) (Or.inl ⟨by kernel_rfl, fun w' hSw => by kernel_rfl⟩) hS ?_
  simp only [Act.put, List.setIfInBounds_toArray, List.set_cons_zero, List.set_cons_succ]
  refine takeR (i := 30) (v := .bool false) (some 72) rfl rfl (by kernel_rfl) (by kernel_rfl) (by kernel_rfl) (fun _ _ _ h => h) (Or.inl ⟨by kernel_rfl, fun w' hSw => by kernel_rfl⟩) hS ?_
  simp only [Act.put, List.setIfInBounds_toArray, List.set_cons_zero, List.set_cons_succ]
  refine takeR (i := 31) (v := vw) (some 73) rfl rfl (by kernel_rfl) (by kernel_rfl) (by kernel_rfl) (fun _ _ _ h => h) (Or.inl ⟨by kernel_rfl, fun w' hSw => by kernel_rfl⟩) hS ?_
  simp only [Act.put, List.setIfInBounds_toArray, List.set_cons_zero, List.set_cons_succ]
  refine takeR (i := 32) (v := .pointer (some ⟨wg, wo + 0 * 2, none⟩)) (some 74) rfl rfl (by kernel_rfl) (by kernel_rfl) (by kernel_rfl) (fun _ _ _ h => h) (Or.inl ⟨by kernel_rfl, fun w' hSw => by exact ixR_run (i := 0) (n := 1) (c := wc) (.tmp 73) (.const (.int .i64 0)) rfl (by rw [← hwf]; kernel_rfl) rfl (by decide) _⟩) hS ?_
  simp only [Act.put, List.setIfInBounds_toArray, List.set_cons_zero, List.set_cons_succ]
  refine takeR (i := 33) (v := .agg #[.int .i64 2, .int .i64 2]) (some 75) rfl rfl (by kernel_rfl) (by kernel_rfl) (by kernel_rfl) (fun _ _ _ h => h) (Or.inl ⟨by kernel_rfl, fun w' hSw => by exact ldA_run (hcw _ hSw.1) Try.underlying61 rfl infoT (.tmp 74) rfl (by kernel_rfl)⟩) hS ?_
  simp only [Act.put, List.setIfInBounds_toArray, List.set_cons_zero, List.set_cons_succ]
  refine takeR (i := 34) (v := .agg #[.int .i64 2, .int .i64 2]) (some 76) rfl rfl (by kernel_rfl) (by kernel_rfl) (by kernel_rfl) (fun _ _ _ h => h) (Or.inl ⟨by kernel_rfl, fun w' hSw => by kernel_rfl⟩) hS ?_
  simp only [Act.put, List.setIfInBounds_toArray, List.set_cons_zero, List.set_cons_succ]
  refine takeR (i := 35) (v := .bool false) (some 77) rfl rfl (by kernel_rfl) (by kernel_rfl) (by kernel_rfl) (fun _ _ _ h => h) (Or.inl ⟨by kernel_rfl, fun w' hSw => by kernel_rfl⟩) hS ?_
  simp only [Act.put, List.setIfInBounds_toArray, List.set_cons_zero, List.set_cons_succ]
  refine takeR (i := 36) (v := .bool false) (some 78) rfl rfl (by kernel_rfl) (by kernel_rfl) (by kernel_rfl) (fun _ _ _ h => h) (Or.inl ⟨by kernel_rfl, fun w' hSw => by kernel_rfl⟩) hS ?_
  simp only [Act.put, List.setIfInBounds_toArray, List.set_cons_zero, List.set_cons_succ]
  refine takeR (i := 37) (v := .bool false) (some 79) rfl rfl (by kernel_rfl) (by kernel_rfl) (by kernel_rfl) (fun _ _ _ h => h) (Or.inl ⟨by kernel_rfl, fun w' hSw => by kernel_rfl⟩) hS ?_
  simp only [Act.put, List.setIfInBounds_toArray, List.set_cons_zero, List.set_cons_succ]
  refine takeR (i := 38) (v := v39) (some 80) rfl rfl (by kernel_rfl) (by kernel_rfl) (by kernel_rfl) (fun _ _ _ h => h) (Or.inl ⟨by kernel_rfl, fun w' hSw => by kernel_rfl⟩) hS ?_
  simp only [Act.put, List.setIfInBounds_toArray, List.set_cons_zero, List.set_cons_succ]
  refine takeR (i := 39) (v := .pointer (some ⟨zg, zo + 1, none⟩)) (some 81) rfl rfl (by kernel_rfl) (by kernel_rfl) (by kernel_rfl) (fun _ _ _ h => h) (Or.inl ⟨by kernel_rfl, fun w' hSw => by exact ixV_run (i := 1) (n := 2) (c := zc) (.tmp 80) (.const (.int .i64 1)) rfl (by rw [← hzf]; kernel_rfl) rfl (by decide) _⟩) hS ?_
  simp only [Act.put, List.setIfInBounds_toArray, List.set_cons_zero, List.set_cons_succ]
  refine takeR (i := 40) (v := k3.v) (some 82) rfl rfl (by kernel_rfl) (by kernel_rfl) (by kernel_rfl) (fun _ _ _ h => h) (Or.inl ⟨by kernel_rfl, fun w' hSw => by exact ldV_run (.tmp 81) rfl (by kernel_rfl) (hcz _ hSw.2.1)⟩) hS ?_
  simp only [Act.put, List.setIfInBounds_toArray, List.set_cons_zero, List.set_cons_succ]
  refine takeR (i := 41) (v := .string (ofN PF)) (some 83) rfl rfl (by kernel_rfl) (by kernel_rfl) (by kernel_rfl) (fun _ _ _ h => h) (Or.inl ⟨by kernel_rfl, fun w' hSw => by exact conv_run (.tmp 82) rfl (by kernel_rfl) hSw.2.2⟩) hS ?_
  simp only [Act.put, List.setIfInBounds_toArray, List.set_cons_zero, List.set_cons_succ]
  have hpk := packet_any WD 3 7 (by decide) (by decide)
  refine wpAnyH_ready (rs := [42]) (by kernel_rfl) (by simp) ?_
  refine AllReadyH.cons rfl (fun K1 hK1 => ?_) AllReadyH.nil
  rw [if_pos (by kernel_rfl)]
  refine callR (d := some 84) rfl 10 #[.int .i64 3, .int .u8 7] (by kernel_rfl) hpk ?_
  clear hpk
  rintro e W5 ⟨vq, rfl, hxq⟩
  refine ⟨_, rfl, ?_⟩
  have H6 : Hid (SH w W5 g b ⟨3, 10, 4, [], 6, 6, (bmp (bmp (bmp (bmp (bmp (bmp (fun _ => 0) 0) 1) 0) 1) 4) 5)⟩ 6 ∧ By W5 vq PF) := ⟨H5.out.1.below hxq.out.bel, by rw [HPF.out]; exact hxq.out.by'⟩
  have hS1 : RowAt W5 61 2 vw 1 (rV [(2, 2)]) ∧ RowAt W5 35 1 v39 2 [k2.v, k3.v] ∧ By W5 k3.v PF := ⟨hS.1.fr (Fr.of_below hxq.out.bel (fun _ => False)) fun _ _ => id, hS.2.1.fr (Fr.of_below hxq.out.bel (fun _ => False)) fun _ _ => id, hS.2.2.below hxq.out.bel⟩
  refine hK1.out _ _ hS1 (fun _ => ?_)
  clear hK1 hxq hS H5
  simp only [Act.put, List.setIfInBounds_toArray, List.set_cons_zero, List.set_cons_succ]
  refine wpAnyH_ready (rs := [43]) (by kernel_rfl) (by simp) ?_
  refine AllReadyH.cons rfl (fun K1 hK1 => ?_) AllReadyH.nil
  rw [if_pos (by kernel_rfl)]
  refine valR (d := some 85) rfl (.string (ofN PF)) (conv_run (.tmp 84) rfl (by kernel_rfl) H6.out.2) ?_
  refine hK1.out _ _ hS1 (fun _ => ?_)
  clear hK1
  simp only [Act.put, List.setIfInBounds_toArray, List.set_cons_zero, List.set_cons_succ]
  refine takeR (i := 44) (v := .bool false) (some 86) rfl rfl (by kernel_rfl) (by kernel_rfl) (by kernel_rfl) (fun _ _ _ h => h) (Or.inl ⟨by kernel_rfl, fun w' hSw => by exact neS_run (s := ofN PF) (t := ofN PF) (.tmp 83) (.tmp 85) rfl (by kernel_rfl) (by kernel_rfl) rfl _⟩) hS1 ?_
  simp only [Act.put, List.setIfInBounds_toArray, List.set_cons_zero, List.set_cons_succ]
  refine takeR (i := 45) (v := .bool false) (some 87) rfl rfl (by kernel_rfl) (by kernel_rfl) (by kernel_rfl) (fun _ _ _ h => h) (Or.inl ⟨by kernel_rfl, fun w' hSw => by kernel_rfl⟩) hS1 ?_
  simp only [Act.put, List.setIfInBounds_toArray, List.set_cons_zero, List.set_cons_succ]
  refine wpAnyH_done (by kernel_rfl) ?_ _
  refine hK _ _ ?_
  clear hK hS1 hcz hcw HPF
  generalize ofN PF = spf
  have H7 : Hid (SH w W5 g b ⟨3, 10, 4, [], 6, 6, (bmp (bmp (bmp (bmp (bmp (bmp (fun _ => 0) 0) 1) 0) 1) 4) 5)⟩ 6 ∧ True) := ⟨H6.out.1, trivial⟩
  clear H6
  have hpk := packet_any W5 3 7 (by decide) (by decide)
  go_upto_region 10 with fail
  rename_i K hK
  refine wp_region_lit ?_
  refine wpList_runTo rfl (some 88) rfl (.pointer (some ⟨g, 0, none⟩)) W5 (by kernel_rfl) ?_
  simp only [Act.put, List.setIfInBounds_toArray, List.set_cons_zero, List.set_cons_succ]
  refine wpList_callW rfl (some 89) rfl 10 #[.int .i64 3, .int .u8 7] (by kernel_rfl) hpk ?_
  clear hpk
  rintro e P10 ⟨vp, rfl, hxp⟩
  refine ⟨_, rfl, ?_⟩
  simp only [Act.put, List.setIfInBounds_toArray, List.set_cons_zero, List.set_cons_succ]
  have HP : Hid (SH w P10 g b ⟨3, 10, 4, [], 6, 6, (bmp (bmp (bmp (bmp (bmp (bmp (fun _ => 0) 0) 1) 0) 1) 4) 5)⟩ 6 ∧ True) := ⟨H7.out.1.below hxp.out.bel, trivial⟩
  obtain ⟨lp, hlp⟩ : ∃ lp, lp = pkF 3 7 := ⟨_, rfl⟩
  have hbp : By P10 vp lp := by rw [hlp]; exact hxp.out.by'
  have hhe := HP.out.1.hear (by decide) 1 (by decide) 6 (by decide) (by decide) hbp (by rw [hlp, pkF_len]; decide)
  have HLP : Hid (lp = pkF 3 7) := hlp
  clear hxp H7 hlp hbp
  refine wpList_callW rfl (some 90) rfl 9 #[.pointer (some ⟨g, 0, none⟩), .int .i64 1, vp, .int .i64 6] (by kernel_rfl) hhe ?_
  clear hhe
  rintro e W6 ⟨v90, er, rfl, hx⟩
  refine ⟨_, rfl, ?_⟩
  simp only [Act.put, List.setIfInBounds_toArray, List.set_cons_zero, List.set_cons_succ]
  have H8 : Hid (SH w W6 g b ⟨3, 10, 4, [], 6, 6, (bmp (bmp (bmp (bmp (bmp (bmp (bmp (bmp (fun _ => 0) 0) 1) 0) 1) 4) 5) 4) 6)⟩ 8 ∧ True) := by
    obtain ⟨out, a', h1, h2, h3⟩ := hx.out
    rw [sh4 HLP.out h3] at h1
    exact ⟨h1, trivial⟩
  clear hx HP HLP
  generalize er = er10 at *
  generalize vp = vp10 at *
  refine wpList_nil ?_
  refine hK _ _ ?_
  clear hK
  have hpk := packet_any W6 6 7 (by decide) (by decide)
  go_upto_region 11 with fail
  rename_i K hK
  refine wp_region_lit ?_
  refine wpList_runTo rfl (some 91) rfl (.pointer (some ⟨g, 0, none⟩)) W6 (by kernel_rfl) ?_
  simp only [Act.put, List.setIfInBounds_toArray, List.set_cons_zero, List.set_cons_succ]
  refine wpList_callW rfl (some 92) rfl 10 #[.int .i64 6, .int .u8 7] (by kernel_rfl) hpk ?_
  clear hpk
  rintro e P11 ⟨vp, rfl, hxp⟩
  refine ⟨_, rfl, ?_⟩
  simp only [Act.put, List.setIfInBounds_toArray, List.set_cons_zero, List.set_cons_succ]
  have HP : Hid (SH w P11 g b ⟨3, 10, 4, [], 6, 6, (bmp (bmp (bmp (bmp (bmp (bmp (bmp (bmp (fun _ => 0) 0) 1) 0) 1) 4) 5) 4) 6)⟩ 8 ∧ True) := ⟨H8.out.1.below hxp.out.bel, trivial⟩
  obtain ⟨lp, hlp⟩ : ∃ lp, lp = pkF 6 7 := ⟨_, rfl⟩
  have hbp : By P11 vp lp := by rw [hlp]; exact hxp.out.by'
  have hhe := HP.out.1.hear (by decide) 0 (by decide) 7 (by decide) (by decide) hbp (by rw [hlp, pkF_len]; decide)
  have HLP : Hid (lp = pkF 6 7) := hlp
  clear hxp H8 hlp hbp
  refine wpList_callW rfl (some 93) rfl 9 #[.pointer (some ⟨g, 0, none⟩), .int .i64 0, vp, .int .i64 7] (by kernel_rfl) hhe ?_
  clear hhe
  rintro e W7 ⟨v93, er, rfl, hx⟩
  refine ⟨_, rfl, ?_⟩
  simp only [Act.put, List.setIfInBounds_toArray, List.set_cons_zero, List.set_cons_succ]
  obtain ⟨k6, H9⟩ : ∃ k6 : Kp, Hid (SH w W7 g b ⟨3, 10, 4, [k6], 7, 7, (bmp (bmp (bmp (bmp (bmp (bmp (bmp (bmp (bmp (bmp (fun _ => 0) 0) 1) 0) 1) 4) 5) 4) 6) 0) 1)⟩ 10 ∧ k6.n = 6) := by
    obtain ⟨out, a', h1, h2, h3⟩ := hx.out
    obtain ⟨k6, e1, e2⟩ := sh5 HLP.out h3
    rw [e2] at h1
    exact ⟨k6, h1, e1⟩
  clear hx HP HLP
  generalize er = er11 at *
  generalize vp = vp11 at *
  refine wpList_nil ?_
  refine hK _ _ ?_
  clear hK
  have hpk := packet_any W7 7 7 (by decide) (by decide)
  go_upto_region 12 with fail
  rename_i K hK
  refine wp_region_lit ?_
  refine wpList_runTo rfl (some 94) rfl (.pointer (some ⟨g, 0, none⟩)) W7 (by kernel_rfl) ?_
  simp only [Act.put, List.setIfInBounds_toArray, List.set_cons_zero, List.set_cons_succ]
  refine wpList_callW rfl (some 95) rfl 10 #[.int .i64 7, .int .u8 7] (by kernel_rfl) hpk ?_
  clear hpk
  rintro e P12 ⟨vp, rfl, hxp⟩
  refine ⟨_, rfl, ?_⟩
  simp only [Act.put, List.setIfInBounds_toArray, List.set_cons_zero, List.set_cons_succ]
  have HP : Hid (SH w P12 g b ⟨3, 10, 4, [k6], 7, 7, (bmp (bmp (bmp (bmp (bmp (bmp (bmp (bmp (bmp (bmp (fun _ => 0) 0) 1) 0) 1) 4) 5) 4) 6) 0) 1)⟩ 10 ∧ k6.n = 6) := ⟨H9.out.1.below hxp.out.bel, H9.out.2⟩
  obtain ⟨lp, hlp⟩ : ∃ lp, lp = pkF 7 7 := ⟨_, rfl⟩
  have hbp : By P12 vp lp := by rw [hlp]; exact hxp.out.by'
  have hhe := HP.out.1.hear (by decide) 0 (by decide) 7 (by decide) (by decide) hbp (by rw [hlp, pkF_len]; decide)
  have HLP : Hid (lp = pkF 7 7) := hlp
  clear hxp H9 hlp hbp
  refine wpList_callW rfl (some 96) rfl 9 #[.pointer (some ⟨g, 0, none⟩), .int .i64 0, vp, .int .i64 7] (by kernel_rfl) hhe ?_
  clear hhe
  rintro e W8 ⟨v96, er, rfl, hx⟩
  refine ⟨_, rfl, ?_⟩
  simp only [Act.put, List.setIfInBounds_toArray, List.set_cons_zero, List.set_cons_succ]
  have HA : Hid (SH w W8 g b ⟨3, 10, 4, [k6], 7, 7, (bmp (bmp (bmp (bmp (bmp (bmp (bmp (bmp (bmp (bmp (bmp (fun _ => 0) 0) 1) 0) 1) 4) 5) 4) 6) 0) 1) 0)⟩ 12 ∧ k6.n = 6) := by
    obtain ⟨out, a', h1, h2, h3⟩ := hx.out
    rw [sh6 HLP.out HP.out.2 h3] at h1
    exact ⟨h1, HP.out.2⟩
  clear hx HP HLP
  generalize er = er12 at *
  generalize vp = vp12 at *
  refine wpList_nil ?_
  refine hK _ _ ?_
  clear hK
  have hti := HA.out.1.ticks 16 (by decide) (by decide)
  go_upto_region 13 with fail
  rename_i K hK
  refine wp_region_lit ?_
  refine wpList_runTo rfl (some 97) rfl (.pointer (some ⟨g, 0, none⟩)) W8 (by kernel_rfl) ?_
  simp only [Act.put, List.setIfInBounds_toArray, List.set_cons_zero, List.set_cons_succ]
  refine wpList_callW rfl (some 98) rfl 11 #[.pointer (some ⟨g, 0, none⟩), .int .i64 16] (by kernel_rfl) hti ?_
  clear hti
  rintro e W9 ⟨v98, rfl, hx⟩
  refine ⟨_, rfl, ?_⟩
  simp only [Act.put, List.setIfInBounds_toArray, List.set_cons_zero, List.set_cons_succ]
  refine wpList_runTo rfl (some 10) rfl (v98) W9 (by kernel_rfl) ?_
  simp only [Act.put, List.setIfInBounds_toArray, List.set_cons_zero, List.set_cons_succ]
  refine wpList_nil ?_
  refine hK _ _ ?_
  clear hK
  obtain ⟨ua, uc, huf, HB⟩ : ∃ ua uc, v98 = .slice ua 0 uc ∧ Hid (SH w W9 g b ⟨3, 10, 4, [k6], 7, 16, (bmp (bmp (bmp (bmp (bmp (bmp (bmp (bmp (bmp (bmp (bmp (fun _ => 0) 0) 1) 0) 1) 4) 5) 4) 6) 0) 1) 0)⟩ 12 ∧ k6.n = 6) := by
    obtain ⟨out, a', h1, h2, h3⟩ := hx.out
    obtain ⟨e1, e2⟩ := sh7 h3
    obtain ⟨ao, ca, hf, _⟩ := h2.row.form
    rw [e1] at hf
    rw [e2] at h1
    exact ⟨ao, ca, hf, h1, HA.out.2⟩
  clear hx HA
  have hti := HB.out.1.ticks 17 (by decide) (by decide)
  go_upto_region 14 with fail
  rename_i K hK
  refine wp_region_lit ?_
  refine wpList_runTo rfl (some 99) rfl (.pointer (some ⟨g, 0, none⟩)) W9 (by kernel_rfl) ?_
  simp only [Act.put, List.setIfInBounds_toArray, List.set_cons_zero, List.set_cons_succ]
  refine wpList_callW rfl (some 100) rfl 11 #[.pointer (some ⟨g, 0, none⟩), .int .i64 17] (by kernel_rfl) hti ?_
  clear hti
  rintro e WA ⟨v100, rfl, hx⟩
  refine ⟨_, rfl, ?_⟩
  simp only [Act.put, List.setIfInBounds_toArray, List.set_cons_zero, List.set_cons_succ]
  refine wpList_runTo rfl (some 11) rfl (v100) WA (by kernel_rfl) ?_
  simp only [Act.put, List.setIfInBounds_toArray, List.set_cons_zero, List.set_cons_succ]
  refine wpList_nil ?_
  refine hK _ _ ?_
  clear hK
  obtain ⟨ta, tc, htf, HC⟩ : ∃ ta tc, v100 = .slice ta 1 tc ∧ Hid (SH w WA g b ⟨3, 10, 7, [], 17, 17, (bmp (bmp (bmp (bmp (bmp (bmp (bmp (bmp (bmp (bmp (bmp (fun _ => 0) 0) 1) 0) 1) 4) 5) 4) 6) 0) 1) 0)⟩ 12) := by
    obtain ⟨out, a', h1, h2, h3⟩ := hx.out
    obtain ⟨e1, e2⟩ := sh8 HB.out.2 h3
    obtain ⟨ao, ca, hf, _⟩ := h2.row.form
    rw [e1] at hf
    rw [e2] at h1
    exact ⟨ao, ca, hf, h1⟩
  clear hx HB
  have hli := Lines_any HC.out.ab
  have eli : Ab.ls ⟨3, 10, 7, [], 17, 17, (bmp (bmp (bmp (bmp (bmp (bmp (bmp (bmp (bmp (bmp (bmp (fun _ => 0) 0) 1) 0) 1) 4) 5) 4) 6) 0) 1) 0)⟩ = #[.int .i64 4, .int .i64 3, .int .i64 0, .int .i64 0, .int .i64 2, .int .i64 1, .int .i64 1, .int .i64 0] := by kernel_rfl
  rw [eli] at hli
  clear eli
  go_upto_region 15 with fail
  rename_i K hK
  refine wp_region_lit ?_
  refine wpList_runTo rfl (some 101) rfl (v98) WA (by kernel_rfl) ?_
  simp only [Act.put, List.setIfInBounds_toArray, List.set_cons_zero, List.set_cons_succ]
  refine wpList_runTo rfl (some 102) rfl (.int .i64 ((0 : Nat) : Int)) WA (by exact len_run huf (.tmp 101) rfl (.inr (.inl rfl)) (by kernel_rfl) _) ?_
  simp only [Act.put, List.setIfInBounds_toArray, List.set_cons_zero, List.set_cons_succ]
  refine wpList_runTo rfl (some 103) rfl (.bool true) WA (by exact eqN_run (p := 0) (q := 0) (.tmp 102) (.const (.int .i64 0)) rfl (by kernel_rfl) rfl (by decide) _) ?_
  simp only [Act.put, List.setIfInBounds_toArray, List.set_cons_zero, List.set_cons_succ]
  refine wpList_runTo rfl (some 104) rfl (.bool true) WA (by kernel_rfl) ?_
  simp only [Act.put, List.setIfInBounds_toArray, List.set_cons_zero, List.set_cons_succ]
  refine wpList_runToG (by kernel_rfl) (some 105) rfl (v100) WA (by kernel_rfl) ?_
  simp only [Act.put, List.setIfInBounds_toArray, List.set_cons_zero, List.set_cons_succ]
  refine wpList_runToG (by kernel_rfl) (some 106) rfl (.int .i64 ((1 : Nat) : Int)) WA (by exact len_run htf (.tmp 105) rfl (.inr (.inl rfl)) (by kernel_rfl) _) ?_
  simp only [Act.put, List.setIfInBounds_toArray, List.set_cons_zero, List.set_cons_succ]
  refine wpList_runToG (by kernel_rfl) (some 107) rfl (.bool true) WA (by exact eqN_run (p := 1) (q := 1) (.tmp 106) (.const (.int .i64 1)) rfl (by kernel_rfl) rfl (by decide) _) ?_
  simp only [Act.put, List.setIfInBounds_toArray, List.set_cons_zero, List.set_cons_succ]
  refine wpList_runTo rfl (some 108) rfl (.bool true) WA (by kernel_rfl) ?_
  simp only [Act.put, List.setIfInBounds_toArray, List.set_cons_zero, List.set_cons_succ]
  refine wpList_runTo rfl (some 109) rfl (.bool true) WA (by kernel_rfl) ?_
  simp only [Act.put, List.setIfInBounds_toArray, List.set_cons_zero, List.set_cons_succ]
  refine wpList_runToG (by kernel_rfl) (some 110) rfl (.pointer (some ⟨g, 0, none⟩)) WA (by kernel_rfl) ?_
  simp only [Act.put, List.setIfInBounds_toArray, List.set_cons_zero, List.set_cons_succ]
  refine wpList_callG (by kernel_rfl) (some 111) rfl 18 #[.pointer (some ⟨g, 0, none⟩)] (by kernel_rfl) hli ?_
  clear hli
  rintro e WB ⟨rfl, hx⟩
  refine ⟨_, rfl, ?_⟩
  simp only [Act.put, List.setIfInBounds_toArray, List.set_cons_zero, List.set_cons_succ]
  have HD : Hid (SH w WB g b ⟨3, 10, 7, [], 17, 17, (bmp (bmp (bmp (bmp (bmp (bmp (bmp (bmp (bmp (bmp (bmp (fun _ => 0) 0) 1) 0) 1) 4) 5) 4) 6) 0) 1) 0)⟩ 12) := HC.out.below hx.out
  have hne := Next_any HD.out.ab
  dsimp only at hne
  clear hx HC
  refine wpList_runToG (by kernel_rfl) (some 112) rfl (.agg #[.int .i64 4, .int .i64 3, .int .i64 0, .int .i64 0]) WB (by kernel_rfl) ?_
  simp only [Act.put, List.setIfInBounds_toArray, List.set_cons_zero, List.set_cons_succ]
  refine wpList_runToG (by kernel_rfl) (some 113) rfl (.agg #[.int .i64 2, .int .i64 1, .int .i64 1, .int .i64 0]) WB (by kernel_rfl) ?_
  simp only [Act.put, List.setIfInBounds_toArray, List.set_cons_zero, List.set_cons_succ]
  refine wpList_runToG (by kernel_rfl) (some 114) rfl (.agg #[.int .i64 4, .int .i64 3, .int .i64 0, .int .i64 0, .int .i64 2, .int .i64 1, .int .i64 1, .int .i64 0]) WB (by kernel_rfl) ?_
  simp only [Act.put, List.setIfInBounds_toArray, List.set_cons_zero, List.set_cons_succ]
  refine wpList_runToG (by kernel_rfl) (some 115) rfl (.bool true) WB (by kernel_rfl) ?_
  simp only [Act.put, List.setIfInBounds_toArray, List.set_cons_zero, List.set_cons_succ]
  refine wpList_runTo rfl (some 116) rfl (.bool true) WB (by kernel_rfl) ?_
  simp only [Act.put, List.setIfInBounds_toArray, List.set_cons_zero, List.set_cons_succ]
  refine wpList_runTo rfl (some 117) rfl (.bool true) WB (by kernel_rfl) ?_
  simp only [Act.put, List.setIfInBounds_toArray, List.set_cons_zero, List.set_cons_succ]
  refine wpList_runToG (by kernel_rfl) (some 118) rfl (.pointer (some ⟨g, 0, none⟩)) WB (by kernel_rfl) ?_
  simp only [Act.put, List.setIfInBounds_toArray, List.set_cons_zero, List.set_cons_succ]
  refine wpList_callG (by kernel_rfl) (some 119) rfl 13 #[.pointer (some ⟨g, 0, none⟩)] (by kernel_rfl) hne ?_
  clear hne
  rintro e w9 ⟨rfl, ew⟩
  replace ew := ew.symm
  subst ew
  refine ⟨_, rfl, ?_⟩
  simp only [Act.put, List.setIfInBounds_toArray, List.set_cons_zero, List.set_cons_succ]
  refine wpList_runToG (by kernel_rfl) (some 120) rfl (.bool true) WB (by kernel_rfl) ?_
  simp only [Act.put, List.setIfInBounds_toArray, List.set_cons_zero, List.set_cons_succ]
  refine wpList_runTo rfl (some 121) rfl (.bool true) WB (by kernel_rfl) ?_
  simp only [Act.put, List.setIfInBounds_toArray, List.set_cons_zero, List.set_cons_succ]
  refine wpList_runTo rfl (some 0) rfl (.bool true) WB (by kernel_rfl) ?_
  simp only [Act.put, List.setIfInBounds_toArray, List.set_cons_zero, List.set_cons_succ]
  refine wpList_nil ?_
  refine hK _ _ ?_
  clear hK
  go_wp2
  go_ret
  exact ⟨rfl, HD.out.bel⟩
end Go.Proofs.Ytdncemecnbglaaa
