/-
  arbiter's laws: packet, number.
-/
import Derived.Test.YtdncemecnbglaaaA7
namespace Go.Proofs.Ytdncemecnbglaaa
set_option linter.unusedVariables false
set_option linter.unusedSimpArgs false
open Go.RowKit Go.Great Go.Maps

/-- A right packet of a number, with something in it. -/
def pk6 (n x : Nat) : List Nat := putTo n 4 4 ++ [1, x]
def pkF (n x : Nat) : List Nat := pk6 n x ++ putTo (crN (pk6 n x)) 4 4
theorem pk6_len (n x : Nat) : (pk6 n x).length = 6 := by unfold pk6; rw [List.length_append, putTo_length]; rfl
theorem pkF_len (n x : Nat) : (pkF n x).length = 10 := by unfold pkF; rw [List.length_append, putTo_length, pk6_len]
theorem pk6_bb (n : Nat) {x : Nat} (h : x < 256) : BB (pk6 n x) := (putTo_bb n 4 4).app fun y hy => by
  simp at hy
  omega
theorem pkF_bb (n : Nat) {x : Nat} (h : x < 256) : BB (pkF n x) := (pk6_bb n h).app (putTo_bb _ _ _)
theorem dN_app_left {a b : List Nat} {j : Nat} (h : j < a.length) : dN (a ++ b) j = dN a j := by unfold dN; rw [List.getD_eq_getElem?_getD, List.getD_eq_getElem?_getD, List.getElem?_append_left h]
theorem dN_put (n m j : Nat) (h : j < m) : dN (putTo n 4 m) j = n / 2 ^ (8 * (4 - 1 - j)) % 256 := by
  unfold dN putTo
  rw [List.getD_eq_getElem?_getD, List.getElem?_map, List.getElem?_range h]
  rfl
theorem nb_put {n : Nat} (r : List Nat) (h : n < 4294967296) : nbN (putTo n 4 4 ++ r) = n := by
  unfold nbN
  have := getN_put (dN (putTo n 4 4 ++ r)) n 4 4 (Nat.le_refl _) (fun j hj => by rw [dN_app_left (by rw [putTo_length]; exact hj)]; exact dN_put n 4 j hj)
  rw [this]
  show n / 2 ^ (8 * (4 - 4)) % 2 ^ (8 * 4) = n
  simp
  omega
theorem pkF_nb {n : Nat} (x : Nat) (h : n < 4294967296) : nbN (pkF n x) = n := by
  unfold pkF pk6
  rw [List.append_assoc]
  exact nb_put _ h
theorem dN_pk {n x : Nat} : dN (pkF n x) 4 = 1 ∧ dN (pkF n x) 5 = x := by
  unfold pkF
  rw [dN_app_left (by rw [pk6_len]; decide), dN_app_left (by rw [pk6_len]; decide)]
  unfold pk6 dN
  rw [List.getD_eq_getElem?_getD, List.getD_eq_getElem?_getD, List.getElem?_append_right (by rw [putTo_length]; decide), List.getElem?_append_right (by rw [putTo_length]; decide), putTo_length]
  exact ⟨rfl, rfl⟩
theorem rt_pk {n x : Nat} (h1 : 1 ≤ n) (h2 : n ≤ 999999999) (hx : x < 256) : rt (pkF n x) = some n := by
  have h3 : n < 4294967296 := by omega
  unfold rt
  rw [pkF_nb x h3, if_pos]
  refine ⟨by rw [pkF_len]; decide, dN_pk.1, h1, h2, ?_⟩
  rw [smN_eq, pkF_len]
  show nbN ((pkF n x).drop 6) = crN ((pkF n x).take 6)
  have e1 : (pkF n x).drop 6 = putTo (crN (pk6 n x)) 4 4 ++ [] := by
    unfold pkF
    rw [List.drop_append, pk6_len, List.drop_of_length_le (by rw [pk6_len]; decide)]
    simp
  have e2 : (pkF n x).take 6 = pk6 n x := by
    unfold pkF
    rw [List.take_append_of_le_length (by rw [pk6_len]; decide), List.take_of_length_le (by rw [pk6_len]; decide)]
  rw [e1, e2]
  exact nb_put _ (crN_lt _ (pk6_bb n hx))
theorem Put_row {w : World} {v : Value} {l : List Nat} (h : By w v l) (hl : l.length ≤ 1000000) (u : Nat) (hu : u < 18446744073709551616) :
    Calls Try.prog 23 #[v, .int .u64 (u : Int), .int .i64 4] w fun e w' => ∃ v', e = .returned v' ∧ Hid (RowB w w' v' (l ++ putTo u 4 4)) := by
  obtain ⟨a, cap, rfl, _⟩ := h.form
  obtain ⟨_, _, hs, ha⟩ := h.src
  refine (Put_any a l.length cap (dN l) u 4 (by decide) w (by omega) hu hs ha).mono fun e w' ⟨v', e1, h2, h3⟩ => ⟨v', e1, ?_⟩
  rw [rowL_dN] at h2
  exact (OwnB.of h2 h3 (h.bb.app (putTo_bb _ _ _))).rowB
set_option maxRecDepth 100000 in
set_option maxHeartbeats 1000000 in
theorem packet_any (w : World) (n x : Nat) (hn : n < 4294967296) (hx : x < 256) : Calls Try.prog 10 #[.int .i64 (n : Int), .int .u8 (x : Int)] w fun e w' => ∃ v, e = .returned v ∧ Hid (RowB w w' v (pkF n x)) := by
  have HX : Hid (n < 4294967296 ∧ x < 256) := ⟨hn, hx⟩
  have hp := Put_row (By.nil w) (Nat.zero_le _) n (by omega)
  clear hn hx
  go_enter Try.func10, Try.ntmps10
  go_upto_region 1 with fail
  rename_i K hK
  refine wp_region_lit ?_
  refine wpList_runTo rfl (some 6) rfl (.int .i64 (n : Int)) w (by kernel_rfl) ?_
  simp only [Act.put, List.setIfInBounds_toArray, List.set_cons_zero, List.set_cons_succ]
  refine wpList_runTo rfl (some 7) rfl (.int .u64 (n : Int)) w (by exact cvu_run (k := n) (.tmp 6) rfl (by kernel_rfl) (by have := HX.out.1; omega) _) ?_
  simp only [Act.put, List.setIfInBounds_toArray, List.set_cons_zero, List.set_cons_succ]
  refine wpList_callW rfl (some 8) rfl 23 #[.slice none 0 0, .int .u64 (n : Int), .int .i64 4] (by kernel_rfl) hp ?_
  clear hp
  rintro e W1 ⟨v1, rfl, hx1⟩
  refine ⟨_, rfl, ?_⟩
  simp only [Act.put, List.setIfInBounds_toArray, List.set_cons_zero, List.set_cons_succ]
  refine wpList_runTo rfl (some 5) rfl (v1) W1 (by kernel_rfl) ?_
  simp only [Act.put, List.setIfInBounds_toArray, List.set_cons_zero, List.set_cons_succ]
  refine wpList_nil ?_
  refine hK _ _ ?_
  clear hK
  have H1 : Hid (RowB w W1 v1 (putTo n 4 4)) := by have := hx1.out; rw [List.nil_append] at this; exact this
  clear hx1
  have hal : Below W1.heap.size W1 (W1.alloc (.cells #[.int .u8 1, .int .u8 (x : Int)] 5)) := (Below.refl _ W1).alloc (Nat.le_refl _) _
  have hby : By (W1.alloc (.cells #[.int .u8 1, .int .u8 (x : Int)] 5)) (.slice (some ⟨W1.heap.size, 0, none⟩) 2 2) [1, x] := by
    have hb := Blk.new W1 5 #[.int .u8 1, .int .u8 (x : Int)]
    refine ⟨⟨_, 2, rfl, Nat.le_refl _, fun e => (by cases e), .inr ⟨W1.heap.size, 0, rfl, fun j y hj => ?_⟩⟩, fun y hy => ?_⟩
    · rw [Nat.zero_add, hb.cell]
      match j, hj with
      | 0, hj => have e : 1 = y := by simpa using hj
                 subst e; rfl
      | 1, hj => have e : x = y := by simpa using hj
                 subst e; rfl
      | j + 2, hj => simp at hj
    · have := HX.out.2
      simp at hy
      omega
  have H1a : RowB w (W1.alloc (.cells #[.int .u8 1, .int .u8 (x : Int)] 5)) v1 (putTo n 4 4) := ⟨H1.out.row.fr (Fr.of_below hal (fun _ => False)) fun _ _ => id, H1.out.bb, below_step H1.out.bel hal, H1.out.low⟩
  obtain ⟨v2, W2, hap, hr2⟩ := H1a.app hby (by rw [putTo_length]; show 4 + 2 ≤ _; omega) 35
  have H2 : Hid (RowB w W2 v2 (pk6 n x)) := hr2
  clear hal hby H1a hr2 H1
  go_upto_region 2 with fail
  rename_i K hK
  refine wp_region_lit ?_
  refine wpList_runTo rfl (some 9) rfl (v1) W1 (by kernel_rfl) ?_
  simp only [Act.put, List.setIfInBounds_toArray, List.set_cons_zero, List.set_cons_succ]
  refine wpList_runTo rfl (some 10) rfl (.int .u8 (x : Int)) W1 (by kernel_rfl) ?_
  simp only [Act.put, List.setIfInBounds_toArray, List.set_cons_zero, List.set_cons_succ]
  refine wpList_runTo rfl (some 11) rfl (.slice (some ⟨W1.heap.size, 0, none⟩) 2 2) (W1.alloc (.cells #[.int .u8 1, .int .u8 (x : Int)] 5)) (by kernel_rfl) ?_
  simp only [Act.put, List.setIfInBounds_toArray, List.set_cons_zero, List.set_cons_succ]
  refine wpList_runTo rfl (some 12) rfl (v2) W2 (by exact exec_append (v1 := v1) (v2 := .slice (some ⟨W1.heap.size, 0, none⟩) 2 2) (.tmp 9) (.tmp 11) rfl (by kernel_rfl) (by kernel_rfl) hap) ?_
  simp only [Act.put, List.setIfInBounds_toArray, List.set_cons_zero, List.set_cons_succ]
  refine wpList_runTo rfl (some 5) rfl (v2) W2 (by kernel_rfl) ?_
  simp only [Act.put, List.setIfInBounds_toArray, List.set_cons_zero, List.set_cons_succ]
  refine wpList_nil ?_
  refine hK _ _ ?_
  clear hK
  clear hap
  have hcr := Crc_by H2.out.by' (fun e => by have := congrArg List.length e; rw [pk6_len] at this; cases this) (by rw [pk6_len]; decide)
  obtain ⟨CR, hCR⟩ : ∃ CR, CR = crN (pk6 n x) := ⟨_, rfl⟩
  have hCRl : CR < 4294967296 := by rw [hCR]; exact crN_lt _ (pk6_bb n HX.out.2)
  have hp2 := Put_row H2.out.by' (by rw [pk6_len]; decide) CR (by omega)
  rw [← hCR] at hcr
  go_upto_region 3 with fail
  rename_i K hK
  refine wp_region_lit ?_
  refine wpList_runTo rfl (some 13) rfl (v2) W2 (by kernel_rfl) ?_
  simp only [Act.put, List.setIfInBounds_toArray, List.set_cons_zero, List.set_cons_succ]
  refine wpList_runTo rfl (some 14) rfl (v2) W2 (by kernel_rfl) ?_
  simp only [Act.put, List.setIfInBounds_toArray, List.set_cons_zero, List.set_cons_succ]
  refine wpList_callW rfl (some 15) rfl 24 #[v2] (by kernel_rfl) hcr ?_
  clear hcr
  rintro e w9 ⟨rfl, ew⟩
  replace ew := ew.symm
  subst ew
  refine ⟨_, rfl, ?_⟩
  simp only [Act.put, List.setIfInBounds_toArray, List.set_cons_zero, List.set_cons_succ]
  refine wpList_runTo rfl (some 16) rfl (.int .u64 (CR : Int)) W2 (by exact cv3_run (k := CR) (.tmp 15) rfl (by kernel_rfl) hCRl _) ?_
  simp only [Act.put, List.setIfInBounds_toArray, List.set_cons_zero, List.set_cons_succ]
  refine wpList_callW rfl (some 17) rfl 23 #[v2, .int .u64 (CR : Int), .int .i64 4] (by kernel_rfl) hp2 ?_
  clear hp2
  rintro e W3 ⟨v3, rfl, hx3⟩
  refine ⟨_, rfl, ?_⟩
  simp only [Act.put, List.setIfInBounds_toArray, List.set_cons_zero, List.set_cons_succ]
  refine wpList_runTo rfl (some 4) rfl (v3) W3 (by kernel_rfl) ?_
  simp only [Act.put, List.setIfInBounds_toArray, List.set_cons_zero, List.set_cons_succ]
  refine wpList_nil ?_
  refine hK _ _ ?_
  clear hK
  have H3 : Hid (RowB w W3 v3 (pkF n x)) := by
    have := hx3.out
    rw [hCR] at this
    exact this.since H2.out.bel
  clear hx3 H2 hCR hCRl
  go_wp2
  go_ret
  exact ⟨v3, rfl, H3.out⟩
theorem cvY_run {op : Oper} {a : Act} {x0 : Nat} (x : Operand) (ho : op.op = .convert 5 3 x) (hx : a.eval x = .int .u8 (x0 : Int)) (h : x0 < 256) (w : World) : (execOp a.eval op).run Try.prog w = .ok (.value (.int .i64 (x0 : Int))) w := by
  have hw : IntKind.i64.wrap (x0 : Int) = (x0 : Int) := by rw [IntKind.wrap_i64]; omega
  have hw' : wrap64 (x0 : Int) = (x0 : Int) := by unfold wrap64; omega
  unfold execOp
  simp only [ho, hx]
  go_simp
theorem neN_run {op : Oper} {a : Act} {p q : Nat} {r : Bool} (x y : Operand) (ho : op.op = .binOp .neq 3 x y 3) (hx : a.eval x = .int .i64 (p : Int)) (hy : a.eval y = .int .i64 (q : Int)) (hr : (p != q) = r) (w : World) : (execOp a.eval op).run Try.prog w = .ok (.value (.bool r)) w := by
  have h1 : ((p : Int) != (q : Int)) = r := by
    rw [← hr]
    by_cases h : p = q
    · subst h; simp
    · have : (p : Int) ≠ (q : Int) := by omega
      simp only [bne]; rw [beq_false_of_ne this, beq_false_of_ne h]
  unfold execOp
  simp only [ho, hx, hy]
  go_simp
set_option maxRecDepth 100000 in
set_option maxHeartbeats 2000000 in
theorem number_any {w : World} {v : Value} {n x : Nat} (hv : By w v (pkF n x)) (hn : n < 4294967296) (hx : x < 256) : Calls Try.prog 12 #[v] w fun e w' => e = .returned (.tuple #[.int .i64 (n : Int), .int .i64 (x : Int)]) ∧ Hid (Below w.heap.size w w') := by
  obtain ⟨a, cap, hvf, hc⟩ := hv.form
  rw [pkF_len] at hvf hc
  obtain ⟨g, o, ha, hcell⟩ : ∃ g o, a = some ⟨g, o, none⟩ ∧ ∀ w', By w' v (pkF n x) → w'.cell? ⟨g, o + 5, none⟩ = some (.int .u8 (x : Int)) := by
    obtain ⟨a', cap', e, _, _, h3⟩ := hv.ex
    rw [hvf] at e
    injection e with e1 _ _
    rcases h3 with h3 | ⟨g, o, h4, h5⟩
    · have := congrArg List.length h3; rw [pkF_len] at this; cases this
    · refine ⟨g, o, e1.trans h4, fun w' hw' => ?_⟩
      obtain ⟨a2, cap2, e2, _, _, h6⟩ := hw'.ex
      rw [hvf, e1, h4] at e2
      injection e2 with e3 _ _
      rcases h6 with h6 | ⟨g', o', h7, h8⟩
      · have := congrArg List.length h6; rw [pkF_len] at this; cases this
      · rw [h7] at e3
        injection e3 with e3
        injection e3 with e4 e5 _
        subst e4 e5
        have hl : 5 < (pkF n x).length := by rw [pkF_len]; decide
        have hg : (pkF n x)[5]? = some x := by
          rw [List.getElem?_eq_getElem hl]
          have := dN_pk (n := n) (x := x).2
          unfold dN at this
          rw [List.getD_eq_getElem?_getD, List.getElem?_eq_getElem hl] at this
          exact congrArg some this
        exact h8 5 x hg
  subst ha
  have HV : Hid (By w v (pkF n x) ∧ n < 4294967296 ∧ x < 256 ∧ ∀ w', By w' v (pkF n x) → w'.cell? ⟨g, o + 5, none⟩ = some (.int .u8 (x : Int))) := ⟨hv, hn, hx, hcell⟩
  have hg := Get_by hv (by rw [pkF_len]; decide) (by rw [pkF_len]; decide)
  rw [pkF_nb x hn] at hg
  clear hv hn hx hcell
  obtain ⟨PF, hPF⟩ : ∃ PF, PF = pkF n x := ⟨_, rfl⟩
  go_enter Try.func12, Try.ntmps12
  go_upto_region 1 with fail
  rename_i K hK
  refine wp_region_lit ?_
  refine wpList_runTo rfl (some 7) rfl (v) w (by kernel_rfl) ?_
  simp only [Act.put, List.setIfInBounds_toArray, List.set_cons_zero, List.set_cons_succ]
  refine wpList_callW rfl (some 8) rfl 28 #[v, .int .i64 4] (by kernel_rfl) hg ?_
  clear hg
  rintro e w9 ⟨rfl, ew⟩
  replace ew := ew.symm
  subst ew
  refine ⟨_, rfl, ?_⟩
  simp only [Act.put, List.setIfInBounds_toArray, List.set_cons_zero, List.set_cons_succ]
  refine wpList_runTo rfl (some 6) rfl (.tuple #[.int .u64 (n : Int), .bool true]) w (by kernel_rfl) ?_
  simp only [Act.put, List.setIfInBounds_toArray, List.set_cons_zero, List.set_cons_succ]
  refine wpList_runTo rfl (some 9) rfl (.int .u64 (n : Int)) w (by kernel_rfl) ?_
  simp only [Act.put, List.setIfInBounds_toArray, List.set_cons_zero, List.set_cons_succ]
  refine wpList_runTo rfl (some 10) rfl (.bool true) w (by kernel_rfl) ?_
  simp only [Act.put, List.setIfInBounds_toArray, List.set_cons_zero, List.set_cons_succ]
  refine wpList_runTo rfl (some 4) rfl (.int .u64 (n : Int)) w (by kernel_rfl) ?_
  simp only [Act.put, List.setIfInBounds_toArray, List.set_cons_zero, List.set_cons_succ]
  refine wpList_runTo rfl (some 5) rfl (.bool true) w (by kernel_rfl) ?_
  simp only [Act.put, List.setIfInBounds_toArray, List.set_cons_zero, List.set_cons_succ]
  refine wpList_nil ?_
  refine hK _ _ ?_
  clear hK
  go_upto_region 2 with fail
  have hbd : Below w.heap.size w w.drew := ⟨rfl, rfl, rfl, Nat.le_refl _, fun _ _ => rfl⟩
  have HD : Hid (By w.drew v (pkF n x) ∧ Below w.heap.size w w.drew) := ⟨HV.out.1.below hbd, hbd⟩
  clear hbd
  rename_i K hK
  refine wp_region_held (S := fun w' => By w' v (pkF n x)) (by kernel_rfl) ?_
  change wpAnyH _ _ _ _ _ _ _ _ (World.drew _)
  generalize w.drew = WD at *
  have hS := HD.out.1
  refine takeR (i := 0) (v := .bool true) (some 11) rfl rfl (by kernel_rfl) (by kernel_rfl) (by kernel_rfl) (fun _ _ _ h => h) (Or.inl ⟨by kernel_rfl, fun w' hSw => by kernel_rfl⟩) hS ?_
  simp only [Act.put, List.setIfInBounds_toArray, List.set_cons_zero, List.set_cons_succ]
  refine takeR (i := 1) (v := .bool false) (some 12) rfl rfl (by kernel_rfl) (by kernel_rfl) (by kernel_rfl) (fun _ _ _ h => h) (Or.inl ⟨by kernel_rfl, fun w' hSw => by kernel_rfl⟩) hS ?_
  simp only [Act.put, List.setIfInBounds_toArray, List.set_cons_zero, List.set_cons_succ]
  refine takeR (i := 2) (v := .bool false) (some 13) rfl rfl (by kernel_rfl) (by kernel_rfl) (by kernel_rfl) (fun _ _ _ h => h) (Or.inl ⟨by kernel_rfl, fun w' hSw => by kernel_rfl⟩) hS ?_
  simp only [Act.put, List.setIfInBounds_toArray, List.set_cons_zero, List.set_cons_succ]
  refine takeR (i := 3) (v := v) (some 14) rfl rfl (by kernel_rfl) (by kernel_rfl) (by kernel_rfl) (fun _ _ _ h => h) (Or.inl ⟨by kernel_rfl, fun w' hSw => by kernel_rfl⟩) hS ?_
  simp only [Act.put, List.setIfInBounds_toArray, List.set_cons_zero, List.set_cons_succ]
  refine takeR (i := 4) (v := .int .i64 (10 : Nat)) (some 15) rfl rfl (by kernel_rfl) (by kernel_rfl) (by kernel_rfl) (fun _ _ _ h => h) (Or.inl ⟨by kernel_rfl, fun w' hSw => by exact len_run hvf (.tmp 14) rfl (.inl rfl) (by kernel_rfl) _⟩) hS ?_
  simp only [Act.put, List.setIfInBounds_toArray, List.set_cons_zero, List.set_cons_succ]
  refine takeR (i := 5) (v := .bool false) (some 16) rfl rfl (by kernel_rfl) (by kernel_rfl) (by kernel_rfl) (fun _ _ _ h => h) (Or.inl ⟨by kernel_rfl, fun w' hSw => by exact neN_run (p := 10) (q := 10) (.tmp 15) (.const (.int .i64 10)) rfl (by kernel_rfl) rfl (by decide) _⟩) hS ?_
  simp only [Act.put, List.setIfInBounds_toArray, List.set_cons_zero, List.set_cons_succ]
  refine takeR (i := 6) (v := .bool false) (some 17) rfl rfl (by kernel_rfl) (by kernel_rfl) (by kernel_rfl) (fun _ _ _ h => h) (Or.inl ⟨by kernel_rfl, fun w' hSw => by kernel_rfl⟩) hS ?_
  simp only [Act.put, List.setIfInBounds_toArray, List.set_cons_zero, List.set_cons_succ]
  refine takeR (i := 7) (v := .bool false) (some 18) rfl rfl (by kernel_rfl) (by kernel_rfl) (by kernel_rfl) (fun _ _ _ h => h) (Or.inl ⟨by kernel_rfl, fun w' hSw => by kernel_rfl⟩) hS ?_
  simp only [Act.put, List.setIfInBounds_toArray, List.set_cons_zero, List.set_cons_succ]
  refine takeR (i := 8) (v := v) (some 19) rfl rfl (by kernel_rfl) (by kernel_rfl) (by kernel_rfl) (fun _ _ _ h => h) (Or.inl ⟨by kernel_rfl, fun w' hSw => by kernel_rfl⟩) hS ?_
  simp only [Act.put, List.setIfInBounds_toArray, List.set_cons_zero, List.set_cons_succ]
  refine takeR (i := 9) (v := .string (ofN PF)) (some 20) rfl rfl (by kernel_rfl) (by kernel_rfl) (by kernel_rfl) (fun _ _ _ h => h) (Or.inl ⟨by kernel_rfl, fun w' hSw => by rw [hPF]; exact conv_run (.tmp 19) rfl (by kernel_rfl) hSw⟩) hS ?_
  simp only [Act.put, List.setIfInBounds_toArray, List.set_cons_zero, List.set_cons_succ]
  refine takeR (i := 10) (v := .int .u64 (n : Int)) (some 21) rfl rfl (by kernel_rfl) (by kernel_rfl) (by kernel_rfl) (fun _ _ _ h => h) (Or.inl ⟨by kernel_rfl, fun w' hSw => by kernel_rfl⟩) hS ?_
  simp only [Act.put, List.setIfInBounds_toArray, List.set_cons_zero, List.set_cons_succ]
  refine takeR (i := 11) (v := .int .i64 (n : Int)) (some 22) rfl rfl (by kernel_rfl) (by kernel_rfl) (by kernel_rfl) (fun _ _ _ h => h) (Or.inl ⟨by kernel_rfl, fun w' hSw => by exact cvi_run (p := n) (.tmp 21) rfl (by kernel_rfl) (by have := HV.out.2.1; omega) _⟩) hS ?_
  simp only [Act.put, List.setIfInBounds_toArray, List.set_cons_zero, List.set_cons_succ]
  refine takeR (i := 12) (v := v) (some 23) rfl rfl (by kernel_rfl) (by kernel_rfl) (by kernel_rfl) (fun _ _ _ h => h) (Or.inl ⟨by kernel_rfl, fun w' hSw => by kernel_rfl⟩) hS ?_
  simp only [Act.put, List.setIfInBounds_toArray, List.set_cons_zero, List.set_cons_succ]
  refine takeR (i := 13) (v := .pointer (some ⟨g, o + 5, none⟩)) (some 24) rfl rfl (by kernel_rfl) (by kernel_rfl) (by kernel_rfl) (fun _ _ _ h => h) (Or.inl ⟨by kernel_rfl, fun w' hSw => by exact ixB_run (i := 5) (n := 10) (c := cap) (.tmp 23) (.const (.int .i64 5)) rfl (by rw [← hvf]; kernel_rfl) rfl (by decide) _⟩) hS ?_
  simp only [Act.put, List.setIfInBounds_toArray, List.set_cons_zero, List.set_cons_succ]
  refine takeR (i := 14) (v := .int .u8 (x : Int)) (some 25) rfl rfl (by kernel_rfl) (by kernel_rfl) (by kernel_rfl) (fun _ _ _ h => h) (Or.inl ⟨by kernel_rfl, fun w' hSw => by exact ldY_run (.tmp 24) rfl (by kernel_rfl) (HV.out.2.2.2 _ hSw)⟩) hS ?_
  simp only [Act.put, List.setIfInBounds_toArray, List.set_cons_zero, List.set_cons_succ]
  have hpk := packet_any WD n x HV.out.2.1 HV.out.2.2.1
  refine wpAnyH_ready (rs := [15]) (by kernel_rfl) (by simp) ?_
  refine AllReadyH.cons rfl (fun K1 hK1 => ?_) AllReadyH.nil
  rw [if_pos (by kernel_rfl)]
  refine callR (d := some 26) rfl 10 #[.int .i64 (n : Int), .int .u8 (x : Int)] (by kernel_rfl) hpk ?_
  clear hpk
  rintro e W1 ⟨vp, rfl, hx1⟩
  refine ⟨_, rfl, ?_⟩
  have HE : Hid (By W1 v (pkF n x) ∧ By W1 vp (pkF n x) ∧ Below w.heap.size w W1) := ⟨HD.out.1.below hx1.out.bel, hx1.out.by', below_step HD.out.2 hx1.out.bel⟩
  have hS1 := HE.out.1
  refine hK1.out _ _ hS1 (fun _ => ?_)
  clear hK1 hx1 hS HD
  simp only [Act.put, List.setIfInBounds_toArray, List.set_cons_zero, List.set_cons_succ]
  refine wpAnyH_ready (rs := [16]) (by kernel_rfl) (by simp) ?_
  refine AllReadyH.cons rfl (fun K1 hK1 => ?_) AllReadyH.nil
  rw [if_pos (by kernel_rfl)]
  refine valR (d := some 27) rfl (.string (ofN PF)) (by rw [hPF]; exact conv_run (.tmp 26) rfl (by kernel_rfl) HE.out.2.1) ?_
  refine hK1.out _ _ hS1 (fun _ => ?_)
  clear hK1
  simp only [Act.put, List.setIfInBounds_toArray, List.set_cons_zero, List.set_cons_succ]
  refine takeR (i := 17) (v := .bool false) (some 28) rfl rfl (by kernel_rfl) (by kernel_rfl) (by kernel_rfl) (fun _ _ _ h => h) (Or.inl ⟨by kernel_rfl, fun w' hSw => by exact neS_run (s := ofN PF) (t := ofN PF) (.tmp 20) (.tmp 27) rfl (by kernel_rfl) (by kernel_rfl) rfl _⟩) hS1 ?_
  simp only [Act.put, List.setIfInBounds_toArray, List.set_cons_zero, List.set_cons_succ]
  refine takeR (i := 18) (v := .bool false) (some 29) rfl rfl (by kernel_rfl) (by kernel_rfl) (by kernel_rfl) (fun _ _ _ h => h) (Or.inl ⟨by kernel_rfl, fun w' hSw => by kernel_rfl⟩) hS1 ?_
  simp only [Act.put, List.setIfInBounds_toArray, List.set_cons_zero, List.set_cons_succ]
  refine wpAnyH_done (by kernel_rfl) ?_ _
  refine hK _ _ ?_
  clear hK hS1
  generalize ofN PF = sp
  clear hPF
  go_upto_region 4 with fail
  have hbd : Below W1.heap.size W1 W1.drew := ⟨rfl, rfl, rfl, Nat.le_refl _, fun _ _ => rfl⟩
  have HF : Hid (By W1.drew v (pkF n x) ∧ Below w.heap.size w W1.drew) := ⟨HE.out.1.below hbd, below_step HE.out.2.2 hbd⟩
  clear hbd HE
  rename_i K hK
  refine wp_region_held (S := fun w' => By w' v (pkF n x)) (by kernel_rfl) ?_
  change wpAnyH _ _ _ _ _ _ _ _ (World.drew _)
  generalize W1.drew = WE at *
  have hS := HF.out.1
  refine takeR (i := 0) (v := .int .u64 (n : Int)) (some 30) rfl rfl (by kernel_rfl) (by kernel_rfl) (by kernel_rfl) (fun _ _ _ h => h) (Or.inl ⟨by kernel_rfl, fun w' hSw => by kernel_rfl⟩) hS ?_
  simp only [Act.put, List.setIfInBounds_toArray, List.set_cons_zero, List.set_cons_succ]
  refine takeR (i := 1) (v := .int .i64 (n : Int)) (some 31) rfl rfl (by kernel_rfl) (by kernel_rfl) (by kernel_rfl) (fun _ _ _ h => h) (Or.inl ⟨by kernel_rfl, fun w' hSw => by exact cvi_run (p := n) (.tmp 30) rfl (by kernel_rfl) (by have := HV.out.2.1; omega) _⟩) hS ?_
  simp only [Act.put, List.setIfInBounds_toArray, List.set_cons_zero, List.set_cons_succ]
  refine takeR (i := 2) (v := v) (some 32) rfl rfl (by kernel_rfl) (by kernel_rfl) (by kernel_rfl) (fun _ _ _ h => h) (Or.inl ⟨by kernel_rfl, fun w' hSw => by kernel_rfl⟩) hS ?_
  simp only [Act.put, List.setIfInBounds_toArray, List.set_cons_zero, List.set_cons_succ]
  refine takeR (i := 3) (v := .pointer (some ⟨g, o + 5, none⟩)) (some 33) rfl rfl (by kernel_rfl) (by kernel_rfl) (by kernel_rfl) (fun _ _ _ h => h) (Or.inl ⟨by kernel_rfl, fun w' hSw => by exact ixB_run (i := 5) (n := 10) (c := cap) (.tmp 32) (.const (.int .i64 5)) rfl (by rw [← hvf]; kernel_rfl) rfl (by decide) _⟩) hS ?_
  simp only [Act.put, List.setIfInBounds_toArray, List.set_cons_zero, List.set_cons_succ]
  refine takeR (i := 4) (v := .int .u8 (x : Int)) (some 34) rfl rfl (by kernel_rfl) (by kernel_rfl) (by kernel_rfl) (fun _ _ _ h => h) (Or.inl ⟨by kernel_rfl, fun w' hSw => by exact ldY_run (.tmp 33) rfl (by kernel_rfl) (HV.out.2.2.2 _ hSw)⟩) hS ?_
  simp only [Act.put, List.setIfInBounds_toArray, List.set_cons_zero, List.set_cons_succ]
  refine takeR (i := 5) (v := .int .i64 (x : Int)) (some 35) rfl rfl (by kernel_rfl) (by kernel_rfl) (by kernel_rfl) (fun _ _ _ h => h) (Or.inl ⟨by kernel_rfl, fun w' hSw => by exact cvY_run (x0 := x) (.tmp 34) rfl (by kernel_rfl) HV.out.2.2.1 _⟩) hS ?_
  simp only [Act.put, List.setIfInBounds_toArray, List.set_cons_zero, List.set_cons_succ]
  refine takeR (i := 6) (v := .int .i64 (n : Int)) (some 2) rfl rfl (by kernel_rfl) (by kernel_rfl) (by kernel_rfl) (fun _ _ _ h => h) (Or.inl ⟨by kernel_rfl, fun w' hSw => by kernel_rfl⟩) hS ?_
  simp only [Act.put, List.setIfInBounds_toArray, List.set_cons_zero, List.set_cons_succ]
  refine takeR (i := 7) (v := .int .i64 (x : Int)) (some 3) rfl rfl (by kernel_rfl) (by kernel_rfl) (by kernel_rfl) (fun _ _ _ h => h) (Or.inl ⟨by kernel_rfl, fun w' hSw => by kernel_rfl⟩) hS ?_
  simp only [Act.put, List.setIfInBounds_toArray, List.set_cons_zero, List.set_cons_succ]
  refine wpAnyH_done (by kernel_rfl) ?_ _
  refine hK _ _ ?_
  clear hK hS
  go_wp2
  go_ret2
  exact ⟨rfl, HF.out.2⟩
end Go.Proofs.Ytdncemecnbglaaa
