/-
  arbiter: Hear.
-/
import Derived.Test.YtdncemecnbglaaaA4
namespace Go.Proofs.Ytdncemecnbglaaa
set_option linter.unusedVariables false
set_option linter.unusedSimpArgs false
open Go.RowKit Go.Great Go.Maps

/-- One more of a count. -/
def bmp (cn : Nat → Nat) (i : Nat) : Nat → Nat := fun j => if j = i then cn j + 1 else cn j
theorem bmp_le (cn : Nat → Nat) (i j : Nat) : cn j ≤ bmp cn i j ∧ bmp cn i j ≤ cn j + 1 := by
  unfold bmp
  split <;> omega
theorem mx_run {op : Oper} {a : Act} {p q : Int} (x y : Operand) (ho : op.op = .call { callee := .builtin .max, args := #[x, y], argTypes := #[2, 2] }) (hx : a.eval x = .int .i64 p) (hy : a.eval y = .int .i64 q) (hty : op.type = 2) (w : World) : (execOp a.eval op).run Try.prog w = .ok (.value (.int .i64 (max p q))) w := by
  unfold execOp
  simp only [ho, resolve, invoke, builtin, Sem.run_bind, Sem.run_pure, Result.andThen_ok, List.map_toArray, List.map_cons, List.map_nil, hx, hy, hty]
  go_simp
theorem ixL_run {op : Oper} {a : Act} {g i : Nat} (x y : Operand) (ho : op.op = .indexAddr 63 x y) (hx : a.eval x = .pointer (some ⟨g, 6, none⟩)) (hy : a.eval y = .int .i64 (i : Int)) (hi : i < 2) (w : World) : (execOp a.eval op).run Try.prog w = .ok (.value (.pointer (some ⟨g, 6 + i * 4, none⟩))) w := by
  have h1 : (i : Int) < 2 := by omega
  have h2 : ¬ (2 : Int) ≤ (i : Int) := by omega
  unfold execOp
  simp only [ho, hx, hy]
  go_simp
theorem Ab.cell_cn {w : World} {g b : Nat} {a : Ab} (h : AbAt w g b a) {line c : Nat} (hl : line < 2) (hc : c < 4) : w.cell? ⟨g, 6 + line * 4 + c, none⟩ = some (.int .i64 (a.cn (4 * line + c) : Int)) := by
  rw [h.blk.cell]
  have h1 : line = 0 ∨ line = 1 := by omega
  have h2 : c = 0 ∨ c = 1 ∨ c = 2 ∨ c = 3 := by omega
  rcases h1 with rfl | rfl <;> rcases h2 with rfl | rfl | rfl | rfl <;> rfl
theorem AbAt.bump {w : World} {g b : Nat} {a : Ab} (h : AbAt w g b a) {line c : Nat} (hl : line < 2) (hc : c < 4) (hm : a.cn (4 * line + c) < 1000000000000) : AbAt (w.setCell ⟨g, 6 + line * 4 + c, none⟩ (.int .i64 ((a.cn (4 * line + c) + 1 : Nat) : Int))) g b { a with cn := bmp a.cn (4 * line + c) } := by
  have hbd := h.bd
  refine h.put _ _ _ ?_ rfl ⟨hbd.w1, hbd.w2, hbd.p0, hbd.p1, hbd.nx, hbd.s0, hbd.s1, hbd.l0, hbd.l1, hbd.kn, fun i => ?_, ?_⟩
  · have h1 : line = 0 ∨ line = 1 := by omega
    have h2 : c = 0 ∨ c = 1 ∨ c = 2 ∨ c = 3 := by omega
    rcases h1 with rfl | rfl <;> rcases h2 with rfl | rfl | rfl | rfl <;> rfl
  · show bmp a.cn (4 * line + c) i ≤ _
    unfold bmp
    split
    · rename_i e; rw [e]; omega
    · exact hbd.cn i
  · show a.ks.length ≤ bmp a.cn (4 * line + c) 1 + bmp a.cn (4 * line + c) 5
    have := (bmp_le a.cn (4 * line + c) 1).1
    have := (bmp_le a.cn (4 * line + c) 5).1
    have := hbd.len
    omega
theorem Ab.cs_u8 (a : Ab) (b k : Nat) (x : Int) : (a.cs b)[k]? ≠ some (.int .u8 x) := fun h => by
  match k, h with
  | 0, h => simp [Ab.cs] at h
  | 1, h => simp [Ab.cs] at h
  | 2, h => simp [Ab.cs] at h
  | 3, h => simp [Ab.cs] at h
  | 4, h => simp [Ab.cs] at h
  | 5, h => simp [Ab.cs] at h
  | 6, h => simp [Ab.cs] at h
  | 7, h => simp [Ab.cs] at h
  | 8, h => simp [Ab.cs] at h
  | 9, h => simp [Ab.cs] at h
  | 10, h => simp [Ab.cs] at h
  | 11, h => simp [Ab.cs] at h
  | 12, h => simp [Ab.cs] at h
  | 13, h => simp [Ab.cs] at h
  | n + 14, h => simp [Ab.cs] at h
theorem By.fr' {w w' : World} {v : Value} {l : List Nat} {g b : Nat} {ab : Ab} (h : By w v l) (hf : Fr w w' (fun x => x = g)) (hb : Blk w g 67 (ab.cs b)) : By w' v l := by
  obtain ⟨a, cap, rfl, h1, h2, h3⟩ := h.ex
  refine ⟨⟨a, cap, rfl, h1, h2, ?_⟩, h.bb⟩
  rcases h3 with h3 | ⟨q, off, rfl, h3⟩
  · exact .inl h3
  · by_cases e : q = g
    · subst e
      by_cases hl : l = []
      · exact .inl hl
      · obtain ⟨x, hx⟩ : ∃ x, l[0]? = some x := ⟨_, List.getElem?_eq_getElem (by cases l with | nil => exact absurd rfl hl | cons y r => simp)⟩
        have := h3 0 x hx
        rw [hb.cell] at this
        exact absurd this (Ab.cs_u8 _ _ _ _)
    · exact .inr ⟨q, off, rfl, fun j x hj => hf.cell (h3 j x hj) e⟩
/-- An arbiter that has heard something come over a line. -/
def Ab.came (a : Ab) (line : Nat) (now : Int) : Ab := { a with la := max a.la now, cn := bmp a.cn (4 * line) }
def Ab.cnt (a : Ab) (i : Nat) : Ab := { a with cn := bmp a.cn i }
/-- What Hear does. -/
def Hd (a : Ab) (line : Nat) (now : Int) (l : List Nat) (lo : Nat) (out : List Kp) (a' : Ab) (er : Int) : Prop := match rt l with
  | none => er = 200 ∧ out = [] ∧ a' = (a.came line now).cnt (4 * line + 3)
  | some n => er = 0 ∧ (hrB a n = true ∧ out = [] ∧ a' = (a.came line now).cnt (4 * line + 2) ∨ hrB a n = false ∧ a.nx + a.win ≤ n ∧ out = [] ∧ a' = a.came line now ∨ hrB a n = false ∧ n < a.nx + a.win ∧ ∃ k, k.n = n ∧ k.l = l ∧ (∀ q, k.v.ownBlock = some q → lo ≤ q) ∧ TkR ((a.came line now).cnt (4 * line + 1)) k out a')
theorem rt_some {l : List Nat} {n : Nat} (h : rt l = some n) : 9 ≤ l.length ∧ 1 ≤ n ∧ n ≤ 999999999 := by
  unfold rt at h
  split at h
  · rename_i q
    injection h with h
    subst h
    exact ⟨q.1, q.2.2.1, q.2.2.2.1⟩
  · cases h
/-- How far a number is ahead. -/
def farB (a : Ab) (n : Nat) : Bool := decide ((a.win : Int) ≤ (n : Int) - (a.nx : Int))
theorem sub3_run {op : Oper} {a : Act} {p q : Nat} (x y : Operand) (ho : op.op = .binOp .sub 3 x y 3) (hx : a.eval x = .int .i64 (p : Int)) (hy : a.eval y = .int .i64 (q : Int)) (h : p ≤ 9000000000 ∧ q ≤ 9000000000) (w : World) : (execOp a.eval op).run Try.prog w = .ok (.value (.int .i64 ((p : Int) - (q : Int)))) w := by
  have hw : IntKind.i64.wrap ((p : Int) - (q : Int)) = (p : Int) - (q : Int) := by rw [IntKind.wrap_i64]; omega
  have hw' : wrap64 ((p : Int) - (q : Int)) = (p : Int) - (q : Int) := by unfold wrap64; omega
  unfold execOp
  simp only [ho, hx, hy]
  go_simp
theorem ge3_run {op : Oper} {a : Act} {p : Int} {q : Nat} {r : Bool} (x y : Operand) (ho : op.op = .binOp .geq 3 x y 3) (hx : a.eval x = .int .i64 p) (hy : a.eval y = .int .i64 (q : Int)) (hr : decide ((q : Int) ≤ p) = r) (w : World) : (execOp a.eval op).run Try.prog w = .ok (.value (.bool r)) w := by
  unfold execOp
  simp only [ho, hx, hy]
  go_simp
set_option maxRecDepth 100000 in
set_option maxHeartbeats 2000000 in
theorem Hear_any {w : World} {g b : Nat} {a : Ab} (h : AbAt w g b a) (line : Nat) (hline : line < 2) (now : Int) (hn0 : 0 ≤ now) (hn1 : now ≤ 253402300799999) {v : Value} {l : List Nat} (hv : By w v l) (hl : l.length ≤ 140737488351232) (hgt : ∀ k ∈ a.ks, a.nx < k.n) (hcn : ∀ i, a.cn i + 2 ≤ 1000000000000) : Calls Try.prog 9 #[.pointer (some ⟨g, 0, none⟩), .int .i64 (line : Int), v, .int .i64 now] w fun e w' => ∃ v' er, e = .returned (.tuple #[v', .int .i64 er]) ∧ Hid (∃ out a', TkO w w' g b v' out a' ∧ Hd a line now l w.heap.size out a' er) := by
  have HA : Hid (AbAt w g b a ∧ By w v l ∧ l.length ≤ 140737488351232 ∧ (∀ k ∈ a.ks, a.nx < k.n) ∧ ∀ i, a.cn i + 2 ≤ 1000000000000) := ⟨h, hv, hl, hgt, hcn⟩
  have htm : tmB now = true := by unfold tmB; simp [hn0, hn1]
  have hti := isTime_any now w
  rw [htm] at hti
  have hla0 := h.bd.l0
  have hla1 := h.bd.l1
  clear h hv hl hgt hcn htm
  have g1 : ¬ (line : Int) < 0 := by omega
  have g2 : ¬ (2 : Int) ≤ (line : Int) := by omega
  obtain ⟨MM, hMM⟩ : ∃ MM, MM = max a.la now := ⟨_, rfl⟩
  have HMM : Hid (MM = max a.la now ∧ 0 ≤ MM ∧ MM ≤ 253402300799999) := ⟨hMM, by omega, by omega⟩
  clear hMM hla0 hla1
  go_enter Try.func9, Try.ntmps9
  go_upto_region 1 with fail
  rename_i K hK
  refine wp_region_lit ?_
  refine wpList_runTo rfl (some 13) rfl (.int .i64 (line : Int)) w (by kernel_rfl) ?_
  simp only [Act.put, List.setIfInBounds_toArray, List.set_cons_zero, List.set_cons_succ]
  refine wpList_runTo rfl (some 14) rfl (.bool false) w (by go_simp) ?_
  simp only [Act.put, List.setIfInBounds_toArray, List.set_cons_zero, List.set_cons_succ]
  refine wpList_runTo rfl (some 15) rfl (.bool false) w (by kernel_rfl) ?_
  simp only [Act.put, List.setIfInBounds_toArray, List.set_cons_zero, List.set_cons_succ]
  refine wpList_runToG (by kernel_rfl) (some 16) rfl (.int .i64 (line : Int)) w (by kernel_rfl) ?_
  simp only [Act.put, List.setIfInBounds_toArray, List.set_cons_zero, List.set_cons_succ]
  refine wpList_runToG (by kernel_rfl) (some 17) rfl (.bool false) w (by go_simp) ?_
  simp only [Act.put, List.setIfInBounds_toArray, List.set_cons_zero, List.set_cons_succ]
  refine wpList_runTo rfl (some 18) rfl (.bool false) w (by kernel_rfl) ?_
  simp only [Act.put, List.setIfInBounds_toArray, List.set_cons_zero, List.set_cons_succ]
  refine wpList_runTo rfl (some 19) rfl (.bool false) w (by kernel_rfl) ?_
  simp only [Act.put, List.setIfInBounds_toArray, List.set_cons_zero, List.set_cons_succ]
  refine wpList_runToG (by kernel_rfl) (some 20) rfl (.int .i64 now) w (by kernel_rfl) ?_
  simp only [Act.put, List.setIfInBounds_toArray, List.set_cons_zero, List.set_cons_succ]
  refine wpList_callG (by kernel_rfl) (some 21) rfl 19 #[.int .i64 now] (by kernel_rfl) hti ?_
  clear hti
  rintro e w1 ⟨rfl, ew⟩
  replace ew := ew.symm
  subst ew
  refine ⟨_, rfl, ?_⟩
  simp only [Act.put, List.setIfInBounds_toArray, List.set_cons_zero, List.set_cons_succ]
  refine wpList_runToG (by kernel_rfl) (some 22) rfl (.bool false) w (by kernel_rfl) ?_
  simp only [Act.put, List.setIfInBounds_toArray, List.set_cons_zero, List.set_cons_succ]
  refine wpList_runTo rfl (some 23) rfl (.bool false) w (by kernel_rfl) ?_
  simp only [Act.put, List.setIfInBounds_toArray, List.set_cons_zero, List.set_cons_succ]
  refine wpList_nil ?_
  refine hK _ _ ?_
  clear hK
  clear g1 g2
  have c5 : w.cell? ⟨g, 5, none⟩ = some (.int .i64 a.la) := HA.out.1.blk.cell 5
  have f5 : w.frozen? ⟨g, 5, none⟩ = false := HA.out.1.blk.frozen 5
  go_upto_region 3 with fail
  rename_i K hK
  refine wp_region_lit ?_
  refine wpList_runTo rfl (some 24) rfl (.pointer (some ⟨g, 0, none⟩)) w (by kernel_rfl) ?_
  simp only [Act.put, List.setIfInBounds_toArray, List.set_cons_zero, List.set_cons_succ]
  refine wpList_runTo rfl (some 25) rfl (.pointer (some ⟨g, 0, none⟩)) w (by kernel_rfl) ?_
  simp only [Act.put, List.setIfInBounds_toArray, List.set_cons_zero, List.set_cons_succ]
  refine wpList_runTo rfl (some 26) rfl (.pointer (some ⟨g, 0, none⟩)) w (by kernel_rfl) ?_
  simp only [Act.put, List.setIfInBounds_toArray, List.set_cons_zero, List.set_cons_succ]
  refine wpList_runTo rfl (some 27) rfl (.pointer (some ⟨g, 5, none⟩)) w (by kernel_rfl) ?_
  simp only [Act.put, List.setIfInBounds_toArray, List.set_cons_zero, List.set_cons_succ]
  refine wpList_runTo rfl (some 28) rfl (.int .i64 a.la) w (by exact ldN_run (.inl rfl) (.tmp 27) rfl (by kernel_rfl) (c5)) ?_
  simp only [Act.put, List.setIfInBounds_toArray, List.set_cons_zero, List.set_cons_succ]
  refine wpList_runTo rfl (some 29) rfl (.int .i64 now) w (by kernel_rfl) ?_
  simp only [Act.put, List.setIfInBounds_toArray, List.set_cons_zero, List.set_cons_succ]
  refine wpList_runTo rfl (some 30) rfl (.int .i64 MM) w (by rw [HMM.out.1]; exact mx_run (.tmp 28) (.tmp 29) rfl (by kernel_rfl) (by kernel_rfl) rfl _) ?_
  simp only [Act.put, List.setIfInBounds_toArray, List.set_cons_zero, List.set_cons_succ]
  refine wpList_runTo rfl (some 31) rfl (.pointer (some ⟨g, 0, none⟩)) w (by kernel_rfl) ?_
  simp only [Act.put, List.setIfInBounds_toArray, List.set_cons_zero, List.set_cons_succ]
  refine wpList_runTo rfl (some 32) rfl (.pointer (some ⟨g, 5, none⟩)) w (by kernel_rfl) ?_
  simp only [Act.put, List.setIfInBounds_toArray, List.set_cons_zero, List.set_cons_succ]
  refine wpList_skipW rfl none rfl (w' := w.setCell ⟨g, 5, none⟩ (.int .i64 MM)) (stN_run (.inl rfl) (.tmp 32) (.tmp 30) rfl (by kernel_rfl) (by kernel_rfl) c5 f5) ?_
  simp only [Act.put, List.setIfInBounds_toArray, List.set_cons_zero, List.set_cons_succ]
  refine wpList_nil ?_
  refine hK _ _ ?_
  clear hK
  have H1 : Hid (AbAt (w.setCell ⟨g, 5, none⟩ (.int .i64 MM)) g b { a with la := MM } ∧ Fr w (w.setCell ⟨g, 5, none⟩ (.int .i64 MM)) (fun x => x = g ∨ x = b) ∧ By (w.setCell ⟨g, 5, none⟩ (.int .i64 MM)) v l) := by
    have hbd := HA.out.1.bd
    have hf := Fr.setCell w ⟨g, 5, none⟩ (.int .i64 MM) (fun x => x = g) rfl
    refine ⟨HA.out.1.put _ 5 _ rfl rfl ⟨hbd.w1, hbd.w2, hbd.p0, hbd.p1, hbd.nx, hbd.s0, hbd.s1, HMM.out.2.1, HMM.out.2.2, hbd.kn, hbd.cn, hbd.len⟩, hf.mono fun x _ e => .inl e, HA.out.2.1.fr' hf HA.out.1.blk⟩
  generalize w.setCell ⟨g, 5, none⟩ (.int .i64 MM) = W1 at *
  clear c5 f5
  obtain ⟨o6, ho6⟩ : ∃ o6, o6 = 6 + line * 4 := ⟨_, rfl⟩
  go_upto_region 4 with fail
  rename_i K hK
  refine wp_region_lit ?_
  refine wpList_runTo rfl (some 33) rfl (.pointer (some ⟨g, 0, none⟩)) W1 (by kernel_rfl) ?_
  simp only [Act.put, List.setIfInBounds_toArray, List.set_cons_zero, List.set_cons_succ]
  refine wpList_runTo rfl (some 34) rfl (.int .i64 (line : Int)) W1 (by kernel_rfl) ?_
  simp only [Act.put, List.setIfInBounds_toArray, List.set_cons_zero, List.set_cons_succ]
  refine wpList_runTo rfl (some 35) rfl (.pointer (some ⟨g, 0, none⟩)) W1 (by kernel_rfl) ?_
  simp only [Act.put, List.setIfInBounds_toArray, List.set_cons_zero, List.set_cons_succ]
  refine wpList_runTo rfl (some 36) rfl (.pointer (some ⟨g, 6, none⟩)) W1 (by kernel_rfl) ?_
  simp only [Act.put, List.setIfInBounds_toArray, List.set_cons_zero, List.set_cons_succ]
  refine wpList_runTo rfl (some 37) rfl (.pointer (some ⟨g, o6, none⟩)) W1 (by rw [ho6]; exact ixL_run (i := line) (.tmp 36) (.tmp 34) rfl (by kernel_rfl) (by kernel_rfl) hline _) ?_
  simp only [Act.put, List.setIfInBounds_toArray, List.set_cons_zero, List.set_cons_succ]
  refine wpList_runTo rfl (some 10) rfl (.pointer (some ⟨g, o6, none⟩)) W1 (by kernel_rfl) ?_
  simp only [Act.put, List.setIfInBounds_toArray, List.set_cons_zero, List.set_cons_succ]
  refine wpList_nil ?_
  refine hK _ _ ?_
  clear hK
  go_upto_region 5 with fail
  have hbd : Below W1.heap.size W1 W1.drew := ⟨rfl, rfl, rfl, Nat.le_refl _, fun _ _ => rfl⟩
  have H1d : Hid (AbAt W1.drew g b ({ a with la := MM }) ∧ Fr w W1.drew (fun x => x = g ∨ x = b) ∧ By W1.drew v l) := ⟨H1.out.1.below hbd, H1.out.2.1.trans (Fr.of_below hbd (fun _ => False)) fun x _ q => q.elim id False.elim, H1.out.2.2.below hbd⟩
  clear hbd H1
  obtain ⟨z, hz⟩ : ∃ z, z = ({ a with la := MM }).cn (4 * line + 0) := ⟨_, rfl⟩
  obtain ⟨oc, hoc⟩ : ∃ oc, oc = o6 + 0 := ⟨_, rfl⟩
  rename_i K hK
  refine wp_region_late (fun w' => w'.cell? ⟨g, oc, none⟩ = some (.int .i64 (z : Int))) 7 (by kernel_rfl) ?_
  intro hCl
  generalize W1.drew = Z at *
  change wpAnyL _ _ _ _ _ _ 8 _ _ _
  have hS : Z.cell? ⟨g, oc, none⟩ = some (.int .i64 (z : Int)) := by rw [hoc, ho6, hz]; exact Ab.cell_cn H1d.out.1 hline (by decide)
  have hF : Z.frozen? ⟨g, oc, none⟩ = false := H1d.out.1.blk.frozen oc
  have hzb : z + 1 ≤ 1000000000000 := by rw [hz]; have := HA.out.2.2.2.2 (4 * line + 0); show a.cn _ + 1 ≤ _; omega
  refine takeL (i := 0) (v := .pointer (some ⟨g, o6, none⟩)) 7 (some 38) rfl rfl (by kernel_rfl) (by kernel_rfl) (by kernel_rfl) (by kernel_rfl) hCl (fun _ _ _ h => h) (Or.inl ⟨by kernel_rfl, fun w' hSw => by kernel_rfl⟩) hS ?_
  clear hCl
  intro hCl
  simp only [Act.put, List.setIfInBounds_toArray, List.set_cons_zero, List.set_cons_succ]
  refine takeL (i := 1) (v := .pointer (some ⟨g, o6, none⟩)) 7 (some 39) rfl rfl (by kernel_rfl) (by kernel_rfl) (by kernel_rfl) (by kernel_rfl) hCl (fun _ _ _ h => h) (Or.inl ⟨by kernel_rfl, fun w' hSw => by kernel_rfl⟩) hS ?_
  clear hCl
  intro hCl
  simp only [Act.put, List.setIfInBounds_toArray, List.set_cons_zero, List.set_cons_succ]
  refine takeL (i := 2) (v := .pointer (some ⟨g, oc, none⟩)) 7 (some 40) rfl rfl (by kernel_rfl) (by kernel_rfl) (by kernel_rfl) (by kernel_rfl) hCl (fun _ _ _ h => h) (Or.inl ⟨by kernel_rfl, fun w' hSw => by rw [hoc]; kernel_rfl⟩) hS ?_
  clear hCl
  intro hCl
  simp only [Act.put, List.setIfInBounds_toArray, List.set_cons_zero, List.set_cons_succ]
  refine takeL (i := 3) (v := .int .i64 (z : Int)) 7 (some 41) rfl rfl (by kernel_rfl) (by kernel_rfl) (by kernel_rfl) (by kernel_rfl) hCl (fun _ _ _ h => h) (Or.inl ⟨by kernel_rfl, fun w' hSw => by exact ldN_run (.inr rfl) (.tmp 40) rfl (by kernel_rfl) hSw⟩) hS ?_
  clear hCl
  intro hCl
  simp only [Act.put, List.setIfInBounds_toArray, List.set_cons_zero, List.set_cons_succ]
  refine takeL (i := 4) (v := .int .i64 ((z + 1 : Nat) : Int)) 7 (some 42) rfl rfl (by kernel_rfl) (by kernel_rfl) (by kernel_rfl) (by kernel_rfl) hCl (fun _ _ _ h => h) (Or.inl ⟨by kernel_rfl, fun w' hSw => by exact addN_run (p := z) (q := 1) (.tmp 41) (.const (.int .i64 1)) rfl (by kernel_rfl) rfl (by omega) _⟩) hS ?_
  clear hCl
  intro hCl
  simp only [Act.put, List.setIfInBounds_toArray, List.set_cons_zero, List.set_cons_succ]
  refine takeL (i := 5) (v := .pointer (some ⟨g, o6, none⟩)) 7 (some 43) rfl rfl (by kernel_rfl) (by kernel_rfl) (by kernel_rfl) (by kernel_rfl) hCl (fun _ _ _ h => h) (Or.inl ⟨by kernel_rfl, fun w' hSw => by kernel_rfl⟩) hS ?_
  clear hCl
  intro hCl
  simp only [Act.put, List.setIfInBounds_toArray, List.set_cons_zero, List.set_cons_succ]
  refine takeL (i := 6) (v := .pointer (some ⟨g, oc, none⟩)) 7 (some 44) rfl rfl (by kernel_rfl) (by kernel_rfl) (by kernel_rfl) (by kernel_rfl) hCl (fun _ _ _ h => h) (Or.inl ⟨by kernel_rfl, fun w' hSw => by rw [hoc]; kernel_rfl⟩) hS ?_
  clear hCl
  intro hCl
  simp only [Act.put, List.setIfInBounds_toArray, List.set_cons_zero, List.set_cons_succ]
  refine oneL (i := 7) rfl (by kernel_rfl) hCl (by kernel_rfl) (fun K1 hK1 => ?_)
  refine skipR (d := none) rfl (w' := Z.setCell ⟨g, oc, none⟩ (.int .i64 ((z + 1 : Nat) : Int))) (stN_run (.inr rfl) (.tmp 44) (.tmp 42) rfl (by kernel_rfl) (by kernel_rfl) hS hF) ?_
  refine hK1.out _ _ (fun h => absurd rfl h) ?_
  clear hK1 hCl hS hF
  intro hCl
  simp only [Act.put, List.setIfInBounds_toArray, List.set_cons_zero, List.set_cons_succ]
  refine doneL (by kernel_rfl) ?_
  clear hCl
  refine hK _ _ ?_
  clear hK
  have H2 : Hid (AbAt (Z.setCell ⟨g, oc, none⟩ (.int .i64 ((z + 1 : Nat) : Int))) g b (({ a with la := MM } : Ab).cnt (4 * line + 0)) ∧ Fr w (Z.setCell ⟨g, oc, none⟩ (.int .i64 ((z + 1 : Nat) : Int))) (fun x => x = g ∨ x = b) ∧ By (Z.setCell ⟨g, oc, none⟩ (.int .i64 ((z + 1 : Nat) : Int))) v l) := by
    have hf := Fr.setCell Z ⟨g, oc, none⟩ (.int .i64 ((z + 1 : Nat) : Int)) (fun x => x = g) rfl
    have hab := H1d.out.1.bump (line := line) (c := 0) hline (by decide) (by rw [← hz]; omega)
    rw [← hz, ← ho6, ← hoc] at hab
    exact ⟨hab, H1d.out.2.1.trans hf fun x _ q => q.elim id .inl, H1d.out.2.2.fr' hf H1d.out.1.blk⟩
  generalize Z.setCell ⟨g, oc, none⟩ (.int .i64 ((z + 1 : Nat) : Int)) = W2 at *
  generalize z = z5 at *
  clear H1d hz hoc hzb
  have H2' : Hid (AbAt W2 g b (a.came line now) ∧ Fr w W2 (fun x => x = g ∨ x = b) ∧ By W2 v l) := by
    have := H2.out
    unfold Ab.came
    rw [← HMM.out.1]
    exact this
  clear H2 HMM
  have hnu := numberOf_any H2'.out.2.2 (by have := HA.out.2.2.1; omega)
  obtain ⟨Rv, hRv⟩ : ∃ R, R = rt l := ⟨_, rfl⟩
  rw [← hRv] at hnu
  have HR : Hid (Rv = rt l) := hRv
  clear hRv
  obtain ⟨m, bo, hmb⟩ : ∃ (m : Nat) (bo : Bool), rtV Rv = .tuple #[.int .i64 (m : Int), .bool bo] := by
    cases Rv with
    | none => exact ⟨0, false, rfl⟩
    | some n => exact ⟨n, true, rfl⟩
  rw [hmb] at hnu
  have HM : Hid (rtV Rv = .tuple #[.int .i64 (m : Int), .bool bo]) := hmb
  clear hmb
  go_upto_region 6 with fail
  rename_i K hK
  refine wp_region_lit ?_
  refine wpList_runTo rfl (some 46) rfl (v) W2 (by kernel_rfl) ?_
  simp only [Act.put, List.setIfInBounds_toArray, List.set_cons_zero, List.set_cons_succ]
  refine wpList_callW rfl (some 47) rfl 20 #[v] (by kernel_rfl) hnu ?_
  clear hnu
  rintro e w1 ⟨rfl, ew⟩
  replace ew := ew.symm
  subst ew
  refine ⟨_, rfl, ?_⟩
  simp only [Act.put, List.setIfInBounds_toArray, List.set_cons_zero, List.set_cons_succ]
  refine wpList_runTo rfl (some 45) rfl (.tuple #[.int .i64 (m : Int), .bool bo]) W2 (by kernel_rfl) ?_
  simp only [Act.put, List.setIfInBounds_toArray, List.set_cons_zero, List.set_cons_succ]
  refine wpList_runTo rfl (some 48) rfl (.int .i64 (m : Int)) W2 (by kernel_rfl) ?_
  simp only [Act.put, List.setIfInBounds_toArray, List.set_cons_zero, List.set_cons_succ]
  refine wpList_runTo rfl (some 49) rfl (.bool bo) W2 (by kernel_rfl) ?_
  simp only [Act.put, List.setIfInBounds_toArray, List.set_cons_zero, List.set_cons_succ]
  refine wpList_runTo rfl (some 11) rfl (.int .i64 (m : Int)) W2 (by kernel_rfl) ?_
  simp only [Act.put, List.setIfInBounds_toArray, List.set_cons_zero, List.set_cons_succ]
  refine wpList_runTo rfl (some 12) rfl (.bool bo) W2 (by kernel_rfl) ?_
  simp only [Act.put, List.setIfInBounds_toArray, List.set_cons_zero, List.set_cons_succ]
  refine wpList_nil ?_
  refine hK _ _ ?_
  clear hK
  cases bo
  case false =>
    have HN : Hid (rt l = none) := by
      have h1 := HM.out
      rw [HR.out] at h1
      show rt l = none
      cases e : rt l with
      | none => rfl
      | some n => rw [e] at h1; unfold rtV at h1; injection h1 with h1; simp at h1
    clear HM HR
    go_upto_region 7 with fail
    rename_i K hK
    refine wp_region_lit ?_
    refine wpList_runTo rfl (some 51) rfl (.bool false) W2 (by kernel_rfl) ?_
    simp only [Act.put, List.setIfInBounds_toArray, List.set_cons_zero, List.set_cons_succ]
    refine wpList_runTo rfl (some 52) rfl (.bool true) W2 (by kernel_rfl) ?_
    simp only [Act.put, List.setIfInBounds_toArray, List.set_cons_zero, List.set_cons_succ]
    refine wpList_runTo rfl (some 50) rfl (.bool true) W2 (by kernel_rfl) ?_
    simp only [Act.put, List.setIfInBounds_toArray, List.set_cons_zero, List.set_cons_succ]
    refine wpList_nil ?_
    refine hK _ _ ?_
    clear hK
    go_upto_region 8 with fail
    have hbd : Below W2.heap.size W2 W2.drew := ⟨rfl, rfl, rfl, Nat.le_refl _, fun _ _ => rfl⟩
    have H2'd : Hid (AbAt W2.drew g b (a.came line now) ∧ Fr w W2.drew (fun x => x = g ∨ x = b) ∧ By W2.drew v l) := ⟨H2'.out.1.below hbd, H2'.out.2.1.trans (Fr.of_below hbd (fun _ => False)) fun x _ q => q.elim id False.elim, H2'.out.2.2.below hbd⟩
    clear hbd H2'
    obtain ⟨z, hz⟩ : ∃ z, z = (a.came line now).cn (4 * line + 3) := ⟨_, rfl⟩
    obtain ⟨oc, hoc⟩ : ∃ oc, oc = o6 + 3 := ⟨_, rfl⟩
    rename_i K hK
    refine wp_region_late (fun w' => w'.cell? ⟨g, oc, none⟩ = some (.int .i64 (z : Int))) 7 (by kernel_rfl) ?_
    intro hCl
    generalize W2.drew = Z at *
    change wpAnyL _ _ _ _ _ _ 8 _ _ _
    have hS : Z.cell? ⟨g, oc, none⟩ = some (.int .i64 (z : Int)) := by rw [hoc, ho6, hz]; exact Ab.cell_cn H2'd.out.1 hline (by decide)
    have hF : Z.frozen? ⟨g, oc, none⟩ = false := H2'd.out.1.blk.frozen oc
    have hzb : z + 1 ≤ 1000000000000 := by rw [hz]; have := HA.out.2.2.2.2 (4 * line + 3); have := (bmp_le a.cn (4 * line) (4 * line + 3)).2; show bmp a.cn (4 * line) (4 * line + 3) + 1 ≤ _; omega
    refine takeL (i := 0) (v := .pointer (some ⟨g, o6, none⟩)) 7 (some 53) rfl rfl (by kernel_rfl) (by kernel_rfl) (by kernel_rfl) (by kernel_rfl) hCl (fun _ _ _ h => h) (Or.inl ⟨by kernel_rfl, fun w' hSw => by kernel_rfl⟩) hS ?_
    clear hCl
    intro hCl
    simp only [Act.put, List.setIfInBounds_toArray, List.set_cons_zero, List.set_cons_succ]
    refine takeL (i := 1) (v := .pointer (some ⟨g, o6, none⟩)) 7 (some 54) rfl rfl (by kernel_rfl) (by kernel_rfl) (by kernel_rfl) (by kernel_rfl) hCl (fun _ _ _ h => h) (Or.inl ⟨by kernel_rfl, fun w' hSw => by kernel_rfl⟩) hS ?_
    clear hCl
    intro hCl
    simp only [Act.put, List.setIfInBounds_toArray, List.set_cons_zero, List.set_cons_succ]
    refine takeL (i := 2) (v := .pointer (some ⟨g, oc, none⟩)) 7 (some 55) rfl rfl (by kernel_rfl) (by kernel_rfl) (by kernel_rfl) (by kernel_rfl) hCl (fun _ _ _ h => h) (Or.inl ⟨by kernel_rfl, fun w' hSw => by rw [hoc]; kernel_rfl⟩) hS ?_
    clear hCl
    intro hCl
    simp only [Act.put, List.setIfInBounds_toArray, List.set_cons_zero, List.set_cons_succ]
    refine takeL (i := 3) (v := .int .i64 (z : Int)) 7 (some 56) rfl rfl (by kernel_rfl) (by kernel_rfl) (by kernel_rfl) (by kernel_rfl) hCl (fun _ _ _ h => h) (Or.inl ⟨by kernel_rfl, fun w' hSw => by exact ldN_run (.inr rfl) (.tmp 55) rfl (by kernel_rfl) hSw⟩) hS ?_
    clear hCl
    intro hCl
    simp only [Act.put, List.setIfInBounds_toArray, List.set_cons_zero, List.set_cons_succ]
    refine takeL (i := 4) (v := .int .i64 ((z + 1 : Nat) : Int)) 7 (some 57) rfl rfl (by kernel_rfl) (by kernel_rfl) (by kernel_rfl) (by kernel_rfl) hCl (fun _ _ _ h => h) (Or.inl ⟨by kernel_rfl, fun w' hSw => by exact addN_run (p := z) (q := 1) (.tmp 56) (.const (.int .i64 1)) rfl (by kernel_rfl) rfl (by omega) _⟩) hS ?_
    clear hCl
    intro hCl
    simp only [Act.put, List.setIfInBounds_toArray, List.set_cons_zero, List.set_cons_succ]
    refine takeL (i := 5) (v := .pointer (some ⟨g, o6, none⟩)) 7 (some 58) rfl rfl (by kernel_rfl) (by kernel_rfl) (by kernel_rfl) (by kernel_rfl) hCl (fun _ _ _ h => h) (Or.inl ⟨by kernel_rfl, fun w' hSw => by kernel_rfl⟩) hS ?_
    clear hCl
    intro hCl
    simp only [Act.put, List.setIfInBounds_toArray, List.set_cons_zero, List.set_cons_succ]
    refine takeL (i := 6) (v := .pointer (some ⟨g, oc, none⟩)) 7 (some 59) rfl rfl (by kernel_rfl) (by kernel_rfl) (by kernel_rfl) (by kernel_rfl) hCl (fun _ _ _ h => h) (Or.inl ⟨by kernel_rfl, fun w' hSw => by rw [hoc]; kernel_rfl⟩) hS ?_
    clear hCl
    intro hCl
    simp only [Act.put, List.setIfInBounds_toArray, List.set_cons_zero, List.set_cons_succ]
    refine oneL (i := 7) rfl (by kernel_rfl) hCl (by kernel_rfl) (fun K1 hK1 => ?_)
    refine skipR (d := none) rfl (w' := Z.setCell ⟨g, oc, none⟩ (.int .i64 ((z + 1 : Nat) : Int))) (stN_run (.inr rfl) (.tmp 59) (.tmp 57) rfl (by kernel_rfl) (by kernel_rfl) hS hF) ?_
    refine hK1.out _ _ (fun h => absurd rfl h) ?_
    clear hK1 hCl hS hF
    intro hCl
    simp only [Act.put, List.setIfInBounds_toArray, List.set_cons_zero, List.set_cons_succ]
    refine doneL (by kernel_rfl) ?_
    clear hCl
    refine hK _ _ ?_
    clear hK
    have H3 : Hid (AbAt (Z.setCell ⟨g, oc, none⟩ (.int .i64 ((z + 1 : Nat) : Int))) g b ((a.came line now).cnt (4 * line + 3)) ∧ Fr w (Z.setCell ⟨g, oc, none⟩ (.int .i64 ((z + 1 : Nat) : Int))) (fun x => x = g ∨ x = b) ∧ By (Z.setCell ⟨g, oc, none⟩ (.int .i64 ((z + 1 : Nat) : Int))) v l) := by
      have hf := Fr.setCell Z ⟨g, oc, none⟩ (.int .i64 ((z + 1 : Nat) : Int)) (fun x => x = g) rfl
      have hab := H2'd.out.1.bump (line := line) (c := 3) hline (by decide) (by rw [← hz]; omega)
      rw [← hz, ← ho6, ← hoc] at hab
      exact ⟨hab, H2'd.out.2.1.trans hf fun x _ q => q.elim id .inl, H2'd.out.2.2.fr' hf H2'd.out.1.blk⟩
    generalize Z.setCell ⟨g, oc, none⟩ (.int .i64 ((z + 1 : Nat) : Int)) = W3 at *
    generalize z = z8 at *
    clear H2'd hz hoc hzb
    have HZ : Hid (∃ out a', TkO w W3 g b (.slice none 0 0) out a' ∧ Hd a line now l w.heap.size out a' 200) := ⟨[], _, TkO.nil H3.out.1 H3.out.2.1, by unfold Hd; rw [HN.out]; exact ⟨rfl, rfl, rfl⟩⟩
    clear H3 HA
    go_wp2
    go_ret2
    exact ⟨_, _, rfl, HZ.out⟩
  case true =>
    have HN : Hid (rt l = some m) := by
      have h1 := HM.out
      rw [HR.out] at h1
      show rt l = some m
      cases e : rt l with
      | none => rw [e] at h1; unfold rtV at h1; injection h1 with h1; simp at h1
      | some n =>
        rw [e] at h1
        unfold rtV at h1
        injection h1 with h1
        have : (n : Int) = (m : Int) := by simpa using h1
        congr 1
        omega
    clear HM HR
    have hm9 := rt_some HN.out
    have HM9 : Hid (9 ≤ l.length ∧ 1 ≤ m ∧ m ≤ 999999999) := hm9
    clear hm9
    go_upto_region 7 with fail
    rename_i K hK
    refine wp_region_lit ?_
    refine wpList_runTo rfl (some 51) rfl (.bool true) W2 (by kernel_rfl) ?_
    simp only [Act.put, List.setIfInBounds_toArray, List.set_cons_zero, List.set_cons_succ]
    refine wpList_runTo rfl (some 52) rfl (.bool false) W2 (by kernel_rfl) ?_
    simp only [Act.put, List.setIfInBounds_toArray, List.set_cons_zero, List.set_cons_succ]
    refine wpList_runTo rfl (some 50) rfl (.bool false) W2 (by kernel_rfl) ?_
    simp only [Act.put, List.setIfInBounds_toArray, List.set_cons_zero, List.set_cons_succ]
    refine wpList_nil ?_
    refine hK _ _ ?_
    clear hK
    have hhh := hasHeard_any H2'.out.1 m (by have := HM9.out.2.2; omega)
    have ehr : hrB (a.came line now) m = hrB a m := rfl
    rw [ehr] at hhh
    obtain ⟨hb, hhb⟩ : ∃ hb, hb = hrB a m := ⟨_, rfl⟩
    rw [← hhb] at hhh
    have HHB : Hid (hb = hrB a m) := hhb
    clear hhb ehr
    go_upto_region 10 with fail
    rename_i K hK
    refine wp_region_lit ?_
    refine wpList_runTo rfl (some 61) rfl (.pointer (some ⟨g, 0, none⟩)) W2 (by kernel_rfl) ?_
    simp only [Act.put, List.setIfInBounds_toArray, List.set_cons_zero, List.set_cons_succ]
    refine wpList_runTo rfl (some 62) rfl (.int .i64 (m : Int)) W2 (by kernel_rfl) ?_
    simp only [Act.put, List.setIfInBounds_toArray, List.set_cons_zero, List.set_cons_succ]
    refine wpList_callW rfl (some 63) rfl 21 #[.pointer (some ⟨g, 0, none⟩), .int .i64 (m : Int)] (by kernel_rfl) hhh ?_
    clear hhh
    rintro e w1 ⟨rfl, ew⟩
    replace ew := ew.symm
    subst ew
    refine ⟨_, rfl, ?_⟩
    simp only [Act.put, List.setIfInBounds_toArray, List.set_cons_zero, List.set_cons_succ]
    refine wpList_runTo rfl (some 60) rfl (.bool hb) W2 (by kernel_rfl) ?_
    simp only [Act.put, List.setIfInBounds_toArray, List.set_cons_zero, List.set_cons_succ]
    refine wpList_nil ?_
    refine hK _ _ ?_
    clear hK
    cases hb
    case true =>
      go_upto_region 11 with fail
      have hbd : Below W2.heap.size W2 W2.drew := ⟨rfl, rfl, rfl, Nat.le_refl _, fun _ _ => rfl⟩
      have H2'd : Hid (AbAt W2.drew g b (a.came line now) ∧ Fr w W2.drew (fun x => x = g ∨ x = b) ∧ By W2.drew v l) := ⟨H2'.out.1.below hbd, H2'.out.2.1.trans (Fr.of_below hbd (fun _ => False)) fun x _ q => q.elim id False.elim, H2'.out.2.2.below hbd⟩
      clear hbd H2'
      obtain ⟨z, hz⟩ : ∃ z, z = (a.came line now).cn (4 * line + 2) := ⟨_, rfl⟩
      obtain ⟨oc, hoc⟩ : ∃ oc, oc = o6 + 2 := ⟨_, rfl⟩
      rename_i K hK
      refine wp_region_late (fun w' => w'.cell? ⟨g, oc, none⟩ = some (.int .i64 (z : Int))) 7 (by kernel_rfl) ?_
      intro hCl
      generalize W2.drew = Z at *
      change wpAnyL _ _ _ _ _ _ 8 _ _ _
      have hS : Z.cell? ⟨g, oc, none⟩ = some (.int .i64 (z : Int)) := by rw [hoc, ho6, hz]; exact Ab.cell_cn H2'd.out.1 hline (by decide)
      have hF : Z.frozen? ⟨g, oc, none⟩ = false := H2'd.out.1.blk.frozen oc
      have hzb : z + 1 ≤ 1000000000000 := by rw [hz]; have := HA.out.2.2.2.2 (4 * line + 2); have := (bmp_le a.cn (4 * line) (4 * line + 2)).2; show bmp a.cn (4 * line) (4 * line + 2) + 1 ≤ _; omega
      refine takeL (i := 0) (v := .pointer (some ⟨g, o6, none⟩)) 7 (some 64) rfl rfl (by kernel_rfl) (by kernel_rfl) (by kernel_rfl) (by kernel_rfl) hCl (fun _ _ _ h => h) (Or.inl ⟨by kernel_rfl, fun w' hSw => by kernel_rfl⟩) hS ?_
      clear hCl
      intro hCl
      simp only [Act.put, List.setIfInBounds_toArray, List.set_cons_zero, List.set_cons_succ]
      refine takeL (i := 1) (v := .pointer (some ⟨g, o6, none⟩)) 7 (some 65) rfl rfl (by kernel_rfl) (by kernel_rfl) (by kernel_rfl) (by kernel_rfl) hCl (fun _ _ _ h => h) (Or.inl ⟨by kernel_rfl, fun w' hSw => by kernel_rfl⟩) hS ?_
      clear hCl
      intro hCl
      simp only [Act.put, List.setIfInBounds_toArray, List.set_cons_zero, List.set_cons_succ]
      refine takeL (i := 2) (v := .pointer (some ⟨g, oc, none⟩)) 7 (some 66) rfl rfl (by kernel_rfl) (by kernel_rfl) (by kernel_rfl) (by kernel_rfl) hCl (fun _ _ _ h => h) (Or.inl ⟨by kernel_rfl, fun w' hSw => by rw [hoc]; kernel_rfl⟩) hS ?_
      clear hCl
      intro hCl
      simp only [Act.put, List.setIfInBounds_toArray, List.set_cons_zero, List.set_cons_succ]
      refine takeL (i := 3) (v := .int .i64 (z : Int)) 7 (some 67) rfl rfl (by kernel_rfl) (by kernel_rfl) (by kernel_rfl) (by kernel_rfl) hCl (fun _ _ _ h => h) (Or.inl ⟨by kernel_rfl, fun w' hSw => by exact ldN_run (.inr rfl) (.tmp 66) rfl (by kernel_rfl) hSw⟩) hS ?_
      clear hCl
      intro hCl
      simp only [Act.put, List.setIfInBounds_toArray, List.set_cons_zero, List.set_cons_succ]
      refine takeL (i := 4) (v := .int .i64 ((z + 1 : Nat) : Int)) 7 (some 68) rfl rfl (by kernel_rfl) (by kernel_rfl) (by kernel_rfl) (by kernel_rfl) hCl (fun _ _ _ h => h) (Or.inl ⟨by kernel_rfl, fun w' hSw => by exact addN_run (p := z) (q := 1) (.tmp 67) (.const (.int .i64 1)) rfl (by kernel_rfl) rfl (by omega) _⟩) hS ?_
      clear hCl
      intro hCl
      simp only [Act.put, List.setIfInBounds_toArray, List.set_cons_zero, List.set_cons_succ]
      refine takeL (i := 5) (v := .pointer (some ⟨g, o6, none⟩)) 7 (some 69) rfl rfl (by kernel_rfl) (by kernel_rfl) (by kernel_rfl) (by kernel_rfl) hCl (fun _ _ _ h => h) (Or.inl ⟨by kernel_rfl, fun w' hSw => by kernel_rfl⟩) hS ?_
      clear hCl
      intro hCl
      simp only [Act.put, List.setIfInBounds_toArray, List.set_cons_zero, List.set_cons_succ]
      refine takeL (i := 6) (v := .pointer (some ⟨g, oc, none⟩)) 7 (some 70) rfl rfl (by kernel_rfl) (by kernel_rfl) (by kernel_rfl) (by kernel_rfl) hCl (fun _ _ _ h => h) (Or.inl ⟨by kernel_rfl, fun w' hSw => by rw [hoc]; kernel_rfl⟩) hS ?_
      clear hCl
      intro hCl
      simp only [Act.put, List.setIfInBounds_toArray, List.set_cons_zero, List.set_cons_succ]
      refine oneL (i := 7) rfl (by kernel_rfl) hCl (by kernel_rfl) (fun K1 hK1 => ?_)
      refine skipR (d := none) rfl (w' := Z.setCell ⟨g, oc, none⟩ (.int .i64 ((z + 1 : Nat) : Int))) (stN_run (.inr rfl) (.tmp 70) (.tmp 68) rfl (by kernel_rfl) (by kernel_rfl) hS hF) ?_
      refine hK1.out _ _ (fun h => absurd rfl h) ?_
      clear hK1 hCl hS hF
      intro hCl
      simp only [Act.put, List.setIfInBounds_toArray, List.set_cons_zero, List.set_cons_succ]
      refine doneL (by kernel_rfl) ?_
      clear hCl
      refine hK _ _ ?_
      clear hK
      have H3 : Hid (AbAt (Z.setCell ⟨g, oc, none⟩ (.int .i64 ((z + 1 : Nat) : Int))) g b ((a.came line now).cnt (4 * line + 2)) ∧ Fr w (Z.setCell ⟨g, oc, none⟩ (.int .i64 ((z + 1 : Nat) : Int))) (fun x => x = g ∨ x = b) ∧ By (Z.setCell ⟨g, oc, none⟩ (.int .i64 ((z + 1 : Nat) : Int))) v l) := by
        have hf := Fr.setCell Z ⟨g, oc, none⟩ (.int .i64 ((z + 1 : Nat) : Int)) (fun x => x = g) rfl
        have hab := H2'd.out.1.bump (line := line) (c := 2) hline (by decide) (by rw [← hz]; omega)
        rw [← hz, ← ho6, ← hoc] at hab
        exact ⟨hab, H2'd.out.2.1.trans hf fun x _ q => q.elim id .inl, H2'd.out.2.2.fr' hf H2'd.out.1.blk⟩
      generalize Z.setCell ⟨g, oc, none⟩ (.int .i64 ((z + 1 : Nat) : Int)) = W3 at *
      generalize z = z11 at *
      clear H2'd hz hoc hzb
      have HZ : Hid (∃ out a', TkO w W3 g b (.slice none 0 0) out a' ∧ Hd a line now l w.heap.size out a' 0) := ⟨[], _, TkO.nil H3.out.1 H3.out.2.1, by unfold Hd; rw [HN.out]; exact ⟨rfl, .inl ⟨HHB.out.symm, rfl, rfl⟩⟩⟩
      clear H3 HA
      go_wp2
      go_ret2
      exact ⟨_, _, rfl, HZ.out⟩
    case false =>
      go_upto_region 13 with fail
      have hbd : Below W2.heap.size W2 W2.drew := ⟨rfl, rfl, rfl, Nat.le_refl _, fun _ _ => rfl⟩
      have H2d : Hid (AbAt W2.drew g b (a.came line now) ∧ Fr w W2.drew (fun x => x = g ∨ x = b) ∧ By W2.drew v l) := ⟨H2'.out.1.below hbd, H2'.out.2.1.trans (Fr.of_below hbd (fun _ => False)) fun x _ q => q.elim id False.elim, H2'.out.2.2.below hbd⟩
      clear hbd H2'
      obtain ⟨X, hX⟩ : ∃ X, X = a.nx := ⟨_, rfl⟩
      obtain ⟨WN, hWN⟩ : ∃ X, X = a.win := ⟨_, rfl⟩
      have hXb : X ≤ 9000000000 := by rw [hX]; have := HA.out.1.bd.nx; omega
      obtain ⟨fb, hfb⟩ : ∃ fb, decide ((WN : Int) ≤ (m : Int) - (X : Int)) = fb := ⟨_, rfl⟩
      rename_i K hK
      refine wp_region_held (S := fun w' => Blk w' g 67 ((a.came line now).cs b)) (by kernel_rfl) ?_
      change wpAnyH _ _ _ _ _ _ _ _ (World.drew _)
      generalize W2.drew = WD at *
      have hS := H2d.out.1.blk
      refine takeR (i := 0) (v := .int .i64 (m : Int)) (some 72) rfl rfl (by kernel_rfl) (by kernel_rfl) (by kernel_rfl) (fun _ _ _ h => h) (Or.inl ⟨by kernel_rfl, fun w' hSw => by kernel_rfl⟩) hS ?_
      simp only [Act.put, List.setIfInBounds_toArray, List.set_cons_zero, List.set_cons_succ]
      refine takeR (i := 1) (v := .pointer (some ⟨g, 0, none⟩)) (some 73) rfl rfl (by kernel_rfl) (by kernel_rfl) (by kernel_rfl) (fun _ _ _ h => h) (Or.inl ⟨by kernel_rfl, fun w' hSw => by kernel_rfl⟩) hS ?_
      simp only [Act.put, List.setIfInBounds_toArray, List.set_cons_zero, List.set_cons_succ]
      refine takeR (i := 2) (v := .pointer (some ⟨g, 0, none⟩)) (some 74) rfl rfl (by kernel_rfl) (by kernel_rfl) (by kernel_rfl) (fun _ _ _ h => h) (Or.inl ⟨by kernel_rfl, fun w' hSw => by kernel_rfl⟩) hS ?_
      simp only [Act.put, List.setIfInBounds_toArray, List.set_cons_zero, List.set_cons_succ]
      refine takeR (i := 3) (v := .pointer (some ⟨g, 2, none⟩)) (some 75) rfl rfl (by kernel_rfl) (by kernel_rfl) (by kernel_rfl) (fun _ _ _ h => h) (Or.inl ⟨by kernel_rfl, fun w' hSw => by kernel_rfl⟩) hS ?_
      simp only [Act.put, List.setIfInBounds_toArray, List.set_cons_zero, List.set_cons_succ]
      refine takeR (i := 4) (v := .int .i64 (X : Int)) (some 76) rfl rfl (by kernel_rfl) (by kernel_rfl) (by kernel_rfl) (fun _ _ _ h => h) (Or.inl ⟨by kernel_rfl, fun w' hSw => by exact ldN_run (.inr rfl) (.tmp 75) rfl (by kernel_rfl) (by rw [hX]; exact hSw.cell 2)⟩) hS ?_
      simp only [Act.put, List.setIfInBounds_toArray, List.set_cons_zero, List.set_cons_succ]
      refine takeR (i := 5) (v := .int .i64 ((m : Int) - (X : Int))) (some 77) rfl rfl (by kernel_rfl) (by kernel_rfl) (by kernel_rfl) (fun _ _ _ h => h) (Or.inl ⟨by kernel_rfl, fun w' hSw => by exact sub3_run (p := m) (q := X) (.tmp 72) (.tmp 76) rfl (by kernel_rfl) (by kernel_rfl) (by have := HM9.out.2.2; omega) _⟩) hS ?_
      simp only [Act.put, List.setIfInBounds_toArray, List.set_cons_zero, List.set_cons_succ]
      refine takeR (i := 6) (v := .pointer (some ⟨g, 0, none⟩)) (some 78) rfl rfl (by kernel_rfl) (by kernel_rfl) (by kernel_rfl) (fun _ _ _ h => h) (Or.inl ⟨by kernel_rfl, fun w' hSw => by kernel_rfl⟩) hS ?_
      simp only [Act.put, List.setIfInBounds_toArray, List.set_cons_zero, List.set_cons_succ]
      refine takeR (i := 7) (v := .pointer (some ⟨g, 0, none⟩)) (some 79) rfl rfl (by kernel_rfl) (by kernel_rfl) (by kernel_rfl) (fun _ _ _ h => h) (Or.inl ⟨by kernel_rfl, fun w' hSw => by kernel_rfl⟩) hS ?_
      simp only [Act.put, List.setIfInBounds_toArray, List.set_cons_zero, List.set_cons_succ]
      refine takeR (i := 8) (v := .pointer (some ⟨g, 0, none⟩)) (some 80) rfl rfl (by kernel_rfl) (by kernel_rfl) (by kernel_rfl) (fun _ _ _ h => h) (Or.inl ⟨by kernel_rfl, fun w' hSw => by kernel_rfl⟩) hS ?_
      simp only [Act.put, List.setIfInBounds_toArray, List.set_cons_zero, List.set_cons_succ]
      refine takeR (i := 9) (v := .int .i64 (WN : Int)) (some 81) rfl rfl (by kernel_rfl) (by kernel_rfl) (by kernel_rfl) (fun _ _ _ h => h) (Or.inl ⟨by kernel_rfl, fun w' hSw => by exact ldN_run (.inr rfl) (.tmp 80) rfl (by kernel_rfl) (by rw [hWN]; exact hSw.cell 0)⟩) hS ?_
      simp only [Act.put, List.setIfInBounds_toArray, List.set_cons_zero, List.set_cons_succ]
      refine takeR (i := 10) (v := .bool fb) (some 82) rfl rfl (by kernel_rfl) (by kernel_rfl) (by kernel_rfl) (fun _ _ _ h => h) (Or.inl ⟨by kernel_rfl, fun w' hSw => by exact ge3_run (q := WN) (.tmp 77) (.tmp 81) rfl (by kernel_rfl) (by kernel_rfl) hfb _⟩) hS ?_
      simp only [Act.put, List.setIfInBounds_toArray, List.set_cons_zero, List.set_cons_succ]
      refine takeR (i := 11) (v := .bool fb) (some 71) rfl rfl (by kernel_rfl) (by kernel_rfl) (by kernel_rfl) (fun _ _ _ h => h) (Or.inl ⟨by kernel_rfl, fun w' hSw => by kernel_rfl⟩) hS ?_
      simp only [Act.put, List.setIfInBounds_toArray, List.set_cons_zero, List.set_cons_succ]
      refine wpAnyH_done (by kernel_rfl) ?_ _
      refine hK _ _ ?_
      clear hK hS hXb
      have HFB : Hid (decide ((a.win : Int) ≤ (m : Int) - (a.nx : Int)) = fb) := by rw [← hX, ← hWN]; exact hfb
      clear hfb hX hWN
      generalize (m : Int) - (X : Int) = dmx
      cases fb
      case true =>
        have hfar : a.nx + a.win ≤ m := by have := HFB.out; simp at this; omega
        have HZ : Hid (∃ out a', TkO w WD g b (.slice none 0 0) out a' ∧ Hd a line now l w.heap.size out a' 0) := ⟨[], _, TkO.nil H2d.out.1 H2d.out.2.1, by unfold Hd; rw [HN.out]; exact ⟨rfl, .inr (.inl ⟨HHB.out.symm, hfar, rfl, rfl⟩)⟩⟩
        clear H2d HA hfar HFB HHB HN
        go_wp2
        go_ret2
        exact ⟨_, _, rfl, HZ.out⟩
      case false =>
        have hnear : m < a.nx + a.win := by have := HFB.out; simp at this; omega
        have HNE : Hid (m < a.nx + a.win) := hnear
        clear hnear HFB
        go_upto_region 15 with fail
        have hbd : Below WD.heap.size WD WD.drew := ⟨rfl, rfl, rfl, Nat.le_refl _, fun _ _ => rfl⟩
        have H2dd : Hid (AbAt WD.drew g b (a.came line now) ∧ Fr w WD.drew (fun x => x = g ∨ x = b) ∧ By WD.drew v l) := ⟨H2d.out.1.below hbd, H2d.out.2.1.trans (Fr.of_below hbd (fun _ => False)) fun x _ q => q.elim id False.elim, H2d.out.2.2.below hbd⟩
        clear hbd H2d
        obtain ⟨z, hz⟩ : ∃ z, z = (a.came line now).cn (4 * line + 1) := ⟨_, rfl⟩
        obtain ⟨oc, hoc⟩ : ∃ oc, oc = o6 + 1 := ⟨_, rfl⟩
        rename_i K hK
        refine wp_region_late (fun w' => w'.cell? ⟨g, oc, none⟩ = some (.int .i64 (z : Int))) 7 (by kernel_rfl) ?_
        intro hCl
        generalize WD.drew = Z at *
        change wpAnyL _ _ _ _ _ _ 8 _ _ _
        have hS : Z.cell? ⟨g, oc, none⟩ = some (.int .i64 (z : Int)) := by rw [hoc, ho6, hz]; exact Ab.cell_cn H2dd.out.1 hline (by decide)
        have hF : Z.frozen? ⟨g, oc, none⟩ = false := H2dd.out.1.blk.frozen oc
        have hzb : z + 1 ≤ 1000000000000 := by rw [hz]; have := HA.out.2.2.2.2 (4 * line + 1); have := (bmp_le a.cn (4 * line) (4 * line + 1)).2; show bmp a.cn (4 * line) (4 * line + 1) + 1 ≤ _; omega
        refine takeL (i := 0) (v := .pointer (some ⟨g, o6, none⟩)) 7 (some 83) rfl rfl (by kernel_rfl) (by kernel_rfl) (by kernel_rfl) (by kernel_rfl) hCl (fun _ _ _ h => h) (Or.inl ⟨by kernel_rfl, fun w' hSw => by kernel_rfl⟩) hS ?_
        clear hCl
        intro hCl
        simp only [Act.put, List.setIfInBounds_toArray, List.set_cons_zero, List.set_cons_succ]
        refine takeL (i := 1) (v := .pointer (some ⟨g, o6, none⟩)) 7 (some 84) rfl rfl (by kernel_rfl) (by kernel_rfl) (by kernel_rfl) (by kernel_rfl) hCl (fun _ _ _ h => h) (Or.inl ⟨by kernel_rfl, fun w' hSw => by kernel_rfl⟩) hS ?_
        clear hCl
        intro hCl
        simp only [Act.put, List.setIfInBounds_toArray, List.set_cons_zero, List.set_cons_succ]
        refine takeL (i := 2) (v := .pointer (some ⟨g, oc, none⟩)) 7 (some 85) rfl rfl (by kernel_rfl) (by kernel_rfl) (by kernel_rfl) (by kernel_rfl) hCl (fun _ _ _ h => h) (Or.inl ⟨by kernel_rfl, fun w' hSw => by rw [hoc]; kernel_rfl⟩) hS ?_
        clear hCl
        intro hCl
        simp only [Act.put, List.setIfInBounds_toArray, List.set_cons_zero, List.set_cons_succ]
        refine takeL (i := 3) (v := .int .i64 (z : Int)) 7 (some 86) rfl rfl (by kernel_rfl) (by kernel_rfl) (by kernel_rfl) (by kernel_rfl) hCl (fun _ _ _ h => h) (Or.inl ⟨by kernel_rfl, fun w' hSw => by exact ldN_run (.inr rfl) (.tmp 85) rfl (by kernel_rfl) hSw⟩) hS ?_
        clear hCl
        intro hCl
        simp only [Act.put, List.setIfInBounds_toArray, List.set_cons_zero, List.set_cons_succ]
        refine takeL (i := 4) (v := .int .i64 ((z + 1 : Nat) : Int)) 7 (some 87) rfl rfl (by kernel_rfl) (by kernel_rfl) (by kernel_rfl) (by kernel_rfl) hCl (fun _ _ _ h => h) (Or.inl ⟨by kernel_rfl, fun w' hSw => by exact addN_run (p := z) (q := 1) (.tmp 86) (.const (.int .i64 1)) rfl (by kernel_rfl) rfl (by omega) _⟩) hS ?_
        clear hCl
        intro hCl
        simp only [Act.put, List.setIfInBounds_toArray, List.set_cons_zero, List.set_cons_succ]
        refine takeL (i := 5) (v := .pointer (some ⟨g, o6, none⟩)) 7 (some 88) rfl rfl (by kernel_rfl) (by kernel_rfl) (by kernel_rfl) (by kernel_rfl) hCl (fun _ _ _ h => h) (Or.inl ⟨by kernel_rfl, fun w' hSw => by kernel_rfl⟩) hS ?_
        clear hCl
        intro hCl
        simp only [Act.put, List.setIfInBounds_toArray, List.set_cons_zero, List.set_cons_succ]
        refine takeL (i := 6) (v := .pointer (some ⟨g, oc, none⟩)) 7 (some 89) rfl rfl (by kernel_rfl) (by kernel_rfl) (by kernel_rfl) (by kernel_rfl) hCl (fun _ _ _ h => h) (Or.inl ⟨by kernel_rfl, fun w' hSw => by rw [hoc]; kernel_rfl⟩) hS ?_
        clear hCl
        intro hCl
        simp only [Act.put, List.setIfInBounds_toArray, List.set_cons_zero, List.set_cons_succ]
        refine oneL (i := 7) rfl (by kernel_rfl) hCl (by kernel_rfl) (fun K1 hK1 => ?_)
        refine skipR (d := none) rfl (w' := Z.setCell ⟨g, oc, none⟩ (.int .i64 ((z + 1 : Nat) : Int))) (stN_run (.inr rfl) (.tmp 89) (.tmp 87) rfl (by kernel_rfl) (by kernel_rfl) hS hF) ?_
        refine hK1.out _ _ (fun h => absurd rfl h) ?_
        clear hK1 hCl hS hF
        intro hCl
        simp only [Act.put, List.setIfInBounds_toArray, List.set_cons_zero, List.set_cons_succ]
        refine doneL (by kernel_rfl) ?_
        clear hCl
        refine hK _ _ ?_
        clear hK
        have H4 : Hid (AbAt (Z.setCell ⟨g, oc, none⟩ (.int .i64 ((z + 1 : Nat) : Int))) g b ((a.came line now).cnt (4 * line + 1)) ∧ Fr w (Z.setCell ⟨g, oc, none⟩ (.int .i64 ((z + 1 : Nat) : Int))) (fun x => x = g ∨ x = b) ∧ By (Z.setCell ⟨g, oc, none⟩ (.int .i64 ((z + 1 : Nat) : Int))) v l) := by
          have hf := Fr.setCell Z ⟨g, oc, none⟩ (.int .i64 ((z + 1 : Nat) : Int)) (fun x => x = g) rfl
          have hab := H2dd.out.1.bump (line := line) (c := 1) hline (by decide) (by rw [← hz]; omega)
          rw [← hz, ← ho6, ← hoc] at hab
          exact ⟨hab, H2dd.out.2.1.trans hf fun x _ q => q.elim id .inl, H2dd.out.2.2.fr' hf H2dd.out.1.blk⟩
        generalize Z.setCell ⟨g, oc, none⟩ (.int .i64 ((z + 1 : Nat) : Int)) = W4 at *
        generalize z = z15 at *
        clear H2dd hz hoc hzb
        have htk := take_any H4.out.1 m H4.out.2.2 (fun e => by have := HM9.out.1; rw [e] at this; simp at this) HA.out.2.2.1 (by
          have := HHB.out
          unfold hrB at this
          show fnd a.ks m = none
          cases e : fnd a.ks m with
          | none => rfl
          | some k => rw [e] at this; simp at this) HM9.out.2.2 (by
          have := HHB.out
          unfold hrB at this
          show a.nx ≤ m
          by_cases q : m < a.nx
          · simp [q] at this
          · omega) HA.out.2.2.2.1 (by
          have h1 := HA.out.1.bd.len
          have h2 : line = 0 ∨ line = 1 := by omega
          show a.ks.length + 1 ≤ bmp (bmp a.cn (4 * line)) (4 * line + 1) 1 + bmp (bmp a.cn (4 * line)) (4 * line + 1) 5
          rcases h2 with rfl | rfl <;> (unfold bmp; simp; omega))
        go_upto_region 16 with fail
        rename_i K hK
        refine wp_region_lit ?_
        refine wpList_runTo rfl (some 90) rfl (.pointer (some ⟨g, 0, none⟩)) W4 (by kernel_rfl) ?_
        simp only [Act.put, List.setIfInBounds_toArray, List.set_cons_zero, List.set_cons_succ]
        refine wpList_runTo rfl (some 91) rfl (.int .i64 (m : Int)) W4 (by kernel_rfl) ?_
        simp only [Act.put, List.setIfInBounds_toArray, List.set_cons_zero, List.set_cons_succ]
        refine wpList_runTo rfl (some 92) rfl (v) W4 (by kernel_rfl) ?_
        simp only [Act.put, List.setIfInBounds_toArray, List.set_cons_zero, List.set_cons_succ]
        refine wpList_callW rfl (some 93) rfl 22 #[.pointer (some ⟨g, 0, none⟩), .int .i64 (m : Int), v] (by kernel_rfl) htk ?_
        clear htk
        rintro e W5 ⟨v5, rfl, hx⟩
        refine ⟨_, rfl, ?_⟩
        simp only [Act.put, List.setIfInBounds_toArray, List.set_cons_zero, List.set_cons_succ]
        refine wpList_runTo rfl (some 8) rfl (v5) W5 (by kernel_rfl) ?_
        simp only [Act.put, List.setIfInBounds_toArray, List.set_cons_zero, List.set_cons_succ]
        refine wpList_runTo rfl (some 9) rfl (.int .i64 0) W5 (by kernel_rfl) ?_
        simp only [Act.put, List.setIfInBounds_toArray, List.set_cons_zero, List.set_cons_succ]
        refine wpList_nil ?_
        refine hK _ _ ?_
        clear hK
        have HZ : Hid (∃ out a', TkO w W5 g b v5 out a' ∧ Hd a line now l w.heap.size out a' 0) := by
          obtain ⟨k, out, a', h1, h2, h3, h4, h5⟩ := hx.out
          refine ⟨out, a', h4.since H4.out.2.1, ?_⟩
          unfold Hd
          rw [HN.out]
          exact ⟨rfl, .inr (.inr ⟨HHB.out.symm, HNE.out, k, h1, h2, fun q hq => Nat.le_trans H4.out.2.1.size (h3 q hq), h5⟩)⟩
        clear hx H4 HA HHB HNE HN
        go_wp2
        go_ret2
        exact ⟨_, _, rfl, HZ.out⟩
end Go.Proofs.Ytdncemecnbglaaa
