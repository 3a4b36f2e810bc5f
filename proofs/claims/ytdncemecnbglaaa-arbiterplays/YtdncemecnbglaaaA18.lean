/-
  The reference's gives.
-/
import Derived.Test.YtdncemecnbglaaaA17
namespace Go.Proofs.Ytdncemecnbglaaa
set_option linter.unusedVariables false
set_option linter.unusedSimpArgs false
open Go.RowKit Go.Great Go.Maps

theorem ix0K_run {op : Oper} {a : Act} {v : Value} {g o n c : Nat} (hv : v = .slice (some ⟨g, o, none⟩) n c) (x : Operand) (ho : op.op = .indexAddr 83 x (.const (.int .i64 0))) (hx : a.eval x = v) (hi : 0 < n) (w : World) : (execOp a.eval op).run Try.prog w = .ok (.value (.pointer (some ⟨g, o, none⟩))) w := by
  subst hv
  have := ixK_run (i := 0) x (.const (.int .i64 0)) ho hx rfl hi w
  have e : o + 0 * 2 = o := by omega
  rw [e] at this
  exact this
theorem sliceK1_run {op : Oper} {a : Act} {v : Value} {ao : Option Addr} {n cap : Nat} (hv : v = .slice ao n cap) (x : Operand) (ho : op.op = .slice 83 x (some (.const (.int .i64 1))) none none) (hx : a.eval x = v) (h : 1 ≤ n) (w : World) : (execOp a.eval op).run Try.prog w = .ok (.value (cutS v 1 n cap)) w := by
  subst hv
  exact sliceKL_run (lo := 1) x (.const (.int .i64 1)) ho hx rfl h w
/-- Where gives stands: p were counted, q taken out, m given. -/
structure RG (w wr : World) (g : Nat) (kv0 kv : Value) (a : Ab) (p q m : Nat) (xs : List Value) (n0 : Nat) (ov0 ov : Value) : Prop where
  ab : RbAt wr g kv { a with nx := a.nx + p, ks := a.ks.drop q }
  row : RowAt wr 35 1 ov (n0 + m) (xs ++ (a.ks.take m).map (·.v))
  own : ∀ x, ov.ownBlock = some x → ov0.ownBlock = some x ∨ w.heap.size ≤ x
  kown : ∀ x, kv.ownBlock = some x → kv0.ownBlock = some x
  pk : ∀ k ∈ a.ks, PkAt wr k
  fr : Fr w wr (fun x => x = g ∨ ov0.ownBlock = some x)
section
variable {w wr w' : World} {g : Nat} {kv0 kv : Value} {a : Ab} {p q m : Nat} {xs : List Value} {n0 : Nat} {ov0 ov : Value}
theorem RG.below (h : RG w wr g kv0 kv a p q m xs n0 ov0 ov) (hb : Below wr.heap.size wr w') : RG w w' g kv0 kv a p q m xs n0 ov0 ov :=
  ⟨h.ab.below hb, h.row.fr (Fr.of_below hb (fun _ => False)) fun _ _ => id, h.own, h.kown, fun k hk => (h.pk k hk).fr (Fr.of_below hb (fun _ => False)) fun _ _ => id, h.fr.trans (Fr.of_below hb (fun _ => False)) fun _ _ q => q.elim id False.elim⟩
theorem RG.start (h : RbAt w g kv a) (hr : RowAt w 35 1 ov n0 xs) : RG w w g kv kv a 0 0 0 xs n0 ov ov :=
  ⟨h, by rw [List.take_zero, List.map_nil, List.append_nil]; exact hr, fun _ q => .inl q, fun _ q => q, h.pk, Fr.refl _ _⟩
theorem RG.app (h : RG w wr g kv0 kv a p q m xs n0 ov0 ov) {k : Kp} (hk : a.ks[m]? = some k) {ov' : Value} (hrow : RowAt w' 35 1 ov' (n0 + m + 1) (xs ++ (a.ks.take m).map (·.v) ++ [k.v])) (hf : Fr wr w' (fun x => ov.ownBlock = some x)) (ho : ov'.ownBlock = ov.ownBlock ∨ ov'.ownBlock = some wr.heap.size ∧ ∀ q, q < wr.heap.size → w'.heap[q]? = wr.heap[q]?) : RG w w' g kv0 kv a p q (m + 1) xs n0 ov0 ov' := by
  have ne : ∀ x, ov.ownBlock = some x → ∀ {T : TypeId} {cs : Array Value}, T ≠ 35 → Blk wr x T cs → False := fun x hx T cs hT hb => h.row.ne_type hb (Ne.symm hT) hx
  have npk : ∀ q, PkAt wr q → ∀ x, q.v.ownBlock = some x → ¬ ov.ownBlock = some x := fun q hq x hx e => by
    obtain ⟨_, cur, hc⟩ := hq.1.lt hx
    exact ne x e (by decide) hc
  refine ⟨h.ab.fr hf (fun x hx e => ?_) (fun q hq => npk q (h.ab.pk q hq)), ?_, fun x hx => ?_, h.kown, fun q hq => (h.pk q hq).fr hf (npk q (h.pk q hq)), ?_⟩
  · rcases hx with rfl | hx
    · exact ne _ e (by decide) h.ab.blk
    · obtain ⟨_, cur, hc⟩ := h.ab.row.lt hx
      exact ne x e (by decide) hc
  · rw [List.take_add_one, hk, Option.toList_some, List.map_append, ← List.append_assoc]
    exact hrow
  · rcases ho with ho | ⟨ho, _⟩
    · exact h.own x (ho ▸ hx)
    · rw [ho] at hx
      injection hx with hx
      have := h.fr.size
      right
      omega
  · refine h.fr.trans hf fun x hx q => q.elim id fun q => ?_
    rcases h.own x q with q | q
    · exact .inr q
    · omega
theorem RG.cut (h : RG w wr g kv0 kv a p q m xs n0 ov0 ov) {ao : Option Addr} {n cap : Nat} (hn : n = (a.ks.drop q).length) (hv : kv = .slice ao n cap) (h1 : 1 ≤ n) : RG w (wr.setCell ⟨g, 3, none⟩ (cutS kv 1 n cap)) g kv0 (cutS kv 1 n cap) a p (q + 1) m xs n0 ov0 ov := by
  subst hn
  obtain ⟨c1, c2⟩ := h.ab.row.cutL2 hv h1
  have hd : a.ks.drop (q + 1) = (a.ks.drop q).drop 1 := by rw [List.drop_drop]
  have e : (kV (a.ks.drop q)).drop (1 * 2) = kV (a.ks.drop (q + 1)) := by rw [hd]; exact kV_drop _ 1
  have el : (a.ks.drop q).length - 1 = (a.ks.drop (q + 1)).length := by rw [List.length_drop, List.length_drop]; omega
  have hf : Fr wr (wr.setCell ⟨g, 3, none⟩ (cutS kv 1 (a.ks.drop q).length cap)) (fun x => x = g) := Fr.setCell wr ⟨g, 3, none⟩ _ _ rfl
  have hbd := h.ab.bd
  refine ⟨h.ab.put { a with nx := a.nx + p, ks := a.ks.drop (q + 1) } 3 _ rfl ?_ (fun k hk => h.pk k (List.mem_of_mem_drop hk)) ⟨hbd.w1, hbd.w2, hbd.p0, hbd.p1, hbd.nx, hbd.s0, hbd.s1, hbd.l0, hbd.l1, fun k hk => hbd.kn k ?_, hbd.cn, ?_⟩ ?_, h.row.fr hf fun x hx e => ?_, h.own, fun x hx => h.kown x (c2 x hx), fun k hk => (h.pk k hk).fr hf fun x hx e => h.ab.pkn (h.pk k hk) x hx (.inl e), h.fr.trans hf fun x _ q => q.elim id .inl⟩
  · show RowAt wr 101 2 _ (a.ks.drop (q + 1)).length (kV (a.ks.drop (q + 1)))
    rw [← el, ← e]
    exact c1
  · have hk' : k ∈ (a.ks.drop q).drop 1 := hd ▸ hk
    exact List.mem_of_mem_drop hk'
  · have := hbd.len
    have e2 : (a.ks.drop q).length ≤ a.cn 1 + a.cn 5 := this
    show (a.ks.drop (q + 1)).length ≤ a.cn 1 + a.cn 5
    omega
  · show (a.ks.drop (q + 1)).Pairwise _
    rw [hd]
    exact h.ab.so.sublist (List.drop_sublist _ _)
  · subst e
    exact h.row.ne_type h.ab.blk (by decide) hx
theorem RG.nxt (h : RG w wr g kv0 kv a p q m xs n0 ov0 ov) (hb : a.nx + p + 1 ≤ 1000000000) : RG w (wr.setCell ⟨g, 2, none⟩ (.int .i64 ((a.nx + p + 1 : Nat) : Int))) g kv0 kv a (p + 1) q m xs n0 ov0 ov := by
  have hf : Fr wr (wr.setCell ⟨g, 2, none⟩ (.int .i64 ((a.nx + p + 1 : Nat) : Int))) (fun x => x = g) := Fr.setCell wr ⟨g, 2, none⟩ _ _ rfl
  have hbd := h.ab.bd
  refine ⟨h.ab.put { a with nx := a.nx + (p + 1), ks := a.ks.drop q } 2 _ rfl h.ab.row h.ab.pk ⟨hbd.w1, hbd.w2, hbd.p0, hbd.p1, hb, hbd.s0, hbd.s1, hbd.l0, hbd.l1, hbd.kn, hbd.cn, hbd.len⟩ h.ab.so, h.row.fr hf fun x hx e => ?_, h.own, h.kown, fun k hk => (h.pk k hk).fr hf fun x hx e => h.ab.pkn (h.pk k hk) x hx (.inl e), h.fr.trans hf fun x _ q => q.elim id .inl⟩
  subst e
  exact h.row.ne_type h.ab.blk (by decide) hx
end
/-- What gives leaves. -/
structure RgO (w w' : World) (g : Nat) (kv0 kv : Value) (a : Ab) (i : Nat) (xs : List Value) (n0 : Nat) (ov0 ov : Value) : Prop where
  ab : RbAt w' g kv { a with nx := a.nx + i, ks := a.ks.drop i, si := if i < a.ks.length then a.la else a.si }
  num : ∀ j k, j < i → a.ks[j]? = some k → k.n = a.nx + j
  gap : ∀ k, a.ks[i]? = some k → k.n ≠ a.nx + i
  le : i ≤ a.ks.length
  row : RowAt w' 35 1 ov (n0 + i) (xs ++ (a.ks.take i).map (·.v))
  own : ∀ x, ov.ownBlock = some x → ov0.ownBlock = some x ∨ w.heap.size ≤ x
  kown : ∀ x, kv.ownBlock = some x → kv0.ownBlock = some x
  pk : ∀ k ∈ a.ks, PkAt w' k
  fr : Fr w w' (fun x => x = g ∨ ov0.ownBlock = some x)
theorem RG.endE {w wr : World} {g : Nat} {kv0 kv : Value} {a : Ab} {i : Nat} {xs : List Value} {n0 : Nat} {ov0 ov : Value} (h : RG w wr g kv0 kv a i i i xs n0 ov0 ov) (hnum : ∀ j k, j < i → a.ks[j]? = some k → k.n = a.nx + j) (hi : i = a.ks.length) : RgO w wr g kv0 kv a i xs n0 ov0 ov := by
  refine ⟨?_, hnum, fun k hk => ?_, by omega, h.row, h.own, h.kown, h.pk, h.fr⟩
  · rw [if_neg (by omega)]
    exact h.ab
  · have := (List.getElem?_eq_some_iff.1 hk).1
    omega
theorem RG.endS {w wr : World} {g : Nat} {kv0 kv : Value} {a : Ab} {i : Nat} {xs : List Value} {n0 : Nat} {ov0 ov : Value} (h : RG w wr g kv0 kv a i i i xs n0 ov0 ov) (hnum : ∀ j k, j < i → a.ks[j]? = some k → k.n = a.nx + j) {k : Kp} (hk : a.ks[i]? = some k) (hne : k.n ≠ a.nx + i) : RgO w (wr.setCell ⟨g, 4, none⟩ (.int .i64 a.la)) g kv0 kv a i xs n0 ov0 ov := by
  have hlt := (List.getElem?_eq_some_iff.1 hk).1
  have hf : Fr wr (wr.setCell ⟨g, 4, none⟩ (.int .i64 a.la)) (fun x => x = g) := Fr.setCell wr ⟨g, 4, none⟩ _ _ rfl
  have hbd := h.ab.bd
  refine ⟨?_, hnum, fun k' hk' => ?_, by omega, h.row.fr hf fun x hx e => ?_, h.own, h.kown, fun k hk => (h.pk k hk).fr hf fun x hx e => h.ab.pkn (h.pk k hk) x hx (.inl e), h.fr.trans hf fun x _ q => q.elim id .inl⟩
  · rw [if_pos hlt]
    exact h.ab.put { a with nx := a.nx + i, ks := a.ks.drop i, si := a.la } 4 _ rfl h.ab.row h.ab.pk ⟨hbd.w1, hbd.w2, hbd.p0, hbd.p1, hbd.nx, hbd.l0, hbd.l1, hbd.l0, hbd.l1, hbd.kn, hbd.cn, hbd.len⟩ h.ab.so
  · rw [hk] at hk'
    injection hk' with hk'
    exact hk' ▸ hne
  · subst e
    exact h.row.ne_type h.ab.blk (by decide) hx
set_option maxRecDepth 100000 in
set_option maxHeartbeats 1000000 in
theorem rGives_any {w : World} {g n0 : Nat} {kv0 ov0 : Value} {a : Ab} {xs : List Value} (h : RbAt w g kv0 a) (hr : RowAt w 35 1 ov0 n0 xs) (hn0 : n0 ≤ 1) : Calls Try.prog 44 #[.pointer (some ⟨g, 0, none⟩), ov0] w fun e w' => ∃ v, e = .returned v ∧ Hid (∃ i kv, RgO w w' g kv0 kv a i xs n0 ov0 v) := by
  have HG0 : Hid (RG w w g kv0 kv0 a 0 0 0 xs n0 ov0 ov0 ∧ lenV ov0 = n0 + 0) := ⟨RG.start h hr, by obtain ⟨ao, c, e, _⟩ := hr.form; rw [e]; rfl⟩
  have HB : Hid (a.ks.length ≤ 2000000000000 ∧ a.nx ≤ 1000000000 ∧ (∀ k ∈ a.ks, k.n ≤ 999999999) ∧ n0 ≤ 1) := ⟨by have := h.bd.len; have := h.bd.cn 1; have := h.bd.cn 5; omega, h.bd.nx, h.bd.kn, hn0⟩
  clear h hr hn0
  go_enter Try.func44, Try.ntmps44
  go_wp2
  go_loopw [1] (fun x wr => ∃ (i : Nat) (kv ov : Value), ov = x ∧ Hid (RG w wr g kv0 kv a i i i xs n0 ov0 ov ∧ lenV ov = n0 + i ∧ i ≤ a.ks.length ∧ ∀ j k, j < i → a.ks[j]? = some k → k.n = a.nx + j)) (fun x _ => n0 + a.ks.length - lenV x)
  case atStart => exact ⟨0, kv0, ov0, rfl, HG0.out.1, HG0.out.2, Nat.zero_le _, fun j _ hj => by omega⟩
  case round =>
    clear HG0
    obtain ⟨i, kv, ov, eov, HI⟩ := hrel
    subst eov
    have hbw : Below wr.heap.size wr wr.drew := ⟨rfl, rfl, rfl, Nat.le_refl _, fun _ _ => rfl⟩
    have HJ : Hid (RG w wr.drew g kv0 kv a i i i xs n0 ov0 ov) := HI.out.1.below hbw
    have HN : Hid (lenV ov = n0 + i ∧ i ≤ a.ks.length ∧ ∀ j k, j < i → a.ks[j]? = some k → k.n = a.nx + j) := HI.out.2
    clear hbw HI
    obtain ⟨ao, n, c, hkv, hnl⟩ : ∃ ao n c, kv = .slice ao n c ∧ n = (a.ks.drop i).length := by
      obtain ⟨ao, c, e, _⟩ := HJ.out.ab.row.form
      exact ⟨ao, _, c, e, rfl⟩
    obtain ⟨X, hX⟩ : ∃ X, X = a.nx + i := ⟨_, rfl⟩
    have HX : Hid (X = a.nx + i ∧ n = (a.ks.drop i).length) := ⟨hX, hnl⟩
    clear hX hnl
    cases hki : a.ks[i]? with
    | none =>
      have hil : i = a.ks.length := by have := List.getElem?_eq_none_iff.1 hki; have := HN.out.2.1; omega
      have HE : Hid (i = a.ks.length) := hil
      have hn : n = 0 := by rw [HX.out.2, List.length_drop]; omega
      subst hn
      clear hil hki
      go_upto_region 1 with fail
      rename_i K hK
      refine wp_region_held (S := fun w' => w'.cell? ⟨g, 3, none⟩ = some kv) (by kernel_rfl) ?_
      change wpAnyH _ _ _ _ _ _ _ _ (World.drew _)
      generalize wr.drew = WD at *
      have hS : WD.cell? ⟨g, 3, none⟩ = some kv := HJ.out.ab.blk.cell 3
      refine takeR (i := 0) (v := .pointer (some ⟨g, 0, none⟩)) (some 5) rfl rfl (by kernel_rfl) (by kernel_rfl) (by kernel_rfl) (fun _ _ _ h => h) (Or.inl ⟨by kernel_rfl, fun w' hSw => by kernel_rfl⟩) hS ?_
      simp only [Act.put, List.setIfInBounds_toArray, List.set_cons_zero, List.set_cons_succ]
      refine takeR (i := 1) (v := .pointer (some ⟨g, 0, none⟩)) (some 6) rfl rfl (by kernel_rfl) (by kernel_rfl) (by kernel_rfl) (fun _ _ _ h => h) (Or.inl ⟨by kernel_rfl, fun w' hSw => by kernel_rfl⟩) hS ?_
      simp only [Act.put, List.setIfInBounds_toArray, List.set_cons_zero, List.set_cons_succ]
      refine takeR (i := 2) (v := .pointer (some ⟨g, 3, none⟩)) (some 7) rfl rfl (by kernel_rfl) (by kernel_rfl) (by kernel_rfl) (fun _ _ _ h => h) (Or.inl ⟨by kernel_rfl, fun w' hSw => by kernel_rfl⟩) hS ?_
      simp only [Act.put, List.setIfInBounds_toArray, List.set_cons_zero, List.set_cons_succ]
      refine takeR (i := 3) (v := kv) (some 8) rfl rfl (by kernel_rfl) (by kernel_rfl) (by kernel_rfl) (fun _ _ _ h => h) (Or.inl ⟨by kernel_rfl, fun w' hSw => by exact ldK_run (.tmp 7) rfl (by kernel_rfl) (hSw)⟩) hS ?_
      simp only [Act.put, List.setIfInBounds_toArray, List.set_cons_zero, List.set_cons_succ]
      refine takeR (i := 4) (v := .int .i64 ((0 : Nat) : Int)) (some 9) rfl rfl (by kernel_rfl) (by kernel_rfl) (by kernel_rfl) (fun _ _ _ h => h) (Or.inl ⟨by kernel_rfl, fun w' hSw => by exact lenK_run (n := 0) hkv (.tmp 8) rfl (by kernel_rfl) _⟩) hS ?_
      simp only [Act.put, List.setIfInBounds_toArray, List.set_cons_zero, List.set_cons_succ]
      refine takeR (i := 5) (v := .bool false) (some 10) rfl rfl (by kernel_rfl) (by kernel_rfl) (by kernel_rfl) (fun _ _ _ h => h) (Or.inl ⟨by kernel_rfl, fun w' hSw => by exact gtN_run (n := 0) (k := 0) (.tmp 9) (.const (.int .i64 0)) rfl (by kernel_rfl) rfl rfl _⟩) hS ?_
      simp only [Act.put, List.setIfInBounds_toArray, List.set_cons_zero, List.set_cons_succ]
      refine takeR (i := 6) (v := .bool false) (some 11) rfl rfl (by kernel_rfl) (by kernel_rfl) (by kernel_rfl) (fun _ _ _ h => h) (Or.inl ⟨by kernel_rfl, fun w' hSw => by kernel_rfl⟩) hS ?_
      simp only [Act.put, List.setIfInBounds_toArray, List.set_cons_zero, List.set_cons_succ]
      refine takeR (i := 7) (v := undef) (some 12) rfl rfl (by kernel_rfl) (by kernel_rfl) (by kernel_rfl) (fun _ _ _ h => h) (Or.inr ⟨by kernel_rfl, rfl⟩) hS ?_
      simp only [Act.put, List.setIfInBounds_toArray, List.set_cons_zero, List.set_cons_succ]
      refine takeR (i := 8) (v := undef) (some 13) rfl rfl (by kernel_rfl) (by kernel_rfl) (by kernel_rfl) (fun _ _ _ h => h) (Or.inr ⟨by kernel_rfl, rfl⟩) hS ?_
      simp only [Act.put, List.setIfInBounds_toArray, List.set_cons_zero, List.set_cons_succ]
      refine takeR (i := 9) (v := undef) (some 14) rfl rfl (by kernel_rfl) (by kernel_rfl) (by kernel_rfl) (fun _ _ _ h => h) (Or.inr ⟨by kernel_rfl, rfl⟩) hS ?_
      simp only [Act.put, List.setIfInBounds_toArray, List.set_cons_zero, List.set_cons_succ]
      refine takeR (i := 10) (v := undef) (some 15) rfl rfl (by kernel_rfl) (by kernel_rfl) (by kernel_rfl) (fun _ _ _ h => h) (Or.inr ⟨by kernel_rfl, rfl⟩) hS ?_
      simp only [Act.put, List.setIfInBounds_toArray, List.set_cons_zero, List.set_cons_succ]
      refine takeR (i := 11) (v := undef) (some 16) rfl rfl (by kernel_rfl) (by kernel_rfl) (by kernel_rfl) (fun _ _ _ h => h) (Or.inr ⟨by kernel_rfl, rfl⟩) hS ?_
      simp only [Act.put, List.setIfInBounds_toArray, List.set_cons_zero, List.set_cons_succ]
      refine takeR (i := 12) (v := undef) (some 17) rfl rfl (by kernel_rfl) (by kernel_rfl) (by kernel_rfl) (fun _ _ _ h => h) (Or.inr ⟨by kernel_rfl, rfl⟩) hS ?_
      simp only [Act.put, List.setIfInBounds_toArray, List.set_cons_zero, List.set_cons_succ]
      refine takeR (i := 13) (v := undef) (some 18) rfl rfl (by kernel_rfl) (by kernel_rfl) (by kernel_rfl) (fun _ _ _ h => h) (Or.inr ⟨by kernel_rfl, rfl⟩) hS ?_
      simp only [Act.put, List.setIfInBounds_toArray, List.set_cons_zero, List.set_cons_succ]
      refine takeR (i := 14) (v := undef) (some 19) rfl rfl (by kernel_rfl) (by kernel_rfl) (by kernel_rfl) (fun _ _ _ h => h) (Or.inr ⟨by kernel_rfl, rfl⟩) hS ?_
      simp only [Act.put, List.setIfInBounds_toArray, List.set_cons_zero, List.set_cons_succ]
      refine takeR (i := 15) (v := undef) (some 20) rfl rfl (by kernel_rfl) (by kernel_rfl) (by kernel_rfl) (fun _ _ _ h => h) (Or.inr ⟨by kernel_rfl, rfl⟩) hS ?_
      simp only [Act.put, List.setIfInBounds_toArray, List.set_cons_zero, List.set_cons_succ]
      refine takeR (i := 16) (v := undef) (some 21) rfl rfl (by kernel_rfl) (by kernel_rfl) (by kernel_rfl) (fun _ _ _ h => h) (Or.inr ⟨by kernel_rfl, rfl⟩) hS ?_
      simp only [Act.put, List.setIfInBounds_toArray, List.set_cons_zero, List.set_cons_succ]
      refine takeR (i := 17) (v := undef) (some 22) rfl rfl (by kernel_rfl) (by kernel_rfl) (by kernel_rfl) (fun _ _ _ h => h) (Or.inr ⟨by kernel_rfl, rfl⟩) hS ?_
      simp only [Act.put, List.setIfInBounds_toArray, List.set_cons_zero, List.set_cons_succ]
      refine takeR (i := 18) (v := undef) (some 23) rfl rfl (by kernel_rfl) (by kernel_rfl) (by kernel_rfl) (fun _ _ _ h => h) (Or.inr ⟨by kernel_rfl, rfl⟩) hS ?_
      simp only [Act.put, List.setIfInBounds_toArray, List.set_cons_zero, List.set_cons_succ]
      refine takeR (i := 19) (v := .bool false) (some 24) rfl rfl (by kernel_rfl) (by kernel_rfl) (by kernel_rfl) (fun _ _ _ h => h) (Or.inl ⟨by kernel_rfl, fun w' hSw => by kernel_rfl⟩) hS ?_
      simp only [Act.put, List.setIfInBounds_toArray, List.set_cons_zero, List.set_cons_succ]
      refine wpAnyH_done (by kernel_rfl) ?_ _
      refine hK _ _ ?_
      clear hK
      go_upto_region 5 with fail
      rename_i K hK
      refine wp_region_lit ?_
      refine wpList_runTo rfl (some 50) rfl (.pointer (some ⟨g, 0, none⟩)) WD (by kernel_rfl) ?_
      simp only [Act.put, List.setIfInBounds_toArray, List.set_cons_zero, List.set_cons_succ]
      refine wpList_runTo rfl (some 51) rfl (.pointer (some ⟨g, 0, none⟩)) WD (by kernel_rfl) ?_
      simp only [Act.put, List.setIfInBounds_toArray, List.set_cons_zero, List.set_cons_succ]
      refine wpList_runTo rfl (some 52) rfl (.pointer (some ⟨g, 3, none⟩)) WD (by kernel_rfl) ?_
      simp only [Act.put, List.setIfInBounds_toArray, List.set_cons_zero, List.set_cons_succ]
      refine wpList_runTo rfl (some 53) rfl (kv) WD (by exact ldK_run (.tmp 52) rfl (by kernel_rfl) (hS)) ?_
      simp only [Act.put, List.setIfInBounds_toArray, List.set_cons_zero, List.set_cons_succ]
      refine wpList_runTo rfl (some 54) rfl (.int .i64 ((0 : Nat) : Int)) WD (by exact lenK_run (n := 0) hkv (.tmp 53) rfl (by kernel_rfl) _) ?_
      simp only [Act.put, List.setIfInBounds_toArray, List.set_cons_zero, List.set_cons_succ]
      refine wpList_runTo rfl (some 55) rfl (.bool false) WD (by exact gtN_run (n := 0) (k := 0) (.tmp 54) (.const (.int .i64 0)) rfl (by kernel_rfl) rfl rfl _) ?_
      simp only [Act.put, List.setIfInBounds_toArray, List.set_cons_zero, List.set_cons_succ]
      refine wpList_nil ?_
      refine hK _ _ ?_
      clear hK
      clear hS
      go_wp2
      go_ret
      exact ⟨ov, rfl, i, kv, HJ.out.endE HN.out.2.2 HE.out⟩
    | some k =>
      have hlt := (List.getElem?_eq_some_iff.1 hki).1
      have hn : 0 < n := by rw [HX.out.2, List.length_drop]; omega
      have hk0 : (a.ks.drop i)[0]? = some k := by rw [List.getElem?_drop]; exact hki
      obtain ⟨kq, ko, qc, hkq, hc0, hc1⟩ := HJ.out.ab.row.at2 hk0
      rw [hkv] at hkq
      injection hkq with hao hnn hcc
      subst hao
      have e0 : ko + 0 * 2 = ko := by omega
      rw [e0] at hc0 hc1
      obtain ⟨N, hN⟩ : ∃ N, N = k.n := ⟨_, rfl⟩
      rw [← hN] at hc0
      obtain ⟨vl, hvl⟩ : ∃ vl, vl = k.v := ⟨_, rfl⟩
      rw [← hvl] at hc1
      have hvf : ∃ a n c, vl = .slice a n c := by
        obtain ⟨ao, c, e, _⟩ := (HJ.out.pk k (List.mem_of_getElem? hki)).1.form
        exact ⟨ao, _, c, hvl.trans e⟩
      have HK : Hid (a.ks[i]? = some k ∧ N = k.n ∧ vl = k.v ∧ N ≤ 999999999) := ⟨hki, hN, hvl, by rw [hN]; exact HB.out.2.2.1 k (List.mem_of_getElem? hki)⟩
      clear hki hk0 hnn hcc e0 hN hvl hlt
      obtain ⟨eb, heb⟩ : ∃ eb, (N == X) = eb := ⟨_, rfl⟩
      go_upto_region 1 with fail
      rename_i K hK
      refine wp_region_held (S := fun w' => w'.cell? ⟨g, 3, none⟩ = some kv ∧ w'.cell? ⟨g, 2, none⟩ = some (.int .i64 (X : Int)) ∧ w'.cell? ⟨kq, ko, none⟩ = some (.int .i64 (N : Int))) (by kernel_rfl) ?_
      change wpAnyH _ _ _ _ _ _ _ _ (World.drew _)
      generalize wr.drew = WD at *
      have hS : WD.cell? ⟨g, 3, none⟩ = some kv ∧ WD.cell? ⟨g, 2, none⟩ = some (.int .i64 (X : Int)) ∧ WD.cell? ⟨kq, ko, none⟩ = some (.int .i64 (N : Int)) := ⟨HJ.out.ab.blk.cell 3, by rw [HX.out.1]; exact HJ.out.ab.blk.cell 2, hc0⟩
      refine takeR (i := 0) (v := .pointer (some ⟨g, 0, none⟩)) (some 5) rfl rfl (by kernel_rfl) (by kernel_rfl) (by kernel_rfl) (fun _ _ _ h => h) (Or.inl ⟨by kernel_rfl, fun w' hSw => by kernel_rfl⟩) hS ?_
      simp only [Act.put, List.setIfInBounds_toArray, List.set_cons_zero, List.set_cons_succ]
      refine takeR (i := 1) (v := .pointer (some ⟨g, 0, none⟩)) (some 6) rfl rfl (by kernel_rfl) (by kernel_rfl) (by kernel_rfl) (fun _ _ _ h => h) (Or.inl ⟨by kernel_rfl, fun w' hSw => by kernel_rfl⟩) hS ?_
      simp only [Act.put, List.setIfInBounds_toArray, List.set_cons_zero, List.set_cons_succ]
      refine takeR (i := 2) (v := .pointer (some ⟨g, 3, none⟩)) (some 7) rfl rfl (by kernel_rfl) (by kernel_rfl) (by kernel_rfl) (fun _ _ _ h => h) (Or.inl ⟨by kernel_rfl, fun w' hSw => by kernel_rfl⟩) hS ?_
      simp only [Act.put, List.setIfInBounds_toArray, List.set_cons_zero, List.set_cons_succ]
      refine takeR (i := 3) (v := kv) (some 8) rfl rfl (by kernel_rfl) (by kernel_rfl) (by kernel_rfl) (fun _ _ _ h => h) (Or.inl ⟨by kernel_rfl, fun w' hSw => by exact ldK_run (.tmp 7) rfl (by kernel_rfl) (hSw.1)⟩) hS ?_
      simp only [Act.put, List.setIfInBounds_toArray, List.set_cons_zero, List.set_cons_succ]
      refine takeR (i := 4) (v := .int .i64 (n : Int)) (some 9) rfl rfl (by kernel_rfl) (by kernel_rfl) (by kernel_rfl) (fun _ _ _ h => h) (Or.inl ⟨by kernel_rfl, fun w' hSw => by exact lenK_run hkv (.tmp 8) rfl (by kernel_rfl) _⟩) hS ?_
      simp only [Act.put, List.setIfInBounds_toArray, List.set_cons_zero, List.set_cons_succ]
      refine takeR (i := 5) (v := .bool true) (some 10) rfl rfl (by kernel_rfl) (by kernel_rfl) (by kernel_rfl) (fun _ _ _ h => h) (Or.inl ⟨by kernel_rfl, fun w' hSw => by exact gtN_run (n := n) (k := 0) (.tmp 9) (.const (.int .i64 0)) rfl (by kernel_rfl) rfl (decide_eq_true hn) _⟩) hS ?_
      simp only [Act.put, List.setIfInBounds_toArray, List.set_cons_zero, List.set_cons_succ]
      refine takeR (i := 6) (v := .bool true) (some 11) rfl rfl (by kernel_rfl) (by kernel_rfl) (by kernel_rfl) (fun _ _ _ h => h) (Or.inl ⟨by kernel_rfl, fun w' hSw => by kernel_rfl⟩) hS ?_
      simp only [Act.put, List.setIfInBounds_toArray, List.set_cons_zero, List.set_cons_succ]
      refine takeR (i := 7) (v := .pointer (some ⟨g, 0, none⟩)) (some 12) rfl rfl (by kernel_rfl) (by kernel_rfl) (by kernel_rfl) (fun _ _ _ h => h) (Or.inl ⟨by kernel_rfl, fun w' hSw => by kernel_rfl⟩) hS ?_
      simp only [Act.put, List.setIfInBounds_toArray, List.set_cons_zero, List.set_cons_succ]
      refine takeR (i := 8) (v := .pointer (some ⟨g, 0, none⟩)) (some 13) rfl rfl (by kernel_rfl) (by kernel_rfl) (by kernel_rfl) (fun _ _ _ h => h) (Or.inl ⟨by kernel_rfl, fun w' hSw => by kernel_rfl⟩) hS ?_
      simp only [Act.put, List.setIfInBounds_toArray, List.set_cons_zero, List.set_cons_succ]
      refine takeR (i := 9) (v := .pointer (some ⟨g, 3, none⟩)) (some 14) rfl rfl (by kernel_rfl) (by kernel_rfl) (by kernel_rfl) (fun _ _ _ h => h) (Or.inl ⟨by kernel_rfl, fun w' hSw => by kernel_rfl⟩) hS ?_
      simp only [Act.put, List.setIfInBounds_toArray, List.set_cons_zero, List.set_cons_succ]
      refine takeR (i := 10) (v := kv) (some 15) rfl rfl (by kernel_rfl) (by kernel_rfl) (by kernel_rfl) (fun _ _ _ h => h) (Or.inl ⟨by kernel_rfl, fun w' hSw => by exact ldK_run (.tmp 14) rfl (by kernel_rfl) (hSw.1)⟩) hS ?_
      simp only [Act.put, List.setIfInBounds_toArray, List.set_cons_zero, List.set_cons_succ]
      refine takeR (i := 11) (v := .pointer (some ⟨kq, ko, none⟩)) (some 16) rfl rfl (by kernel_rfl) (by kernel_rfl) (by kernel_rfl) (fun _ _ _ h => h) (Or.inl ⟨by kernel_rfl, fun w' hSw => by exact ix0K_run hkv (.tmp 15) rfl (by kernel_rfl) hn _⟩) hS ?_
      simp only [Act.put, List.setIfInBounds_toArray, List.set_cons_zero, List.set_cons_succ]
      refine takeR (i := 12) (v := .pointer (some ⟨kq, ko, none⟩)) (some 17) rfl rfl (by kernel_rfl) (by kernel_rfl) (by kernel_rfl) (fun _ _ _ h => h) (Or.inl ⟨by kernel_rfl, fun w' hSw => by kernel_rfl⟩) hS ?_
      simp only [Act.put, List.setIfInBounds_toArray, List.set_cons_zero, List.set_cons_succ]
      refine takeR (i := 13) (v := .int .i64 (N : Int)) (some 18) rfl rfl (by kernel_rfl) (by kernel_rfl) (by kernel_rfl) (fun _ _ _ h => h) (Or.inl ⟨by kernel_rfl, fun w' hSw => by exact ldN_run (.inr rfl) (.tmp 17) rfl (by kernel_rfl) (hSw.2.2)⟩) hS ?_
      simp only [Act.put, List.setIfInBounds_toArray, List.set_cons_zero, List.set_cons_succ]
      refine takeR (i := 14) (v := .pointer (some ⟨g, 0, none⟩)) (some 19) rfl rfl (by kernel_rfl) (by kernel_rfl) (by kernel_rfl) (fun _ _ _ h => h) (Or.inl ⟨by kernel_rfl, fun w' hSw => by kernel_rfl⟩) hS ?_
      simp only [Act.put, List.setIfInBounds_toArray, List.set_cons_zero, List.set_cons_succ]
      refine takeR (i := 15) (v := .pointer (some ⟨g, 0, none⟩)) (some 20) rfl rfl (by kernel_rfl) (by kernel_rfl) (by kernel_rfl) (fun _ _ _ h => h) (Or.inl ⟨by kernel_rfl, fun w' hSw => by kernel_rfl⟩) hS ?_
      simp only [Act.put, List.setIfInBounds_toArray, List.set_cons_zero, List.set_cons_succ]
      refine takeR (i := 16) (v := .pointer (some ⟨g, 2, none⟩)) (some 21) rfl rfl (by kernel_rfl) (by kernel_rfl) (by kernel_rfl) (fun _ _ _ h => h) (Or.inl ⟨by kernel_rfl, fun w' hSw => by kernel_rfl⟩) hS ?_
      simp only [Act.put, List.setIfInBounds_toArray, List.set_cons_zero, List.set_cons_succ]
      refine takeR (i := 17) (v := .int .i64 (X : Int)) (some 22) rfl rfl (by kernel_rfl) (by kernel_rfl) (by kernel_rfl) (fun _ _ _ h => h) (Or.inl ⟨by kernel_rfl, fun w' hSw => by exact ldN_run (.inr rfl) (.tmp 21) rfl (by kernel_rfl) (hSw.2.1)⟩) hS ?_
      simp only [Act.put, List.setIfInBounds_toArray, List.set_cons_zero, List.set_cons_succ]
      refine takeR (i := 18) (v := .bool eb) (some 23) rfl rfl (by kernel_rfl) (by kernel_rfl) (by kernel_rfl) (fun _ _ _ h => h) (Or.inl ⟨by kernel_rfl, fun w' hSw => by exact eqN_run (p := N) (q := X) (.tmp 18) (.tmp 22) rfl (by kernel_rfl) (by kernel_rfl) heb _⟩) hS ?_
      simp only [Act.put, List.setIfInBounds_toArray, List.set_cons_zero, List.set_cons_succ]
      refine takeR (i := 19) (v := .bool eb) (some 24) rfl rfl (by kernel_rfl) (by kernel_rfl) (by kernel_rfl) (fun _ _ _ h => h) (Or.inl ⟨by kernel_rfl, fun w' hSw => by kernel_rfl⟩) hS ?_
      simp only [Act.put, List.setIfInBounds_toArray, List.set_cons_zero, List.set_cons_succ]
      refine wpAnyH_done (by kernel_rfl) ?_ _
      refine hK _ _ ?_
      clear hK
      cases eb
      case false =>
        have hne : N ≠ X := by simpa using heb
        have HNE : Hid (N ≠ X) := hne
        clear hne
        have c5 : WD.cell? ⟨g, 5, none⟩ = some (.int .i64 a.la) := HJ.out.ab.blk.cell 5
        have c4 : WD.cell? ⟨g, 4, none⟩ = some (.int .i64 a.si) := HJ.out.ab.blk.cell 4
        have f4 : WD.frozen? ⟨g, 4, none⟩ = false := HJ.out.ab.blk.frozen 4
        have HZ : Hid (RgO w (WD.setCell ⟨g, 4, none⟩ (.int .i64 a.la)) g kv0 kv a i xs n0 ov0 ov) := HJ.out.endS HN.out.2.2 HK.out.1 (by rw [← HK.out.2.1, ← HX.out.1]; exact HNE.out)
        clear HJ heb hc0 hc1
        go_upto_region 5 with fail
        rename_i K hK
        refine wp_region_lit ?_
        refine wpList_runTo rfl (some 50) rfl (.pointer (some ⟨g, 0, none⟩)) WD (by kernel_rfl) ?_
        simp only [Act.put, List.setIfInBounds_toArray, List.set_cons_zero, List.set_cons_succ]
        refine wpList_runTo rfl (some 51) rfl (.pointer (some ⟨g, 0, none⟩)) WD (by kernel_rfl) ?_
        simp only [Act.put, List.setIfInBounds_toArray, List.set_cons_zero, List.set_cons_succ]
        refine wpList_runTo rfl (some 52) rfl (.pointer (some ⟨g, 3, none⟩)) WD (by kernel_rfl) ?_
        simp only [Act.put, List.setIfInBounds_toArray, List.set_cons_zero, List.set_cons_succ]
        refine wpList_runTo rfl (some 53) rfl (kv) WD (by exact ldK_run (.tmp 52) rfl (by kernel_rfl) (hS.1)) ?_
        simp only [Act.put, List.setIfInBounds_toArray, List.set_cons_zero, List.set_cons_succ]
        refine wpList_runTo rfl (some 54) rfl (.int .i64 (n : Int)) WD (by exact lenK_run hkv (.tmp 53) rfl (by kernel_rfl) _) ?_
        simp only [Act.put, List.setIfInBounds_toArray, List.set_cons_zero, List.set_cons_succ]
        refine wpList_runTo rfl (some 55) rfl (.bool true) WD (by exact gtN_run (n := n) (k := 0) (.tmp 54) (.const (.int .i64 0)) rfl (by kernel_rfl) rfl (decide_eq_true hn) _) ?_
        simp only [Act.put, List.setIfInBounds_toArray, List.set_cons_zero, List.set_cons_succ]
        refine wpList_nil ?_
        refine hK _ _ ?_
        clear hK
        go_upto_region 6 with fail
        rename_i K hK
        refine wp_region_lit ?_
        refine wpList_runTo rfl (some 56) rfl (.pointer (some ⟨g, 0, none⟩)) WD (by kernel_rfl) ?_
        simp only [Act.put, List.setIfInBounds_toArray, List.set_cons_zero, List.set_cons_succ]
        refine wpList_runTo rfl (some 57) rfl (.pointer (some ⟨g, 0, none⟩)) WD (by kernel_rfl) ?_
        simp only [Act.put, List.setIfInBounds_toArray, List.set_cons_zero, List.set_cons_succ]
        refine wpList_runTo rfl (some 58) rfl (.pointer (some ⟨g, 0, none⟩)) WD (by kernel_rfl) ?_
        simp only [Act.put, List.setIfInBounds_toArray, List.set_cons_zero, List.set_cons_succ]
        refine wpList_runTo rfl (some 59) rfl (.pointer (some ⟨g, 5, none⟩)) WD (by kernel_rfl) ?_
        simp only [Act.put, List.setIfInBounds_toArray, List.set_cons_zero, List.set_cons_succ]
        refine wpList_runTo rfl (some 60) rfl (.int .i64 a.la) WD (by exact ldN_run (.inl rfl) (.tmp 59) rfl (by kernel_rfl) (c5)) ?_
        simp only [Act.put, List.setIfInBounds_toArray, List.set_cons_zero, List.set_cons_succ]
        refine wpList_runTo rfl (some 61) rfl (.pointer (some ⟨g, 0, none⟩)) WD (by kernel_rfl) ?_
        simp only [Act.put, List.setIfInBounds_toArray, List.set_cons_zero, List.set_cons_succ]
        refine wpList_runTo rfl (some 62) rfl (.pointer (some ⟨g, 4, none⟩)) WD (by kernel_rfl) ?_
        simp only [Act.put, List.setIfInBounds_toArray, List.set_cons_zero, List.set_cons_succ]
        refine wpList_skipW rfl none rfl (w' := WD.setCell ⟨g, 4, none⟩ (.int .i64 a.la)) (stN_run (.inl rfl) (.tmp 62) (.tmp 60) rfl (by kernel_rfl) (by kernel_rfl) c4 f4) ?_
        simp only [Act.put, List.setIfInBounds_toArray, List.set_cons_zero, List.set_cons_succ]
        refine wpList_nil ?_
        refine hK _ _ ?_
        clear hK
        generalize WD.setCell ⟨g, 4, none⟩ (.int .i64 a.la) = W5 at *
        clear c4 c5 f4 hS
        go_wp2
        go_ret
        exact ⟨ov, rfl, i, kv, HZ.out⟩
      case true =>
        have hqe : N = X := by simpa using heb
        have HEQ : Hid (N = X) := hqe
        clear hqe
        clear heb
        have hal : Below WD.heap.size WD (WD.alloc (.cells #[vl] 35)) := (Below.refl _ WD).alloc (Nat.le_refl _) _
        obtain ⟨ov', W2, hap, hrow, hfr, hob⟩ := app_run (HJ.out.below hal).row (Blk.new WD 35 #[vl]) (by obtain ⟨_, _, _, rfl⟩ := hvf; rfl) (by have := HB.out.1; have := HN.out.2.1; have := HB.out.2.2.2; omega) 32
        have HJ2 : Hid (RG w W2 g kv0 kv a i i (i + 1) xs n0 ov0 ov') := (HJ.out.below hal).app HK.out.1 (by rw [← HK.out.2.2.1]; exact hrow) hfr hob
        have HLV : Hid (lenV ov' = n0 + (i + 1)) := by
          obtain ⟨ao, c, e, _⟩ := hrow.form
          show lenV ov' = _
          rw [e]; rfl
        have hs3 := hS.1
        clear hrow hfr hob HJ hal hc0 hS
        go_upto_region 2 with fail
        rename_i K hK
        refine wp_region_lit ?_
        refine wpList_runTo rfl (some 25) rfl (ov) WD (by kernel_rfl) ?_
        simp only [Act.put, List.setIfInBounds_toArray, List.set_cons_zero, List.set_cons_succ]
        refine wpList_runTo rfl (some 26) rfl (.pointer (some ⟨g, 0, none⟩)) WD (by kernel_rfl) ?_
        simp only [Act.put, List.setIfInBounds_toArray, List.set_cons_zero, List.set_cons_succ]
        refine wpList_runTo rfl (some 27) rfl (.pointer (some ⟨g, 0, none⟩)) WD (by kernel_rfl) ?_
        simp only [Act.put, List.setIfInBounds_toArray, List.set_cons_zero, List.set_cons_succ]
        refine wpList_runTo rfl (some 28) rfl (.pointer (some ⟨g, 3, none⟩)) WD (by kernel_rfl) ?_
        simp only [Act.put, List.setIfInBounds_toArray, List.set_cons_zero, List.set_cons_succ]
        refine wpList_runTo rfl (some 29) rfl (kv) WD (by exact ldK_run (.tmp 28) rfl (by kernel_rfl) (hs3)) ?_
        simp only [Act.put, List.setIfInBounds_toArray, List.set_cons_zero, List.set_cons_succ]
        refine wpList_runTo rfl (some 30) rfl (.pointer (some ⟨kq, ko, none⟩)) WD (by exact ix0K_run hkv (.tmp 29) rfl (by kernel_rfl) hn _) ?_
        simp only [Act.put, List.setIfInBounds_toArray, List.set_cons_zero, List.set_cons_succ]
        refine wpList_runTo rfl (some 31) rfl (.pointer (some ⟨kq, ko + 1, none⟩)) WD (by kernel_rfl) ?_
        simp only [Act.put, List.setIfInBounds_toArray, List.set_cons_zero, List.set_cons_succ]
        refine wpList_runTo rfl (some 32) rfl (vl) WD (by exact ldV_run (.tmp 31) rfl (by kernel_rfl) (hc1)) ?_
        simp only [Act.put, List.setIfInBounds_toArray, List.set_cons_zero, List.set_cons_succ]
        refine wpList_runTo rfl (some 33) rfl (.slice (some ⟨WD.heap.size, 0, none⟩) 1 1) (WD.alloc (.cells #[vl] 35)) (by exact build1_run hvf (.tmp 32) rfl (by kernel_rfl) _) ?_
        simp only [Act.put, List.setIfInBounds_toArray, List.set_cons_zero, List.set_cons_succ]
        refine wpList_runTo rfl (some 34) rfl (ov') W2 (by exact exec_append (v1 := ov) (v2 := .slice (some ⟨WD.heap.size, 0, none⟩) 1 1) (.tmp 25) (.tmp 33) rfl (by kernel_rfl) (by kernel_rfl) hap) ?_
        simp only [Act.put, List.setIfInBounds_toArray, List.set_cons_zero, List.set_cons_succ]
        refine wpList_runTo rfl (some 1) rfl (ov') W2 (by kernel_rfl) ?_
        simp only [Act.put, List.setIfInBounds_toArray, List.set_cons_zero, List.set_cons_succ]
        refine wpList_nil ?_
        refine hK _ _ ?_
        clear hK
        generalize (Value.slice (some ⟨WD.heap.size, 0, none⟩) 1 1) = s33
        clear hap hvf hs3 hc1
        have c3 : W2.cell? ⟨g, 3, none⟩ = some kv := HJ2.out.ab.blk.cell 3
        have f3 : W2.frozen? ⟨g, 3, none⟩ = false := HJ2.out.ab.blk.frozen 3
        obtain ⟨kv', hkv'⟩ : ∃ kv', kv' = cutS kv 1 n c := ⟨_, rfl⟩
        have hkf' : ∃ a n c, kv' = .slice a n c := by rw [hkv', hkv]; exact ⟨_, _, _, rfl⟩
        have HJ3 : Hid (RG w (W2.setCell ⟨g, 3, none⟩ kv') g kv0 kv' a i (i + 1) (i + 1) xs n0 ov0 ov') := by rw [hkv']; exact HJ2.out.cut HX.out.2 hkv hn
        clear HJ2
        go_upto_region 3 with fail
        rename_i K hK
        refine wp_region_lit ?_
        refine wpList_runTo rfl (some 35) rfl (.pointer (some ⟨g, 0, none⟩)) W2 (by kernel_rfl) ?_
        simp only [Act.put, List.setIfInBounds_toArray, List.set_cons_zero, List.set_cons_succ]
        refine wpList_runTo rfl (some 36) rfl (.pointer (some ⟨g, 0, none⟩)) W2 (by kernel_rfl) ?_
        simp only [Act.put, List.setIfInBounds_toArray, List.set_cons_zero, List.set_cons_succ]
        refine wpList_runTo rfl (some 37) rfl (.pointer (some ⟨g, 0, none⟩)) W2 (by kernel_rfl) ?_
        simp only [Act.put, List.setIfInBounds_toArray, List.set_cons_zero, List.set_cons_succ]
        refine wpList_runTo rfl (some 38) rfl (.pointer (some ⟨g, 3, none⟩)) W2 (by kernel_rfl) ?_
        simp only [Act.put, List.setIfInBounds_toArray, List.set_cons_zero, List.set_cons_succ]
        refine wpList_runTo rfl (some 39) rfl (kv) W2 (by exact ldK_run (.tmp 38) rfl (by kernel_rfl) (c3)) ?_
        simp only [Act.put, List.setIfInBounds_toArray, List.set_cons_zero, List.set_cons_succ]
        refine wpList_runTo rfl (some 40) rfl (kv') W2 (by rw [hkv']; exact sliceK1_run hkv (.tmp 39) rfl (by kernel_rfl) hn _) ?_
        simp only [Act.put, List.setIfInBounds_toArray, List.set_cons_zero, List.set_cons_succ]
        refine wpList_runTo rfl (some 41) rfl (.pointer (some ⟨g, 0, none⟩)) W2 (by kernel_rfl) ?_
        simp only [Act.put, List.setIfInBounds_toArray, List.set_cons_zero, List.set_cons_succ]
        refine wpList_runTo rfl (some 42) rfl (.pointer (some ⟨g, 3, none⟩)) W2 (by kernel_rfl) ?_
        simp only [Act.put, List.setIfInBounds_toArray, List.set_cons_zero, List.set_cons_succ]
        refine wpList_skipW rfl none rfl (w' := W2.setCell ⟨g, 3, none⟩ kv') (stK_run hkf' ⟨_, _, _, hkv⟩ (.tmp 42) (.tmp 40) rfl (by kernel_rfl) (by kernel_rfl) c3 f3) ?_
        simp only [Act.put, List.setIfInBounds_toArray, List.set_cons_zero, List.set_cons_succ]
        refine wpList_nil ?_
        refine hK _ _ ?_
        clear hK
        generalize W2.setCell ⟨g, 3, none⟩ kv' = W3 at *
        clear c3 f3 hkv' hkf'
        have c2 : W3.cell? ⟨g, 2, none⟩ = some (.int .i64 (X : Int)) := by rw [HX.out.1]; exact HJ3.out.ab.blk.cell 2
        have f2 : W3.frozen? ⟨g, 2, none⟩ = false := HJ3.out.ab.blk.frozen 2
        have hXb : X + 1 ≤ 9223372036854775807 := by have := HK.out.2.2.2; have := HEQ.out; omega
        have HJ4 : Hid (RG w (W3.setCell ⟨g, 2, none⟩ (.int .i64 ((X + 1 : Nat) : Int))) g kv0 kv' a (i + 1) (i + 1) (i + 1) xs n0 ov0 ov') := by
          have := HJ3.out.nxt (by have := HK.out.2.2.2; have := HEQ.out; have := HX.out.1; omega)
          rw [← HX.out.1] at this
          exact this
        clear HJ3
        go_upto_region 4 with fail
        refine wp_region_lit ?_
        refine wpList_runTo rfl (some 43) rfl (.pointer (some ⟨g, 0, none⟩)) W3 (by kernel_rfl) ?_
        simp only [Act.put, List.setIfInBounds_toArray, List.set_cons_zero, List.set_cons_succ]
        refine wpList_runTo rfl (some 44) rfl (.pointer (some ⟨g, 0, none⟩)) W3 (by kernel_rfl) ?_
        simp only [Act.put, List.setIfInBounds_toArray, List.set_cons_zero, List.set_cons_succ]
        refine wpList_runTo rfl (some 45) rfl (.pointer (some ⟨g, 2, none⟩)) W3 (by kernel_rfl) ?_
        simp only [Act.put, List.setIfInBounds_toArray, List.set_cons_zero, List.set_cons_succ]
        refine wpList_runTo rfl (some 46) rfl (.int .i64 (X : Int)) W3 (by exact ldN_run (.inr rfl) (.tmp 45) rfl (by kernel_rfl) (c2)) ?_
        simp only [Act.put, List.setIfInBounds_toArray, List.set_cons_zero, List.set_cons_succ]
        refine wpList_runTo rfl (some 47) rfl (.int .i64 ((X + 1 : Nat) : Int)) W3 (by exact addN_run (p := X) (q := 1) (.tmp 46) (.const (.int .i64 1)) rfl (by kernel_rfl) rfl hXb _) ?_
        simp only [Act.put, List.setIfInBounds_toArray, List.set_cons_zero, List.set_cons_succ]
        refine wpList_runTo rfl (some 48) rfl (.pointer (some ⟨g, 0, none⟩)) W3 (by kernel_rfl) ?_
        simp only [Act.put, List.setIfInBounds_toArray, List.set_cons_zero, List.set_cons_succ]
        refine wpList_runTo rfl (some 49) rfl (.pointer (some ⟨g, 2, none⟩)) W3 (by kernel_rfl) ?_
        simp only [Act.put, List.setIfInBounds_toArray, List.set_cons_zero, List.set_cons_succ]
        refine wpList_skipW rfl none rfl (w' := W3.setCell ⟨g, 2, none⟩ (.int .i64 ((X + 1 : Nat) : Int))) (stN_run (.inr rfl) (.tmp 49) (.tmp 47) rfl (by kernel_rfl) (by kernel_rfl) c2 f2) ?_
        simp only [Act.put, List.setIfInBounds_toArray, List.set_cons_zero, List.set_cons_succ]
        refine wpList_nil ?_
        generalize W3.setCell ⟨g, 2, none⟩ (.int .i64 ((X + 1 : Nat) : Int)) = W4 at *
        clear c2 f2 hXb
        have HF : Hid (i + 1 ≤ a.ks.length ∧ ∀ j k, j < i + 1 → a.ks[j]? = some k → k.n = a.nx + j) := by
          refine ⟨(List.getElem?_eq_some_iff.1 HK.out.1).1, fun j k' hj hk' => ?_⟩
          by_cases e : j = i
          · subst e
            rw [HK.out.1] at hk'
            injection hk' with hk'
            rw [← hk', ← HK.out.2.1, HEQ.out, HX.out.1]
          · exact HN.out.2.2 j k' (by omega) hk'
        clear hkv hn
        go_wp2
        exact ⟨⟨i + 1, kv', ov', rfl, HJ4.out, HLV.out, HF.out⟩, by rw [HLV.out, HN.out.1]; have := HF.out.1; omega⟩
end Go.Proofs.Ytdncemecnbglaaa
