import Derived.Test.YtchkpggdndnpjaaGreatDoorG45
import Derived.Test.YtchkpggdndnpjaaGreatDoorG48

namespace Go.Proofs.YtchkpggdndnpjaaGreatDoor
set_option linter.unusedVariables false
open Go.RowKit Go.Great Go.Lib

theorem eqFields_any {xs ys : Array Value} {w : World} (d : Nat) (q : Field → Prop) : ∀ fs : List Field, (∀ f ∈ fs, f.name ≠ "_" ∧ ∃ u v r, (Go.part f.type xs f.offset).run Tryz.prog w = .ok u w ∧ (Go.part f.type ys f.offset).run Tryz.prog w = .ok v w ∧ (Op.equalIn d f.type u v).run Tryz.prog w = .ok r w ∧ (r = true ↔ q f)) →
    ∃ r, (Op.eqFields d xs ys fs).run Tryz.prog w = .ok r w ∧ (r = true ↔ ∀ f ∈ fs, q f)
  | [], _ => ⟨true, by simp [Op.eqFields], by simp⟩
  | f :: fs, h => by
    obtain ⟨hn, u, v, r, h1, h2, h3, h4⟩ := h f (by simp)
    obtain ⟨r', ih1, ih2⟩ := eqFields_any d q fs (fun g hg => h g (by simp [hg]))
    cases r with
    | true => exact ⟨r', by simp only [Op.eqFields, if_pos hn, Sem.run_bind, Sem.run_ite, h1, h2, h3, Result.andThen_ok, ih1]; simp, by rw [ih2]; simp [h4.1 rfl]⟩
    | false =>
      refine ⟨false, by simp only [Op.eqFields, if_pos hn, Sem.run_bind, Sem.run_ite, h1, h2, h3, Result.andThen_ok]; simp, ?_⟩
      have : ¬ q f := fun hq => by have := h4.2 hq; cases this
      simp [this]
theorem fi_any (M M' : Msg) (w : World) (i t : Nat) (hi : i < 42) (hp : Tryz.prog.plainKey t = true) (ht : Tryz.prog.underlying t = some (.int .i64)) (e : ∀ M : Msg, M.cell i = .int .i64 (M.z i)) :
    ∃ u v r, (Go.part t M.cs i).run Tryz.prog w = .ok u w ∧ (Go.part t M'.cs i).run Tryz.prog w = .ok v w ∧ (Op.equalIn 9999 t u v).run Tryz.prog w = .ok r w ∧ (r = true ↔ M.cell i = M'.cell i) :=
  ⟨_, _, M.z i == M'.z i, run_part_plain w hp (M.cs_get i hi), run_part_plain w hp (M'.cs_get i hi), by rw [e, e]; exact run_equalIn_int w 9998 t .i64 .i64 _ _ ht, by rw [e, e]; simp⟩
theorem str_iff (a b : ByteArray) : (a.toList == b.toList) = true ↔ Value.string a = Value.string b := by
  rw [beq_iff_eq, ByteArray.toList_eq, ByteArray.toList_eq, Value.string.injEq]
  obtain ⟨⟨x⟩⟩ := a
  obtain ⟨⟨y⟩⟩ := b
  simp
theorem fs_any (M M' : Msg) (w : World) (i : Nat) (hi : i < 42) (e : ∀ M : Msg, M.cell i = .string (M.s i)) :
    ∃ u v r, (Go.part 9 M.cs i).run Tryz.prog w = .ok u w ∧ (Go.part 9 M'.cs i).run Tryz.prog w = .ok v w ∧ (Op.equalIn 9999 9 u v).run Tryz.prog w = .ok r w ∧ (r = true ↔ M.cell i = M'.cell i) :=
  ⟨_, _, (M.s i).toList == (M'.s i).toList, run_part_plain w pl9 (M.cs_get i hi), run_part_plain w pl9 (M'.cs_get i hi), by rw [e, e]; exact run_equalIn_string w 9998 9 _ _ Tryz.underlying9, by rw [e, e]; exact str_iff _ _⟩
theorem fb_any (M M' : Msg) (w : World) (i : Nat) (hi : i < 42) (e : ∀ M : Msg, M.cell i = .bool (M.b i)) :
    ∃ u v r, (Go.part 4 M.cs i).run Tryz.prog w = .ok u w ∧ (Go.part 4 M'.cs i).run Tryz.prog w = .ok v w ∧ (Op.equalIn 9999 4 u v).run Tryz.prog w = .ok r w ∧ (r = true ↔ M.cell i = M'.cell i) :=
  ⟨_, _, M.b i == M'.b i, run_part_plain w pl4 (M.cs_get i hi), run_part_plain w pl4 (M'.cs_get i hi), by rw [e, e]; exact run_equalIn_bool' w 9998 4 _ _ Tryz.underlying4, by rw [e, e]; simp⟩
set_option maxRecDepth 100000 in
theorem fld_any (M M' : Msg) (w : World) (i : Nat) (hi : i < 42) : ∃ u v r, (Go.part (tyL.getD i 0) M.cs i).run Tryz.prog w = .ok u w ∧ (Go.part (tyL.getD i 0) M'.cs i).run Tryz.prog w = .ok v w ∧ (Op.equalIn 9999 (tyL.getD i 0) u v).run Tryz.prog w = .ok r w ∧ (r = true ↔ M.cell i = M'.cell i) := by
  rcases cases42 hi with rfl | rfl | rfl | rfl | rfl | rfl | rfl | rfl | rfl | rfl | rfl | rfl | rfl | rfl | rfl | rfl | rfl | rfl | rfl | rfl | rfl | rfl | rfl | rfl | rfl | rfl | rfl | rfl | rfl | rfl | rfl | rfl | rfl | rfl | rfl | rfl | rfl | rfl | rfl | rfl | rfl | rfl
  · exact fi_any M M' w 0 3 hi pl3 Tryz.underlying3 (fun _ => rfl)
  · exact fs_any M M' w 1 hi (fun _ => rfl)
  · exact fs_any M M' w 2 hi (fun _ => rfl)
  · exact fi_any M M' w 3 3 hi pl3 Tryz.underlying3 (fun _ => rfl)
  · exact fb_any M M' w 4 hi (fun _ => rfl)
  · exact fi_any M M' w 5 2 hi pl2 Tryz.underlying2 (fun _ => rfl)
  · exact fi_any M M' w 6 2 hi pl2 Tryz.underlying2 (fun _ => rfl)
  · exact fi_any M M' w 7 3 hi pl3 Tryz.underlying3 (fun _ => rfl)
  · exact fb_any M M' w 8 hi (fun _ => rfl)
  · exact fs_any M M' w 9 hi (fun _ => rfl)
  · exact fi_any M M' w 10 3 hi pl3 Tryz.underlying3 (fun _ => rfl)
  · exact fi_any M M' w 11 3 hi pl3 Tryz.underlying3 (fun _ => rfl)
  · exact fi_any M M' w 12 3 hi pl3 Tryz.underlying3 (fun _ => rfl)
  · exact fb_any M M' w 13 hi (fun _ => rfl)
  · exact fi_any M M' w 14 3 hi pl3 Tryz.underlying3 (fun _ => rfl)
  · exact fi_any M M' w 15 3 hi pl3 Tryz.underlying3 (fun _ => rfl)
  · exact fi_any M M' w 16 3 hi pl3 Tryz.underlying3 (fun _ => rfl)
  · exact fi_any M M' w 17 3 hi pl3 Tryz.underlying3 (fun _ => rfl)
  · exact fs_any M M' w 18 hi (fun _ => rfl)
  · exact fs_any M M' w 19 hi (fun _ => rfl)
  · exact fs_any M M' w 20 hi (fun _ => rfl)
  · exact fs_any M M' w 21 hi (fun _ => rfl)
  · exact fs_any M M' w 22 hi (fun _ => rfl)
  · exact fi_any M M' w 23 3 hi pl3 Tryz.underlying3 (fun _ => rfl)
  · exact fi_any M M' w 24 3 hi pl3 Tryz.underlying3 (fun _ => rfl)
  · exact fi_any M M' w 25 3 hi pl3 Tryz.underlying3 (fun _ => rfl)
  · exact fi_any M M' w 26 2 hi pl2 Tryz.underlying2 (fun _ => rfl)
  · exact fi_any M M' w 27 2 hi pl2 Tryz.underlying2 (fun _ => rfl)
  · exact fi_any M M' w 28 2 hi pl2 Tryz.underlying2 (fun _ => rfl)
  · exact fi_any M M' w 29 2 hi pl2 Tryz.underlying2 (fun _ => rfl)
  · exact fi_any M M' w 30 2 hi pl2 Tryz.underlying2 (fun _ => rfl)
  · exact fi_any M M' w 31 3 hi pl3 Tryz.underlying3 (fun _ => rfl)
  · exact fi_any M M' w 32 3 hi pl3 Tryz.underlying3 (fun _ => rfl)
  · exact fi_any M M' w 33 3 hi pl3 Tryz.underlying3 (fun _ => rfl)
  · exact fi_any M M' w 34 3 hi pl3 Tryz.underlying3 (fun _ => rfl)
  · exact fi_any M M' w 35 3 hi pl3 Tryz.underlying3 (fun _ => rfl)
  · exact fi_any M M' w 36 2 hi pl2 Tryz.underlying2 (fun _ => rfl)
  · exact fi_any M M' w 37 2 hi pl2 Tryz.underlying2 (fun _ => rfl)
  · exact fi_any M M' w 38 2 hi pl2 Tryz.underlying2 (fun _ => rfl)
  · exact fi_any M M' w 39 2 hi pl2 Tryz.underlying2 (fun _ => rfl)
  · exact fi_any M M' w 40 3 hi pl3 Tryz.underlying3 (fun _ => rfl)
  · exact fi_any M M' w 41 3 hi pl3 Tryz.underlying3 (fun _ => rfl)
set_option maxRecDepth 100000 in
theorem fld_nm : (Tryz.prog.fieldsOf 25).toList.all (fun f => f.name != "_") = true := by kernel_rfl
theorem msg_eq_any (M M' : Msg) (w : World) : ∃ r, (Op.equalIn 10000 25 (.agg M.cs) (.agg M'.cs)).run Tryz.prog w = .ok r w ∧ (r = true ↔ M.cs = M'.cs) := by
  rw [run_equalIn_agg w 9999 25 _ _ (by kernel_rfl) (by kernel_rfl)]
  have hl : (Tryz.prog.fieldsOf 25).toList.length = 42 := by kernel_rfl
  have hat : ∀ i (hi : i < (Tryz.prog.fieldsOf 25).toList.length), (Tryz.prog.fieldsOf 25).toList[i].type = tyL.getD i 0 ∧ (Tryz.prog.fieldsOf 25).toList[i].offset = i := fun i hi => by
    have hi' : i < 42 := by omega
    have h1 := congrArg (·[i]?) fld_at
    simp only [List.getElem?_map, List.getElem?_eq_getElem hi, List.getElem?_range hi', Option.map_some, Option.some.injEq, Prod.mk.injEq] at h1
    exact h1
  obtain ⟨r, h1, h2⟩ := eqFields_any (xs := M.cs) (ys := M'.cs) (w := w) 9999 (fun f => M.cell f.offset = M'.cell f.offset) (Tryz.prog.fieldsOf 25).toList fun f hf => by
    refine ⟨by have := List.all_eq_true.1 fld_nm f hf; simpa using this, ?_⟩
    obtain ⟨i, hi, rfl⟩ := List.getElem_of_mem hf
    rw [(hat i hi).1, (hat i hi).2]
    exact fld_any M M' w i (by omega)
  refine ⟨r, h1, h2.trans ⟨fun h => ?_, fun h f hf => ?_⟩⟩
  · apply Array.ext_getElem?
    intro i
    by_cases hi : i < 42
    · rw [M.cs_get i hi, M'.cs_get i hi]
      have hi' : i < (Tryz.prog.fieldsOf 25).toList.length := by omega
      have := h _ (List.getElem_mem hi')
      rw [(hat i hi').2] at this
      rw [this]
    · rw [Array.getElem?_eq_none (by rw [M.cs_size]; omega), Array.getElem?_eq_none (by rw [M'.cs_size]; omega)]
  · obtain ⟨i, hi, rfl⟩ := List.getElem_of_mem hf
    rw [(hat i hi).2]
    have e := congrArg (·[i]?) h
    simp only [M.cs_get i (by omega), M'.cs_get i (by omega), Option.some.injEq] at e
    exact e
theorem neM_run {M M' : Msg} {op : Oper} {a : Act} (hne : M.cs ≠ M'.cs) (x y : Operand) (ho : op.op = .binOp .neq 25 x y 25) (hx : a.eval x = .agg M.cs) (hy : a.eval y = .agg M'.cs) (w : World) : (execOp a.eval op).run Tryz.prog w = .ok (.value (.bool true)) w := by
  obtain ⟨r, h1, h2⟩ := msg_eq_any M M' w
  obtain rfl : r = false := by cases r; rfl; exact absurd (h2.1 rfl) hne
  have hgd : (eqGuard .neq 25 x y (.agg M.cs) (.agg M'.cs)).run Tryz.prog w = .ok () w := run_eqGuard_agg (P := Tryz.prog) w .neq 25 x y _ _ (by kernel_rfl)
  have he : (binOp .neq 25 (.agg M.cs) (.agg M'.cs)).run Tryz.prog w = .ok (.bool true) w := by rw [run_neq_struct, h1]; rfl
  unfold execOp
  simp only [ho, hx, hy, Sem.run_bind, hgd, Result.andThen_ok, he]
  rfl
end Go.Proofs.YtchkpggdndnpjaaGreatDoor

namespace Go.Proofs.YtchkpggdndnpjaaGreatDoor
set_option linter.unusedVariables false
set_option linter.unusedSimpArgs false
open Go.RowKit Go.Great

theorem filterMap_ge {α β : Type} (g : α → Option β) (p : α → Bool) (h : ∀ t, p t = true → (g t).isSome = true) : ∀ l : List α, (l.filter p).length ≤ (l.filterMap g).length
  | [] => Nat.le_refl _
  | t :: l => by
    have ih := filterMap_ge g p h l
    cases hp : p t with
    | true =>
      obtain ⟨y, hy⟩ := Option.isSome_iff_exists.1 (h t hp)
      rw [List.filter_cons_of_pos hp, List.filterMap_cons_some hy]
      exact Nat.succ_le_succ ih
    | false =>
      rw [List.filter_cons_of_neg (by simp [hp])]
      cases hg : g t with
      | none => rw [List.filterMap_cons_none hg]; exact ih
      | some y => rw [List.filterMap_cons_some hg]; exact Nat.le_succ_of_le ih
theorem three_tab : ((List.range 17).all fun k => decide (3 ≤ ((slts ((k + 1 : Nat) : Int)).filter (·.2.1)).length)) = true := by kernel_rfl
theorem enc_three {M : Msg} (h : Vld M) : 3 ≤ (encF M).length := by
  obtain ⟨k, hk, e⟩ := h.kind
  have h1 := of_decide_eq_true (List.all_eq_true.1 three_tab k (List.mem_range.2 hk))
  rw [← e] at h1
  refine Nat.le_trans h1 (filterMap_ge _ _ (fun t ht => ?_) _)
  unfold fldF
  simp [ht]
theorem enc_small {M : Msg} (h : Vld M) : (encF M).length ≤ 1024 ∧ (bodyB (encF M)).length ≤ 1024 := by
  obtain ⟨b, hj, -⟩ := enc_join h
  have := split_small (join_split hj)
  exact ⟨this.1, this.2.1⟩
theorem join_of {L : List Fld} (h2 : ∀ f ∈ L, isTg f.1 = true ∧ okV f.2 = true) (h1 : (bodyB L).length ≤ 990) : ∃ b, joinL L = .ok b ∧ b.length ≤ 1024 := by
  have hl : (closeL (aheadL (bodyB L))).length ≤ 1024 := by
    rw [close_length, head_length]
    have : (Lib.itoa ((bodyB L).length : Int)).length ≤ 3 := by
      have e : Lib.itoa ((bodyB L).length : Int) = Lib.decDigits (bodyB L).length := by unfold Lib.itoa; rw [if_neg (by omega)]; rfl
      rw [e]
      exact dec_len 2 _ (by omega)
    omega
  refine ⟨_, ?_, hl⟩
  unfold joinL
  rw [if_neg (by rw [show (L.all fun f => isTg f.1) = true from List.all_eq_true.2 fun f hf => (h2 f hf).1]; decide), if_neg (by rw [show (L.all fun f => okV f.2) = true from List.all_eq_true.2 fun f hf => (h2 f hf).2]; decide), if_neg (by omega)]
theorem row_len {M : Msg} (h : Vld M) {r : Nat} (hr : r < 45) {f : Fld} (hf : (slotF (M.z 0) r).bind (fldF M) = some f) : (fldL f).length ≤ 5 + xU.getD r 0 := by
  obtain ⟨t, ht, hf⟩ := Option.bind_eq_some_iff.1 hf
  have htm : t ∈ slts (M.z 0) := by
    unfold slts slU
    exact List.mem_filterMap.2 ⟨r, List.mem_range.2 hr, ht⟩
  have er : t.2.2 = r := by
    unfold slotF at ht
    split at ht
    · cases ht
    · cases ht; rfl
  unfold fldF at hf
  cases hb : (t.2.1 || thB t.2.2 M) with
  | false => rw [hb] at hf; cases hf
  | true =>
    rw [hb] at hf
    cases hf
    have ho := row_ok h htm hb
    obtain ⟨a1, a2, a3, a4⟩ := slts_mem.1 htm
    have htg := tag_ok (M.z 0) a1
    rw [← a3] at htg
    rw [er] at ho
    have hl : (Lib.itoa t.1).length ≤ 3 := by
      have e : Lib.itoa t.1 = Lib.decDigits t.1.toNat := by unfold Lib.itoa; rw [if_neg (by omega)]
      rw [e]
      exact dec_len 2 _ (by omega)
    have h2 : (wrS t.2.2 M).data.toList.length = (wrS t.2.2 M).size := by show _ = (wrS t.2.2 M).data.size; simp
    have h3 := ho.2
    unfold fldL
    rw [er] at h2 ⊢
    simp only [List.length_append, List.length_cons, List.length_nil]
    omega
theorem enc_rows {M : Msg} : encF M = (List.range 45).filterMap fun r => (slotF (M.z 0) r).bind (fldF M) := by
  unfold encF slts slU
  rw [List.filterMap_filterMap]
theorem enc_len {M : Msg} (h : Vld M) : (bodyB (encF M)).length ≤ 720 := by
  rw [enc_rows]
  exact Nat.le_trans (body_le (B := fun r => 5 + xU.getD r 0) _ fun r hr f hf => row_len h (List.mem_range.1 hr) hf) (by decide)
theorem xU_le : ((List.range 45).all fun r => decide (xU.getD r 0 ≤ 60)) = true := by decide
theorem fld_len {M : Msg} (h : Vld M) {f : Fld} (hf : f ∈ encF M) : (fldL f).length ≤ 65 := by
  rw [enc_rows, List.mem_filterMap] at hf
  obtain ⟨r, hr, hf⟩ := hf
  have h1 := row_len h (List.mem_range.1 hr) hf
  have h2 := of_decide_eq_true (List.all_eq_true.1 xU_le r hr)
  omega
theorem body_erase : ∀ (L : List Fld) (k : Nat), (bodyB (L.eraseIdx k)).length ≤ (bodyB L).length
  | [], k => by simp
  | f :: L, 0 => by simp [bodyB]
  | f :: L, k + 1 => by
    have := body_erase L k
    simp only [bodyB, List.eraseIdx_cons_succ, List.flatMap_cons, List.length_append] at this ⊢
    omega
theorem body_app (L P : List Fld) : bodyB (L ++ P) = bodyB L ++ bodyB P := by simp [bodyB]
theorem ix_app (p : Fld → Bool) : ∀ (fs gs : List Fld) (i : Nat), ix p fs = some i → ix p (fs ++ gs) = some i
  | [], gs, i, h => by simp [ix] at h
  | f :: fs, gs, i, h => by
    rw [List.cons_append]
    unfold ix at h ⊢
    cases hp : p f with
    | true => rw [hp] at h; exact h
    | false =>
      rw [hp] at h
      simp only [cond_false, Option.map_eq_some_iff, Bool.false_eq_true, if_false] at h ⊢
      obtain ⟨j, hj, e⟩ := h
      exact ⟨j, ix_app p fs gs j hj, e⟩
theorem pl_app {fs gs : List Fld} {t : Int} {i : Nat} (h : plN fs t = i) (hi : i < fs.length) : plN (fs ++ gs) t = i := by
  unfold plN at h ⊢
  cases hx : ix (tgB t) fs with
  | none => rw [hx] at h; dsimp only at h; omega
  | some j => rw [hx] at h; dsimp only at h; subst h; rw [ix_app _ fs gs j hx]
theorem ce_sx {fs : List Fld} {l : List Slt} {a : Nat} {f : Fld} (hf : fs[a]? = some f) (h : ceA fs l a = none) : ∃ i, sx f.1 l = some i := by
  unfold ceA at h
  rw [hf] at h
  dsimp only at h
  cases hs : sx f.1 l with
  | none => rw [hs] at h; cases h
  | some i => exact ⟨i, rfl⟩
/-- A field twice. -/
theorem miss_more {M : Msg} (h : Vld M) {k : Nat} {x : Fld} (hk1 : 1 ≤ k) (hx : (encF M)[k]? = some x) :
    ∃ d, joinL (encF M ++ [x]) = .ok d ∧ d.length ≤ 1024 ∧ dcL d = .error (51, (encF M).length) ∧ whR d = 13 ∧ whT d = x.1 := by
  have hxm := List.mem_of_getElem? hx
  have hkl := (List.getElem?_eq_some_iff.1 hx).1
  obtain ⟨d, hd, hdl⟩ := join_of (L := encF M ++ [x]) (fun f hf => by
    rcases List.mem_append.1 hf with q | q
    · exact (enc_fit h).2 f q
    · rw [List.mem_singleton.1 q]; exact (enc_fit h).2 x hxm) (by
    rw [body_app, List.length_append]
    have h1 := enc_len h
    have h2 := fld_len h hxm
    simp only [bodyB, List.flatMap_cons, List.flatMap_nil, List.append_nil] at h1 ⊢
    omega)
  have hdst : Dst (encF M) := enc_pw
  have hX : rdX (encF M ++ [x]) = some (51, (encF M).length, x.1) := by
    obtain ⟨fs, e⟩ := enc_head h
    have hr1 : rkK (encF M ++ [x]) = M.z 0 ∧ rkE (encF M ++ [x]) = none := by
      have := rk_back h
      rw [e] at this ⊢
      exact this
    have hce : ceE (encF M ++ [x]) (slts (M.z 0)) = some (51, (encF M).length, x.1) := by
      unfold ceE
      refine findSome_at _ _ (encF M).length _ (by simp) (fun a ha => ?_) ?_
      · by_cases ha0 : a = 0
        · rw [if_pos ha0]
        · rw [if_neg ha0]
          have hc := ce_all (ce_back h) a (by omega)
          unfold ceA at hc ⊢
          rw [List.getElem?_append_left ha]
          rw [List.getElem?_eq_getElem ha] at hc ⊢
          dsimp only at hc ⊢
          have hp := hdst.place (List.getElem?_eq_getElem ha)
          rw [hp] at hc
          rw [pl_app hp ha]
          exact hc
      · rw [if_neg (by omega)]
        obtain ⟨i, hi⟩ := ce_sx hx (ce_all (ce_back h) k hk1)
        unfold ceA
        rw [List.getElem?_append_right (Nat.le_refl _), Nat.sub_self]
        show (match sx x.1 (slts (M.z 0)) with | none => _ | some i => _) = _
        rw [hi]
        dsimp only
        rw [pl_app (hdst.place hx) hkl, if_pos hkl]
    unfold rdX
    rw [hr1.2, hr1.1, hce]
    rfl
  refine ⟨d, hd, hdl, ?_, ?_, ?_⟩
  · unfold dcL
    rw [join_split hd]
    dsimp only
    rw [hX]
  · unfold whR
    rw [join_split hd]
    dsimp only
    rw [hX]
    rfl
  · unfold whT
    rw [join_split hd]
    dsimp only
    rw [hX]
/-- A field less. -/
structure Less (fs L : List Fld) (x : Fld) : Prop where
  head : ∃ h r s, fs = h :: r ∧ L = h :: s ∧ ∀ f ∈ s, f ∈ r
  mem : ∀ f ∈ fs, f ≠ x → f ∈ L
  sub : ∀ f ∈ L, f ∈ fs
  dst : Dst fs
  dstL : Dst L
  xin : x ∈ fs
  no : ∀ f ∈ L, f.1 ≠ x.1
theorem Dst.inj {fs : List Fld} (h : Dst fs) {f g : Fld} (hf : f ∈ fs) (hg : g ∈ fs) (e : f.1 = g.1) : f = g := by
  have h1 := h.look hf
  have h2 := h.look hg
  rw [e] at h1
  rw [h1] at h2
  injection h2
theorem less_of {fs : List Fld} (h : Dst fs) {k : Nat} {x : Fld} (hk1 : 1 ≤ k) (hx : fs[k]? = some x) : Less fs (fs.eraseIdx k) x := by
  have hkl := (List.getElem?_eq_some_iff.1 hx).1
  have hsub : ∀ f ∈ fs.eraseIdx k, f ∈ fs := fun f hf => List.mem_of_mem_eraseIdx hf
  have hxe : fs[k] = x := (List.getElem?_eq_some_iff.1 hx).2
  have hd : Dst (fs.eraseIdx k) := h.sublist (List.eraseIdx_sublist _ _)
  refine ⟨?_, ?_, hsub, h, hd, List.mem_of_getElem? hx, ?_⟩
  · cases fs with
    | nil => simp at hkl
    | cons a r =>
      obtain ⟨k, rfl⟩ : ∃ q, k = q + 1 := ⟨k - 1, by omega⟩
      exact ⟨a, r, r.eraseIdx k, rfl, by rw [List.eraseIdx_cons_succ], fun f hf => List.mem_of_mem_eraseIdx hf⟩
  · intro f hf hne
    obtain ⟨j, hj⟩ := List.getElem?_of_mem hf
    rw [List.mem_eraseIdx_iff_getElem?]
    exact ⟨j, fun e => hne (by subst e; rw [hx] at hj; injection hj with hj; exact hj.symm), hj⟩
  · intro f hf e
    rw [List.mem_eraseIdx_iff_getElem?] at hf
    obtain ⟨j, hj, hjf⟩ := hf
    have h1 := h.place hjf
    rw [e, h.place hx] at h1
    exact hj h1.symm
theorem Less.look {fs L : List Fld} {x : Fld} (h : Less fs L x) (t : Int) (ht : t ≠ x.1) : L[plN L t]? = fs[plN fs t]? ∧ (plN L t < L.length ↔ plN fs t < fs.length) := by
  by_cases hx : ∃ f ∈ fs, f.1 = t
  · obtain ⟨f, hf, rfl⟩ := hx
    have h1 := h.dst.look hf
    have h2 := h.dstL.look (h.mem f hf fun e => ht (by rw [e]))
    exact ⟨h2.trans h1.symm, ⟨fun _ => (List.getElem?_eq_some_iff.1 h1).1, fun _ => (List.getElem?_eq_some_iff.1 h2).1⟩⟩
  · have h1 : plN fs t = fs.length := no_look fun f hf e => hx ⟨f, hf, e⟩
    have h2 : plN L t = L.length := no_look fun f hf e => hx ⟨f, h.sub f hf, e⟩
    rw [h1, h2]
    exact ⟨by rw [List.getElem?_eq_none (Nat.le_refl _), List.getElem?_eq_none (Nat.le_refl _)], ⟨fun q => absurd q (Nat.lt_irrefl _), fun q => absurd q (Nat.lt_irrefl _)⟩⟩
theorem Less.gone {fs L : List Fld} {x : Fld} (h : Less fs L x) : plN L x.1 = L.length ∧ L[plN L x.1]? = none := by
  have := no_look h.no
  exact ⟨this, by rw [this]; exact List.getElem?_eq_none (Nat.le_refl _)⟩
theorem Less.rk {fs L : List Fld} {x : Fld} (h : Less fs L x) : rkK L = rkK fs ∧ rkE L = rkE fs := by
  obtain ⟨a, r, s, rfl, rfl, p⟩ := h.head
  exact ⟨rfl, rfl⟩
theorem Less.ce {fs L : List Fld} {x : Fld} (h : Less fs L x) {l : List Slt} (hc : ceE fs l = none) : ceE L l = none := ceE_none fun a h1 ha => by
  obtain ⟨f, hf⟩ : ∃ f, L[a]? = some f := ⟨_, List.getElem?_eq_getElem ha⟩
  obtain ⟨a', h1', hf'⟩ : ∃ a', 1 ≤ a' ∧ fs[a']? = some f := by
    obtain ⟨y, r, s, e1, e2, p⟩ := h.head
    rw [e2] at hf
    obtain ⟨b, rfl⟩ : ∃ b, a = b + 1 := ⟨a - 1, by omega⟩
    rw [List.getElem?_cons_succ] at hf
    obtain ⟨k, hk⟩ := List.getElem?_of_mem (p f (List.mem_of_getElem? hf))
    exact ⟨k + 1, by omega, by rw [e1, List.getElem?_cons_succ]; exact hk⟩
  have hc' := ce_all hc a' h1'
  unfold ceA at hc' ⊢
  rw [hf'] at hc'
  rw [hf]
  dsimp only at hc' ⊢
  cases hs : sx f.1 l with
  | none => rw [hs] at hc'; cases hc'
  | some i =>
    rw [hs] at hc'
    dsimp only at hc' ⊢
    rw [if_neg (by rw [h.dst.place hf']; omega)] at hc'
    rw [if_neg (by rw [h.dstL.place hf]; omega)]
    cases hl : l[i]? with
    | none => rfl
    | some t =>
      rw [hl] at hc'
      dsimp only at hc' ⊢
      cases hr : rdBo t.2.2 (bs f.2) with
      | true => rfl
      | false => rw [hr] at hc'; cases hc'
theorem findSome_one {α β : Type} {F : α → Option β} {y : β} : ∀ (l : List α) (t : α), t ∈ l → F t = some y → (∀ u ∈ l, F u = none ∨ F u = some y) → l.findSome? F = some y
  | [], t, h, _, _ => by simp at h
  | u :: l, t, h, hF, hu => by
    rw [List.findSome?_cons]
    rcases hu u (by simp) with q | q
    · rw [q]
      rcases List.mem_cons.1 h with e | e
      · rw [e, q] at hF; cases hF
      · exact findSome_one l t e hF fun v hv => hu v (by simp [hv])
    · rw [q]
theorem miss_must {M : Msg} (h : Vld M) {L : List Fld} {t : Slt} (ht : t ∈ slts (M.z 0)) (hm : t.2.1 = true) (hl : Less (encF M) L (t.1, (wrS t.2.2 M).data.toList)) : rdX L = some (50, L.length, t.1) := by
  have hr := rk_back h
  have hcm : cmE L (slts (M.z 0)) = some (50, L.length, t.1) := by
    unfold cmE
    refine findSome_one _ t ht ?_ fun u hu => ?_
    · unfold cmT
      have : plN L t.1 = L.length := hl.gone.1
      rw [hm, this]
      simp
    · by_cases e : u = t
      · subst e
        right
        unfold cmT
        have : plN L u.1 = L.length := hl.gone.1
        rw [hm, this]
        simp
      · left
        unfold cmT
        cases hu1 : u.2.1 with
        | false => rfl
        | true =>
          have hy := enc_yes hu (show wrt M u = true by unfold wrt; rw [hu1]; rfl)
          have hlt := (List.getElem?_eq_some_iff.1 hy).1
          have := (hl.look u.1 (fun q => e (slts_inj hu ht q))).2.2 hlt
          have : (plN L u.1 == L.length) = false := by simp; omega
          rw [this]; rfl
  unfold rdX
  rw [hl.rk.2, hl.rk.1, hr.2, hr.1, hl.ce (ce_back h), hcm]
  rfl
def lessR (M : Msg) (ρ r : Nat) (A : Msg) : Msg := if r = ρ then A else stepR M r A
theorem ga_less {M : Msg} (h : Vld M) {L : List Fld} {t : Slt} (ht : t ∈ slts (M.z 0)) (hl : Less (encF M) L (t.1, (wrS t.2.2 M).data.toList)) :
    gaM L (slts (M.z 0)) = (List.range 45).foldl (fun A r => lessR M t.2.2 r A) zeroM := by
  obtain ⟨a1, a2, a3, a4⟩ := slts_mem.1 ht
  unfold gaM slts slU
  rw [foldl_filterMap]
  refine foldl_congr _ _ fun A r hr => ?_
  have hr' := List.mem_range.1 hr
  unfold lessR
  by_cases e : r = t.2.2
  · rw [if_pos e, e]
    unfold slotF
    rw [if_neg (show ¬ hasR (M.z 0) (xNum.getD t.2.2 0) = 0 from a2)]
    show gaS L A _ = A
    unfold gaS
    rw [← a3]
    have := hl.gone.2
    dsimp only at this ⊢
    rw [this]
  · rw [if_neg e, ← ga_step h r hr' A]
    unfold slotF
    by_cases h0 : hasR (M.z 0) (xNum.getD r 0) = 0
    · rw [if_pos h0]; rfl
    · rw [if_neg h0]
      show gaS L A _ = gaS (encF M) A _
      unfold gaS
      dsimp only
      rw [(hl.look (tagR (M.z 0) (xNum.getD r 0)) (fun q => e (tag_inj (M.z 0) hr' a1 (by rw [q, ← a3])))).1]
theorem foldF_other {F : Msg → Nat → Msg} (j : Nat) : ∀ (l : List Nat) (A : Msg), (∀ r ∈ l, ∀ A, (F A r).cell j = A.cell j) → (l.foldl F A).cell j = A.cell j
  | [], A, _ => rfl
  | r :: l, A, h => by
    show (l.foldl F (F A r)).cell j = _
    rw [foldF_other j l _ (fun u hu => h u (by simp [hu])), h r (by simp)]
theorem less_cell {M : Msg} {ρ j : Nat} (hu : ((List.range 45).all fun r => decide (r = ρ) || decide (j ≠ xCe.getD r 0 ∨ r = 7 ∨ r = 44)) = true) : ((List.range 45).foldl (fun A r => lessR M ρ r A) zeroM).cell j = zeroM.cell j :=
  foldF_other j _ _ fun r hr A => by
    unfold lessR
    by_cases e : r = ρ
    · rw [if_pos e]
    · rw [if_neg e]
      have := List.all_eq_true.1 hu r hr
      rw [Bool.or_eq_true, decide_eq_true_eq, decide_eq_true_eq] at this
      exact step_other M r A j (this.resolve_left e)
theorem tbl_two : ((List.range 17).all fun k => (hasK ((k + 1 : Nat) : Int) 7 == 0 || hasK ((k + 1 : Nat) : Int) 7 == 2) && (hasK ((k + 1 : Nat) : Int) 44 == 0 || hasK ((k + 1 : Nat) : Int) 44 == 2)) = true := by kernel_rfl
theorem z_ne {A M : Msg} {j : Nat} (hs : isStr j = false) (hb : isBoo j = false) (h : A.cell j = zeroM.cell j) (hz : (M.z j != 0) = true) : A.cell j ≠ M.cell j := fun e => by
  rw [h] at e
  simp [Msg.cell, hs, hb, zeroM] at e
  rw [← e] at hz
  simp at hz
theorem b_ne {A M : Msg} {j : Nat} (hs : isStr j = false) (hb : isBoo j = true) (h : A.cell j = zeroM.cell j) (hz : M.b j = true) : A.cell j ≠ M.cell j := fun e => by
  rw [h] at e
  simp [Msg.cell, hs, hb, zeroM] at e
  rw [e] at hz
  cases hz
theorem s_ne {A M : Msg} {j : Nat} (hs : isStr j = true) (h : A.cell j = zeroM.cell j) (hz : (!((M.s j).size == 0)) = true) : A.cell j ≠ M.cell j := fun e => by
  rw [h] at e
  simp [Msg.cell, hs, zeroM] at e
  rw [← e] at hz
  exact absurd hz (by decide)
end Go.Proofs.YtchkpggdndnpjaaGreatDoor

namespace Go.Proofs.YtchkpggdndnpjaaGreatDoor
set_option linter.unusedVariables false
set_option linter.unusedSimpArgs false
open Go.RowKit Go.Great

theorem life_split (F : Msg → Nat → Msg) (A : Msg) : (List.range 45).foldl F A = (List.range' 28 17).foldl F (F (F ((List.range 26).foldl F A) 26) 27) := by
  rw [show List.range 45 = List.range 26 ++ ([26, 27] ++ List.range' 28 17) by decide, List.foldl_append, List.foldl_append]
  rfl
theorem life_rest : ((List.range 45).all fun r => decide (r = 26) || decide (r = 27) || decide (25 ≠ xCe.getD r 0 ∨ r = 7 ∨ r = 44)) = true := by decide
theorem life_free {M : Msg} {ρ r : Nat} (hr : r < 45) (h1 : r ≠ 26) (h2 : r ≠ 27) (A : Msg) : (lessR M ρ r A).cell 25 = A.cell 25 := by
  unfold lessR
  by_cases e : r = ρ
  · rw [if_pos e]
  · rw [if_neg e]
    have := List.all_eq_true.1 life_rest r (List.mem_range.2 hr)
    simp only [Bool.or_eq_true, decide_eq_true_eq] at this
    exact step_other M r A 25 ((this.resolve_left fun q => q.elim h1 h2))
theorem life_ends (M : Msg) (ρ : Nat) : ∃ B : Msg, B.cell 25 = zeroM.cell 25 ∧ ((List.range 45).foldl (fun A r => lessR M ρ r A) zeroM).cell 25 = (lessR M ρ 27 (lessR M ρ 26 B)).cell 25 := by
  refine ⟨(List.range 26).foldl (fun A r => lessR M ρ r A) zeroM, ?_, ?_⟩
  · exact foldF_other 25 _ _ fun r hr A => by have := List.mem_range.1 hr; exact life_free (by omega) (by omega) (by omega) A
  · rw [life_split]
    exact foldF_other 25 _ _ fun r hr A => by have := List.mem_range'_1.1 hr; exact life_free (by omega) (by omega) (by omega) A
theorem cell25 {A : Msg} {z : Int} (h : A.cell 25 = .int .i64 z) : A.z 25 = z := by
  have : Value.int .i64 (A.z 25) = .int .i64 z := h
  injection this
theorem less26 {M : Msg} (hz : (M.z 25 != 0) = true) : ((List.range 45).foldl (fun A r => lessR M 26 r A) zeroM).cell 25 ≠ M.cell 25 := by
  obtain ⟨B, hB, e⟩ := life_ends M 26
  rw [e]
  have h26 : lessR M 26 26 B = B := if_pos rfl
  have h27 : lessR M 26 27 B = stepR M 27 B := if_neg (by decide)
  rw [h26, h27]
  have hz0 : B.z 25 = 0 := cell25 hB
  refine z_ne rfl rfl ?_ hz
  unfold stepR
  split
  · exact hB
  · cases ((hasK (M.z 0) 27 == 2) || thB 27 M) with
    | false => exact hB
    | true =>
      show (cond (B.z 25 == 1) (B.setZ 25 7) B).cell 25 = _
      rw [hz0]
      exact hB
theorem less27 {M : Msg} (h : Vld M) (hz : (M.z 25 == 7) = true) : ((List.range 45).foldl (fun A r => lessR M 27 r A) zeroM).cell 25 ≠ M.cell 25 := by
  obtain ⟨B, hB, e⟩ := life_ends M 27
  rw [e]
  have h26 : lessR M 27 26 B = stepR M 26 B := if_neg (by decide)
  have h27 : lessR M 27 27 (stepR M 26 B) = stepR M 26 B := if_pos rfl
  rw [h26, h27]
  have h1 := step26 h B hB
  have h7 : M.z 25 = 7 := by simpa using hz
  rw [h7] at h1
  intro q
  have q' : Value.int .i64 ((stepR M 26 B).z 25) = .int .i64 (M.z 25) := q
  injection q' with _ q'
  rw [h1, h7] at q'
  revert q'
  decide
set_option maxRecDepth 100000 in
theorem less_ne {M : Msg} (h : Vld M) {r : Nat} (hr : r < 45) (h0 : hasK (M.z 0) r ≠ 0) (h2 : hasK (M.z 0) r ≠ 2) (hw : thB r M = true) : ∃ j, j < 42 ∧ ((List.range 45).foldl (fun A s => lessR M r s A) zeroM).cell j ≠ M.cell j := by
  have hno : r ≠ 7 ∧ r ≠ 44 := by
    obtain ⟨k, hk, e⟩ := h.kind
    have := List.all_eq_true.1 tbl_two k (List.mem_range.2 hk)
    rw [← e] at this
    simp only [Bool.and_eq_true, Bool.or_eq_true, beq_iff_eq] at this
    refine ⟨fun q => ?_, fun q => ?_⟩
    · subst q; exact this.1.elim h0 h2
    · subst q; exact this.2.elim h0 h2
  rcases cases45 hr with rfl | rfl | rfl | rfl | rfl | rfl | rfl | rfl | rfl | rfl | rfl | rfl | rfl | rfl | rfl | rfl | rfl | rfl | rfl | rfl | rfl | rfl | rfl | rfl | rfl | rfl | rfl | rfl | rfl | rfl | rfl | rfl | rfl | rfl | rfl | rfl | rfl | rfl | rfl | rfl | rfl | rfl | rfl | rfl | rfl
  · exact ⟨0, by decide, z_ne rfl rfl (less_cell (by decide)) hw⟩
  · exact ⟨1, by decide, s_ne rfl (less_cell (by decide)) hw⟩
  · exact ⟨2, by decide, s_ne rfl (less_cell (by decide)) hw⟩
  · exact ⟨3, by decide, z_ne rfl rfl (less_cell (by decide)) hw⟩
  · exact ⟨4, by decide, b_ne rfl rfl (less_cell (by decide)) hw⟩
  · exact ⟨5, by decide, z_ne rfl rfl (less_cell (by decide)) hw⟩
  · exact ⟨6, by decide, z_ne rfl rfl (less_cell (by decide)) hw⟩
  · exact absurd rfl hno.1
  · exact ⟨7, by decide, z_ne rfl rfl (less_cell (by decide)) hw⟩
  · exact ⟨8, by decide, b_ne rfl rfl (less_cell (by decide)) hw⟩
  · exact ⟨9, by decide, s_ne rfl (less_cell (by decide)) hw⟩
  · exact ⟨10, by decide, z_ne rfl rfl (less_cell (by decide)) hw⟩
  · exact ⟨11, by decide, z_ne rfl rfl (less_cell (by decide)) hw⟩
  · exact ⟨12, by decide, z_ne rfl rfl (less_cell (by decide)) hw⟩
  · exact ⟨13, by decide, b_ne rfl rfl (less_cell (by decide)) hw⟩
  · exact ⟨14, by decide, z_ne rfl rfl (less_cell (by decide)) hw⟩
  · exact ⟨15, by decide, z_ne rfl rfl (less_cell (by decide)) hw⟩
  · exact ⟨16, by decide, z_ne rfl rfl (less_cell (by decide)) hw⟩
  · exact ⟨17, by decide, z_ne rfl rfl (less_cell (by decide)) hw⟩
  · exact ⟨18, by decide, s_ne rfl (less_cell (by decide)) hw⟩
  · exact ⟨19, by decide, s_ne rfl (less_cell (by decide)) hw⟩
  · exact ⟨20, by decide, s_ne rfl (less_cell (by decide)) hw⟩
  · exact ⟨21, by decide, s_ne rfl (less_cell (by decide)) hw⟩
  · exact ⟨22, by decide, s_ne rfl (less_cell (by decide)) hw⟩
  · exact ⟨23, by decide, z_ne rfl rfl (less_cell (by decide)) hw⟩
  · exact ⟨24, by decide, z_ne rfl rfl (less_cell (by decide)) hw⟩
  · exact ⟨25, by decide, less26 hw⟩
  · exact ⟨25, by decide, less27 h hw⟩
  · exact ⟨26, by decide, z_ne rfl rfl (less_cell (by decide)) hw⟩
  · exact ⟨27, by decide, z_ne rfl rfl (less_cell (by decide)) hw⟩
  · exact ⟨28, by decide, z_ne rfl rfl (less_cell (by decide)) hw⟩
  · exact ⟨29, by decide, z_ne rfl rfl (less_cell (by decide)) hw⟩
  · exact ⟨30, by decide, z_ne rfl rfl (less_cell (by decide)) hw⟩
  · exact ⟨31, by decide, z_ne rfl rfl (less_cell (by decide)) hw⟩
  · exact ⟨32, by decide, z_ne rfl rfl (less_cell (by decide)) hw⟩
  · exact ⟨33, by decide, z_ne rfl rfl (less_cell (by decide)) hw⟩
  · exact ⟨34, by decide, z_ne rfl rfl (less_cell (by decide)) hw⟩
  · exact ⟨35, by decide, z_ne rfl rfl (less_cell (by decide)) hw⟩
  · exact ⟨36, by decide, z_ne rfl rfl (less_cell (by decide)) hw⟩
  · exact ⟨37, by decide, z_ne rfl rfl (less_cell (by decide)) hw⟩
  · exact ⟨38, by decide, z_ne rfl rfl (less_cell (by decide)) hw⟩
  · exact ⟨39, by decide, z_ne rfl rfl (less_cell (by decide)) hw⟩
  · exact ⟨40, by decide, z_ne rfl rfl (less_cell (by decide)) hw⟩
  · exact ⟨41, by decide, z_ne rfl rfl (less_cell (by decide)) hw⟩
  · exact absurd rfl hno.2
set_option maxRecDepth 100000 in
theorem tbl_has : ((List.range 17).all fun k => (List.range 45).all fun r => hasK ((k + 1 : Nat) : Int) r == 0 || !(hasN ((k + 1 : Nat) : Int) (tagR ((k + 1 : Nat) : Int) (xNum.getD r 0)) == 2) || hasK ((k + 1 : Nat) : Int) r == 2) = true := by kernel_rfl
/-- A field left out. -/
theorem miss_less {M : Msg} (h : Vld M) {k : Nat} {x : Fld} (hk1 : 1 ≤ k) (hx : (encF M)[k]? = some x) :
    ∃ c, joinL ((encF M).eraseIdx k) = .ok c ∧ c.length ≤ 1024 ∧ (hasN (M.z 0) x.1 = 2 → dcL c = .error (50, ((encF M).eraseIdx k).length) ∧ whR c = 1 ∧ whT c = x.1) ∧ ((∃ e a, dcL c = .error (e, a)) ∨ ∃ A, dcL c = .ok A ∧ A.cs ≠ M.cs) := by
  have hxm := List.mem_of_getElem? hx
  obtain ⟨c, hc, hcl⟩ := join_of (L := (encF M).eraseIdx k) (fun f hf => (enc_fit h).2 f (List.mem_of_mem_eraseIdx hf)) (by
    have h1 := enc_len h
    have h2 := body_erase (encF M) k
    omega)
  have hl := less_of (fs := encF M) enc_pw hk1 hx
  obtain ⟨t, ht, hw, rfl⟩ := mem_enc.1 hxm
  obtain ⟨a1, a2, a3, a4⟩ := slts_mem.1 ht
  have hsp := join_split hc
  refine ⟨c, hc, hcl, fun hH => ?_, ?_⟩
  · have hm : t.2.1 = true := by
      obtain ⟨q, hq, e⟩ := h.kind
      have := List.all_eq_true.1 (List.all_eq_true.1 tbl_has q (List.mem_range.2 hq)) t.2.2 (List.mem_range.2 a1)
      rw [← e, ← a3] at this
      dsimp only at hH
      rw [hH] at this
      rw [a4]
      simp only [Bool.or_eq_true, beq_iff_eq] at this ⊢
      rcases this with (q | q) | q
      · exact absurd q a2
      · simp at q
      · exact q
    have hX := miss_must h ht hm hl
    refine ⟨?_, ?_, ?_⟩
    · unfold dcL
      rw [hsp]
      dsimp only
      rw [hX]
    · unfold whR
      rw [hsp]
      dsimp only
      rw [hX]
      rfl
    · unfold whT
      rw [hsp]
      dsimp only
      rw [hX]
  · cases hX : rdX ((encF M).eraseIdx k) with
    | some y =>
      obtain ⟨e, a, u⟩ := y
      refine .inl ⟨e, a, ?_⟩
      unfold dcL
      rw [hsp]
      dsimp only
      rw [hX]
    | none =>
      refine .inr ⟨rdM ((encF M).eraseIdx k), ?_, fun q => ?_⟩
      · unfold dcL
        rw [hsp]
        dsimp only
        rw [hX]
      · cases hm : t.2.1 with
        | true => rw [miss_must h ht hm hl] at hX; cases hX
        | false =>
          have hth : thB t.2.2 M = true := by unfold wrt at hw; rw [hm] at hw; exact hw
          obtain ⟨j, hj, hne⟩ := less_ne h a1 a2 (fun q => by rw [a4, q] at hm; simp at hm) hth
          refine hne ?_
          rw [← ga_less h ht hl]
          have := Agr.of q j hj
          unfold rdM at this
          rw [hl.rk.1, (rk_back h).1] at this
          exact this
end Go.Proofs.YtchkpggdndnpjaaGreatDoor
