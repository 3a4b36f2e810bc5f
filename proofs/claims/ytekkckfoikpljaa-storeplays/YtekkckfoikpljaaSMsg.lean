/-
  store: messages and parts, as cells; compared.
-/
import Derived.Test.YtekkckfoikpljaaSEv
import Derived.Test.YtekkckfoikpljaaChecked
import Derived.Laws.StructEq
import Derived.ChangeKeysEq
import Derived.Deep.MidRow
import Derived.Below
import Derived.OwnWalk
import Derived.BigQuiet
namespace Go.Proofs.Ytekkckfoikpljaa
set_option linter.unusedVariables false
open Go.RowKit

/-- A message, as numbers, texts and truths by their places. -/
structure Msg where
  z : Nat → Int
  s : Nat → ByteArray
  b : Nat → Bool
def isStr (i : Nat) : Bool := i == 1 || i == 2 || i == 9 || i == 18 || i == 19 || i == 20 || i == 21 || i == 22
def isBoo (i : Nat) : Bool := i == 4 || i == 8 || i == 13
def Msg.cell (M : Msg) (i : Nat) : Value := if isStr i then .string (M.s i) else if isBoo i then .bool (M.b i) else .int .i64 (M.z i)
def Msg.cs (M : Msg) : Array Value := ((List.range 42).map M.cell).toArray
theorem Msg.cs_size (M : Msg) : M.cs.size = 42 := by simp [Msg.cs]
theorem Msg.cs_get (M : Msg) (k : Nat) (hk : k < 42) : M.cs[k]? = some (M.cell k) := by simp [Msg.cs, hk]
theorem Msg.cs_len (M : Msg) : M.cs.toList.length = 42 := by simp [Msg.cs]
def zeroM : Msg := ⟨fun _ => 0, fun _ => ⟨#[]⟩, fun _ => false⟩
theorem cases42 {k : Nat} (h : k < 42) : k = 0 ∨ k = 1 ∨ k = 2 ∨ k = 3 ∨ k = 4 ∨ k = 5 ∨ k = 6 ∨ k = 7 ∨ k = 8 ∨ k = 9 ∨ k = 10 ∨ k = 11 ∨ k = 12 ∨ k = 13 ∨ k = 14 ∨ k = 15 ∨ k = 16 ∨ k = 17 ∨ k = 18 ∨ k = 19 ∨ k = 20 ∨ k = 21 ∨ k = 22 ∨ k = 23 ∨ k = 24 ∨ k = 25 ∨ k = 26 ∨ k = 27 ∨ k = 28 ∨ k = 29 ∨ k = 30 ∨ k = 31 ∨ k = 32 ∨ k = 33 ∨ k = 34 ∨ k = 35 ∨ k = 36 ∨ k = 37 ∨ k = 38 ∨ k = 39 ∨ k = 40 ∨ k = 41 := by omega
theorem Msg.one (M : Msg) : M.cs.all (·.oneCell') = true := by
  rw [Array.all_eq_true]
  intro i hi
  have hi' : i < 42 := by rw [M.cs_size] at hi; exact hi
  have h := M.cs_get i hi'
  rw [Array.getElem?_eq_getElem hi] at h
  injection h with h
  rw [h]
  unfold Msg.cell
  split
  · rfl
  · split <;> rfl
theorem eqFields_any {xs ys : Array Value} {w : World} (d : Nat) (q : Field → Prop) : ∀ fs : List Field, (∀ f ∈ fs, f.name ≠ "_" ∧ ∃ u v r, (part f.type xs f.offset).run Try.prog w = .ok u w ∧ (part f.type ys f.offset).run Try.prog w = .ok v w ∧ (Op.equalIn d f.type u v).run Try.prog w = .ok r w ∧ (r = true ↔ q f)) →
    ∃ r, (Op.eqFields d xs ys fs).run Try.prog w = .ok r w ∧ (r = true ↔ ∀ f ∈ fs, q f)
  | [], _ => ⟨true, by simp [Op.eqFields], by simp⟩
  | f :: fs, h => by
    obtain ⟨hn, u, v, r, h1, h2, h3, h4⟩ := h f (by simp)
    obtain ⟨r', ih1, ih2⟩ := eqFields_any d q fs (fun g hg => h g (by simp [hg]))
    cases r with
    | true => exact ⟨r', by simp only [Op.eqFields, if_pos hn, Sem.run_bind, Sem.run_ite, h1, h2, h3, Result.andThen_ok, ih1]; simp, by rw [ih2]; simp [h4.1 rfl]⟩
    | false =>
      refine ⟨false, by simp only [Op.eqFields, if_pos hn, Sem.run_bind, Sem.run_ite, h1, h2, h3, Result.andThen_ok]; simp, ?_⟩
      have : ¬ q f := fun hq => by have := h4.2 hq; cases this
      simp [this]
def tyL : List Nat := [3, 9, 9, 3, 4, 2, 2, 3, 4, 9, 3, 3, 3, 4, 3, 3, 3, 3, 9, 9, 9, 9, 9, 3, 3, 3, 2, 2, 2, 2, 2, 3, 3, 3, 3, 3, 2, 2, 2, 2, 3, 3]
set_option maxRecDepth 100000 in
theorem fld_at : (Try.prog.fieldsOf 34).toList.map (fun f => (f.type, f.offset)) = (List.range 42).map fun i => (tyL.getD i 0, i) := by kernel_rfl
theorem pl2 : Try.prog.plainKey 2 = true := by kernel_rfl
theorem pl3 : Try.prog.plainKey 3 = true := by kernel_rfl
theorem pl4 : Try.prog.plainKey 4 = true := by kernel_rfl
theorem pl9 : Try.prog.plainKey 9 = true := by kernel_rfl
theorem fi_any (M M' : Msg) (w : World) (i t d : Nat) (hi : i < 42) (hp : Try.prog.plainKey t = true) (ht : Try.prog.underlying t = some (.int .i64)) (e : ∀ M : Msg, M.cell i = .int .i64 (M.z i)) :
    ∃ u v r, (part t M.cs i).run Try.prog w = .ok u w ∧ (part t M'.cs i).run Try.prog w = .ok v w ∧ (Op.equalIn (d + 1) t u v).run Try.prog w = .ok r w ∧ (r = true ↔ M.cell i = M'.cell i) :=
  ⟨_, _, M.z i == M'.z i, run_part_plain w hp (M.cs_get i hi), run_part_plain w hp (M'.cs_get i hi), by rw [e, e]; exact run_equalIn_int w d t .i64 .i64 _ _ ht, by rw [e, e]; simp⟩
theorem str_iff (a b : ByteArray) : (a.toList == b.toList) = true ↔ Value.string a = Value.string b := by
  rw [beq_iff_eq, ByteArray.toList_eq, ByteArray.toList_eq, Value.string.injEq]
  obtain ⟨⟨x⟩⟩ := a
  obtain ⟨⟨y⟩⟩ := b
  simp
theorem fs_any (M M' : Msg) (w : World) (i d : Nat) (hi : i < 42) (e : ∀ M : Msg, M.cell i = .string (M.s i)) :
    ∃ u v r, (part 9 M.cs i).run Try.prog w = .ok u w ∧ (part 9 M'.cs i).run Try.prog w = .ok v w ∧ (Op.equalIn (d + 1) 9 u v).run Try.prog w = .ok r w ∧ (r = true ↔ M.cell i = M'.cell i) :=
  ⟨_, _, (M.s i).toList == (M'.s i).toList, run_part_plain w pl9 (M.cs_get i hi), run_part_plain w pl9 (M'.cs_get i hi), by rw [e, e]; exact run_equalIn_string w d 9 _ _ Try.underlying9, by rw [e, e]; exact str_iff _ _⟩
theorem fb_any (M M' : Msg) (w : World) (i d : Nat) (hi : i < 42) (e : ∀ M : Msg, M.cell i = .bool (M.b i)) :
    ∃ u v r, (part 4 M.cs i).run Try.prog w = .ok u w ∧ (part 4 M'.cs i).run Try.prog w = .ok v w ∧ (Op.equalIn (d + 1) 4 u v).run Try.prog w = .ok r w ∧ (r = true ↔ M.cell i = M'.cell i) :=
  ⟨_, _, M.b i == M'.b i, run_part_plain w pl4 (M.cs_get i hi), run_part_plain w pl4 (M'.cs_get i hi), by rw [e, e]; exact run_equalIn_bool' w d 4 _ _ Try.underlying4, by rw [e, e]; simp⟩
set_option maxRecDepth 100000 in
theorem fld_any (M M' : Msg) (w : World) (i d : Nat) (hi : i < 42) : ∃ u v r, (part (tyL.getD i 0) M.cs i).run Try.prog w = .ok u w ∧ (part (tyL.getD i 0) M'.cs i).run Try.prog w = .ok v w ∧ (Op.equalIn (d + 1) (tyL.getD i 0) u v).run Try.prog w = .ok r w ∧ (r = true ↔ M.cell i = M'.cell i) := by
  rcases cases42 hi with rfl | rfl | rfl | rfl | rfl | rfl | rfl | rfl | rfl | rfl | rfl | rfl | rfl | rfl | rfl | rfl | rfl | rfl | rfl | rfl | rfl | rfl | rfl | rfl | rfl | rfl | rfl | rfl | rfl | rfl | rfl | rfl | rfl | rfl | rfl | rfl | rfl | rfl | rfl | rfl | rfl | rfl
  · exact fi_any M M' w 0 3 d hi pl3 Try.underlying3 (fun _ => rfl)
  · exact fs_any M M' w 1 d hi (fun _ => rfl)
  · exact fs_any M M' w 2 d hi (fun _ => rfl)
  · exact fi_any M M' w 3 3 d hi pl3 Try.underlying3 (fun _ => rfl)
  · exact fb_any M M' w 4 d hi (fun _ => rfl)
  · exact fi_any M M' w 5 2 d hi pl2 Try.underlying2 (fun _ => rfl)
  · exact fi_any M M' w 6 2 d hi pl2 Try.underlying2 (fun _ => rfl)
  · exact fi_any M M' w 7 3 d hi pl3 Try.underlying3 (fun _ => rfl)
  · exact fb_any M M' w 8 d hi (fun _ => rfl)
  · exact fs_any M M' w 9 d hi (fun _ => rfl)
  · exact fi_any M M' w 10 3 d hi pl3 Try.underlying3 (fun _ => rfl)
  · exact fi_any M M' w 11 3 d hi pl3 Try.underlying3 (fun _ => rfl)
  · exact fi_any M M' w 12 3 d hi pl3 Try.underlying3 (fun _ => rfl)
  · exact fb_any M M' w 13 d hi (fun _ => rfl)
  · exact fi_any M M' w 14 3 d hi pl3 Try.underlying3 (fun _ => rfl)
  · exact fi_any M M' w 15 3 d hi pl3 Try.underlying3 (fun _ => rfl)
  · exact fi_any M M' w 16 3 d hi pl3 Try.underlying3 (fun _ => rfl)
  · exact fi_any M M' w 17 3 d hi pl3 Try.underlying3 (fun _ => rfl)
  · exact fs_any M M' w 18 d hi (fun _ => rfl)
  · exact fs_any M M' w 19 d hi (fun _ => rfl)
  · exact fs_any M M' w 20 d hi (fun _ => rfl)
  · exact fs_any M M' w 21 d hi (fun _ => rfl)
  · exact fs_any M M' w 22 d hi (fun _ => rfl)
  · exact fi_any M M' w 23 3 d hi pl3 Try.underlying3 (fun _ => rfl)
  · exact fi_any M M' w 24 3 d hi pl3 Try.underlying3 (fun _ => rfl)
  · exact fi_any M M' w 25 3 d hi pl3 Try.underlying3 (fun _ => rfl)
  · exact fi_any M M' w 26 2 d hi pl2 Try.underlying2 (fun _ => rfl)
  · exact fi_any M M' w 27 2 d hi pl2 Try.underlying2 (fun _ => rfl)
  · exact fi_any M M' w 28 2 d hi pl2 Try.underlying2 (fun _ => rfl)
  · exact fi_any M M' w 29 2 d hi pl2 Try.underlying2 (fun _ => rfl)
  · exact fi_any M M' w 30 2 d hi pl2 Try.underlying2 (fun _ => rfl)
  · exact fi_any M M' w 31 3 d hi pl3 Try.underlying3 (fun _ => rfl)
  · exact fi_any M M' w 32 3 d hi pl3 Try.underlying3 (fun _ => rfl)
  · exact fi_any M M' w 33 3 d hi pl3 Try.underlying3 (fun _ => rfl)
  · exact fi_any M M' w 34 3 d hi pl3 Try.underlying3 (fun _ => rfl)
  · exact fi_any M M' w 35 3 d hi pl3 Try.underlying3 (fun _ => rfl)
  · exact fi_any M M' w 36 2 d hi pl2 Try.underlying2 (fun _ => rfl)
  · exact fi_any M M' w 37 2 d hi pl2 Try.underlying2 (fun _ => rfl)
  · exact fi_any M M' w 38 2 d hi pl2 Try.underlying2 (fun _ => rfl)
  · exact fi_any M M' w 39 2 d hi pl2 Try.underlying2 (fun _ => rfl)
  · exact fi_any M M' w 40 3 d hi pl3 Try.underlying3 (fun _ => rfl)
  · exact fi_any M M' w 41 3 d hi pl3 Try.underlying3 (fun _ => rfl)
set_option maxRecDepth 100000 in
theorem fld_nm : (Try.prog.fieldsOf 34).toList.all (fun f => f.name != "_") = true := by kernel_rfl
theorem msg_eq_any (M M' : Msg) (w : World) (d : Nat) : ∃ r, (Op.equalIn (d + 1 + 1) 34 (.agg M.cs) (.agg M'.cs)).run Try.prog w = .ok r w ∧ (r = true ↔ M.cs = M'.cs) := by
  rw [run_equalIn_agg w (d + 1) 34 _ _ (by kernel_rfl) (by kernel_rfl)]
  have hl : (Try.prog.fieldsOf 34).toList.length = 42 := by kernel_rfl
  have hat : ∀ i (hi : i < (Try.prog.fieldsOf 34).toList.length), (Try.prog.fieldsOf 34).toList[i].type = tyL.getD i 0 ∧ (Try.prog.fieldsOf 34).toList[i].offset = i := fun i hi => by
    have hi' : i < 42 := by omega
    have h1 := congrArg (·[i]?) fld_at
    simp only [List.getElem?_map, List.getElem?_eq_getElem hi, List.getElem?_range hi', Option.map_some, Option.some.injEq, Prod.mk.injEq] at h1
    exact h1
  obtain ⟨r, h1, h2⟩ := eqFields_any (xs := M.cs) (ys := M'.cs) (w := w) (d + 1) (fun f => M.cell f.offset = M'.cell f.offset) (Try.prog.fieldsOf 34).toList fun f hf => by
    refine ⟨by have := List.all_eq_true.1 fld_nm f hf; simpa using this, ?_⟩
    obtain ⟨i, hi, rfl⟩ := List.getElem_of_mem hf
    rw [(hat i hi).1, (hat i hi).2]
    exact fld_any M M' w i d (by omega)
  refine ⟨r, h1, h2.trans ⟨fun h => ?_, fun h f hf => ?_⟩⟩
  · apply Array.ext_getElem?
    intro i
    by_cases hi : i < 42
    · rw [M.cs_get i hi, M'.cs_get i hi]
      have hi' : i < (Try.prog.fieldsOf 34).toList.length := by omega
      have := h _ (List.getElem_mem hi')
      rw [(hat i hi').2] at this
      rw [this]
    · rw [Array.getElem?_eq_none (by rw [M.cs_size]; omega), Array.getElem?_eq_none (by rw [M'.cs_size]; omega)]
  · obtain ⟨i, hi, rfl⟩ := List.getElem_of_mem hf
    rw [(hat i hi).2]
    have e := congrArg (·[i]?) h
    simp only [M.cs_get i (by omega), M'.cs_get i (by omega), Option.some.injEq] at e
    exact e
/-- Two messages, compared: one answer, in every world. -/
theorem eqM_any (M M' : Msg) {op : Oper} {a : Act} (x y : Operand) (ho : op.op = .binOp .eql 34 x y 34) (hx : a.eval x = .agg M.cs) (hy : a.eval y = .agg M'.cs) (b : Bool) (hb : b = true ↔ M.cs = M'.cs) (w : World) : (execOp a.eval op).run Try.prog w = .ok (.value (.bool b)) w := by
  obtain ⟨r, h1, h2⟩ := msg_eq_any M M' w 9998
  obtain rfl : r = b := Bool.eq_iff_iff.2 (h2.trans hb.symm)
  have hgd : (eqGuard .eql 34 x y (.agg M.cs) (.agg M'.cs)).run Try.prog w = .ok () w := run_eqGuard_agg (P := Try.prog) w .eql 34 x y _ _ (by kernel_rfl)
  have he : (binOp .eql 34 (.agg M.cs) (.agg M'.cs)).run Try.prog w = .ok (.bool r) w := by rw [run_eql_struct, h1]; rfl
  unfold execOp
  simp only [ho, hx, hy, Sem.run_bind, hgd, Result.andThen_ok, he]
  rfl
theorem neqM_any (M M' : Msg) {op : Oper} {a : Act} (x y : Operand) (ho : op.op = .binOp .neq 34 x y 34) (hx : a.eval x = .agg M.cs) (hy : a.eval y = .agg M'.cs) (b : Bool) (hb : b = true ↔ M.cs ≠ M'.cs) (w : World) : (execOp a.eval op).run Try.prog w = .ok (.value (.bool b)) w := by
  obtain ⟨r, h1, h2⟩ := msg_eq_any M M' w 9998
  obtain rfl : (!r) = b := Bool.eq_iff_iff.2 (by rw [hb, ne_eq, ← h2]; simp)
  have hgd : (eqGuard .neq 34 x y (.agg M.cs) (.agg M'.cs)).run Try.prog w = .ok () w := run_eqGuard_agg (P := Try.prog) w .neq 34 x y _ _ (by kernel_rfl)
  have he : (binOp .neq 34 (.agg M.cs) (.agg M'.cs)).run Try.prog w = .ok (.bool (!r)) w := by rw [run_neq_struct, h1]; rfl
  unfold execOp
  simp only [ho, hx, hy, Sem.run_bind, hgd, Result.andThen_ok, he]
  rfl
/-- A part's cells. -/
def ptM (p : Pt Msg) : Msg := p.m.getD zeroM
def ptL (p : Pt Msg) : List Value := [.int .i64 (p.fr : Int), .int .i64 (p.to : Int), .bool p.lost] ++ (ptM p).cs.toList
theorem ptL_len (p : Pt Msg) : (ptL p).length = 45 := by simp [ptL, Msg.cs]
theorem part_msg (p : Pt Msg) (w : World) : (part 34 (ptL p).toArray 3).run Try.prog w = .ok (.agg (ptM p).cs) w := by
  have hi : (Try.prog.info? 34).map (·.size) = some 42 := by kernel_rfl
  have hu : Try.prog.underlying 34 = some (.struct (Try.prog.fieldsOf 34)) := by kernel_rfl
  cases hq : Try.prog.info? 34 with
  | none => rw [hq] at hi; cases hi
  | some i =>
    have hs : i.size = 42 := by rw [hq] at hi; simpa using hi
    have hex : List.take 42 (List.drop 3 (ptL p)) = (ptM p).cs.toList := by
      show List.take 42 ((ptM p).cs.toList) = _
      rw [List.take_of_length_le (by rw [Msg.cs_len]; decide)]
    have hagg : (isAgg 34).run Try.prog w = .ok true w := by
      unfold isAgg
      rw [Sem.run_bind, run_underlying hu w]
      simp
    simp [part, Sem.run_bind, hagg, sizeOf, typeInfo, hq, hs, hex]
set_option maxRecDepth 100000 in
theorem pt_at : (Try.prog.fieldsOf 36).toList.map (fun f => (f.type, f.offset, f.name != "_")) = [(3, 0, true), (3, 1, true), (4, 2, true), (34, 3, true)] := by kernel_rfl
theorem pt_eq_any (p q : Pt Msg) (w : World) : ∃ r, (Op.equalIn 10000 36 (.agg (ptL p).toArray) (.agg (ptL q).toArray)).run Try.prog w = .ok r w ∧ (r = true ↔ ptL p = ptL q) := by
  rw [run_equalIn_agg w 9999 36 _ _ (by kernel_rfl) (by kernel_rfl)]
  obtain ⟨rm, hm1, hm2⟩ := msg_eq_any (ptM p) (ptM q) w 9997
  obtain ⟨r, h1, h2⟩ := eqFields_any (xs := (ptL p).toArray) (ys := (ptL q).toArray) (w := w) 9999 (fun f => if f.offset = 0 then p.fr = q.fr else if f.offset = 1 then p.to = q.to else if f.offset = 2 then p.lost = q.lost else (ptM p).cs = (ptM q).cs) (Try.prog.fieldsOf 36).toList fun f hf => by
    have hmem : (f.type, f.offset, f.name != "_") ∈ (Try.prog.fieldsOf 36).toList.map (fun f => (f.type, f.offset, f.name != "_")) := List.mem_map.2 ⟨f, hf, rfl⟩
    rw [pt_at] at hmem
    simp only [List.mem_cons, Prod.mk.injEq, List.not_mem_nil, or_false] at hmem
    rcases hmem with ⟨e1, e2, e3⟩ | ⟨e1, e2, e3⟩ | ⟨e1, e2, e3⟩ | ⟨e1, e2, e3⟩
    · refine ⟨by simpa using e3, .int .i64 p.fr, .int .i64 q.fr, (p.fr : Int) == (q.fr : Int), ?_, ?_, ?_, ?_⟩
      · rw [e1, e2]; exact run_part_plain w pl3 rfl
      · rw [e1, e2]; exact run_part_plain w pl3 rfl
      · rw [e1]; exact run_equalIn_int w 9998 3 .i64 .i64 _ _ Try.underlying3
      · rw [e2, if_pos rfl, beq_iff_eq]; omega
    · refine ⟨by simpa using e3, .int .i64 p.to, .int .i64 q.to, (p.to : Int) == (q.to : Int), ?_, ?_, ?_, ?_⟩
      · rw [e1, e2]; exact run_part_plain w pl3 rfl
      · rw [e1, e2]; exact run_part_plain w pl3 rfl
      · rw [e1]; exact run_equalIn_int w 9998 3 .i64 .i64 _ _ Try.underlying3
      · rw [e2, if_neg (by decide), if_pos rfl, beq_iff_eq]; omega
    · refine ⟨by simpa using e3, .bool p.lost, .bool q.lost, p.lost == q.lost, ?_, ?_, ?_, ?_⟩
      · rw [e1, e2]; exact run_part_plain w pl4 rfl
      · rw [e1, e2]; exact run_part_plain w pl4 rfl
      · rw [e1]; exact run_equalIn_bool' w 9998 4 _ _ Try.underlying4
      · rw [e2, if_neg (by decide), if_neg (by decide), if_pos rfl, beq_iff_eq]
    · refine ⟨by simpa using e3, .agg (ptM p).cs, .agg (ptM q).cs, rm, ?_, ?_, ?_, ?_⟩
      · rw [e1, e2]; exact part_msg p w
      · rw [e1, e2]; exact part_msg q w
      · rw [e1]; exact hm1
      · rw [e2, if_neg (by decide), if_neg (by decide), if_neg (by decide)]; exact hm2
  refine ⟨r, h1, h2.trans ⟨fun h => ?_, fun h f hf => ?_⟩⟩
  · have each : ∀ (t o : Nat), (t, o, true) ∈ (Try.prog.fieldsOf 36).toList.map (fun f => (f.type, f.offset, f.name != "_")) → (if o = 0 then p.fr = q.fr else if o = 1 then p.to = q.to else if o = 2 then p.lost = q.lost else (ptM p).cs = (ptM q).cs) := fun t o hto => by
      obtain ⟨f, hf, e⟩ := List.mem_map.1 hto
      injection e with e1 e2
      injection e2 with e2 e3
      have := h f hf
      rw [e2] at this
      exact this
    rw [pt_at] at each
    have e0 := each 3 0 (by simp)
    have e1 := each 3 1 (by simp)
    have e2 := each 4 2 (by simp)
    have e3 := each 34 3 (by simp)
    simp at e0 e1 e2 e3
    unfold ptL
    rw [e0, e1, e2, e3]
  · unfold ptL at h
    simp only [List.cons_append, List.nil_append, List.cons.injEq, Value.int.injEq, Value.bool.injEq, true_and] at h
    obtain ⟨a1, a2, a3, a4⟩ := h
    have a4' : (ptM p).cs = (ptM q).cs := Array.ext' a4
    split
    · omega
    · split
      · omega
      · split
        · exact a3
        · exact a4'
theorem neqP_any (p q : Pt Msg) {op : Oper} {a : Act} (x y : Operand) (ho : op.op = .binOp .neq 36 x y 36) (hx : a.eval x = .agg (ptL p).toArray) (hy : a.eval y = .agg (ptL q).toArray) (b : Bool) (hb : b = true ↔ ptL p ≠ ptL q) (w : World) : (execOp a.eval op).run Try.prog w = .ok (.value (.bool b)) w := by
  obtain ⟨r, h1, h2⟩ := pt_eq_any p q w
  obtain rfl : (!r) = b := Bool.eq_iff_iff.2 (by rw [hb, ne_eq, ← h2]; simp)
  have hgd : (eqGuard .neq 36 x y (.agg (ptL p).toArray) (.agg (ptL q).toArray)).run Try.prog w = .ok () w := run_eqGuard_agg (P := Try.prog) w .neq 36 x y _ _ (by kernel_rfl)
  have he : (binOp .neq 36 (.agg (ptL p).toArray) (.agg (ptL q).toArray)).run Try.prog w = .ok (.bool (!r)) w := by rw [run_neq_struct, h1]; rfl
  unfold execOp
  simp only [ho, hx, hy, Sem.run_bind, hgd, Result.andThen_ok, he]
  rfl
end Go.Proofs.Ytekkckfoikpljaa
