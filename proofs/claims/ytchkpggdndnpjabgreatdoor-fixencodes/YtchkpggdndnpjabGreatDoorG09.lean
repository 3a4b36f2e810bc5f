import Derived.Test.YtchkpggdndnpjabGreatDoorG07
import Derived.Test.YtchkpggdndnpjabGreatDoorG08
import Derived.Great.Walk
import Derived.Deep.WholeRow
import Derived.OpenShut
import Derived.Laws.StructEq
import Derived.ChangeKeysEq
import Derived.Test.YtchkpggdndnpjabGreatDoorG00
import Derived.Lib.ItoaMem
import Derived.Shelf.LaysM
import Derived.Shelf.Strconv.Itoa4
import Derived.Test.YtchkpggdndnpjabGreatDoorProg
import Derived.Lib.Walk
import Derived.BigCall
import Derived.BigGuard
import Derived.WalkLawsBesides
import Derived.Deep.QuietTactic
import Derived.BigQuiet
import Derived.Deep.RegionWith

namespace Go.Proofs.YtchkpggdndnpjabGreatDoor
set_option linter.unusedVariables false
open Go.RowKit Go.Great

/-- A message that lies in a block of its own. -/
def OwnM (w : World) (g : Nat) (M : Msg) : Prop := w.heap[g]? = some (.cells M.cs 23 (0, 0))
theorem OwnM.lt {w : World} {g : Nat} {M : Msg} (h : OwnM w g M) : g < w.heap.size := (Array.getElem?_eq_some_iff.1 h).1
theorem OwnM.below {w w' : World} {B g : Nat} {M : Msg} (h : OwnM w g M) (hb : Below B w w') (hg : g < B) : OwnM w' g M := (hb.block g hg).trans h
theorem OwnM.load {w : World} {g : Nat} {M : Msg} (h : OwnM w g M) : Sem.run Tryz.prog (loadVar 23 ⟨g, 0, none⟩) w = .ok (.agg M.cs) w :=
  run_loadVar_row w g 23 23 M.cs (0, 0) _ h Tryz.underlying23 rfl (by rw [M.cs_size]; kernel_rfl)
theorem wpList_loadM {ops : Array Oper} {rest : List Oper} {op : Oper} {a : Act} {w : World} {Q : Exit → Act → World → Prop} {g : Nat} {M : Msg} (h : OwnM w g M) (x : Operand) (hgd : op.guard = none) (ho : op.op = .load 23 x)
    (hx : a.eval x = .pointer (some ⟨g, 0, none⟩)) (hn : wpList Tryz.prog ops Q rest (a.put op.dst (.agg M.cs)) w) : wpList Tryz.prog ops Q (op :: rest) a w :=
  wpList_load_row hgd 23 x ho g hx 23 M.cs (0, 0) _ h Tryz.underlying23 rfl (by rw [M.cs_size]; kernel_rfl) hn
theorem OwnM.cell {w : World} {g : Nat} {M : Msg} (h : OwnM w g M) (k : Nat) (hk : k < 42) : w.cell? ⟨g, k, none⟩ = some (M.cell k) := by
  rw [cell_of_row _ _ _ _ _ _ h]; exact M.cs_get k hk
theorem OwnM.frozen {w : World} {g : Nat} {M : Msg} (h : OwnM w g M) (k : Nat) : w.frozen? ⟨g, k, none⟩ = false := frozen_of_row w g k _ _ h
theorem OwnM.store {w : World} {g : Nat} {M M' : Msg} {k : Nat} {v : Value} (h : OwnM w g M) (e : M.cs.setIfInBounds k v = M'.cs) : OwnM (w.setCell ⟨g, k, none⟩ v) g M' := by
  unfold OwnM
  rw [setCell_eq_setRow w g k _ _ _ v h, e]
  exact setRow_heap _ _ _ _ _ _ h
theorem OwnM.stays {w : World} {g B : Nat} {M : Msg} {k : Nat} {v : Value} (h : OwnM w g M) (hB : B ≤ g) : Below B w (w.setCell ⟨g, k, none⟩ v) := by
  rw [setCell_eq_setRow w g k _ _ _ v h]
  exact below_setRow (Below.refl _ _) hB _
def zeroM : Msg := ⟨fun _ => 0, fun _ => ⟨#[]⟩, fun _ => false⟩
end Go.Proofs.YtchkpggdndnpjabGreatDoor

namespace Go.Proofs.YtchkpggdndnpjabGreatDoor
set_option linter.unusedVariables false
open Go.RowKit Go.Great

theorem cs_set (M M' : Msg) (k : Nat) (hk : k < 42) (v : Value) (h1 : M'.cell k = v) (h2 : ∀ i, i ≠ k → M'.cell i = M.cell i) : M.cs.setIfInBounds k v = M'.cs := by
  apply Array.ext_getElem?
  intro i
  by_cases hi : i < 42
  · rw [Msg.cs_get _ _ hi]
    by_cases hik : i = k
    · subst hik
      rw [Array.getElem?_setIfInBounds_self_of_lt (by rw [Msg.cs_size]; exact hi), h1]
    · rw [Array.getElem?_setIfInBounds_ne (fun h => hik h.symm), Msg.cs_get _ _ hi, h2 i hik]
  · rw [Array.getElem?_eq_none (by simp [Msg.cs_size]; omega), Array.getElem?_eq_none (by rw [Msg.cs_size]; omega)]
theorem Msg.cs_one (M : Msg) : M.cs.all (·.oneCell') = true := by
  rw [Array.all_eq_true]
  intro i hi
  have hi' : i < 42 := by rw [M.cs_size] at hi; exact hi
  have := M.cs_get i hi'
  rw [Array.getElem?_eq_getElem hi] at this
  rw [Option.some.inj this]
  unfold Msg.cell
  split
  · rfl
  · split <;> rfl
def Msg.setZ (M : Msg) (k : Nat) (z : Int) : Msg := ⟨fun i => if i = k then z else M.z i, M.s, M.b⟩
def Msg.setS (M : Msg) (k : Nat) (s : ByteArray) : Msg := ⟨M.z, fun i => if i = k then s else M.s i, M.b⟩
def Msg.setB (M : Msg) (k : Nat) (b : Bool) : Msg := ⟨M.z, M.s, fun i => if i = k then b else M.b i⟩
theorem cs_setZ (M : Msg) (k : Nat) (z : Int) (hk : k < 42) (hs : isStr k = false) (hb : isBoo k = false) : M.cs.setIfInBounds k (.int .i64 z) = (M.setZ k z).cs := by
  refine cs_set M _ k hk _ ?_ fun i hi => ?_
  · simp [Msg.cell, hs, hb, Msg.setZ]
  · simp [Msg.cell, Msg.setZ, hi]
theorem cs_setS (M : Msg) (k : Nat) (s : ByteArray) (hk : k < 42) (hs : isStr k = true) : M.cs.setIfInBounds k (.string s) = (M.setS k s).cs := by
  refine cs_set M _ k hk _ ?_ fun i hi => ?_
  · simp [Msg.cell, hs, Msg.setS]
  · simp [Msg.cell, Msg.setS, hi]
theorem cs_setB (M : Msg) (k : Nat) (b : Bool) (hk : k < 42) (hs : isStr k = false) (hb : isBoo k = true) : M.cs.setIfInBounds k (.bool b) = (M.setB k b).cs := by
  refine cs_set M _ k hk _ ?_ fun i hi => ?_
  · simp [Msg.cell, hs, hb, Msg.setB]
  · simp [Msg.cell, Msg.setB, hi]
/-- A valid message: its kind is one, no row is wrong, all fits. -/
theorem val_ok {M : Msg} (h : valE M = 0) : isK (M.z 0) = true ∧ (∀ j, j < 42 → errAt M j = 0) ∧ fitN M = 0 := by
  unfold valE at h
  cases hK : isK (M.z 0)
  · rw [hK] at h; simp at h
  · rw [hK] at h
    simp only [reduceIte] at h
    cases hf : firstErr M with
    | some j =>
      rw [hf] at h
      unfold firstErr at hf
      rw [List.find?_range_eq_some] at hf
      simp [h] at hf
    | none =>
      rw [hf] at h
      unfold firstErr at hf
      rw [List.find?_range_eq_none] at hf
      refine ⟨rfl, fun j hj => by simpa using hf j hj, ?_⟩
      by_cases h0 : fitN M = 0
      · exact h0
      · simp [h0] at h
theorem val_of {M : Msg} (hK : isK (M.z 0) = true) (h : ∀ j, j < 42 → errAt M j = 0) (hf : fitN M = 0) : valE M = 0 ∧ valN M = 0 := by
  simp [valE, valN, hK, firstErr_none h, hf]
theorem val_err {M : Msg} {k : Nat} (hK : isK (M.z 0) = true) (hk : k < 42) (h : ∀ j, j < k → errAt M j = 0) (he : errAt M k ≠ 0) : valE M = errAt M k ∧ valN M = tNum.getD k 0 := by
  simp [valE, valN, hK, firstErr_some hk h he]
theorem all_has (z : Int) (h : isK z = true) : (262142 : Nat).testBit z.toNat = true := by
  simp [isK] at h
  obtain ⟨y, hy⟩ : ∃ y : Nat, z = y := ⟨z.toNat, by omega⟩
  subst hy
  have : y = 1 ∨ y = 2 ∨ y = 3 ∨ y = 4 ∨ y = 5 ∨ y = 6 ∨ y = 7 ∨ y = 8 ∨ y = 9 ∨ y = 10 ∨ y = 11 ∨ y = 12 ∨ y = 13 ∨ y = 14 ∨ y = 15 ∨ y = 16 ∨ y = 17 := by omega
  rcases this with rfl | rfl | rfl | rfl | rfl | rfl | rfl | rfl | rfl | rfl | rfl | rfl | rfl | rfl | rfl | rfl | rfl <;> decide

end Go.Proofs.YtchkpggdndnpjabGreatDoor

namespace Go.Proofs.YtchkpggdndnpjabGreatDoor
set_option linter.unusedVariables false
open Go.RowKit Go.Great

theorem eqFields_self {xs : Array Value} {w : World} (d : Nat) : ∀ fs : List Field, (∀ f ∈ fs, ∃ v, (part f.type xs f.offset).run Tryz.prog w = .ok v w ∧ (Op.equalIn d f.type v v).run Tryz.prog w = .ok true w) → (Op.eqFields d xs xs fs).run Tryz.prog w = .ok true w
  | [], _ => by simp [Op.eqFields]
  | f :: fs, h => by
    obtain ⟨v, h1, h2⟩ := h f (by simp)
    have ih := eqFields_self d fs (fun g hg => h g (by simp [hg]))
    simp only [Op.eqFields, Sem.run_bind, Sem.run_ite, h1, h2, Result.andThen_ok, ih]
    split <;> simp
def tyL : List Nat := [3, 9, 9, 3, 4, 2, 2, 3, 4, 9, 3, 3, 3, 4, 3, 3, 3, 3, 9, 9, 9, 9, 9, 3, 3, 3, 2, 2, 2, 2, 2, 3, 3, 3, 3, 3, 2, 2, 2, 2, 3, 3]
set_option maxRecDepth 100000 in
theorem fld_at : (Tryz.prog.fieldsOf 23).toList.map (fun f => (f.type, f.offset)) = (List.range 42).map fun i => (tyL.getD i 0, i) := by kernel_rfl
theorem eq_int (z : Int) (w : World) (t : TypeId) (ht : Tryz.prog.underlying t = some (.int .i64)) : (Op.equalIn 9999 t (.int .i64 z) (.int .i64 z)).run Tryz.prog w = .ok true w := by
  rw [run_equalIn_int w 9998 t .i64 .i64 z z ht]; simp
theorem eq_str (s : ByteArray) (w : World) : (Op.equalIn 9999 9 (.string s) (.string s)).run Tryz.prog w = .ok true w := by
  rw [run_equalIn_string w 9998 9 s s Tryz.underlying9]; simp
theorem eq_boo (b : Bool) (w : World) : (Op.equalIn 9999 4 (.bool b) (.bool b)).run Tryz.prog w = .ok true w := by
  rw [run_equalIn_bool' w 9998 4 b b Tryz.underlying4]; simp
theorem pl2 : Tryz.prog.plainKey 2 = true := by kernel_rfl
theorem pl3 : Tryz.prog.plainKey 3 = true := by kernel_rfl
theorem pl4 : Tryz.prog.plainKey 4 = true := by kernel_rfl
theorem pl9 : Tryz.prog.plainKey 9 = true := by kernel_rfl
theorem fld_eq (M : Msg) (w : World) (i : Nat) (hi : i < 42) : ∃ v, (part (tyL.getD i 0) M.cs i).run Tryz.prog w = .ok v w ∧ (Op.equalIn 9999 (tyL.getD i 0) v v).run Tryz.prog w = .ok true w := by
  have hx := M.cs_get i hi
  rcases cases42 hi with rfl | rfl | rfl | rfl | rfl | rfl | rfl | rfl | rfl | rfl | rfl | rfl | rfl | rfl | rfl | rfl | rfl | rfl | rfl | rfl | rfl | rfl | rfl | rfl | rfl | rfl | rfl | rfl | rfl | rfl | rfl | rfl | rfl | rfl | rfl | rfl | rfl | rfl | rfl | rfl | rfl | rfl
  · exact ⟨.int .i64 (M.z 0), run_part_plain w pl3 hx, eq_int _ w 3 Tryz.underlying3⟩
  · exact ⟨.string (M.s 1), run_part_plain w pl9 hx, eq_str _ w⟩
  · exact ⟨.string (M.s 2), run_part_plain w pl9 hx, eq_str _ w⟩
  · exact ⟨.int .i64 (M.z 3), run_part_plain w pl3 hx, eq_int _ w 3 Tryz.underlying3⟩
  · exact ⟨.bool (M.b 4), run_part_plain w pl4 hx, eq_boo _ w⟩
  · exact ⟨.int .i64 (M.z 5), run_part_plain w pl2 hx, eq_int _ w 2 Tryz.underlying2⟩
  · exact ⟨.int .i64 (M.z 6), run_part_plain w pl2 hx, eq_int _ w 2 Tryz.underlying2⟩
  · exact ⟨.int .i64 (M.z 7), run_part_plain w pl3 hx, eq_int _ w 3 Tryz.underlying3⟩
  · exact ⟨.bool (M.b 8), run_part_plain w pl4 hx, eq_boo _ w⟩
  · exact ⟨.string (M.s 9), run_part_plain w pl9 hx, eq_str _ w⟩
  · exact ⟨.int .i64 (M.z 10), run_part_plain w pl3 hx, eq_int _ w 3 Tryz.underlying3⟩
  · exact ⟨.int .i64 (M.z 11), run_part_plain w pl3 hx, eq_int _ w 3 Tryz.underlying3⟩
  · exact ⟨.int .i64 (M.z 12), run_part_plain w pl3 hx, eq_int _ w 3 Tryz.underlying3⟩
  · exact ⟨.bool (M.b 13), run_part_plain w pl4 hx, eq_boo _ w⟩
  · exact ⟨.int .i64 (M.z 14), run_part_plain w pl3 hx, eq_int _ w 3 Tryz.underlying3⟩
  · exact ⟨.int .i64 (M.z 15), run_part_plain w pl3 hx, eq_int _ w 3 Tryz.underlying3⟩
  · exact ⟨.int .i64 (M.z 16), run_part_plain w pl3 hx, eq_int _ w 3 Tryz.underlying3⟩
  · exact ⟨.int .i64 (M.z 17), run_part_plain w pl3 hx, eq_int _ w 3 Tryz.underlying3⟩
  · exact ⟨.string (M.s 18), run_part_plain w pl9 hx, eq_str _ w⟩
  · exact ⟨.string (M.s 19), run_part_plain w pl9 hx, eq_str _ w⟩
  · exact ⟨.string (M.s 20), run_part_plain w pl9 hx, eq_str _ w⟩
  · exact ⟨.string (M.s 21), run_part_plain w pl9 hx, eq_str _ w⟩
  · exact ⟨.string (M.s 22), run_part_plain w pl9 hx, eq_str _ w⟩
  · exact ⟨.int .i64 (M.z 23), run_part_plain w pl3 hx, eq_int _ w 3 Tryz.underlying3⟩
  · exact ⟨.int .i64 (M.z 24), run_part_plain w pl3 hx, eq_int _ w 3 Tryz.underlying3⟩
  · exact ⟨.int .i64 (M.z 25), run_part_plain w pl3 hx, eq_int _ w 3 Tryz.underlying3⟩
  · exact ⟨.int .i64 (M.z 26), run_part_plain w pl2 hx, eq_int _ w 2 Tryz.underlying2⟩
  · exact ⟨.int .i64 (M.z 27), run_part_plain w pl2 hx, eq_int _ w 2 Tryz.underlying2⟩
  · exact ⟨.int .i64 (M.z 28), run_part_plain w pl2 hx, eq_int _ w 2 Tryz.underlying2⟩
  · exact ⟨.int .i64 (M.z 29), run_part_plain w pl2 hx, eq_int _ w 2 Tryz.underlying2⟩
  · exact ⟨.int .i64 (M.z 30), run_part_plain w pl2 hx, eq_int _ w 2 Tryz.underlying2⟩
  · exact ⟨.int .i64 (M.z 31), run_part_plain w pl3 hx, eq_int _ w 3 Tryz.underlying3⟩
  · exact ⟨.int .i64 (M.z 32), run_part_plain w pl3 hx, eq_int _ w 3 Tryz.underlying3⟩
  · exact ⟨.int .i64 (M.z 33), run_part_plain w pl3 hx, eq_int _ w 3 Tryz.underlying3⟩
  · exact ⟨.int .i64 (M.z 34), run_part_plain w pl3 hx, eq_int _ w 3 Tryz.underlying3⟩
  · exact ⟨.int .i64 (M.z 35), run_part_plain w pl3 hx, eq_int _ w 3 Tryz.underlying3⟩
  · exact ⟨.int .i64 (M.z 36), run_part_plain w pl2 hx, eq_int _ w 2 Tryz.underlying2⟩
  · exact ⟨.int .i64 (M.z 37), run_part_plain w pl2 hx, eq_int _ w 2 Tryz.underlying2⟩
  · exact ⟨.int .i64 (M.z 38), run_part_plain w pl2 hx, eq_int _ w 2 Tryz.underlying2⟩
  · exact ⟨.int .i64 (M.z 39), run_part_plain w pl2 hx, eq_int _ w 2 Tryz.underlying2⟩
  · exact ⟨.int .i64 (M.z 40), run_part_plain w pl3 hx, eq_int _ w 3 Tryz.underlying3⟩
  · exact ⟨.int .i64 (M.z 41), run_part_plain w pl3 hx, eq_int _ w 3 Tryz.underlying3⟩
theorem msg_eq (M : Msg) (w : World) : (Op.equalIn 10000 23 (.agg M.cs) (.agg M.cs)).run Tryz.prog w = .ok true w := by
  rw [run_equalIn_agg w 9999 23 _ _ (by kernel_rfl) (by kernel_rfl)]
  refine eqFields_self 9999 _ fun f hf => ?_
  obtain ⟨i, hi, rfl⟩ := List.getElem_of_mem hf
  have hl : (Tryz.prog.fieldsOf 23).toList.length = 42 := by kernel_rfl
  have hi' : i < 42 := by omega
  have h1 := congrArg (·[i]?) fld_at
  simp only [List.getElem?_map, List.getElem?_eq_getElem hi, List.getElem?_range hi', Option.map_some, Option.some.injEq, Prod.mk.injEq] at h1
  rw [h1.1, h1.2]
  exact fld_eq M w i hi'
theorem msg_eql (M : Msg) (w : World) : (binOp .eql 23 (.agg M.cs) (.agg M.cs)).run Tryz.prog w = .ok (.bool true) w := by
  rw [run_eql_struct, msg_eq]
  rfl

end Go.Proofs.YtchkpggdndnpjabGreatDoor

namespace Go.Proofs.YtchkpggdndnpjabGreatDoor
set_option linter.unusedVariables false
open Go.Lib
theorem chr_nat {i : Nat} (h : i < 10) : (UInt8.ofNat (48 + i)).toNat = 48 + i := by simp; omega
theorem val_app (l : List UInt8) (c : UInt8) : val (l ++ [c]) = val l * 10 + ((c.toNat : Int) - 48) := by simp [val, List.foldl_append]
theorem val_dec (u : Nat) : val (decDigits u) = (u : Int) := by
  induction u using Nat.strongRecOn with
  | ind u ih =>
    by_cases h : u < 10
    · rw [decDigits_one h]
      simp only [val, List.foldl_cons, List.foldl_nil, chr_nat h]
      omega
    · rw [decDigits, dif_neg h, val_app, ih (u / 10) (by omega), chr_nat (Nat.mod_lt _ (by decide))]
      omega
theorem digs_app (l : List UInt8) (c : UInt8) : digs (l ++ [c]) = (digs l && dig c) := by simp [digs]
theorem dig_chr {i : Nat} (h : i < 10) : dig (UInt8.ofNat (48 + i)) = true := by rw [dig_iff, chr_nat h]; omega
theorem digs_dec (u : Nat) : digs (decDigits u) = true := by
  induction u using Nat.strongRecOn with
  | ind u ih =>
    by_cases h : u < 10
    · rw [decDigits_one h]
      simp only [digs, List.all_cons, List.all_nil, Bool.and_true]
      exact dig_chr h
    · rw [decDigits, dif_neg h, digs_app, ih (u / 10) (by omega), dig_chr (Nat.mod_lt _ (by decide))]
      rfl
/-- The first digit is no nought, but of nought. -/
theorem head_dec (u : Nat) : ∃ c l, decDigits u = c :: l ∧ (0 < u → c ≠ 48) ∧ (u < 10 ↔ l = []) := by
  induction u using Nat.strongRecOn with
  | ind u ih =>
    by_cases h : u < 10
    · refine ⟨UInt8.ofNat (48 + u), [], decDigits_one h, fun h0 e => ?_, by simp [h]⟩
      have := congrArg UInt8.toNat e
      rw [chr_nat h] at this
      have h48 : (48 : UInt8).toNat = 48 := rfl
      omega
    · obtain ⟨c, l, e1, e2, _⟩ := ih (u / 10) (by omega)
      refine ⟨c, l ++ [UInt8.ofNat (48 + u % 10)], by rw [decDigits, dif_neg h, e1]; rfl, fun _ => e2 (by omega), by simp [h]⟩
theorem num_dec (u : Nat) : numB (decDigits u) = true := by
  obtain ⟨c, l, e, e2, e3⟩ := head_dec u
  have hd := digs_dec u
  unfold numB
  rw [hd, e]
  cases l with
  | nil => rfl
  | cons y ys =>
    have h10 : ¬ u < 10 := fun h => by have := e3.1 h; cases this
    have := e2 (by omega)
    simpa using this
theorem pu_dec {u : Nat} {m : Int} (h : (u : Int) ≤ m) : puN (decDigits u) m = (u : Int) ∧ puE (decDigits u) m = 0 := by
  have := pu_le (l := decDigits u) (m := m) (num_dec u) (by rw [val_dec]; exact h)
  rw [val_dec] at this
  exact this
/-- What is a numeral is written again. -/
theorem dec_val : ∀ (k : Nat) (l : List UInt8), l.length = k → digs l = true → (∃ c t, l = c :: t ∧ (t = [] ∨ c ≠ 48)) → decDigits (val l).toNat = l := by
  intro k
  induction k with
  | zero => intro l hl hd ⟨c, t, e, _⟩; rw [e] at hl; simp at hl
  | succ k ih =>
    intro l hl hd ⟨c, t, e, hc⟩
    by_cases hk : k = 0
    · subst hk
      rw [e] at hl
      have ht : t = [] := by cases t with
        | nil => rfl
        | cons y ys => simp at hl
      subst ht
      rw [e] at hd ⊢
      simp only [digs, List.all_cons, List.all_nil, Bool.and_true] at hd
      have hd' := (dig_iff c).1 hd
      have ev : (val [c]).toNat = c.toNat - 48 := by simp only [val, List.foldl_cons, List.foldl_nil]; omega
      rw [ev, decDigits_one (by omega)]
      congr 1
      have : 48 + (c.toNat - 48) = c.toNat := by omega
      rw [this]
      simp
    · obtain ⟨init, last, el⟩ : ∃ init last, l = init ++ [last] := ⟨l.dropLast, l.getLast (by rw [e]; simp), (List.dropLast_concat_getLast _).symm⟩
      have hil : init.length = k := by rw [el] at hl; simpa using hl
      rw [el, digs_app, Bool.and_eq_true] at hd
      have hlast := (dig_iff last).1 hd.2
      have hinit : ∃ c' t', init = c' :: t' ∧ (t' = [] ∨ c' ≠ 48) := by
        cases init with
        | nil => simp at hil; omega
        | cons c' t' =>
          refine ⟨c', t', rfl, .inr ?_⟩
          rw [el] at e
          simp only [List.cons_append, List.cons.injEq] at e
          rcases hc with h | h
          · rw [h] at e; simp at e
          · rw [e.1]; exact h
      have hi := ih init hil hd.1 hinit
      have hpos : 0 < val init := by
        obtain ⟨c', t', e', hc'⟩ := hinit
        rcases Int.lt_or_le 0 (val init) with h | h
        · exact h
        · have h0 : (val init).toNat = 0 := by omega
          rw [h0, decDigits_one (by decide)] at hi
          rw [← hi] at e'
          cases e'
          rcases hc with h1 | h1
          · rw [el, ← hi] at e; cases e; cases h1
          · rw [el, ← hi] at e
            simp only [List.cons_append, List.cons.injEq] at e
            exact absurd e.1.symm h1
      rw [el, val_app]
      have ev : (val init * 10 + ((last.toNat : Int) - 48)).toNat = (val init).toNat * 10 + (last.toNat - 48) := by omega
      rw [ev, decDigits, dif_neg (by omega), show ((val init).toNat * 10 + (last.toNat - 48)) / 10 = (val init).toNat by omega, hi, show ((val init).toNat * 10 + (last.toNat - 48)) % 10 = last.toNat - 48 by omega, show 48 + (last.toNat - 48) = last.toNat by omega]
      simp
theorem dec_num (l : List UInt8) (h : numB l = true) : decDigits (val l).toNat = l := by
  have hd := numB_digs h
  refine dec_val l.length l rfl hd ?_
  unfold numB at h
  rw [Bool.and_eq_true] at h
  match l, h.2 with
  | [c], _ => exact ⟨c, [], rfl, .inl rfl⟩
  | c :: d :: t, g => exact ⟨c, d :: t, rfl, .inr (by simpa using g)⟩
theorem dec_pu {l : List UInt8} {m : Int} (h : puE l m = 0) : 0 ≤ puN l m ∧ puN l m ≤ m ∧ itoa (puN l m) = l := by
  cases hn : numB l with
  | false => rw [(pu_no hn).2] at h; cases h
  | true =>
    have hv : val l ≤ m := by
      rcases Int.lt_or_le m (val l) with g | g
      · rw [(pu_gt hn g).2] at h; cases h
      · exact g
    rw [(pu_le hn hv).1]
    have hd := val_nonneg l (numB_digs hn)
    refine ⟨hd, hv, ?_⟩
    unfold itoa
    rw [if_neg (by omega)]
    exact dec_num l hn
end Go.Proofs.YtchkpggdndnpjabGreatDoor

namespace Go.Proofs.YtchkpggdndnpjabGreatDoor
set_option linter.unusedVariables false
open Go.RowKit Go.Lib

/-- A text as a value's bytes, and back. -/
def bs (l : List UInt8) : ByteArray := ⟨l.toArray⟩
theorem bs_list (l : List UInt8) : (bs l).data.toList = l := rfl
theorem bs_data (s : ByteArray) : bs s.data.toList = s := rfl
theorem bs_size (l : List UInt8) : (bs l).size = l.length := by show l.toArray.size = _; simp
theorem bs_inj {a b : List UInt8} (h : bs a = bs b) : a = b := by have := congrArg (fun x => x.data.toList) h; simpa [bs_list] using this

/-- Is a byte one of a value? -/
def vby (c : UInt8) : Bool := decide (32 ≤ (c.toNat : Int)) && decide ((c.toNat : Int) ≤ 126)
theorem vby_iff (c : UInt8) : vby c = true ↔ 32 ≤ (c.toNat : Int) ∧ (c.toNat : Int) ≤ 126 := by simp [vby]
/-- How many bytes at the head of a list are such. -/
def cnt (p : UInt8 → Bool) : List UInt8 → Nat
  | [] => 0
  | c :: l => if p c then cnt p l + 1 else 0
theorem cnt_le (p : UInt8 → Bool) : ∀ l : List UInt8, cnt p l ≤ l.length
  | [] => Nat.le_refl _
  | c :: l => by
    unfold cnt
    split
    · have := cnt_le p l; simp; omega
    · simp
theorem cnt_all (p : UInt8 → Bool) : ∀ l : List UInt8, ∀ c ∈ l.take (cnt p l), p c = true
  | [], c, h => by simp [cnt] at h
  | d :: l, c, h => by
    unfold cnt at h
    split at h
    · rename_i hd
      rw [List.take_succ_cons, List.mem_cons] at h
      rcases h with rfl | h
      · exact hd
      · exact cnt_all p l c h
    · simp at h
theorem cnt_next (p : UInt8 → Bool) : ∀ l : List UInt8, ∀ c, l[cnt p l]? = some c → p c = false
  | [], c, h => by simp [cnt] at h
  | d :: l, c, h => by
    unfold cnt at h
    split at h
    · rw [List.getElem?_cons_succ] at h
      exact cnt_next p l c h
    · rename_i hd
      simp at h
      subst h
      simpa using hd
/-- Where all of a beginning are such, and what follows is not. -/
theorem cnt_eq (p : UInt8 → Bool) : ∀ (a b : List UInt8), (∀ c ∈ a, p c = true) → (∀ c, b[0]? = some c → p c = false) → cnt p (a ++ b) = a.length
  | [], [], _, _ => rfl
  | [], d :: b, _, h => by
    have := h d rfl
    show cnt p (d :: b) = 0
    unfold cnt
    rw [if_neg (by simp [this])]
  | c :: a, b, h, g => by
    show cnt p (c :: (a ++ b)) = _
    unfold cnt
    rw [if_pos (h c (by simp)), cnt_eq p a b (fun x hx => h x (by simp [hx])) g]
    rfl
theorem cnt_step (p : UInt8 → Bool) : ∀ (l : List UInt8) (k : Nat) (h : k < l.length), (∀ c ∈ l.take k, p c = true) → p l[k] = false → cnt p l = k := by
  intro l k h h1 h2
  have e : l = l.take k ++ l.drop k := (List.take_append_drop k l).symm
  rw [e, cnt_eq p _ _ h1 (fun c hc => ?_)]
  · simp; omega
  · rw [List.getElem?_drop, Nat.add_zero, List.getElem?_eq_getElem h] at hc
    injection hc with hc
    rw [← hc]; exact h2
theorem cnt_whole (p : UInt8 → Bool) (l : List UInt8) (h : ∀ c ∈ l, p c = true) : cnt p l = l.length := by
  have := cnt_eq p l [] h (fun c hc => by simp at hc)
  simpa using this

/-- How far two lists are the same. -/
def pre : List UInt8 → List UInt8 → Nat
  | a :: s, b :: t => if a = b then pre s t + 1 else 0
  | _, _ => 0
theorem pre_app : ∀ a b : List UInt8, pre (a ++ b) a = a.length
  | [], b => by cases b <;> rfl
  | c :: a, b => by
    show pre (c :: (a ++ b)) (c :: a) = _
    unfold pre
    rw [if_pos rfl, pre_app a b]; rfl
theorem pre_le : ∀ a b : List UInt8, pre a b ≤ b.length
  | [], b => by unfold pre; exact Nat.zero_le _
  | _ :: _, [] => by unfold pre; exact Nat.zero_le _
  | a :: s, b :: t => by
    unfold pre
    split
    · have := pre_le s t; simp; omega
    · simp
theorem pre_le' : ∀ a b : List UInt8, pre a b ≤ a.length
  | [], b => by unfold pre; exact Nat.zero_le _
  | _ :: _, [] => by unfold pre; exact Nat.zero_le _
  | a :: s, b :: t => by
    unfold pre
    split
    · have := pre_le' s t; simp; omega
    · simp
theorem pre_full : ∀ a b : List UInt8, ¬ pre a b < b.length → a = b ++ a.drop b.length
  | a, [], _ => by simp
  | [], b :: t, h => by unfold pre at h; simp at h
  | a :: s, b :: t, h => by
    unfold pre at h
    split at h
    · rename_i e
      subst e
      simp only [List.length_cons, List.drop_succ_cons, List.cons_append]
      rw [← pre_full s t (by simpa using h)]
    · simp at h
theorem pre_at : ∀ (a b : List UInt8) (k : Nat), (∀ j, j < k → a[j]? = b[j]? ∧ a[j]? ≠ none) → (a[k]? ≠ b[k]? ∨ a[k]? = none) → pre a b = k
  | a, b, 0, _, h => by
    cases a with
    | nil => rfl
    | cons c a =>
      cases b with
      | nil => rfl
      | cons d b =>
        unfold pre
        rw [if_neg]
        intro e
        subst e
        simp at h
  | a, b, k + 1, h, g => by
    have h0 := h 0 (by omega)
    cases a with
    | nil => simp at h0
    | cons c a =>
      cases b with
      | nil => simp at h0
      | cons d b =>
        simp at h0
        subst h0
        unfold pre
        rw [if_pos rfl, pre_at a b k (fun j hj => by have := h (j + 1) (by omega); simpa using this) (by simpa using g)]

/-- The sum of bytes, modulo 256. -/
def sumL (l : List UInt8) : Nat := (l.foldl (fun a c => a + c.toNat) 0) % 256
theorem sum_from : ∀ (l : List UInt8) (n : Nat), l.foldl (fun a c => a + c.toNat) n = n + l.foldl (fun a c => a + c.toNat) 0
  | [], n => by simp
  | c :: l, n => by
    rw [List.foldl_cons, List.foldl_cons, sum_from l (n + c.toNat), sum_from l (0 + c.toNat)]; omega
theorem sumL_lt (l : List UInt8) : sumL l < 256 := Nat.mod_lt _ (by decide)
theorem sumL_snoc (l : List UInt8) (c : UInt8) : sumL (l ++ [c]) = (sumL l + c.toNat) % 256 := by
  unfold sumL
  rw [List.foldl_append, List.foldl_cons, List.foldl_nil]; omega
/-- A number below 1000 as three digits. -/
def three (n : Nat) : List UInt8 := [UInt8.ofNat (48 + n / 100), UInt8.ofNat (48 + n / 10 % 10), UInt8.ofNat (48 + n % 10)]
theorem dec_thousand {r : Nat} (h : r < 256) : decDigits (1000 + r) = 49 :: three r := by
  have e1 : decDigits (1000 + r) = decDigits ((1000 + r) / 10) ++ [UInt8.ofNat (48 + (1000 + r) % 10)] := by rw [decDigits, dif_neg (by omega)]
  have e2 : decDigits ((1000 + r) / 10) = decDigits ((1000 + r) / 10 / 10) ++ [UInt8.ofNat (48 + (1000 + r) / 10 % 10)] := by rw [decDigits, dif_neg (by omega)]
  rw [e1, e2, decDigits_two (by omega) (by omega)]
  rw [show (1000 + r) / 10 / 10 / 10 = 1 by omega, show (1000 + r) / 10 / 10 % 10 = r / 100 by omega, show (1000 + r) / 10 % 10 = r / 10 % 10 by omega, show (1000 + r) % 10 = r % 10 by omega]
  rfl
theorem three_inj {a b : Nat} (ha : a < 1000) (hb : b < 1000) (h : three a = three b) : a = b := by
  unfold three at h
  simp only [List.cons.injEq, and_true] at h
  obtain ⟨h1, h2, h3⟩ := h
  have f : ∀ x y : Nat, x < 10 → y < 10 → UInt8.ofNat (48 + x) = UInt8.ofNat (48 + y) → x = y := fun x y hx hy e => by
    have := congrArg UInt8.toNat e
    rw [chr_nat hx, chr_nat hy] at this; omega
  have g1 := f _ _ (by omega) (by omega) h1
  have g2 := f _ _ (by omega) (by omega) h2
  have g3 := f _ _ (by omega) (by omega) h3
  omega
theorem three_digs {a : Nat} (ha : a < 1000) : ∀ c ∈ three a, dig c = true := by
  intro c hc
  unfold three at hc
  simp only [List.mem_cons, List.not_mem_nil, or_false] at hc
  rcases hc with rfl | rfl | rfl <;> exact dig_chr (by omega)

/-- A field: its tag and its value. -/
abbrev Fld := Int × List UInt8
def isTg (t : Int) : Bool := decide (1 ≤ t) && decide (t ≤ 9999) && (decide (t < 8) || decide (10 < t))
theorem isTg_iff (t : Int) : isTg t = true ↔ 1 ≤ t ∧ t ≤ 9999 ∧ (t < 8 ∨ 10 < t) := by
  simp [isTg, and_assoc]
def okV (l : List UInt8) : Bool := !l.isEmpty && l.all vby
/-- What stands at the head of a body: a field and how many bytes it has; or a fault: its number, and how far behind. -/
abbrev RF := Except (Int × Nat) (Fld × Nat)
def rdV (t : Int) (d : Nat) (q : List UInt8) : RF :=
  if 0 < cnt vby q ∧ q[cnt vby q]? = some 1 then .ok ((t, q.take (cnt vby q)), d + 1 + cnt vby q + 1) else .error (42, d + 1 + cnt vby q)
def tagOk (l : List UInt8) : Bool := decide (puE (l.take (cnt dig l)) 9999 = 0) && isTg (puN (l.take (cnt dig l)) 9999) && decide (l[cnt dig l]? = some 61)
def rdF (l : List UInt8) : RF :=
  if tagOk l = true then rdV (puN (l.take (cnt dig l)) 9999) (cnt dig l) (l.drop (cnt dig l + 1)) else .error (41, 0)
/-- The fields of a text from a place on. -/
def addF (f : Fld) : Except (Int × Nat) (List Fld) → Except (Int × Nat) (List Fld)
  | .ok l => .ok (f :: l)
  | .error x => .error x
def rdAll (t : List UInt8) : Nat → Nat → Except (Int × Nat) (List Fld)
  | 0, _ => .ok []
  | n + 1, a => if a < t.length then (match rdF (t.drop a) with | .ok (f, k) => addF f (rdAll t n (a + k)) | .error (e, k) => .error (e, a + k)) else .ok []
def addFs (fs : List Fld) (r : Except (Int × Nat) (List Fld)) : Except (Int × Nat) (List Fld) := fs.foldr addF r
theorem addFs_snoc (fs : List Fld) (f : Fld) (r : Except (Int × Nat) (List Fld)) : addFs (fs ++ [f]) r = addFs fs (addF f r) := by
  unfold addFs; rw [List.foldr_append]; rfl
theorem addFs_ok (fs l : List Fld) : addFs fs (.ok l) = .ok (fs ++ l) := by
  induction fs with
  | nil => rfl
  | cons f fs ih => show addF f (addFs fs (.ok l)) = _; rw [ih]; rfl
theorem addFs_err (fs : List Fld) (x : Int × Nat) : addFs fs (.error x) = .error x := by
  induction fs with
  | nil => rfl
  | cons f fs ih => show addF f (addFs fs (.error x)) = _; rw [ih]; rfl

/-- The head of a frame; where the length's digits end. -/
def headL : List UInt8 := [56, 61, 70, 73, 88, 46, 52, 46, 52, 1, 57, 61]
def numEnd (t : List UInt8) (a : Nat) : Nat := if t[a]? = some 48 then a + 1 else a + min (cnt dig (t.drop a)) 4
def bodyL (s : List UInt8) : Except (Int × Nat) Nat :=
  if pre s headL < 12 then .error (40, pre s headL)
  else if numEnd s 12 = 12 ∨ s[numEnd s 12]? ≠ some 1 then .error (40, numEnd s 12)
  else if (s.length : Int) - ((numEnd s 12 : Int) + 1) = puN ((s.drop 12).take (numEnd s 12 - 12)) 9999 + 7 then .ok (numEnd s 12 + 1) else .error (43, 12)
def tenL : List UInt8 := [49, 48, 61]
def lastL (s : List UInt8) (a n : Nat) : Option (Int × Nat) :=
  if pre (s.drop a) tenL < 3 then some (40, a + pre (s.drop a) tenL)
  else if cnt dig ((s.drop (a + 3)).take 3) < 3 then some (40, a + 3 + cnt dig ((s.drop (a + 3)).take 3))
  else if s[a + 6]? ≠ some 1 then some (40, a + 6)
  else if (s.drop (a + 3)).take 3 = three n then none else some (44, a + 3)
def splitL (s : List UInt8) : Except (Int × Nat) (List Fld) :=
  if 1024 < s.length then .error (43, 1024) else
  match bodyL s with
  | .error x => .error x
  | .ok b => match lastL s (s.length - 7) (sumL (s.take (s.length - 7))) with
    | some x => .error x
    | none => rdAll (s.take (s.length - 7)) s.length b

/-- What Join makes. -/
def fldL (f : Fld) : List UInt8 := itoa f.1 ++ [61] ++ f.2 ++ [1]
def bodyB (fs : List Fld) : List UInt8 := fs.flatMap fldL
def aheadL (b : List UInt8) : List UInt8 := headL ++ itoa (b.length : Int) ++ [1] ++ b
def closeL (h : List UInt8) : List UInt8 := h ++ tenL ++ three (sumL h) ++ [1]
def joinL (fs : List Fld) : Except Int (List UInt8) :=
  if (fs.all fun f => isTg f.1) = false then .error 41
  else if (fs.all fun f => okV f.2) = false then .error 42
  else if 1024 < (closeL (aheadL (bodyB fs))).length then .error 43 else .ok (closeL (aheadL (bodyB fs)))
theorem close_length (h : List UInt8) : (closeL h).length = h.length + 7 := by simp [closeL, tenL, three]
end Go.Proofs.YtchkpggdndnpjabGreatDoor

namespace Go.Proofs
open Go.Shelf
def Tryz.laysM173_ren : Go.Shelf.Ren := ⟨fun | 173 => 181 | 246 => 229 | 283 => 254 | 284 => 255 | 285 => 256 | 286 => 257 | 129 => 270 | 317 => 269 | 318 => 271 | 319 => 272 | 320 => 273 | 337 => 278 | 338 => 279 | n => n, fun | 2 => 2 | 3 => 3 | 9 => 9 | 4 => 4 | 171 => 237 | 0 => 0 | 53 => 113 | 37 => 25 | 5 => 5 | 173 => 240 | 212 => 248 | 51 => 73 | 20 => 20 | 213 => 249 | 46 => 250 | 232 => 254 | 233 => 255 | n => n, fun | 17 => 1 | 18 => 3 | 19 => 4 | n => n⟩
theorem Tryz.laysM173 : Go.Proofs.LaysM.n173 Tryz.prog Tryz.laysM173_ren := {
  mixed := by kernel_rfl
  f129 := Tryz.func270.trans (congrArg some (by kernel_rfl))
  f173 := Tryz.func181.trans (congrArg some (by kernel_rfl))
  f246 := Tryz.func229.trans (congrArg some (by kernel_rfl))
  f283 := Tryz.func254.trans (congrArg some (by kernel_rfl))
  f284 := Tryz.func255.trans (congrArg some (by kernel_rfl))
  f285 := Tryz.func256.trans (congrArg some (by kernel_rfl))
  f286 := Tryz.func257.trans (congrArg some (by kernel_rfl))
  f317 := Tryz.func269.trans (congrArg some (by kernel_rfl))
  f318 := Tryz.func271.trans (congrArg some (by kernel_rfl))
  f319 := Tryz.func272.trans (congrArg some (by kernel_rfl))
  f320 := Tryz.func273.trans (congrArg some (by kernel_rfl))
  f337 := Tryz.func278.trans (congrArg some (by kernel_rfl))
  f338 := Tryz.func279.trans (congrArg some (by kernel_rfl))
  t0 := Tryz.underlying0
  a0 := Tryz.isAgg0
  z0 := Tryz.sizeOf0
  v0 := Tryz.zeroValue0
  t2 := Tryz.underlying2
  a2 := Tryz.isAgg2
  z2 := Tryz.sizeOf2
  v2 := Tryz.zeroValue2
  t3 := Tryz.underlying3
  a3 := Tryz.isAgg3
  z3 := Tryz.sizeOf3
  v3 := Tryz.zeroValue3
  t4 := Tryz.underlying4
  a4 := Tryz.isAgg4
  z4 := Tryz.sizeOf4
  v4 := Tryz.zeroValue4
  t5 := Tryz.underlying5
  a5 := Tryz.isAgg5
  z5 := Tryz.sizeOf5
  v5 := Tryz.zeroValue5
  t9 := Tryz.underlying9
  a9 := Tryz.isAgg9
  z9 := Tryz.sizeOf9
  v9 := Tryz.zeroValue9
  t20 := Tryz.underlying20
  a20 := Tryz.isAgg20
  z20 := Tryz.sizeOf20
  v20 := Tryz.zeroValue20
  t37 := Tryz.underlying25
  a37 := Tryz.isAgg25
  z37 := Tryz.sizeOf25
  v37 := Tryz.zeroValue25
  t46 := Tryz.underlying250
  a46 := Tryz.isAgg250
  z46 := Tryz.sizeOf250
  v46 := Tryz.zeroValue250
  t51 := Tryz.underlying73
  a51 := Tryz.isAgg73
  z51 := Tryz.sizeOf73
  v51 := Tryz.zeroValue73
  t53 := Tryz.underlying113
  a53 := Tryz.isAgg113
  z53 := Tryz.sizeOf113
  v53 := Tryz.zeroValue113
  t171 := Tryz.underlying237
  a171 := Tryz.isAgg237
  z171 := Tryz.sizeOf237
  v171 := Tryz.zeroValue237
  t173 := Tryz.underlying240
  a173 := Tryz.isAgg240
  z173 := Tryz.sizeOf240
  v173 := Tryz.zeroValue240
  t212 := Tryz.underlying248
  a212 := Tryz.isAgg248
  z212 := Tryz.sizeOf248
  v212 := Tryz.zeroValue248
  t213 := Tryz.underlying249
  a213 := Tryz.isAgg249
  z213 := Tryz.sizeOf249
  t232 := Tryz.underlying254
  a232 := Tryz.isAgg254
  z232 := Tryz.sizeOf254
  v232 := Tryz.zeroValue254
  t233 := Tryz.underlying255
  a233 := Tryz.isAgg255
  z233 := Tryz.sizeOf255
  v233 := Tryz.zeroValue255
  g17 := by kernel_rfl
  g18 := by kernel_rfl
  g19 := by kernel_rfl
  i0 := by kernel_rfl
  i2 := by kernel_rfl
  i3 := by kernel_rfl
  i4 := by kernel_rfl
  i5 := by kernel_rfl
  i9 := by kernel_rfl
  i20 := by kernel_rfl
  i37 := by kernel_rfl
  i46 := by kernel_rfl
  i51 := by kernel_rfl
  i53 := by kernel_rfl
  i171 := by kernel_rfl
  i173 := by kernel_rfl
  i212 := by kernel_rfl
  i232 := by kernel_rfl
  i233 := by kernel_rfl
  m17 := by kernel_rfl
  m18 := by kernel_rfl
  m19 := by kernel_rfl }
open Go.RowKit Go.Sort Go.Lib in
theorem Tryz.strconv_FormatInt_10 (n : Int) (h0 : -9223372036854775808 ≤ n) (h1 : n ≤ 9223372036854775807) (w : World) (htab : Lib.TabIs Tryz.prog w "internal/strconv.uint64pow10" .u64 Lib.pow10Tab) :
    Calls Tryz.prog 181 #[.int .i64 n, .int .i64 10] w fun e w' => e = .returned (.string ⟨(Lib.itoa n).toArray⟩) ∧ ∃ k os, w' = grow (w.drewN k) os := Any.strconv_FormatInt_10 Tryz.laysM173 n h0 h1 w htab
end Go.Proofs

namespace Go.Proofs.YtchkpggdndnpjabGreatDoor
set_option linter.unusedVariables false
open Go.Shelf Go.RowKit Go.Sort Go.Lib

theorem below_grow (w : World) (k : Nat) (os : Array Obj) : Below w.heap.size w (grow (w.drewN k) os) := by
  refine ⟨rfl, rfl, rfl, ?_, fun b hb => ?_⟩
  · show w.heap.size ≤ (w.heap ++ os).size
    simp
  · show (w.heap ++ os)[b]? = w.heap[b]?
    rw [Array.getElem?_append_left hb]
theorem tabIs_below {w w' : World} {name : String} {k : IntKind} {zs : List Int} (h : TabIs Tryz.prog w name k zs) (hb : Below w.heap.size w w') : TabIs Tryz.prog w' name k zs := by
  unfold TabIs World.var? at *
  cases hg : Tryz.prog.globalNamed name with
  | none => simp [hg] at h
  | some g =>
    simp only [hg, Option.bind_some] at h ⊢
    have hlt : g < w.heap.size := by
      rcases Nat.lt_or_ge g w.heap.size with h' | h'
      · exact h'
      · rw [Array.getElem?_eq_none h'] at h; simp at h
    rw [hb.block g hlt]; exact h

theorem Print_any (n : Int) (h0 : -9223372036854775808 ≤ n) (h1 : n ≤ 9223372036854775807) (w : World) (htab : TabIs Tryz.prog w "internal/strconv.uint64pow10" .u64 pow10Tab) :
    Calls Tryz.prog 42 #[.int .i64 n] w fun e w' => e = .returned (.string ⟨(itoa n).toArray⟩) ∧ Below w.heap.size w w' := by
  go_enter Tryz.func42, Tryz.ntmps42
  go_wp2_with (go_at_call 181; refine (Tryz.strconv_FormatInt_10 n h0 h1 _ htab).mono ?_; rintro e w' ⟨rfl, k, os, rfl⟩)
  go_ret
  exact ⟨rfl, below_grow _ _ _⟩

end Go.Proofs.YtchkpggdndnpjabGreatDoor

namespace Go.Proofs.YtchkpggdndnpjabGreatDoor
set_option linter.unusedVariables false
open Go.RowKit

set_option maxRecDepth 100000 in
set_option maxHeartbeats 400000 in
theorem areDigits_any (s : ByteArray) (w : World) (hs : s.size ≤ maxLen) :
    Calls Tryz.prog 275 #[.string s] w fun e w' => e = .returned (.bool (digs s.data.toList)) ∧ w' = w := by
  unfold maxLen at hs
  go_enter Tryz.func275, Tryz.ntmps275
  go_wp2
  go_loop [3, 6] (fun j i => ∃ k : Nat, k ≤ s.size ∧ i = .int .i64 k ∧ digs (s.data.toList.take k) = true) (fun _ i => s.size - (intOf i).toNat)
  case atStart => exact ⟨0, Nat.zero_le _, rfl, rfl⟩
  case round =>
    obtain ⟨k, hk, rfl, hd⟩ := hrel
    have HD : Hid (digs (s.data.toList.take k) = true) := hd
    clear hd
    by_cases hlt : k < s.size
    · by_cases hdg : dig s[k] = true
      · have hb := (dig_iff _).1 hdg
        have HG : Hid (dig s[k] = true) := hdg
        clear hdg
        obtain ⟨hb1, hb2⟩ := hb
        go_wp2
        go_round
        case rel => exact ⟨k + 1, by omega, by go_num, by rw [digs_snoc s k hlt, HD.out, HG.out]; rfl⟩
        case measure => simp [intOf]; omega
      · have hn := digs_not s k hlt (by simpa using hdg)
        have hb : ¬ (48 ≤ (s[k].toNat : Int) ∧ (s[k].toNat : Int) ≤ 57) := fun h => hdg ((dig_iff _).2 h)
        have HN : Hid (digs s.data.toList = false) := hn
        clear hn hdg
        by_cases h48 : (s[k].toNat : Int) < 48
        · clear hb
          go_wp2
          go_ret
          exact ⟨ret_bool HN.out.symm, rfl⟩
        · have h57 : 57 < (s[k].toNat : Int) := by omega
          have h48' : 48 ≤ (s[k].toNat : Int) := by omega
          clear hb h48
          go_wp2
          go_ret
          exact ⟨ret_bool HN.out.symm, rfl⟩
    · have HA : Hid (digs s.data.toList = true) := digs_all s k hlt HD.out
      go_wp2
      go_ret
      exact ⟨ret_bool HA.out.symm, rfl⟩

set_option maxRecDepth 100000 in
set_option maxHeartbeats 400000 in
theorem isNumeral_any (s : ByteArray) (w : World) (hs : s.size ≤ maxLen) :
    Calls Tryz.prog 265 #[.string s] w fun e w' => e = .returned (.bool (numB s.data.toList)) ∧ w' = w := by
  by_cases h1 : s.toList = [48]
  · have HN : Hid (numB s.data.toList = true) := numB_zero h1
    go_enter Tryz.func265, Tryz.ntmps265
    go_wp2_with fail
    go_ret
    exact ⟨ret_bool HN.out.symm, rfl⟩
  by_cases h2 : s.toList = []
  · have HN : Hid (numB s.data.toList = false) := numB_nil h2
    go_enter Tryz.func265, Tryz.ntmps265
    go_wp2_with fail
    go_ret
    exact ⟨ret_bool HN.out.symm, rfl⟩
  have hp := size_pos h2
  by_cases h3 : (s[0].toNat : Int) = 48
  · have HN : Hid (numB s.data.toList = false) := numB_lead h1 hp h3
    go_enter Tryz.func265, Tryz.ntmps265
    go_wp2_with fail
    go_ret
    refine ⟨ret_bool ?_, rfl⟩
    rw [HN.out]; simp [h1]
  · have HN : Hid (numB s.data.toList = digs s.data.toList) := numB_else hp h3
    go_enter Tryz.func265, Tryz.ntmps265
    go_wp2_with (go_at_call 275; refine (areDigits_any _ _ hs).mono ?_; rintro e w' ⟨rfl, rfl⟩)
    go_ret
    refine ⟨ret_bool ?_, rfl⟩
    have e1 : (s.toList == [48]) = false := by simpa using h1
    have e2 : s.toList.isEmpty = false := by simpa using h2
    have e3 : ((s[0].toNat : Int) != 48) = true := by simpa using h3
    rw [HN.out, e1, e2, e3]; rfl

set_option maxRecDepth 100000 in
set_option maxHeartbeats 400000 in
theorem readNumeral_any (s : ByteArray) (w : World) (hs : s.size ≤ maxLen) (hd : digs s.data.toList = true) :
    Calls Tryz.prog 266 #[.string s] w fun e w' => e = .returned (.tuple #[.int .i64 (rdN (val s.data.toList)), .bool (rdB (val s.data.toList))]) ∧ w' = w := by
  unfold maxLen at hs
  have HD : Hid (digs s.data.toList = true) := hd
  clear hd
  go_enter Tryz.func266, Tryz.ntmps266
  go_wp2
  go_loop [4, 5, 6, 9] (fun n j d i => ∃ k : Nat, k ≤ s.size ∧ i = .int .i64 k ∧ n = .int .i64 (val (s.data.toList.take k)) ∧ val (s.data.toList.take k) ≤ 9223372036854775807) (fun _ _ _ i => s.size - (intOf i).toNat)
  case atStart => exact ⟨0, Nat.zero_le _, rfl, rfl, by simp [val]⟩
  case round =>
    obtain ⟨k, hk, rfl, rfl, hv⟩ := hrel
    have hv0 := val_nonneg _ (digs_take _ k HD.out)
    by_cases hlt : k < s.size
    · have hb := digs_at s k hlt HD.out
      obtain ⟨hb1, hb2⟩ := hb
      have HS : Hid (val (s.data.toList.take (k + 1)) = val (s.data.toList.take k) * 10 + ((s[k].toNat : Int) - 48)) := val_snoc s k hlt
      have HM : Hid (val (s.data.toList.take (k + 1)) ≤ val s.data.toList) := val_mono _ (k + 1) HD.out
      generalize val (s.data.toList.take k) = v at *
      by_cases hg : v ≤ (9223372036854775807 - ((s[k].toNat : Int) - 48)) / 10
      · go_wp2
        go_round
        case rel => exact ⟨k + 1, by omega, by go_num, by rw [HS.out], by rw [HS.out]; omega⟩
        case measure => simp [intOf]; omega
      · have HX : Hid (9223372036854775807 < val s.data.toList) := by
          have h1 := HS.out; have h2 := HM.out
          show _ < _; omega
        go_wp2
        go_ret2
        exact ⟨ret2 (vint (rdN_gt HX.out).symm) (vbool (rdB_gt HX.out).symm), rfl⟩
    · have HA : Hid (val (s.data.toList.take k) = val s.data.toList) := val_all s k hlt
      go_wp2
      go_ret2
      exact ⟨ret2 (vint (by rw [← HA.out, rdN_le hv])) (vbool (by rw [← HA.out, rdB_le hv])), rfl⟩

set_option maxRecDepth 100000 in
set_option maxHeartbeats 400000 in
theorem ParseUint_any (s : ByteArray) (m : Int) (w : World) (hs : s.size ≤ maxLen) (hm : m ≤ 9223372036854775807) :
    Calls Tryz.prog 247 #[.string s, .int .i64 m] w fun e w' => e = .returned (.tuple #[.int .i64 (puN s.data.toList m), .int .i64 (puE s.data.toList m)]) ∧ w' = w := by
  by_cases hn : numB s.data.toList = true
  · have HD := numB_digs hn
    have HN : Hid (numB s.data.toList = true) := hn
    by_cases hv : val s.data.toList ≤ 9223372036854775807
    · have HR : rdN (val s.data.toList) = val s.data.toList := rdN_le hv
      have HB := rdB_le hv
      by_cases hg : m < val s.data.toList
      · have HP : Hid (puN s.data.toList m = 0 ∧ puE s.data.toList m = 11) := pu_gt HN.out hg
        clear hv
        go_enter Tryz.func247, Tryz.ntmps247
        go_wp2_with (first | (go_at_call 265; refine (isNumeral_any _ _ hs).mono ?_; rintro e w' ⟨rfl, rfl⟩) | (go_at_call 266; refine (readNumeral_any _ _ hs HD).mono ?_; rintro e w' ⟨rfl, rfl⟩))
        go_ret2
        exact ⟨ret2 (vint HP.out.1.symm) (vint HP.out.2.symm), rfl⟩
      · have HP : Hid (puN s.data.toList m = val s.data.toList ∧ puE s.data.toList m = 0) := pu_le HN.out (by omega)
        go_enter Tryz.func247, Tryz.ntmps247
        go_wp2_with (first | (go_at_call 265; refine (isNumeral_any _ _ hs).mono ?_; rintro e w' ⟨rfl, rfl⟩) | (go_at_call 266; refine (readNumeral_any _ _ hs HD).mono ?_; rintro e w' ⟨rfl, rfl⟩))
        go_ret2
        exact ⟨ret2 (vint HP.out.1.symm) (vint HP.out.2.symm), rfl⟩
    · have HB := rdB_gt (v := val s.data.toList) (by omega)
      have HP : Hid (puN s.data.toList m = 0 ∧ puE s.data.toList m = 11) := pu_gt HN.out (by omega)
      go_enter Tryz.func247, Tryz.ntmps247
      go_wp2_with (first | (go_at_call 265; refine (isNumeral_any _ _ hs).mono ?_; rintro e w' ⟨rfl, rfl⟩) | (go_at_call 266; refine (readNumeral_any _ _ hs HD).mono ?_; rintro e w' ⟨rfl, rfl⟩))
      go_ret2
      exact ⟨ret2 (vint HP.out.1.symm) (vint HP.out.2.symm), rfl⟩
  · have hn' : numB s.data.toList = false := by simpa using hn
    have HP : Hid (puN s.data.toList m = 0 ∧ puE s.data.toList m = 10) := pu_no hn'
    clear hn
    go_enter Tryz.func247, Tryz.ntmps247
    go_wp2_with (go_at_call 265; refine (isNumeral_any _ _ hs).mono ?_; rintro e w' ⟨rfl, rfl⟩)
    go_ret2
    exact ⟨ret2 (vint HP.out.1.symm) (vint HP.out.2.symm), rfl⟩
end Go.Proofs.YtchkpggdndnpjabGreatDoor
