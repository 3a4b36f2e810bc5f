import Derived.Test.YtchkpggdndnpjaaGreatDoorG27
import Derived.Test.YtchkpggdndnpjaaGreatDoorG45

namespace Go.Proofs.YtchkpggdndnpjaaGreatDoor
set_option linter.unusedVariables false
open Go.RowKit

set_option maxRecDepth 100000 in
theorem lawFault_nil (w : World) :
    Calls Tryz.prog 11 #[.nilIface] w fun x w' => x = .returned (.tuple #[.int .i64 0, .int .i64 0, .bool true]) ∧ w' = w := by
  go_enter Tryz.func11, Tryz.ntmps11
  go_wp2
  go_ret3
  exact ⟨rfl, rfl⟩
set_option maxRecDepth 100000 in
theorem lawFault_at (g : Nat) (e : Int) (a : Nat) (w : World) (hf : FaultAt w g e a) (he : e ≠ 0) :
    Calls Tryz.prog 11 #[.iface 56 (.pointer (some ⟨g, 0, none⟩))] w fun x w' => x = .returned (.tuple #[.int .i64 (a : Int), .int .i64 e, .bool true]) ∧ ∃ q, w' = w.drewN q := by
  have c0 := hf.cell0
  have c1 := hf.cell1
  have he' : (e != 0) = true := by simpa using he
  clear hf
  have hta : ∀ W, (Instr.typeAssert (Value.iface 56 (.pointer (some ⟨g, 0, none⟩))) 27 56 true).run Tryz.prog W = .ok (.tuple #[.pointer (some ⟨g, 0, none⟩), .bool true]) W := fun W => by kernel_rfl
  go_enter Tryz.func11, Tryz.ntmps11
  go_wp2
  go_quiet (fail)
  go_wp2
  go_ret3
  exact ⟨rfl, _, rfl⟩
end Go.Proofs.YtchkpggdndnpjaaGreatDoor

namespace Go.Proofs.YtchkpggdndnpjaaGreatDoor
set_option linter.unusedVariables false
set_option linter.unusedSimpArgs false
open Go.RowKit Go.Great

theorem wpList_wanted {P : Program} {ops : Array Oper} {rest : List Oper} {o : Oper} {a : Act} {w : World} {Q : Exit → Act → World → Prop} (hw : Region.wanted o (yielded ops a.tmps) = true)
    (h : ∀ K : Act → World → Prop, (∀ a w, wpList P ops Q rest a w → K a w) → o.wp P a w K Q) : wpList P ops Q (o :: rest) a w :=
  wpList_step fun K hK => by rw [if_pos hw]; exact h K hK
theorem wpList_runToG {P : Program} {ops : Array Oper} {rest : List Oper} {o : Oper} {a : Act} {w : World} {Q : Exit → Act → World → Prop} (hw : Region.wanted o (yielded ops a.tmps) = true) (dst : Option Tmp) (hdst : o.dst = dst)
    (v : Value) (w' : World) (hrun : (execOp a.eval o).run P w = .ok (.value v) w')
    (h : wpList P ops Q rest (a.put dst v) w') : wpList P ops Q (o :: rest) a w := by
  subst hdst
  refine wpList_wanted hw fun K hK => ?_
  unfold Oper.wp
  rw [hrun, Oper.upon_value]
  exact hK _ _ h
theorem wpList_callG {P : Program} {ops : Array Oper} {rest : List Oper} {op : Oper} {a : Act} {w : World} {Q : Exit → Act → World → Prop} (hw : Region.wanted op (yielded ops a.tmps) = true) (d : Option Tmp) (hd : op.dst = d)
    (f : FuncId) (args : Array Value) (hrun : (execOp a.eval op).run P w = .ok (.enter f args) w) {R : Ending → World → Prop} (hc : Calls P f args w R)
    (h : ∀ e w', R e w' → ∃ v, e = .returned v ∧ wpList P ops Q rest (a.put d v) w') : wpList P ops Q (op :: rest) a w := by
  subst hd
  refine wpList_wanted hw fun K hK => ?_
  unfold Oper.wp
  rw [hrun, Oper.upon_enter]
  refine hc.mono fun e w'' hh => ?_
  obtain ⟨v, rfl, hw⟩ := h _ _ hh
  exact hK _ _ hw
theorem wpList_loadG {ops : Array Oper} {rest : List Oper} {op : Oper} {a : Act} {w : World} {Q : Exit → Act → World → Prop} {g : Nat} {M : Msg} (h : OwnM w g M) (x : Operand) (hw : Region.wanted op (yielded ops a.tmps) = true) (ho : op.op = .load 25 x)
    (hx : a.eval x = .pointer (some ⟨g, 0, none⟩)) (hn : wpList Tryz.prog ops Q rest (a.put op.dst (.agg M.cs)) w) : wpList Tryz.prog ops Q (op :: rest) a w :=
  wpList_wanted hw fun K hK => wp_load_row 25 x ho g hx 25 M.cs (0, 0) _ h Tryz.underlying25 rfl (by rw [M.cs_size]; kernel_rfl) (hK _ _ hn)
/-- What must hold of a world in which fix is called. -/
structure Env (w : World) : Prop where
  mon : Mon w
  lt : 2 < w.heap.size
  pow : Pow w
  ety : ETy w
theorem Env.below {w w' : World} (h : Env w) (hb : Below w.heap.size w w') : Env w' := ⟨h.mon.below hb h.lt, Nat.lt_of_lt_of_le h.lt hb.size, h.pow.below hb, h.ety.below hb⟩
theorem Decode_back {M : Msg} (h : Vld M) {b : List UInt8} (hj : joinL (encF M) = .ok b) (hl : b.length ≤ 1024) (v : Value) (w : World) (hs : SrcB w v b) (he : Env w) :
    Calls Tryz.prog 10 #[v] w fun x w' => x = .returned (.tuple #[.agg M.cs, .nilIface]) ∧ Below w.heap.size w w' := by
  have hd := dec_enc h hj
  refine (Decode_any v b w (by omega) hs he.mon he.pow he.ety).mono ?_
  rw [hd.1]
  rintro x w' ⟨hb, hx⟩
  have hx2 : x = .returned (.tuple #[.agg (rdM (encF M)).cs, .nilIface]) := hx
  rw [hd.2] at hx2
  exact ⟨hx2, hb⟩
theorem Why_back {M : Msg} (h : Vld M) {b : List UInt8} (hj : joinL (encF M) = .ok b) (hl : b.length ≤ 1024) (v : Value) (w : World) (hs : SrcB w v b) (he : Env w) :
    Calls Tryz.prog 18 #[v] w fun x w' => x = .returned (.tuple #[.int .i64 0, .int .i64 0, .agg M.cs]) ∧ Below w.heap.size w w' := by
  obtain ⟨h1, h2⟩ := rd_enc h
  refine (Why_any v b w (by omega) hs he.mon he.pow he.ety).mono ?_
  rintro x w' ⟨hx, hb⟩
  refine ⟨?_, hb⟩
  rw [hx]
  unfold whR whT whM
  rw [join_split hj]
  dsimp only
  rw [h2, h1.cs]
theorem Decode_bad {l : List UInt8} {y : Int × Nat} (hy : splitL l = .error y) (hl : l.length ≤ 9223372036854775807) (v : Value) (w : World) (hs : SrcB w v l) (he : Env w) :
    Calls Tryz.prog 10 #[v] w fun x w' => ∃ g, x = .returned (.tuple #[.agg zeroM.cs, .iface 56 (.pointer (some ⟨g, 0, none⟩))]) ∧ Below w.heap.size w w' := by
  refine (Decode_any v l w hl hs he.mon he.pow he.ety).mono ?_
  rintro x w' ⟨hb, hx⟩
  unfold dcL at hx
  rw [hy] at hx
  obtain ⟨e, a⟩ := y
  obtain ⟨g, -, hx, -⟩ := hx
  exact ⟨g, hx, hb⟩
theorem Why_bad {l : List UInt8} {y : Int × Nat} (hy : splitL l = .error y) (hl : l.length ≤ 9223372036854775807) (v : Value) (w : World) (hs : SrcB w v l) (he : Env w) :
    Calls Tryz.prog 18 #[v] w fun x w' => x = .returned (.tuple #[.int .i64 (-1), .int .i64 0, .agg zeroM.cs]) ∧ Below w.heap.size w w' := by
  refine (Why_any v l w hl hs he.mon he.pow he.ety).mono ?_
  rintro x w' ⟨hx, hb⟩
  refine ⟨?_, hb⟩
  rw [hx]
  unfold whR whT whM
  rw [hy]
/-- The memory of a law: its message, what it has besides. -/
structure LM (w wx : World) (g : Nat) (M : Msg) : Prop where
  msg : OwnM wx g M
  below : Below w.heap.size w wx
theorem LM.low {w wx w' : World} {g : Nat} {M : Msg} (h : LM w wx g M) (hb : Below wx.heap.size wx w') : LM w w' g M := ⟨h.msg.low hb, h.below.trans (hb.mono h.below.size)⟩
theorem put_below {w : World} {M : Msg} : Below w.heap.size w ((w.alloc (.cells zeroM.cs 25)).setRow w.heap.size M.cs) := below_setRow ((Below.refl _ w).alloc (Nat.le_refl _) _) (Nat.le_refl _) _
theorem put_own {w : World} {M : Msg} : OwnM ((w.alloc (.cells zeroM.cs 25)).setRow w.heap.size M.cs) w.heap.size M := setRow_heap _ _ _ _ _ _ (heap_alloc_new w _)
end Go.Proofs.YtchkpggdndnpjaaGreatDoor
