import Derived.Test.YtbhddfcdnpidkaaMF
import Derived.Laws.CopyRow
import Derived.Laws.CopyOwn
import Derived.Laws.IdiomCopy
import Derived.Laws.OwnMore
import Derived.Deep.MidRow
import Derived.Laws.StructEq

namespace Go.Proofs.Ytbhddfcdnpidkaa
set_option linter.unusedVariables false
set_option linter.unusedSimpArgs false
open Go.RowKit Go.Great

/-- An order with nothing in it; and the law's mark. -/
def ZOd : Od := ⟨oC 0 ⟨#[]⟩ ⟨#[]⟩ ⟨#[]⟩ 0 0 0 0 0 0 0 0 0 0 0, 0, 0, 0, 0⟩
def MOd : Od := ⟨oC (-7) ⟨#[]⟩ ⟨#[]⟩ ⟨#[]⟩ 0 2 0 0 0 77 0 0 0 0 0, -7, 2, 0, 77⟩
theorem ZOd_T : OdT ZOd := ⟨0, ⟨#[]⟩, ⟨#[]⟩, ⟨#[]⟩, 0, 0, 0, 0, 0, 0, 0, 0, 0, 0, 0, rfl⟩
theorem MOd_T : OdT MOd := ⟨-7, ⟨#[]⟩, ⟨#[]⟩, ⟨#[]⟩, 0, 2, 0, 0, 0, 77, 0, 0, 0, 0, 0, rfl⟩
def flatO (l : List Od) : List Value := flatL (fun o => o.cs.toList) l
/-- A block that holds orders. -/
def OB (w : World) (g : Nat) (l : List Od) : Prop := Blk w g 42 (flatO l).toArray
theorem fifteen {l : List Od} (hl : ∀ o ∈ l, OdT o) : ∀ o ∈ l, o.cs.toList.length = 15 := fun o ho => (Array.length_toList).trans (hl o ho).ok.sz
theorem ok_of {l : List Od} (hl : ∀ o ∈ l, OdT o) : ∀ o ∈ l, o.ok := fun o ho => (hl o ho).ok
theorem OB.row {w : World} {g : Nat} {l : List Od} (h : OB w g l) (hl : ∀ o ∈ l, OdT o) (h63 : l.length ≤ maxLen) : RowAt w 42 15 (.slice (some ⟨g, 0, none⟩) l.length l.length) l.length (flatL (fun o => o.cs.toList) l) := by
  have hlen := flatO_len (fifteen hl)
  refine ⟨hlen, .inr ⟨g, 0, l.length, _, rfl, h, Nat.le_refl _, h63, ?_, ?_⟩⟩
  · show 0 + l.length * 15 ≤ (flatL (fun o : Od => o.cs.toList) l).toArray.size
    rw [List.size_toArray, hlen]
    omega
  · show ((flatL (fun o : Od => o.cs.toList) l).toArray.toList.drop 0).take (l.length * 15) = _
    rw [List.drop_zero, ← hlen, List.take_length]
theorem repT {n : Nat} {z : Od} (hz : OdT z) : ∀ o ∈ List.replicate n z, OdT o := fun o ho => by
  rw [(List.mem_replicate.1 ho).2]; exact hz
theorem flatO_rep (n : Nat) : flatO (List.replicate n ZOd) = (madeCells ZOd.cs (n * 15)).toList := by
  have hl : (flatO (List.replicate n ZOd)).length = n * 15 := by
    unfold flatO
    rw [flatO_len (fifteen (repT ZOd_T)), List.length_replicate]
  apply List.ext_getElem?
  intro j
  by_cases hj : j < n * 15
  · have e1 : (madeCells ZOd.cs (n * 15)).toList[j]? = some (ZOd.cs[j % ZOd.cs.size]!) := by
      simp [madeCells, hj]
    have hd : (List.replicate n ZOd)[j / 15]? = some ZOd := by rw [List.getElem?_replicate, if_pos (by omega)]
    have e2 := flatL_getM (f := fun o : Od => o.cs.toList) (fifteen (repT (n := n) ZOd_T)) hd (Nat.mod_lt j (by decide : 0 < 15))
    rw [show j / 15 * 15 + j % 15 = j by omega] at e2
    rw [e1, show ZOd.cs.size = 15 from rfl]
    unfold flatO
    rw [e2]
    have hm : j % 15 < ZOd.cs.size := Nat.mod_lt j (by decide : 0 < 15)
    rw [getElem!_pos ZOd.cs (j % 15) hm, Array.getElem?_toList, Array.getElem?_eq_getElem hm]
  · rw [List.getElem?_eq_none (by omega), List.getElem?_eq_none (by simp [size_madeCells]; omega)]
theorem mkO_run {op : Oper} {a : Act} {n : Nat} (x y : Operand) (ho : op.op = .makeSlice 24 x y) (hx : a.eval x = .int .i64 (n : Int)) (hy : a.eval y = .int .i64 (n : Int)) (hn : n ≤ 977343669113) (w : World) : (execOp a.eval op).run Try.prog w = .ok (.value (.slice (some ⟨w.heap.size, 0, none⟩) n n)) (w.alloc (.cells (flatO (List.replicate n ZOd)).toArray 42)) := by
  obtain ⟨i0, hi, hz0, hz1, hz2⟩ := info_parts infoOd
  have h := run_make (P := Try.prog) w 24 42 i0 _ Try.underlying24 hi hz0 .i64 .i64 (n : Int) (n : Int) (by omega) (Int.le_refl _) (by rw [hz2]; omega) (by omega)
  rw [hz1, Int.toNat_natCast] at h
  have e : madeCells (Value.agg ZOd.cs).cells (n * 15) = (flatO (List.replicate n ZOd)).toArray := by
    apply Array.ext'
    rw [flatO_rep]
    rfl
  have h2 : (Instr.makeSlice 24 (.int .i64 (n : Int)) (.int .i64 (n : Int))).run Try.prog w = .ok (.slice (some ⟨w.heap.size, 0, none⟩) n n) (w.alloc (.cells (flatO (List.replicate n ZOd)).toArray 42)) := by
    rw [← e]
    exact h
  unfold execOp
  simp only [ho, hx, hy, h2, Sem.run_bind, Result.andThen_ok]
  rfl
theorem sizeOd : (Try.prog.info? 42).map (·.size) = some 15 := by kernel_rfl
theorem run_copy_ods {P : Program} (w : World) (dT sT ty elem : TypeId) (g o dLen dCap : Nat) (a : Addr) (sLen sCap : Nat) (cur : Array Value) (t : TypeId) (cs : List Value)
    (hu : P.underlying dT = some (.slice elem)) (hs : (P.info? elem).map (·.size) = some 15)
    (hg : w.heap[g]? = some (.cells cur t (0, 0))) (hn : cs.length = Nat.min sLen dLen * 15)
    (hsrc : ∀ j v, cs[j]? = some v → w.cell? (a.add j) = some v) (hfit : o + cs.length ≤ cur.size) (h1 : ∀ v ∈ cs, v.oneCell' = true) :
    (Builtin.copy_ #[dT, sT] ty #[.slice (some ⟨g, o, none⟩) dLen dCap, .slice (some a) sLen sCap]).run P w =
      .ok (goInt (Nat.min sLen dLen)) (w.setRow g (cur.toList.take o ++ cs ++ cur.toList.drop (o + cs.length)).toArray) := by
  have hl := run_loadCells_list (P := P) w a cs hsrc
  have hst := run_storeCells_at P g o t cs 0 cur w hg (by simpa using hfit) h1
  cases hq : P.info? elem with
  | none => simp [hq] at hs
  | some i =>
    have hi : i.size = 15 := by simpa [hq] using hs
    simp [Builtin.copy_, run_underlying hu, Builtin.lenOf, Builtin.firstCells, sizeOf, typeInfo, hq, hi, ← hn, hl, hst]
theorem run_copy_nil_ods {P : Program} (w : World) (dT sT ty elem : TypeId) (d : Option Addr) (dLen dCap sCap : Nat) (hu : P.underlying dT = some (.slice elem)) (hs : (P.info? elem).map (·.size) = some 15) :
    (Builtin.copy_ #[dT, sT] ty #[.slice d dLen dCap, .slice none 0 sCap]).run P w = .ok (goInt 0) w := by
  have hn : Nat.min 0 dLen = 0 := by simp
  cases hq : P.info? elem with
  | none => simp [hq] at hs
  | some i => cases d <;> simp [Builtin.copy_, run_underlying hu, Builtin.lenOf, Builtin.firstCells, sizeOf, typeInfo, hq, hn, storeCells]
/-- What copy lays. -/
theorem copyO {w : World} {l : List Od} {v : Value} {g m : Nat} (hr : RowIn w 42 15 v l.length (flatL (fun o => o.cs.toList) l)) (hl : ∀ o ∈ l, OdT o) (hm : l.length ≤ m) (hb : OB w g (List.replicate m ZOd)) :
    ∃ w', (Builtin.copy_ #[24, 24] 3 #[.slice (some ⟨g, 0, none⟩) m m, v]).run Try.prog w = .ok (.int .i64 (l.length : Int)) w' ∧ OB w' g (l ++ List.replicate (m - l.length) ZOd) ∧ ∀ B, B ≤ g → Below B w w' := by
  have h15 := fifteen hl
  obtain ⟨hlen0, ao, cap, rfl, hcap, hmax, hmore⟩ := hr
  cases ao with
  | none =>
    obtain rfl : l = [] := List.length_eq_zero_iff.1 (by
      rcases Nat.eq_zero_or_pos l.length with q | q
      · exact q
      · obtain ⟨_, _, e, _⟩ := hmore q
        cases e)
    exact ⟨w, run_copy_nil_ods (P := Try.prog) w 24 24 3 42 _ m m cap Try.underlying24 sizeOd, by simpa using hb, fun B _ => Below.refl _ _⟩
  | some a =>
    have hcs : ∀ (j : Nat) (u : Value), (flatL (fun o : Od => o.cs.toList) l)[j]? = some u → w.cell? (a.add j) = some u := fun j u e => by
      have hp : 0 < l.length := by
        have := (List.getElem?_eq_some_iff.1 e).1
        omega
      obtain ⟨g', off, e2, h5⟩ := hmore hp
      injection e2 with e2
      subst e2
      rw [Addr.add_mid]
      exact h5 j u e
    have hmin : Nat.min l.length m = l.length := Nat.min_eq_left hm
    have hlen := flatO_len h15
    have hlz : (flatO (List.replicate m ZOd)).length = m * 15 := by
      unfold flatO
      rw [flatO_len (fifteen (repT ZOd_T)), List.length_replicate]
    have h := run_copy_ods (P := Try.prog) w 24 24 3 42 g 0 m m a l.length cap (flatO (List.replicate m ZOd)).toArray 42 (flatL (fun o => o.cs.toList) l) Try.underlying24 sizeOd hb (by rw [hmin, hlen]) hcs
      (by rw [List.size_toArray, hlz, hlen]; omega) (flatO_one (ok_of hl))
    rw [hmin] at h
    refine ⟨_, by simpa [goInt] using h, ?_, fun B hB => below_setRow (Below.refl _ _) hB _⟩
    unfold OB Blk
    rw [setRow_heap w g _ _ 42 (0, 0) hb]
    refine congrArg (fun a : Array Value => some (Obj.cells a 42 (0, 0))) (Array.ext' ?_)
    have e2 : List.replicate m ZOd = List.replicate l.length ZOd ++ List.replicate (m - l.length) ZOd := by rw [List.replicate_append_replicate, Nat.add_sub_cancel' hm]
    show flatO l ++ List.drop (flatL (fun o : Od => o.cs.toList) l).length (flatO (List.replicate m ZOd)) = flatO (l ++ List.replicate (m - l.length) ZOd)
    rw [e2, hlen]
    unfold flatO
    rw [flatL_app, flatL_app, List.drop_left' (by rw [flatO_len (fifteen (repT ZOd_T)), List.length_replicate])]
end Go.Proofs.Ytbhddfcdnpidkaa

namespace Go.Proofs.Ytbhddfcdnpidkaa
set_option linter.unusedVariables false
set_option linter.unusedSimpArgs false
open Go.RowKit Go.Great
attribute [local irreducible] wpList

def stL : List Value → Nat → List Value → List Value
  | xs, _, [] => xs
  | xs, o, v :: r => stL (xs.set o v) (o + 1) r
theorem stL_app : ∀ (vs A B C : List Value), B.length = vs.length → stL (A ++ (B ++ C)) A.length vs = A ++ (vs ++ C)
  | [], A, B, C, h => by
    obtain rfl : B = [] := List.length_eq_zero_iff.1 h
    rfl
  | v :: r, A, [], C, h => by simp at h
  | v :: r, A, b :: B, C, h => by
    show stL ((A ++ (b :: B ++ C)).set A.length v) (A.length + 1) r = _
    rw [List.set_append_right _ _ (Nat.le_refl _), Nat.sub_self]
    show stL (A ++ (v :: (B ++ C))) (A.length + 1) r = _
    have := stL_app r (A ++ [v]) B C (by simpa using h)
    simp only [List.append_assoc, List.length_append, List.length_cons, List.length_nil, List.singleton_append, Nat.zero_add, List.cons_append, List.nil_append] at this ⊢
    exact this
theorem blk_sets {g : Nat} {T : TypeId} : ∀ (vs : List Value) (o : Nat) (w : World) (cs : Array Value), Blk w g T cs → Blk (w.setCells g o vs) g T (stL cs.toList o vs).toArray
  | [], o, w, cs, h => by simpa [stL, World.setCells] using h
  | v :: r, o, w, cs, h => by
    have := blk_sets r (o + 1) (w.setCell ⟨g, o, none⟩ v) _ (h.set o v)
    rw [Array.toList_setIfInBounds] at this
    exact this
theorem flatO_split {L : List Od} {m : Nat} {o : Od} (ho : L[m]? = some o) : flatO L = flatO (L.take m) ++ (o.cs.toList ++ flatO (L.drop (m + 1))) := by
  have h1 : L = L.take m ++ o :: L.drop (m + 1) := by rw [← drop_cons ho, List.take_append_drop]
  conv => lhs; rw [h1]
  unfold flatO
  rw [flatL_app]
  rfl
theorem OB.set {w : World} {g m : Nat} {L : List Od} {z : Od} (h : OB w g L) (hL : ∀ o ∈ L, OdT o) (hm : m < L.length) (hz : OdT z) : OB (w.setCells g (m * 15) z.cs.toList) g (L.set m z) := by
  have ho := List.getElem?_eq_getElem hm
  have hot := hL _ (List.mem_of_getElem? ho)
  have h1 := blk_sets z.cs.toList (m * 15) w _ h
  have e0 : (flatO (L.take m)).length = m * 15 := by
    unfold flatO
    rw [flatO_len (fifteen fun o h => hL o (List.mem_of_mem_take h)), List.length_take, Nat.min_eq_left (by omega)]
  have e1 : stL (flatO L) (m * 15) z.cs.toList = flatO (L.set m z) := by
    rw [flatO_split ho, ← e0, stL_app _ _ _ _ (by rw [Array.length_toList, Array.length_toList, hot.ok.sz, hz.ok.sz])]
    have h2 : (L.set m z)[m]? = some z := List.getElem?_set_self hm
    rw [flatO_split h2]
    congr 2
    · rw [List.take_set_of_le (Nat.le_refl _)]
    · simp [List.drop_set]
  unfold OB
  rw [← e1]
  exact h1
theorem OB.there {w : World} {g m : Nat} {L : List Od} (h : OB w g L) (hL : ∀ o ∈ L, OdT o) (hm : m < L.length) : w.there g (m * 15) 15 := fun j hj => by
  have hlen := flatO_len (fifteen hL)
  refine ⟨?_, Blk.frozen h _⟩
  rw [Blk.cell h]
  have h2 : m * 15 + j < (flatO L).toArray.size := by
    unfold flatO
    rw [List.size_toArray, hlen]
    omega
  rw [Array.getElem?_eq_getElem h2]
  rfl
def lentO (l : List Od) (k : Nat) : List Od := l ++ List.replicate k MOd ++ List.replicate (8 - k) ZOd
theorem lentO_len {l : List Od} {k : Nat} (h : k ≤ 8) : (lentO l k).length = l.length + 8 := by simp [lentO]; omega
theorem lentO_T {l : List Od} {k : Nat} (hl : ∀ o ∈ l, OdT o) : ∀ o ∈ lentO l k, OdT o := fun o ho => by
  unfold lentO at ho
  rcases List.mem_append.1 ho with h | h
  · rcases List.mem_append.1 h with h | h
    · exact hl o h
    · exact repT MOd_T o h
  · exact repT ZOd_T o h
theorem lentO_set {l : List Od} {k : Nat} (h : k < 8) : (lentO l k).set (l.length + k) MOd = lentO l (k + 1) := by
  unfold lentO
  have e : List.replicate (8 - k) ZOd = ZOd :: List.replicate (8 - (k + 1)) ZOd := by rw [show 8 - k = (8 - (k + 1)) + 1 by omega, List.replicate_succ]
  rw [List.set_append, if_neg (by simp)]
  have el : l.length + k - (l ++ List.replicate k MOd).length = 0 := by simp
  rw [el, e, List.set_cons_zero, List.replicate_succ']
  simp
theorem exec_copyO {op : Oper} {a : Act} {w w' : World} {v v1 v2 : Value} {t u : TypeId} (x y : Operand) (ho : op.op = .call { callee := .builtin .copy, args := #[x, y], argTypes := #[t, u] }) (hx : a.eval x = v1) (hy : a.eval y = v2) (hr : (Builtin.copy_ #[t, u] op.type #[v1, v2]).run Try.prog w = .ok v w') : (execOp a.eval op).run Try.prog w = .ok (.value v) w' := by
  unfold execOp
  simp only [ho, resolve, invoke, builtin, Sem.run_bind, Sem.run_pure, Result.andThen_ok, List.map_toArray, List.map_cons, List.map_nil, hx, hy, hr]
theorem oneM : (MOd.cs.all fun x => x.oneCell') = true := MOd_T.ok.one
theorem add8_run {op : Oper} {a : Act} {n : Nat} (x : Operand) (ho : op.op = .binOp .add 3 x (.const (.int .i64 8)) 3) (hx : a.eval x = .int .i64 (n : Int)) (hn : n ≤ 1000000000000) (w : World) : (execOp a.eval op).run Try.prog w = .ok (.value (.int .i64 ((n + 8 : Nat) : Int))) w := by
  have e1 : IntKind.i64.wrap ((n : Int) + 8) = ((n + 8 : Nat) : Int) := by rw [IntKind.wrap_i64]; omega
  have e : a.eval (.const (.int .i64 8)) = .int .i64 8 := rfl
  unfold execOp
  simp only [ho, hx, e]
  go_simp
  try rw [e1]
set_option maxRecDepth 100000 in
set_option maxHeartbeats 2000000 in
theorem lent_any {w : World} {l : List Od} {v : Value} (hr : RowIn w 42 15 v l.length (flatL (fun o => o.cs.toList) l)) (hl : ∀ o ∈ l, OdT o) (hn : l.length ≤ 977343669105) :
    Calls Try.prog 17 #[v] w fun e w' => e = .returned (.slice (some ⟨w.heap.size, 0, none⟩) (l.length + 8) (l.length + 8)) ∧ Hid (OB w' w.heap.size (lentO l 8) ∧ Below w.heap.size w w') := by
  obtain ⟨ao, cap, rfl, _⟩ := hr.form
  obtain ⟨g, hg⟩ : ∃ g, g = w.heap.size := ⟨_, rfl⟩
  obtain ⟨n, hnn⟩ : ∃ n, n = l.length := ⟨_, rfl⟩
  have HR : Hid (RowIn w 42 15 (.slice ao n cap) n (flatL (fun o => o.cs.toList) l) ∧ (∀ o ∈ l, OdT o) ∧ n = l.length ∧ g = w.heap.size) := ⟨by rw [hnn]; exact hr, hl, hnn, hg⟩
  rw [← hnn, ← hg]
  rw [← hnn] at hn
  clear hr hl hnn
  go_enter Try.func17, Try.ntmps17
  go_upto_region 1 with fail
  rename_i K hK
  refine wp_region_lit ?_
  refine wpList_runTo rfl (some 5) rfl (.slice ao n cap) w (by kernel_rfl) ?_
  simp only [Act.put, List.setIfInBounds_toArray, List.set_cons_zero, List.set_cons_succ]
  refine wpList_runTo rfl (some 6) rfl (.int .i64 (n : Int)) w (by exact lenO_run (v := .slice ao n cap) (ao := ao) (n := n) (c := cap) rfl (.tmp 5) rfl (by kernel_rfl) _) ?_
  simp only [Act.put, List.setIfInBounds_toArray, List.set_cons_zero, List.set_cons_succ]
  refine wpList_runTo rfl (some 7) rfl (.int .i64 ((n + 8 : Nat) : Int)) w (by exact add8_run (n := n) (.tmp 6) rfl (by kernel_rfl) (by omega) _) ?_
  simp only [Act.put, List.setIfInBounds_toArray, List.set_cons_zero, List.set_cons_succ]
  refine wpList_runTo rfl (some 8) rfl (.slice (some ⟨w.heap.size, 0, none⟩) (n + 8) (n + 8)) (w.alloc (.cells (flatO (List.replicate (n + 8) ZOd)).toArray 42)) (by exact mkO_run (n := n + 8) (.tmp 7) (.tmp 7) rfl (by kernel_rfl) (by kernel_rfl) (by omega) _) ?_
  simp only [Act.put, List.setIfInBounds_toArray, List.set_cons_zero, List.set_cons_succ]
  rw [← hg]
  have H1 : Hid (OB (w.alloc (.cells (flatO (List.replicate (n + 8) ZOd)).toArray 42)) g (List.replicate (n + 8) ZOd) ∧ Below w.heap.size w (w.alloc (.cells (flatO (List.replicate (n + 8) ZOd)).toArray 42))) := ⟨by rw [hg]; exact Blk.new _ _ _, (Below.refl _ w).alloc (Nat.le_refl _) _⟩
  generalize w.alloc (.cells (flatO (List.replicate (n + 8) ZOd)).toArray 42) = w1 at *
  refine wpList_runTo rfl (some 3) rfl (.slice (some ⟨g, 0, none⟩) (n + 8) (n + 8)) w1 (by kernel_rfl) ?_
  simp only [Act.put, List.setIfInBounds_toArray, List.set_cons_zero, List.set_cons_succ]
  refine wpList_nil ?_
  refine hK _ _ ?_
  clear hK
  obtain ⟨w2, hcp, hob, hbl⟩ := copyO (w := w1) (l := l) (v := .slice ao n cap) (g := g) (m := n + 8) (by have := HR.out.1.fr (Fr.of_below H1.out.2 (fun _ => False)) fun _ _ => id; rw [← HR.out.2.2.1]; exact this) HR.out.2.1 (by rw [← HR.out.2.2.1]; omega) H1.out.1
  rw [← HR.out.2.2.1] at hcp
  have H2 : Hid (OB w2 g (lentO l 0) ∧ Below w.heap.size w w2) := by
    refine ⟨?_, (H1.out.2).trans ((hbl _ (by rw [HR.out.2.2.2]; exact Nat.le_refl _)).mono (Nat.le_refl _))⟩
    rw [← HR.out.2.2.1, show n + 8 - n = 8 by omega] at hob
    unfold lentO
    simpa using hob
  clear H1 hob hbl hg
  go_upto_region 2 with fail
  rename_i K hK
  refine wp_region_lit ?_
  refine wpList_runTo rfl (some 9) rfl (.slice (some ⟨g, 0, none⟩) (n + 8) (n + 8)) w1 (by kernel_rfl) ?_
  simp only [Act.put, List.setIfInBounds_toArray, List.set_cons_zero, List.set_cons_succ]
  refine wpList_runTo rfl (some 10) rfl (.slice ao n cap) w1 (by kernel_rfl) ?_
  simp only [Act.put, List.setIfInBounds_toArray, List.set_cons_zero, List.set_cons_succ]
  refine wpList_runTo rfl (some 11) rfl (.int .i64 (n : Int)) w2 (by exact exec_copyO (.tmp 9) (.tmp 10) rfl (by kernel_rfl) (by kernel_rfl) hcp) ?_
  simp only [Act.put, List.setIfInBounds_toArray, List.set_cons_zero, List.set_cons_succ]
  clear hcp
  refine wpList_nil ?_
  refine hK _ _ ?_
  clear hK
  go_upto_region 3 with fail
  rename_i K hK
  refine wp_region_lit ?_
  refine wpList_runTo rfl (some 12) rfl (.slice ao n cap) w2 (by kernel_rfl) ?_
  simp only [Act.put, List.setIfInBounds_toArray, List.set_cons_zero, List.set_cons_succ]
  refine wpList_runTo rfl (some 13) rfl (.int .i64 (n : Int)) w2 (by exact lenO_run (v := .slice ao n cap) (ao := ao) (n := n) (c := cap) rfl (.tmp 12) rfl (by kernel_rfl) _) ?_
  simp only [Act.put, List.setIfInBounds_toArray, List.set_cons_zero, List.set_cons_succ]
  refine wpList_runTo rfl (some 4) rfl (.int .i64 (n : Int)) w2 (by kernel_rfl) ?_
  simp only [Act.put, List.setIfInBounds_toArray, List.set_cons_zero, List.set_cons_succ]
  refine wpList_nil ?_
  refine hK _ _ ?_
  clear hK
  go_upto_region 4 with fail
  go_loopw [4] (fun x4 wr => ∃ k : Nat, k ≤ 8 ∧ x4 = .int .i64 ((n + k : Nat) : Int) ∧ Hid (OB wr g (lentO l k) ∧ Below w.heap.size w wr)) (fun x4 _ => n + 8 - (RowKit.intOf x4).toNat)
  case atStart => exact ⟨0, Nat.zero_le _, by simp, H2.out⟩
  case round => as_aux_lemma =>
    obtain ⟨k, hk, rfl, HK⟩ := hrel
    by_cases hlt : k < 8
    · obtain ⟨m, hm⟩ : ∃ m, m = n + k := ⟨_, rfl⟩
      rw [← hm]
      have hlt' : (m : Int) < ((n + 8 : Nat) : Int) := by omega
      have hm8 : m < n + 8 := by omega
      have HS : Hid (wr.there g (m * 15) 15 ∧ OB (wr.setCells g (m * 15) MOd.cs.toList) g (lentO l (k + 1)) ∧ Below w.heap.size w (wr.setCells g (m * 15) MOd.cs.toList)) := by
        have hT := lentO_T (k := k) HR.out.2.1
        have hlen := lentO_len (l := l) hk
        have e := HR.out.2.2.1
        refine ⟨HK.out.1.there hT (by omega), ?_, HK.out.2.trans (((Fr.setCells g (fun b => b = g) rfl _ _ _).below (B := w.heap.size) HK.out.2.size fun b hb e2 => by have := HR.out.2.2.2; omega))⟩
        rw [← lentO_set (l := l) hlt, ← e, ← hm]
        exact HK.out.1.set hT (by omega) MOd_T
      clear HK H2
      go_upto_region 6 with fail
      rename_i K hK
      refine wp_region_lit ?_
      refine wpList_runTo rfl (some 20) rfl (.slice (some ⟨g, 0, none⟩) (n + 8) (n + 8)) wr (by kernel_rfl) ?_
      simp only [Act.put, List.setIfInBounds_toArray, List.set_cons_zero, List.set_cons_succ]
      refine wpList_runTo rfl (some 21) rfl (.int .i64 (m : Int)) wr (by kernel_rfl) ?_
      simp only [Act.put, List.setIfInBounds_toArray, List.set_cons_zero, List.set_cons_succ]
      refine wpList_runTo rfl (some 22) rfl (.agg MOd.cs) wr (by kernel_rfl) ?_
      simp only [Act.put, List.setIfInBounds_toArray, List.set_cons_zero, List.set_cons_succ]
      refine wpList_runTo rfl (some 23) rfl (.pointer (some ⟨g, 0 + m * 15, none⟩)) wr (by exact ixOr_run (n := n + 8) (c := n + 8) (.tmp 20) (.tmp 21) rfl (by kernel_rfl) (by kernel_rfl) hm8 _) ?_
      simp only [Act.put, List.setIfInBounds_toArray, List.set_cons_zero, List.set_cons_succ]
      rw [Nat.zero_add]
      refine wpList_store_mid rfl 42 (.tmp 23) (.tmp 22) rfl g (m * 15) MOd.cs (by kernel_rfl) (by kernel_rfl) HS.out.1 sizeOd oneM ?_
      try simp only [Act.put]
      have HF : Hid (OB (wr.setCells g (m * 15) MOd.cs.toList) g (lentO l (k + 1)) ∧ Below w.heap.size w (wr.setCells g (m * 15) MOd.cs.toList)) := HS.out.2
      clear HS
      generalize wr.setCells g (m * 15) MOd.cs.toList = wz at *
      refine wpList_nil ?_
      refine hK _ _ ?_
      clear hK
      go_wp2
      exact ⟨⟨k + 1, by omega, by first | go_num | (congr 1; omega), HF.out⟩, by simp [RowKit.intOf]; omega⟩
    · obtain rfl : k = 8 := by omega
      have hlt' : ¬ ((n + 8 : Nat) : Int) < ((n + 8 : Nat) : Int) := by omega
      have HF := HK
      clear HK H2
      go_wp2
      go_ret
      exact ⟨rfl, HF.out.1, by have := HF.out.2; rwa [← HR.out.2.2.2] at this⟩
end Go.Proofs.Ytbhddfcdnpidkaa

namespace Go.Proofs.Ytbhddfcdnpidkaa
set_option linter.unusedVariables false
set_option linter.unusedSimpArgs false
open Go.RowKit Go.Great
attribute [local irreducible] wpList

theorem neqO_run {op : Oper} {a : Act} {o : Od} (h : OdT o) (x y : Operand) (ho : op.op = .binOp .neq 42 x y 42) (hx : a.eval x = .agg o.cs) (hy : a.eval y = .agg o.cs) (w : World) : (execOp a.eval op).run Try.prog w = .ok (.value (.bool false)) w := by
  obtain ⟨i, s, t, u, a, b, c, d, e, f, g, h, j, k, m, rfl⟩ := h
  unfold oC at hx hy
  unfold execOp
  simp only [ho, hx, hy]
  go_simp
theorem geN_run {op : Oper} {a : Act} {p q : Int} {r : Bool} (x y : Operand) (ho : op.op = .binOp .geq 3 x y 3) (hx : a.eval x = .int .i64 p) (hy : a.eval y = .int .i64 q) (hr : decide (q ≤ p) = r) (w : World) : (execOp a.eval op).run Try.prog w = .ok (.value (.bool r)) w := by
  subst hr
  unfold execOp
  simp only [ho, hx, hy]
  go_simp
theorem lentO_lo {l : List Od} {i : Nat} (h : i < l.length) : (lentO l 8)[i]? = l[i]? := by
  unfold lentO
  rw [List.append_assoc, List.getElem?_append_left h]
theorem lentO_hi {l : List Od} {i : Nat} (h : l.length ≤ i) (h2 : i < l.length + 8) : (lentO l 8)[i]? = some MOd := by
  unfold lentO
  rw [Nat.sub_self, List.replicate_zero, List.append_nil, List.getElem?_append_right h, List.getElem?_replicate, if_pos (by omega)]
set_option maxRecDepth 100000 in
set_option maxHeartbeats 2000000 in
theorem still_any {w : World} {l : List Od} {v : Value} {g : Nat} (hb : OB w g (lentO l 8)) (hr : RowIn w 42 15 v l.length (flatL (fun o => o.cs.toList) l)) (hl : ∀ o ∈ l, OdT o) (hn : l.length ≤ 977343669105) :
    Calls Try.prog 21 #[.slice (some ⟨g, 0, none⟩) (l.length + 8) (l.length + 8), v] w fun e w' => e = .returned (.bool true) ∧ Below w.heap.size w w' := by
  obtain ⟨ao, cap, rfl, _⟩ := hr.form
  obtain ⟨n, hnn⟩ : ∃ n, n = l.length := ⟨_, rfl⟩
  have HR : Hid (RowIn w 42 15 (.slice ao n cap) n (flatL (fun o => o.cs.toList) l) ∧ (∀ o ∈ l, OdT o) ∧ n = l.length ∧ RowAt w 42 15 (.slice (some ⟨g, 0, none⟩) (n + 8) (n + 8)) (n + 8) (flatL (fun o => o.cs.toList) (lentO l 8))) := by
    refine ⟨by rw [hnn]; exact hr, hl, hnn, ?_⟩
    have := hb.row (lentO_T hl) (by rw [lentO_len (Nat.le_refl _)]; unfold maxLen; omega)
    rw [lentO_len (Nat.le_refl _)] at this
    rw [hnn]
    exact this
  rw [← hnn]
  rw [← hnn] at hn
  clear hr hl hnn hb
  go_enter Try.func21, Try.ntmps21
  go_upto_region 2 with fail
  go_loopw [5] (fun x5 wr => ∃ i : Nat, i ≤ n + 8 ∧ x5 = .int .i64 (i : Int) ∧ Hid (Below w.heap.size w wr)) (fun x5 _ => n + 8 - (RowKit.intOf x5).toNat)
  case atStart => exact ⟨0, Nat.zero_le _, rfl, Below.refl _ _⟩
  case round => as_aux_lemma =>
    obtain ⟨i, hi, rfl, HB⟩ := hrel
    generalize wr = W at *
    by_cases hlt : i < n + 8
    · have hlt' : (i : Int) < ((n + 8 : Nat) : Int) := by omega
      by_cases hin : i < n
      · obtain ⟨o, ho⟩ : ∃ o, l[i]? = some o := ⟨_, List.getElem?_eq_getElem (by rw [← HR.out.2.2.1]; exact hin)⟩
        have hot := HR.out.2.1 o (List.mem_of_getElem? ho)
        have hsz := hot.ok.sz
        obtain ⟨g2, o2, c2, cur2, ea, _⟩ := HR.out.1.more (by omega)
        injection ea with ea1 _ ea2
        subst ea1 ea2
        have HG : Hid (∀ (w' : World), Below W.heap.size W w' → w'.rangeAt g (0 + i * 15) o.cs.toList ∧ w'.rangeAt g2 (o2 + i * 15) o.cs.toList) := fun w' h => ⟨row_rangeO (HR.out.2.2.2.fr (Fr.of_below (below_step HB.out h) (fun _ => False)) fun _ _ => id) (ok_of (lentO_T HR.out.2.1)) (by rw [lentO_lo (by rw [← HR.out.2.2.1]; exact hin)]; exact ho), row_rangeOI (HR.out.1.fr (Fr.of_below (below_step HB.out h) (fun _ => False)) fun _ _ => id) (ok_of HR.out.2.1) ho⟩
        clear ho
        go_upto_region 4 with fail
        rename_i K hK
        refine wp_region_held (S := fun w' => Below W.heap.size W w') (by kernel_rfl) ?_
        change wpAnyH _ _ _ _ _ _ _ _ (World.drew _)
        have hS0 : Below W.heap.size W W.drew := (Below.refl _ W).drew
        generalize W.drew = Z0 at *
        refine takeR (i := 0) (v := .int .i64 (i : Int)) (some 12) rfl rfl (by kernel_rfl) (by kernel_rfl) (by kernel_rfl) (fun _ _ _ h => h) (Or.inl ⟨by kernel_rfl, fun w' hSw => by kernel_rfl⟩) hS0 ?_
        simp only [Act.put, List.setIfInBounds_toArray, List.set_cons_zero, List.set_cons_succ]
        refine takeR (i := 1) (v := .slice (some ⟨g2, o2, none⟩) n cap) (some 13) rfl rfl (by kernel_rfl) (by kernel_rfl) (by kernel_rfl) (fun _ _ _ h => h) (Or.inl ⟨by kernel_rfl, fun w' hSw => by kernel_rfl⟩) hS0 ?_
        simp only [Act.put, List.setIfInBounds_toArray, List.set_cons_zero, List.set_cons_succ]
        refine takeR (i := 2) (v := .int .i64 (n : Int)) (some 14) rfl rfl (by kernel_rfl) (by kernel_rfl) (by kernel_rfl) (fun _ _ _ h => h) (Or.inl ⟨by kernel_rfl, fun w' hSw => by exact lenO_run (v := .slice (some ⟨g2, o2, none⟩) n cap) (ao := some ⟨g2, o2, none⟩) (n := n) (c := cap) rfl (.tmp 13) rfl (by kernel_rfl) _⟩) hS0 ?_
        simp only [Act.put, List.setIfInBounds_toArray, List.set_cons_zero, List.set_cons_succ]
        refine takeR (i := 3) (v := .bool true) (some 15) rfl rfl (by kernel_rfl) (by kernel_rfl) (by kernel_rfl) (fun _ _ _ h => h) (Or.inl ⟨by kernel_rfl, fun w' hSw => by exact ltN_run (p := (i : Int)) (q := (n : Int)) (.tmp 12) (.tmp 14) rfl (by kernel_rfl) (by kernel_rfl) (decide_eq_true (by omega)) _⟩) hS0 ?_
        simp only [Act.put, List.setIfInBounds_toArray, List.set_cons_zero, List.set_cons_succ]
        refine takeR (i := 4) (v := .bool true) (some 16) rfl rfl (by kernel_rfl) (by kernel_rfl) (by kernel_rfl) (fun _ _ _ h => h) (Or.inl ⟨by kernel_rfl, fun w' hSw => by kernel_rfl⟩) hS0 ?_
        simp only [Act.put, List.setIfInBounds_toArray, List.set_cons_zero, List.set_cons_succ]
        refine takeR (i := 5) (v := .slice (some ⟨g, 0, none⟩) (n + 8) (n + 8)) (some 17) rfl rfl (by kernel_rfl) (by kernel_rfl) (by kernel_rfl) (fun _ _ _ h => h) (Or.inl ⟨by kernel_rfl, fun w' hSw => by kernel_rfl⟩) hS0 ?_
        simp only [Act.put, List.setIfInBounds_toArray, List.set_cons_zero, List.set_cons_succ]
        refine takeR (i := 6) (v := .int .i64 (i : Int)) (some 18) rfl rfl (by kernel_rfl) (by kernel_rfl) (by kernel_rfl) (fun _ _ _ h => h) (Or.inl ⟨by kernel_rfl, fun w' hSw => by kernel_rfl⟩) hS0 ?_
        simp only [Act.put, List.setIfInBounds_toArray, List.set_cons_zero, List.set_cons_succ]
        refine takeR (i := 7) (v := .pointer (some ⟨g, 0 + i * 15, none⟩)) (some 19) rfl rfl (by kernel_rfl) (by kernel_rfl) (by kernel_rfl) (fun _ _ _ h => h) (Or.inl ⟨by kernel_rfl, fun w' hSw => by exact ixOr_run (n := n + 8) (c := n + 8) (.tmp 17) (.tmp 18) rfl (by kernel_rfl) (by kernel_rfl) hlt _⟩) hS0 ?_
        simp only [Act.put, List.setIfInBounds_toArray, List.set_cons_zero, List.set_cons_succ]
        refine takeR (i := 8) (v := .agg o.cs) (some 20) rfl rfl (by kernel_rfl) (by kernel_rfl) (by kernel_rfl) (fun _ _ _ h => h) (Or.inl ⟨by kernel_rfl, fun w' hSw => by exact ldA_run (HG.out _ hSw).1 Try.underlying42 rfl (by rw [hsz]; exact infoO) (.tmp 19) rfl (by kernel_rfl)⟩) hS0 ?_
        simp only [Act.put, List.setIfInBounds_toArray, List.set_cons_zero, List.set_cons_succ]
        refine takeR (i := 9) (v := .slice (some ⟨g2, o2, none⟩) n cap) (some 21) rfl rfl (by kernel_rfl) (by kernel_rfl) (by kernel_rfl) (fun _ _ _ h => h) (Or.inl ⟨by kernel_rfl, fun w' hSw => by kernel_rfl⟩) hS0 ?_
        simp only [Act.put, List.setIfInBounds_toArray, List.set_cons_zero, List.set_cons_succ]
        refine takeR (i := 10) (v := .int .i64 (i : Int)) (some 22) rfl rfl (by kernel_rfl) (by kernel_rfl) (by kernel_rfl) (fun _ _ _ h => h) (Or.inl ⟨by kernel_rfl, fun w' hSw => by kernel_rfl⟩) hS0 ?_
        simp only [Act.put, List.setIfInBounds_toArray, List.set_cons_zero, List.set_cons_succ]
        refine takeR (i := 11) (v := .pointer (some ⟨g2, o2 + i * 15, none⟩)) (some 23) rfl rfl (by kernel_rfl) (by kernel_rfl) (by kernel_rfl) (fun _ _ _ h => h) (Or.inl ⟨by kernel_rfl, fun w' hSw => by exact ixOr_run (n := n) (c := cap) (.tmp 21) (.tmp 22) rfl (by kernel_rfl) (by kernel_rfl) hin _⟩) hS0 ?_
        simp only [Act.put, List.setIfInBounds_toArray, List.set_cons_zero, List.set_cons_succ]
        refine takeR (i := 12) (v := .agg o.cs) (some 24) rfl rfl (by kernel_rfl) (by kernel_rfl) (by kernel_rfl) (fun _ _ _ h => h) (Or.inl ⟨by kernel_rfl, fun w' hSw => by exact ldA_run (HG.out _ hSw).2 Try.underlying42 rfl (by rw [hsz]; exact infoO) (.tmp 23) rfl (by kernel_rfl)⟩) hS0 ?_
        simp only [Act.put, List.setIfInBounds_toArray, List.set_cons_zero, List.set_cons_succ]
        refine takeR (i := 13) (v := .bool false) (some 25) rfl rfl (by kernel_rfl) (by kernel_rfl) (by kernel_rfl) (fun _ _ _ h => h) (Or.inl ⟨by kernel_rfl, fun w' hSw => by exact neqO_run hot (.tmp 20) (.tmp 24) rfl (by kernel_rfl) (by kernel_rfl) _⟩) hS0 ?_
        simp only [Act.put, List.setIfInBounds_toArray, List.set_cons_zero, List.set_cons_succ]
        refine takeR (i := 14) (v := .bool false) (some 26) rfl rfl (by kernel_rfl) (by kernel_rfl) (by kernel_rfl) (fun _ _ _ h => h) (Or.inl ⟨by kernel_rfl, fun w' hSw => by exact pick_run (c := false) (.tmp 16) (.tmp 25) rfl (by kernel_rfl) (by kernel_rfl) _⟩) hS0 ?_
        simp only [Act.put, List.setIfInBounds_toArray, List.set_cons_zero, List.set_cons_succ]
        refine takeR (i := 15) (v := .bool false) (some 27) rfl rfl (by kernel_rfl) (by kernel_rfl) (by kernel_rfl) (fun _ _ _ h => h) (Or.inl ⟨by kernel_rfl, fun w' hSw => by kernel_rfl⟩) hS0 ?_
        simp only [Act.put, List.setIfInBounds_toArray, List.set_cons_zero, List.set_cons_succ]
        refine takeR (i := 16) (v := .int .i64 (i : Int)) (some 28) rfl rfl (by kernel_rfl) (by kernel_rfl) (by kernel_rfl) (fun _ _ _ h => h) (Or.inl ⟨by kernel_rfl, fun w' hSw => by kernel_rfl⟩) hS0 ?_
        simp only [Act.put, List.setIfInBounds_toArray, List.set_cons_zero, List.set_cons_succ]
        refine takeR (i := 17) (v := .slice (some ⟨g2, o2, none⟩) n cap) (some 29) rfl rfl (by kernel_rfl) (by kernel_rfl) (by kernel_rfl) (fun _ _ _ h => h) (Or.inl ⟨by kernel_rfl, fun w' hSw => by kernel_rfl⟩) hS0 ?_
        simp only [Act.put, List.setIfInBounds_toArray, List.set_cons_zero, List.set_cons_succ]
        refine takeR (i := 18) (v := .int .i64 (n : Int)) (some 30) rfl rfl (by kernel_rfl) (by kernel_rfl) (by kernel_rfl) (fun _ _ _ h => h) (Or.inl ⟨by kernel_rfl, fun w' hSw => by exact lenO_run (v := .slice (some ⟨g2, o2, none⟩) n cap) (ao := some ⟨g2, o2, none⟩) (n := n) (c := cap) rfl (.tmp 29) rfl (by kernel_rfl) _⟩) hS0 ?_
        simp only [Act.put, List.setIfInBounds_toArray, List.set_cons_zero, List.set_cons_succ]
        refine takeR (i := 19) (v := .bool false) (some 31) rfl rfl (by kernel_rfl) (by kernel_rfl) (by kernel_rfl) (fun _ _ _ h => h) (Or.inl ⟨by kernel_rfl, fun w' hSw => by exact geN_run (p := (i : Int)) (q := (n : Int)) (.tmp 28) (.tmp 30) rfl (by kernel_rfl) (by kernel_rfl) (decide_eq_false (by omega)) _⟩) hS0 ?_
        simp only [Act.put, List.setIfInBounds_toArray, List.set_cons_zero, List.set_cons_succ]
        refine takeR (i := 20) (v := .bool false) (some 32) rfl rfl (by kernel_rfl) (by kernel_rfl) (by kernel_rfl) (fun _ _ _ h => h) (Or.inl ⟨by kernel_rfl, fun w' hSw => by kernel_rfl⟩) hS0 ?_
        simp only [Act.put, List.setIfInBounds_toArray, List.set_cons_zero, List.set_cons_succ]
        refine takeR (i := 21) (v := undef) (some 33) rfl rfl (by kernel_rfl) (by kernel_rfl) (by kernel_rfl) (fun _ _ _ h => h) (Or.inr ⟨by kernel_rfl, rfl⟩) hS0 ?_
        simp only [Act.put, List.setIfInBounds_toArray, List.set_cons_zero, List.set_cons_succ]
        refine takeR (i := 22) (v := undef) (some 34) rfl rfl (by kernel_rfl) (by kernel_rfl) (by kernel_rfl) (fun _ _ _ h => h) (Or.inr ⟨by kernel_rfl, rfl⟩) hS0 ?_
        simp only [Act.put, List.setIfInBounds_toArray, List.set_cons_zero, List.set_cons_succ]
        refine takeR (i := 23) (v := undef) (some 35) rfl rfl (by kernel_rfl) (by kernel_rfl) (by kernel_rfl) (fun _ _ _ h => h) (Or.inr ⟨by kernel_rfl, rfl⟩) hS0 ?_
        simp only [Act.put, List.setIfInBounds_toArray, List.set_cons_zero, List.set_cons_succ]
        refine takeR (i := 24) (v := undef) (some 36) rfl rfl (by kernel_rfl) (by kernel_rfl) (by kernel_rfl) (fun _ _ _ h => h) (Or.inr ⟨by kernel_rfl, rfl⟩) hS0 ?_
        simp only [Act.put, List.setIfInBounds_toArray, List.set_cons_zero, List.set_cons_succ]
        refine takeR (i := 25) (v := undef) (some 37) rfl rfl (by kernel_rfl) (by kernel_rfl) (by kernel_rfl) (fun _ _ _ h => h) (Or.inr ⟨by kernel_rfl, rfl⟩) hS0 ?_
        simp only [Act.put, List.setIfInBounds_toArray, List.set_cons_zero, List.set_cons_succ]
        refine takeR (i := 26) (v := undef) (some 38) rfl rfl (by kernel_rfl) (by kernel_rfl) (by kernel_rfl) (fun _ _ _ h => h) (Or.inr ⟨by kernel_rfl, rfl⟩) hS0 ?_
        simp only [Act.put, List.setIfInBounds_toArray, List.set_cons_zero, List.set_cons_succ]
        refine takeR (i := 27) (v := .bool false) (some 39) rfl rfl (by kernel_rfl) (by kernel_rfl) (by kernel_rfl) (fun _ _ _ h => h) (Or.inl ⟨by kernel_rfl, fun w' hSw => by kernel_rfl⟩) hS0 ?_
        simp only [Act.put, List.setIfInBounds_toArray, List.set_cons_zero, List.set_cons_succ]
        refine takeR (i := 28) (v := .bool false) (some 40) rfl rfl (by kernel_rfl) (by kernel_rfl) (by kernel_rfl) (fun _ _ _ h => h) (Or.inl ⟨by kernel_rfl, fun w' hSw => by exact pickN_run (.tmp 27) (.tmp 39) rfl (by kernel_rfl) (by kernel_rfl) _⟩) hS0 ?_
        simp only [Act.put, List.setIfInBounds_toArray, List.set_cons_zero, List.set_cons_succ]
        refine wpAnyH_done (by kernel_rfl) ?_ _
        have H4 : Hid (Below w.heap.size w Z0) := below_step HB.out hS0
        clear hS0 HB HG
        generalize Z0 = W4 at *
        refine hK _ _ ?_
        clear hK
        go_wp2
        exact ⟨⟨i + 1, by omega, by go_num, H4⟩, by simp [RowKit.intOf]; omega⟩
      · have hsz := MOd_T.ok.sz
        have HG : Hid (∀ (w' : World), Below W.heap.size W w' → w'.rangeAt g (0 + i * 15) MOd.cs.toList) := fun w' h => row_rangeO (HR.out.2.2.2.fr (Fr.of_below (below_step HB.out h) (fun _ => False)) fun _ _ => id) (ok_of (lentO_T HR.out.2.1)) (lentO_hi (by rw [← HR.out.2.2.1]; omega) (by rw [← HR.out.2.2.1]; exact hlt))
        go_upto_region 4 with fail
        rename_i K hK
        refine wp_region_held (S := fun w' => Below W.heap.size W w') (by kernel_rfl) ?_
        change wpAnyH _ _ _ _ _ _ _ _ (World.drew _)
        have hS0 : Below W.heap.size W W.drew := (Below.refl _ W).drew
        generalize W.drew = Z0 at *
        refine takeR (i := 0) (v := .int .i64 (i : Int)) (some 12) rfl rfl (by kernel_rfl) (by kernel_rfl) (by kernel_rfl) (fun _ _ _ h => h) (Or.inl ⟨by kernel_rfl, fun w' hSw => by kernel_rfl⟩) hS0 ?_
        simp only [Act.put, List.setIfInBounds_toArray, List.set_cons_zero, List.set_cons_succ]
        refine takeR (i := 1) (v := .slice ao n cap) (some 13) rfl rfl (by kernel_rfl) (by kernel_rfl) (by kernel_rfl) (fun _ _ _ h => h) (Or.inl ⟨by kernel_rfl, fun w' hSw => by kernel_rfl⟩) hS0 ?_
        simp only [Act.put, List.setIfInBounds_toArray, List.set_cons_zero, List.set_cons_succ]
        refine takeR (i := 2) (v := .int .i64 (n : Int)) (some 14) rfl rfl (by kernel_rfl) (by kernel_rfl) (by kernel_rfl) (fun _ _ _ h => h) (Or.inl ⟨by kernel_rfl, fun w' hSw => by exact lenO_run (v := .slice ao n cap) (ao := ao) (n := n) (c := cap) rfl (.tmp 13) rfl (by kernel_rfl) _⟩) hS0 ?_
        simp only [Act.put, List.setIfInBounds_toArray, List.set_cons_zero, List.set_cons_succ]
        refine takeR (i := 3) (v := .bool false) (some 15) rfl rfl (by kernel_rfl) (by kernel_rfl) (by kernel_rfl) (fun _ _ _ h => h) (Or.inl ⟨by kernel_rfl, fun w' hSw => by exact ltN_run (p := (i : Int)) (q := (n : Int)) (.tmp 12) (.tmp 14) rfl (by kernel_rfl) (by kernel_rfl) (decide_eq_false (by omega)) _⟩) hS0 ?_
        simp only [Act.put, List.setIfInBounds_toArray, List.set_cons_zero, List.set_cons_succ]
        refine takeR (i := 4) (v := .bool false) (some 16) rfl rfl (by kernel_rfl) (by kernel_rfl) (by kernel_rfl) (fun _ _ _ h => h) (Or.inl ⟨by kernel_rfl, fun w' hSw => by kernel_rfl⟩) hS0 ?_
        simp only [Act.put, List.setIfInBounds_toArray, List.set_cons_zero, List.set_cons_succ]
        refine takeR (i := 5) (v := undef) (some 17) rfl rfl (by kernel_rfl) (by kernel_rfl) (by kernel_rfl) (fun _ _ _ h => h) (Or.inr ⟨by kernel_rfl, rfl⟩) hS0 ?_
        simp only [Act.put, List.setIfInBounds_toArray, List.set_cons_zero, List.set_cons_succ]
        refine takeR (i := 6) (v := undef) (some 18) rfl rfl (by kernel_rfl) (by kernel_rfl) (by kernel_rfl) (fun _ _ _ h => h) (Or.inr ⟨by kernel_rfl, rfl⟩) hS0 ?_
        simp only [Act.put, List.setIfInBounds_toArray, List.set_cons_zero, List.set_cons_succ]
        refine takeR (i := 7) (v := undef) (some 19) rfl rfl (by kernel_rfl) (by kernel_rfl) (by kernel_rfl) (fun _ _ _ h => h) (Or.inr ⟨by kernel_rfl, rfl⟩) hS0 ?_
        simp only [Act.put, List.setIfInBounds_toArray, List.set_cons_zero, List.set_cons_succ]
        refine takeR (i := 8) (v := undef) (some 20) rfl rfl (by kernel_rfl) (by kernel_rfl) (by kernel_rfl) (fun _ _ _ h => h) (Or.inr ⟨by kernel_rfl, rfl⟩) hS0 ?_
        simp only [Act.put, List.setIfInBounds_toArray, List.set_cons_zero, List.set_cons_succ]
        refine takeR (i := 9) (v := undef) (some 21) rfl rfl (by kernel_rfl) (by kernel_rfl) (by kernel_rfl) (fun _ _ _ h => h) (Or.inr ⟨by kernel_rfl, rfl⟩) hS0 ?_
        simp only [Act.put, List.setIfInBounds_toArray, List.set_cons_zero, List.set_cons_succ]
        refine takeR (i := 10) (v := undef) (some 22) rfl rfl (by kernel_rfl) (by kernel_rfl) (by kernel_rfl) (fun _ _ _ h => h) (Or.inr ⟨by kernel_rfl, rfl⟩) hS0 ?_
        simp only [Act.put, List.setIfInBounds_toArray, List.set_cons_zero, List.set_cons_succ]
        refine takeR (i := 11) (v := undef) (some 23) rfl rfl (by kernel_rfl) (by kernel_rfl) (by kernel_rfl) (fun _ _ _ h => h) (Or.inr ⟨by kernel_rfl, rfl⟩) hS0 ?_
        simp only [Act.put, List.setIfInBounds_toArray, List.set_cons_zero, List.set_cons_succ]
        refine takeR (i := 12) (v := undef) (some 24) rfl rfl (by kernel_rfl) (by kernel_rfl) (by kernel_rfl) (fun _ _ _ h => h) (Or.inr ⟨by kernel_rfl, rfl⟩) hS0 ?_
        simp only [Act.put, List.setIfInBounds_toArray, List.set_cons_zero, List.set_cons_succ]
        refine takeR (i := 13) (v := undef) (some 25) rfl rfl (by kernel_rfl) (by kernel_rfl) (by kernel_rfl) (fun _ _ _ h => h) (Or.inr ⟨by kernel_rfl, rfl⟩) hS0 ?_
        simp only [Act.put, List.setIfInBounds_toArray, List.set_cons_zero, List.set_cons_succ]
        refine takeR (i := 14) (v := .bool false) (some 26) rfl rfl (by kernel_rfl) (by kernel_rfl) (by kernel_rfl) (fun _ _ _ h => h) (Or.inl ⟨by kernel_rfl, fun w' hSw => by kernel_rfl⟩) hS0 ?_
        simp only [Act.put, List.setIfInBounds_toArray, List.set_cons_zero, List.set_cons_succ]
        refine takeR (i := 15) (v := .bool false) (some 27) rfl rfl (by kernel_rfl) (by kernel_rfl) (by kernel_rfl) (fun _ _ _ h => h) (Or.inl ⟨by kernel_rfl, fun w' hSw => by kernel_rfl⟩) hS0 ?_
        simp only [Act.put, List.setIfInBounds_toArray, List.set_cons_zero, List.set_cons_succ]
        refine takeR (i := 16) (v := .int .i64 (i : Int)) (some 28) rfl rfl (by kernel_rfl) (by kernel_rfl) (by kernel_rfl) (fun _ _ _ h => h) (Or.inl ⟨by kernel_rfl, fun w' hSw => by kernel_rfl⟩) hS0 ?_
        simp only [Act.put, List.setIfInBounds_toArray, List.set_cons_zero, List.set_cons_succ]
        refine takeR (i := 17) (v := .slice ao n cap) (some 29) rfl rfl (by kernel_rfl) (by kernel_rfl) (by kernel_rfl) (fun _ _ _ h => h) (Or.inl ⟨by kernel_rfl, fun w' hSw => by kernel_rfl⟩) hS0 ?_
        simp only [Act.put, List.setIfInBounds_toArray, List.set_cons_zero, List.set_cons_succ]
        refine takeR (i := 18) (v := .int .i64 (n : Int)) (some 30) rfl rfl (by kernel_rfl) (by kernel_rfl) (by kernel_rfl) (fun _ _ _ h => h) (Or.inl ⟨by kernel_rfl, fun w' hSw => by exact lenO_run (v := .slice ao n cap) (ao := ao) (n := n) (c := cap) rfl (.tmp 29) rfl (by kernel_rfl) _⟩) hS0 ?_
        simp only [Act.put, List.setIfInBounds_toArray, List.set_cons_zero, List.set_cons_succ]
        refine takeR (i := 19) (v := .bool true) (some 31) rfl rfl (by kernel_rfl) (by kernel_rfl) (by kernel_rfl) (fun _ _ _ h => h) (Or.inl ⟨by kernel_rfl, fun w' hSw => by exact geN_run (p := (i : Int)) (q := (n : Int)) (.tmp 28) (.tmp 30) rfl (by kernel_rfl) (by kernel_rfl) (decide_eq_true (by omega)) _⟩) hS0 ?_
        simp only [Act.put, List.setIfInBounds_toArray, List.set_cons_zero, List.set_cons_succ]
        refine takeR (i := 20) (v := .bool true) (some 32) rfl rfl (by kernel_rfl) (by kernel_rfl) (by kernel_rfl) (fun _ _ _ h => h) (Or.inl ⟨by kernel_rfl, fun w' hSw => by kernel_rfl⟩) hS0 ?_
        simp only [Act.put, List.setIfInBounds_toArray, List.set_cons_zero, List.set_cons_succ]
        refine takeR (i := 21) (v := .slice (some ⟨g, 0, none⟩) (n + 8) (n + 8)) (some 33) rfl rfl (by kernel_rfl) (by kernel_rfl) (by kernel_rfl) (fun _ _ _ h => h) (Or.inl ⟨by kernel_rfl, fun w' hSw => by kernel_rfl⟩) hS0 ?_
        simp only [Act.put, List.setIfInBounds_toArray, List.set_cons_zero, List.set_cons_succ]
        refine takeR (i := 22) (v := .int .i64 (i : Int)) (some 34) rfl rfl (by kernel_rfl) (by kernel_rfl) (by kernel_rfl) (fun _ _ _ h => h) (Or.inl ⟨by kernel_rfl, fun w' hSw => by kernel_rfl⟩) hS0 ?_
        simp only [Act.put, List.setIfInBounds_toArray, List.set_cons_zero, List.set_cons_succ]
        refine takeR (i := 23) (v := .pointer (some ⟨g, 0 + i * 15, none⟩)) (some 35) rfl rfl (by kernel_rfl) (by kernel_rfl) (by kernel_rfl) (fun _ _ _ h => h) (Or.inl ⟨by kernel_rfl, fun w' hSw => by exact ixOr_run (n := n + 8) (c := n + 8) (.tmp 33) (.tmp 34) rfl (by kernel_rfl) (by kernel_rfl) hlt _⟩) hS0 ?_
        simp only [Act.put, List.setIfInBounds_toArray, List.set_cons_zero, List.set_cons_succ]
        refine takeR (i := 24) (v := .agg MOd.cs) (some 36) rfl rfl (by kernel_rfl) (by kernel_rfl) (by kernel_rfl) (fun _ _ _ h => h) (Or.inl ⟨by kernel_rfl, fun w' hSw => by exact ldA_run (HG.out _ hSw) Try.underlying42 rfl (by rw [hsz]; exact infoO) (.tmp 35) rfl (by kernel_rfl)⟩) hS0 ?_
        simp only [Act.put, List.setIfInBounds_toArray, List.set_cons_zero, List.set_cons_succ]
        refine takeR (i := 25) (v := .agg MOd.cs) (some 37) rfl rfl (by kernel_rfl) (by kernel_rfl) (by kernel_rfl) (fun _ _ _ h => h) (Or.inl ⟨by kernel_rfl, fun w' hSw => by kernel_rfl⟩) hS0 ?_
        simp only [Act.put, List.setIfInBounds_toArray, List.set_cons_zero, List.set_cons_succ]
        refine takeR (i := 26) (v := .bool false) (some 38) rfl rfl (by kernel_rfl) (by kernel_rfl) (by kernel_rfl) (fun _ _ _ h => h) (Or.inl ⟨by kernel_rfl, fun w' hSw => by exact neqO_run MOd_T (.tmp 36) (.tmp 37) rfl (by kernel_rfl) (by kernel_rfl) _⟩) hS0 ?_
        simp only [Act.put, List.setIfInBounds_toArray, List.set_cons_zero, List.set_cons_succ]
        refine takeR (i := 27) (v := .bool false) (some 39) rfl rfl (by kernel_rfl) (by kernel_rfl) (by kernel_rfl) (fun _ _ _ h => h) (Or.inl ⟨by kernel_rfl, fun w' hSw => by exact pick_run (c := false) (.tmp 32) (.tmp 38) rfl (by kernel_rfl) (by kernel_rfl) _⟩) hS0 ?_
        simp only [Act.put, List.setIfInBounds_toArray, List.set_cons_zero, List.set_cons_succ]
        refine takeR (i := 28) (v := .bool false) (some 40) rfl rfl (by kernel_rfl) (by kernel_rfl) (by kernel_rfl) (fun _ _ _ h => h) (Or.inl ⟨by kernel_rfl, fun w' hSw => by exact pickN_run (.tmp 27) (.tmp 39) rfl (by kernel_rfl) (by kernel_rfl) _⟩) hS0 ?_
        simp only [Act.put, List.setIfInBounds_toArray, List.set_cons_zero, List.set_cons_succ]
        refine wpAnyH_done (by kernel_rfl) ?_ _
        have H4 : Hid (Below w.heap.size w Z0) := below_step HB.out hS0
        clear hS0 HB HG
        generalize Z0 = W4 at *
        refine hK _ _ ?_
        clear hK
        go_wp2
        exact ⟨⟨i + 1, by omega, by go_num, H4⟩, by simp [RowKit.intOf]; omega⟩
    · obtain rfl : i = n + 8 := by omega
      have hlt' : ¬ ((n + 8 : Nat) : Int) < ((n + 8 : Nat) : Int) := by omega
      go_wp2
      go_ret
      exact ⟨rfl, HB.out⟩
end Go.Proofs.Ytbhddfcdnpidkaa

namespace Go.Proofs.Ytbhddfcdnpidkaa
set_option linter.unusedVariables false
set_option linter.unusedSimpArgs false
open Go.RowKit Go.Great
attribute [local irreducible] wpList

set_option maxRecDepth 100000 in
set_option maxHeartbeats 1000000 in
theorem fillsL2_any {w : World} {F : List Fl} {a b : Option Addr} {c d : Nat} (h1 : RowAt w 39 5 (.slice a F.length c) F.length (flatL flL F)) (h2 : RowAt w 39 5 (.slice b F.length d) F.length (flatL flL F)) (hl : F.length ≤ 2000000000000) :
    Calls Try.prog 16 #[.slice a F.length c, .slice b F.length d] w fun e w' => e = .returned (.bool true) ∧ Below w.heap.size w w' := by
  obtain ⟨n, hn⟩ : ∃ n, n = F.length := ⟨_, rfl⟩
  have HR : Hid (RowAt w 39 5 (.slice a n c) n (flatL flL F) ∧ RowAt w 39 5 (.slice b n d) n (flatL flL F) ∧ n = F.length) := by rw [hn]; exact ⟨h1, h2, rfl⟩
  rw [← hn] at hl ⊢
  clear h1 h2 hn
  go_enter Try.func16, Try.ntmps16
  go_upto_region 4 with fail
  go_loopw [5] (fun x5 wr => ∃ i : Nat, i ≤ n ∧ x5 = .int .i64 (i : Int) ∧ Hid (Below w.heap.size w wr)) (fun x5 _ => n - (RowKit.intOf x5).toNat)
  case atStart => exact ⟨0, Nat.zero_le _, rfl, Below.refl _ _⟩
  case round =>
    obtain ⟨i, hi, rfl, HW⟩ := hrel
    by_cases hlt : i < n
    · have hlt' : (i : Int) < (n : Int) := by omega
      obtain ⟨f, hf⟩ : ∃ f, F[i]? = some f := ⟨_, List.getElem?_eq_getElem (by rw [← HR.out.2.2]; exact hlt)⟩
      obtain ⟨g, of, c', cur, ea, _⟩ := HR.out.1.more (by omega)
      injection ea with ea1 _ ea2
      subst ea1 ea2
      obtain ⟨g2, of2, c2', cur2, ea', _⟩ := HR.out.2.1.more (by omega)
      injection ea' with ea1 _ ea2
      subst ea1 ea2
      have HG : Hid (∀ (w' : World), Below wr.heap.size wr w' → w'.rangeAt g (of + i * 5) (flA f).toList ∧ w'.rangeAt g2 (of2 + i * 5) (flA f).toList) := fun w' h => ⟨row_rangeF (HR.out.1.fr (Fr.of_below (below_step HW.out h) (fun _ => False)) fun _ _ => id) hf, row_rangeF (HR.out.2.1.fr (Fr.of_below (below_step HW.out h) (fun _ => False)) fun _ _ => id) hf⟩
      clear hf
      generalize wr = w1 at *
      go_upto_region 6 with fail
      rename_i K hK
      refine wp_region_held (S := fun w' => Below w1.heap.size w1 w') (by kernel_rfl) ?_
      change wpAnyH _ _ _ _ _ _ _ _ (World.drew _)
      have hS0 : Below w1.heap.size w1 w1.drew := (Below.refl _ w1).drew
      generalize w1.drew = Z0 at *
      refine takeR (i := 0) (v := .slice (some ⟨g, of, none⟩) n c) (some 17) rfl rfl (by kernel_rfl) (by kernel_rfl) (by kernel_rfl) (fun _ _ _ h => h) (Or.inl ⟨by kernel_rfl, fun w' hSw => by kernel_rfl⟩) hS0 ?_
      simp only [Act.put, List.setIfInBounds_toArray, List.set_cons_zero, List.set_cons_succ]
      refine takeR (i := 1) (v := .int .i64 (i : Int)) (some 18) rfl rfl (by kernel_rfl) (by kernel_rfl) (by kernel_rfl) (fun _ _ _ h => h) (Or.inl ⟨by kernel_rfl, fun w' hSw => by kernel_rfl⟩) hS0 ?_
      simp only [Act.put, List.setIfInBounds_toArray, List.set_cons_zero, List.set_cons_succ]
      refine takeR (i := 2) (v := .pointer (some ⟨g, of + i * 5, none⟩)) (some 19) rfl rfl (by kernel_rfl) (by kernel_rfl) (by kernel_rfl) (fun _ _ _ h => h) (Or.inl ⟨by kernel_rfl, fun w' hSw => by exact ixFl_run (n := n) (c := c) (.tmp 17) (.tmp 18) rfl (by kernel_rfl) (by kernel_rfl) hlt _⟩) hS0 ?_
      simp only [Act.put, List.setIfInBounds_toArray, List.set_cons_zero, List.set_cons_succ]
      refine takeR (i := 3) (v := .agg (flA f)) (some 20) rfl rfl (by kernel_rfl) (by kernel_rfl) (by kernel_rfl) (fun _ _ _ h => h) (Or.inl ⟨by kernel_rfl, fun w' hSw => by exact ldA_run (HG.out _ hSw).1 Try.underlying39 rfl infoFz (.tmp 19) rfl (by kernel_rfl)⟩) hS0 ?_
      simp only [Act.put, List.setIfInBounds_toArray, List.set_cons_zero, List.set_cons_succ]
      refine takeR (i := 4) (v := .slice (some ⟨g2, of2, none⟩) n d) (some 21) rfl rfl (by kernel_rfl) (by kernel_rfl) (by kernel_rfl) (fun _ _ _ h => h) (Or.inl ⟨by kernel_rfl, fun w' hSw => by kernel_rfl⟩) hS0 ?_
      simp only [Act.put, List.setIfInBounds_toArray, List.set_cons_zero, List.set_cons_succ]
      refine takeR (i := 5) (v := .int .i64 (i : Int)) (some 22) rfl rfl (by kernel_rfl) (by kernel_rfl) (by kernel_rfl) (fun _ _ _ h => h) (Or.inl ⟨by kernel_rfl, fun w' hSw => by kernel_rfl⟩) hS0 ?_
      simp only [Act.put, List.setIfInBounds_toArray, List.set_cons_zero, List.set_cons_succ]
      refine takeR (i := 6) (v := .pointer (some ⟨g2, of2 + i * 5, none⟩)) (some 23) rfl rfl (by kernel_rfl) (by kernel_rfl) (by kernel_rfl) (fun _ _ _ h => h) (Or.inl ⟨by kernel_rfl, fun w' hSw => by exact ixFl_run (n := n) (c := d) (.tmp 21) (.tmp 22) rfl (by kernel_rfl) (by kernel_rfl) hlt _⟩) hS0 ?_
      simp only [Act.put, List.setIfInBounds_toArray, List.set_cons_zero, List.set_cons_succ]
      refine takeR (i := 7) (v := .agg (flA f)) (some 24) rfl rfl (by kernel_rfl) (by kernel_rfl) (by kernel_rfl) (fun _ _ _ h => h) (Or.inl ⟨by kernel_rfl, fun w' hSw => by exact ldA_run (HG.out _ hSw).2 Try.underlying39 rfl infoFz (.tmp 23) rfl (by kernel_rfl)⟩) hS0 ?_
      simp only [Act.put, List.setIfInBounds_toArray, List.set_cons_zero, List.set_cons_succ]
      refine takeR (i := 8) (v := .bool false) (some 25) rfl rfl (by kernel_rfl) (by kernel_rfl) (by kernel_rfl) (fun _ _ _ h => h) (Or.inl ⟨by kernel_rfl, fun w' hSw => by exact neFl_run f (.tmp 20) (.tmp 24) rfl (by kernel_rfl) (by kernel_rfl) _⟩) hS0 ?_
      simp only [Act.put, List.setIfInBounds_toArray, List.set_cons_zero, List.set_cons_succ]
      refine wpAnyH_done (by kernel_rfl) ?_ _
      have HW3 : Hid (Below w.heap.size w Z0) := below_step HW.out hS0
      clear hS0 HG HW
      generalize Z0 = w3 at *
      refine hK _ _ ?_
      clear hK
      go_wp2
      exact ⟨⟨i + 1, by omega, by go_num, HW3.out⟩, by simp [RowKit.intOf]; omega⟩
    · have hlt' : ¬ (i : Int) < (n : Int) := by omega
      go_wp2
      go_ret
      exact ⟨rfl, HW.out⟩
theorem neRs_run {op : Oper} {a : Act} (r : Rs) (x y : Operand) (ho : op.op = .binOp .neq 28 x y 28) (hx : a.eval x = .agg r.cs) (hy : a.eval y = .agg r.cs) (w : World) : (execOp a.eval op).run Try.prog w = .ok (.value (.bool false)) w := by
  unfold Rs.cs at hx hy
  unfold execOp
  simp only [ho, hx, hy]
  go_simp
theorem infoR46 : (Try.prog.info? 46).map (·.size) = some 4 := by kernel_rfl
theorem OB.rowIn {w : World} {g : Nat} {l : List Od} (h : OB w g (lentO l 8)) (hl : ∀ o ∈ l, OdT o) (h63 : l.length + 8 ≤ maxLen) : RowAt w 42 15 (.slice (some ⟨g, 0, none⟩) l.length (l.length + 8)) l.length (flatL (fun o => o.cs.toList) l) := by
  have hlen := flatO_len (fifteen hl)
  have hlen2 := flatO_len (fifteen (lentO_T (k := 8) hl))
  rw [lentO_len (Nat.le_refl _)] at hlen2
  refine ⟨hlen, .inr ⟨g, 0, l.length + 8, _, rfl, h, by omega, h63, ?_, ?_⟩⟩
  · show 0 + (l.length + 8) * 15 ≤ (flatL (fun o : Od => o.cs.toList) (lentO l 8)).toArray.size
    rw [List.size_toArray, hlen2]
    omega
  · show ((flatL (fun o : Od => o.cs.toList) (lentO l 8)).toArray.toList.drop 0).take (l.length * 15) = _
    have e : lentO l 8 = l ++ List.replicate 8 MOd := by unfold lentO; simp
    show ((flatL (fun o : Od => o.cs.toList) (lentO l 8)).drop 0).take (l.length * 15) = _
    rw [List.drop_zero, e, flatL_app, ← hlen, List.take_left']
    rfl
/-- Where the law stands: what came in, and what it lent. -/
structure LS (w W : World) (b s : List Od) (gb gs : Nat) : Prop where
  bel : Below w.heap.size w W
  ob : OB W gb (lentO b 8)
  os : OB W gs (lentO s 8)
  nb : w.heap.size ≤ gb
  ns : w.heap.size ≤ gs
theorem LS.below {w W W' : World} {b s : List Od} {gb gs : Nat} (h : LS w W b s gb gs) (hb : Below W.heap.size W W') : LS w W' b s gb gs := ⟨below_step h.bel hb, Blk.below h.ob hb (Blk.lt h.ob), Blk.below h.os hb (Blk.lt h.os), h.nb, h.ns⟩
theorem LS.fr {w W W' : World} {b s : List Od} {gb gs : Nat} {v : Value} (h : LS w W b s gb gs) (hf : Fr W W' (fun x => v.ownBlock = some x)) (hv : ∀ q, v.ownBlock = some q → w.heap.size ≤ q ∧ q ≠ gb ∧ q ≠ gs) : LS w W' b s gb gs :=
  ⟨⟨hf.os.trans h.bel.os, hf.tape.trans h.bel.tape, hf.output.trans h.bel.output, Nat.le_trans h.bel.size hf.size, fun q hq => (hf.block q (Nat.lt_of_lt_of_le hq h.bel.size) (fun e => by have := (hv q e).1; omega)).trans (h.bel.block q hq)⟩, (hf.block gb (Blk.lt h.ob) (fun e => (hv gb e).2.1 rfl)).trans h.ob, (hf.block gs (Blk.lt h.os) (fun e => (hv gs e).2.2 rfl)).trans h.os, h.nb, h.ns⟩
theorem row_sets {e : TypeId} {size n g off cap : Nat} : ∀ (vs : List Value) (j : Nat) (w : World) (xs : List Value), RowAt w e size (.slice (some ⟨g, off, none⟩) n cap) n xs → j + vs.length ≤ xs.length → RowAt (w.setCells g (off + j) vs) e size (.slice (some ⟨g, off, none⟩) n cap) n (stL xs j vs)
  | [], j, w, xs, h, _ => h
  | v :: r, j, w, xs, h, hj => by
    have hj' : j + (r.length + 1) ≤ xs.length := hj
    exact row_sets r (j + 1) (w.setCell ⟨g, off + j, none⟩ v) _ (h.set (by omega) v) (by rw [List.length_set]; omega)
theorem flatF_len (l : List Fl) : (flatL flL l).length = l.length * 5 := by
  induction l with
  | nil => rfl
  | cons f l ih =>
    show (flL f ++ flatL flL l).length = _
    rw [List.length_append, ih, List.length_cons]
    show 5 + l.length * 5 = _
    omega
theorem flatF_set {L : List Fl} {m : Nat} {f z : Fl} (ho : L[m]? = some f) : stL (flatL flL L) (m * 5) (flL z) = flatL flL (L.set m z) := by
  have hm := (List.getElem?_eq_some_iff.1 ho).1
  have cut : ∀ {L : List Fl} {f : Fl}, L[m]? = some f → flatL flL L = flatL flL (L.take m) ++ (flL f ++ flatL flL (L.drop (m + 1))) := fun {L f} ho => by
    obtain ⟨hi, e⟩ := List.getElem?_eq_some_iff.1 ho
    have h1 : L = L.take m ++ f :: L.drop (m + 1) := by rw [← e, ← List.drop_eq_getElem_cons hi, List.take_append_drop]
    conv => lhs; rw [h1]
    rw [flatL_app]
    rfl
  have e0 : (flatL flL (L.take m)).length = m * 5 := by rw [flatF_len, List.length_take, Nat.min_eq_left (by omega)]
  rw [cut ho, ← e0, stL_app (flL z) (flatL flL (L.take m)) (flL f) _ rfl, cut (show (L.set m z)[m]? = some z from List.getElem?_set_self hm)]
  congr 2
  · rw [List.take_set_of_le (Nat.le_refl _)]
  · simp [List.drop_set]
/-- A fill that the law writes over another one. -/
def mkF (k : Int) : Fl := ⟨k, 0, 0, 0⟩
def wrF (k : Int) (i : Nat) (F : List Fl) : List Fl := List.replicate i (mkF k) ++ F.drop i
theorem wrF_len {k : Int} {i : Nat} {F : List Fl} (h : i ≤ F.length) : (wrF k i F).length = F.length := by simp [wrF]; omega
theorem wrF_set {k : Int} {i : Nat} {F : List Fl} (h : i < F.length) : (wrF k i F).set i (mkF k) = wrF k (i + 1) F := by
  unfold wrF
  rw [List.set_append_right _ _ (by simp), List.length_replicate, Nat.sub_self, List.drop_eq_getElem_cons h, List.set_cons_zero, List.replicate_succ']
  simp
theorem wrF_all {k : Int} {F : List Fl} : wrF k F.length F = List.replicate F.length (mkF k) := by simp [wrF]
theorem row_thereF {w : World} {g off n cap m : Nat} {L : List Fl} (h : RowAt w 39 5 (.slice (some ⟨g, off, none⟩) n cap) n (flatL flL L)) (hm : m < L.length) : w.there g (off + m * 5) 5 := fun j hj => by
  refine ⟨?_, h.frozen rfl _⟩
  have h2 : m * 5 + j < (flatL flL L).length := by rw [flatF_len]; omega
  have := h.cell rfl (j := m * 5 + j) (u := (flatL flL L)[m * 5 + j]) (List.getElem?_eq_getElem h2)
  rw [← Nat.add_assoc] at this
  rw [this]
  rfl
/-- One fill written over. -/
theorem row_wr {w : World} {g off n cap i : Nat} {k : Int} {F : List Fl} (h : RowAt w 39 5 (.slice (some ⟨g, off, none⟩) n cap) n (flatL flL (wrF k i F))) (hi : i < F.length) : RowAt (w.setCells g (off + i * 5) (flL (mkF k))) 39 5 (.slice (some ⟨g, off, none⟩) n cap) n (flatL flL (wrF k (i + 1) F)) := by
  have hl := wrF_len (k := k) (Nat.le_of_lt hi)
  obtain ⟨f, hf⟩ : ∃ f, (wrF k i F)[i]? = some f := ⟨_, List.getElem?_eq_getElem (by omega)⟩
  have := row_sets (flL (mkF k)) (i * 5) w _ h (by rw [flatF_len, hl]; show i * 5 + 5 ≤ _; omega)
  rw [flatF_set hf, wrF_set hi] at this
  exact this
end Go.Proofs.Ytbhddfcdnpidkaa
