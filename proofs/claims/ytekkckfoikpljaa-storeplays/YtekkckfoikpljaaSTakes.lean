/-
  StorePlays: takes: an owner writes over parts, and behind them.
-/
import Derived.Test.YtekkckfoikpljaaSMark
namespace Go.Proofs.Ytekkckfoikpljaa
set_option linter.unusedVariables false
set_option linter.unusedSimpArgs false
open Go.RowKit Go.Great

theorem loadMkB_run {op : Oper} {a : Act} {w : World} {g : Nat} {x y : Int} (h : w.heap[g]? = some (.cells (mkL x y).toArray 36 (0, 0))) (t : Operand) (ho : op.op = .load 36 t) (hx : a.eval t = .pointer (some ⟨g, 0, none⟩)) : (execOp a.eval op).run Try.prog w = .ok (.value (.agg (mkL x y).toArray)) w := by
  have hl := run_loadVar_row (P := Try.prog) w g 36 36 (mkL x y).toArray (0, 0) _ h Try.underlying36 rfl (by kernel_rfl)
  unfold execOp
  simp only [ho, hx, Instr.loadAt, Instr.sureAddr, Sem.run_bind, Sem.run_pure, Result.andThen_ok, hl]
def ofM (a b : Int) : Option (Pt Msg) → List Value
  | none => mkL a b
  | some p => ptL p
theorem ofM_len (a b : Int) (o : Option (Pt Msg)) : (ofM a b o).length = 45 := by
  cases o with
  | none => exact mkL_len a b
  | some p => exact ptL_len p
theorem flat_some (a b : Int) (L : List (Pt Msg)) : flatL (ofM a b) (L.map some) = flatL ptL L := by
  induction L with
  | nil => rfl
  | cons x t ih => show ptL x ++ flatL (ofM a b) (t.map some) = ptL x ++ flatL ptL t; rw [ih]
theorem flat_none (a b : Int) (n : Nat) : flatL (ofM a b) (List.replicate n none) = reps a b n := by
  unfold reps
  induction n with
  | zero => rfl
  | succ n ih => rw [List.replicate_succ, List.replicate_succ]; show mkL a b ++ _ = mkL a b ++ _; rw [ih]
/-- The first things of a row are written over. -/
structure T1 (w wr : World) (g4 : Nat) (a b : Int) (l : Value) (n i : Nat) : Prop where
  box : wr.heap[g4]? = some (.cells (mkL a b).toArray 36 (0, 0))
  fr : Fr w wr (fun x => l.ownBlock = some x)
  row : ∃ L : List (Option (Pt Msg)), L.length = n ∧ (∀ j, j < i → L[j]? = some none) ∧ RowAt wr 36 45 l n (flatL (ofM a b) L)
  ne : l.ownBlock ≠ some g4
theorem T1.start {w : World} {a b : Int} {l : Value} {L : List (Pt Msg)} (h : RowAt w 36 45 l L.length (flatL ptL L)) : T1 w (w.alloc (.cells (mkL a b).toArray 36)) w.heap.size a b l L.length 0 :=
  ⟨heap_alloc_new w _, Fr.alloc w _ _, ⟨L.map some, by simp, fun j hj => by omega, by rw [flat_some]; exact h.fr (Fr.alloc w _ fun _ => False) fun _ _ h => h⟩, fun e => by have := (h.lt e).1; omega⟩
theorem T1.there {w wr : World} {g4 n i g off cap : Nat} {a b : Int} (h : T1 w wr g4 a b (.slice (some ⟨g, off, none⟩) n cap) n i) (hi : i < n) : wr.there g (off + i * 45) (mkL a b).toArray.size := by
  obtain ⟨L, hL, hj, hr⟩ := h.row
  rcases hr.2 with ⟨h0, _⟩ | ⟨g', off', cap', cur, h1, h2, h3, h4, h5, h6⟩
  · cases h0
  · injection h1 with h1 _ hc
    injection h1 with h1
    injection h1 with h1 h1' _
    subst h1 h1' hc
    intro j hj
    have hj' : j < 45 := by rw [List.size_toArray, mkL_len] at hj; exact hj
    have : (i + 1) * 45 ≤ cap * 45 := Nat.mul_le_mul_right _ (by omega)
    exact ⟨by rw [cell_of_row _ _ _ _ _ _ h2, Array.getElem?_eq_getElem (by omega)]; rfl, frozen_of_row wr g _ _ _ h2⟩
theorem T1.step {w wr : World} {g4 n i g off cap : Nat} {a b : Int} (h : T1 w wr g4 a b (.slice (some ⟨g, off, none⟩) n cap) n i) (hi : i < n) : T1 w (wr.setCells g (off + i * 45) (mkL a b).toArray.toList) g4 a b (.slice (some ⟨g, off, none⟩) n cap) n (i + 1) := by
  have hF := Fr.setCells g (fun x => (Value.slice (some ⟨g, off, none⟩) n cap).ownBlock = some x) rfl (mkL a b).toArray.toList (off + i * 45) wr
  obtain ⟨L, hL, hj, hr⟩ := h.row
  have hlt : i < L.length := by omega
  refine ⟨(hF.block g4 (Array.getElem?_eq_some_iff.1 h.box).1 h.ne).trans h.box, h.fr.trans hF fun x _ q => by rcases q with q | q <;> exact q, ⟨L.set i none, by rw [List.length_set]; exact hL, fun j hj' => ?_, ?_⟩, h.ne⟩
  · rw [List.getElem?_set]
    split
    · rfl
    · exact hj j (by omega)
  · have := hr.over (ofM_len a b) hlt none
    rw [show (mkL a b).toArray.toList = mkL a b by simp]
    exact this
/-- What takes has made so far. -/
structure TQ (w wr : World) (g4 : Nat) (a b : Int) (l : Value) (R : List Value) : Prop where
  tk : TK wr g4 a b R
  fr : Fr w wr (fun x => l.ownBlock = some x)
  new : ∀ u, u ∈ R → u.ownBlock = l.ownBlock ∨ ∃ g, u.ownBlock = some g ∧ w.heap.size ≤ g
theorem T1.done {w wr : World} {g4 n : Nat} {a b : Int} {l : Value} (h : T1 w wr g4 a b l n n) : TQ w wr g4 a b l [l] ∧ MR wr a b l n := by
  obtain ⟨L, hL, hj, hr⟩ := h.row
  have hrep : L = List.replicate n none := by
    apply List.ext_getElem?
    intro j
    by_cases hlt : j < n
    · rw [hj j hlt, List.getElem?_replicate, if_pos hlt]
    · rw [List.getElem?_eq_none_iff.2 (by omega), List.getElem?_eq_none_iff.2 (by rw [List.length_replicate]; omega)]
  have hm : MR wr a b l n := by unfold MR; rw [← flat_none, ← hrep]; exact hr
  refine ⟨⟨⟨h.box, fun u hu => ?_, fun u v hu hv _ => ?_, fun u hu => ?_⟩, h.fr, fun u hu => ?_⟩, hm⟩
  · obtain rfl := List.mem_singleton.1 hu; exact ⟨n, hm⟩
  · rw [List.mem_singleton.1 hu, List.mem_singleton.1 hv]
  · rw [List.mem_singleton.1 hu]; exact h.ne
  · exact .inl (by rw [List.mem_singleton.1 hu])
theorem TQ.alloc {w wr : World} {g4 : Nat} {a b : Int} {l : Value} {R : List Value} (h : TQ w wr g4 a b l R) (o : Obj) : TQ w (wr.alloc o) g4 a b l R :=
  ⟨h.tk.ty (Ty.of_fr (Fr.alloc wr o fun _ => False) fun _ _ _ q => q.elim) (T := fun _ => True) trivial, h.fr.trans (Fr.alloc wr o fun _ => False) fun x _ q => by rcases q with q | q; exact q; exact q.elim, h.new⟩
theorem TQ.sub {w wr : World} {g4 : Nat} {a b : Int} {l : Value} {R S : List Value} (h : TQ w wr g4 a b l R) (hs : ∀ u, u ∈ S → u ∈ R) : TQ w wr g4 a b l S := ⟨h.tk.sub hs, h.fr, fun u hu => h.new u (hs u hu)⟩
theorem TQ.app {w wr : World} {g4 : Nat} {a b : Int} {l : Value} {R : List Value} (h : TQ w wr g4 a b l R) {v : Value} {n m c : Nat} (hv : v ∈ R) (hm : MR wr a b v n) (ty : TypeId) (hm0 : 0 < m) (hn : n + m ≤ 1000000) :
    ∃ v' w', (Builtin.append_ #[29, 29] ty #[v, .slice (some ⟨wr.heap.size, 0, none⟩) m c]).run Try.prog (wr.alloc (.cells (reps a b m).toArray 36)) = .ok v' w' ∧ MR w' a b v' (n + m) ∧ TQ w w' g4 a b l (v' :: R) := by
  have h1 := h.alloc (.cells (reps a b m).toArray 36)
  have hm1 : MR (wr.alloc (.cells (reps a b m).toArray 36)) a b v n := RowAt.fr hm (Fr.alloc wr _ fun _ => False) fun _ _ h => h
  obtain ⟨v', w', hr, hmr, htk, hfr, hnw⟩ := h1.tk.app (c := c) hv hm1 ty (heap_alloc_new wr _) hm0 hn
  refine ⟨v', w', hr, hmr, htk, h1.fr.trans hfr fun x hx q => ?_, fun u hu => ?_⟩
  · rcases q with q | q
    · exact q
    · rcases h.new v hv with e | ⟨g, e, hg⟩
      · rw [← e]; exact q
      · rw [e] at q; injection q with q; omega
  · rcases List.mem_cons.1 hu with rfl | hu
    · rcases hnw with e | e
      · rw [e]; exact h.new v hv
      · exact .inr ⟨_, e, h1.fr.size⟩
    · exact h.new u hu
/-- All but the row that is written over stays. -/
theorem WsAt.frl {w wr : World} {pw n : Nat} {ps : List PR} {hs : List Hd} {vP vH l : Value} {N : Nat} {xs : List Value} (h : WsAt w pw ps hs vP vH N) (hl : RowAt w 36 45 l n xs) (hf : Fr w wr (fun x => l.ownBlock = some x)) (hfree : ∀ x, x ∈ hs → ∀ r, r ∈ x.rows → ∀ g, r.ownBlock = some g → l.ownBlock ≠ some g) : WsAt wr pw ps hs vP vH N := by
  have ht : Ty w wr (fun e => e ≠ 36) := Ty.of_fr hf fun b cur e hb h1 hn => by
    obtain ⟨_, c2, h2⟩ := hl.lt hb
    exact hn (obj_type h1 h2)
  refine ⟨ht.blk _ _ _ h.blk (by decide), h.prow.ty ht (by decide), h.ps.ty (ht.mono fun e he => ?_), h.hrow.ty ht (by decide), fun x hx => ⟨(h.hs x hx).row.ty ht (by decide), fun r hr => ?_⟩⟩
  · rcases he with rfl | rfl | rfl | rfl | rfl <;> decide
  · obtain ⟨k, hk⟩ := (h.hs x hx).each r hr
    exact ⟨k, RowAt.fr hk hf fun g hg => hfree x hx r hr g hg⟩
theorem infoH : ∃ i, Try.prog.info? 73 = some i ∧ i.zero = some (.agg (hdV ⟨.slice none 0 0, [], 0, 0⟩).toArray) ∧ i.size = 46 ∧ i.bytes = 448 := by
  have h : (Try.prog.info? 73).map (fun i => (i.zero, i.size, i.bytes)) = some (some (.agg (hdV ⟨.slice none 0 0, [], 0, 0⟩).toArray), 46, 448) := by kernel_rfl
  obtain ⟨i, hi, he⟩ := Option.map_eq_some_iff.1 h
  injection he with h1 h2
  injection h2 with h2 h3
  exact ⟨i, hi, h1, h2, h3⟩
theorem hd_one (x : Hd) (hv : x.v.oneCell' = true) : ∀ u, u ∈ hdV x → u.oneCell' = true := fun u hu => by
  rcases List.mem_cons.1 hu with rfl | hu
  · exact hv
  · exact mk_one _ _ u hu
/-- A hold more. -/
theorem WsAt.hold {w wr w' : World} {pw : Nat} {ps : List PR} {hs : List Hd} {vP vH v' : Value} {N : Nat} {x : Hd} (h : WsAt w pw ps hs vP vH N) (hx : HdAt w x) (hr : RowAt w' 73 46 v' (hs.length + 1) (flatL hdV hs ++ hdV x)) (hf : Fr w w' (fun b => vH.ownBlock = some b)) (hn : v'.ownBlock = vH.ownBlock ∨ v'.ownBlock = some w.heap.size ∧ ∀ k, k < w.heap.size → w'.heap[k]? = w.heap[k]?) :
    w'.cell? ⟨pw, 1, none⟩ = some vH ∧ w'.frozen? ⟨pw, 1, none⟩ = false ∧ WsAt (w'.setCell ⟨pw, 1, none⟩ v') pw ps (hs ++ [x]) vP v' N ∧ Fr w (w'.setCell ⟨pw, 1, none⟩ v') (fun b => b = pw ∨ vH.ownBlock = some b) ∧ Ty w w' (fun e => e = 36) ∧ Ty w (w'.setCell ⟨pw, 1, none⟩ v') (fun e => e = 36) := by
  have hbt : ∀ b cur e, vH.ownBlock = some b → w.heap[b]? = some (.cells cur e (0, 0)) → e = 73 := fun b cur e hb h1 => by
    obtain ⟨_, c2, h2⟩ := h.hrow.lt hb
    exact obj_type h1 h2
  have ht : Ty w w' (fun e => e ≠ 73) := Ty.of_fr hf fun b cur e hb h1 hn => hn (hbt b cur e hb h1)
  have hb' := ht.blk _ _ _ h.blk (by decide)
  have hset : Fr w' (w'.setCell ⟨pw, 1, none⟩ v') (fun b => b = pw) := Fr.setCell _ _ _ _ rfl
  have ht2 : Ty w' (w'.setCell ⟨pw, 1, none⟩ v') (fun e => e ≠ 51) := Ty.of_fr hset fun b cur e hb h1 hn => hn (by subst hb; exact obj_type h1 hb')
  have htt : Ty w (w'.setCell ⟨pw, 1, none⟩ v') (fun e => e ≠ 73 ∧ e ≠ 51) := (ht.mono fun e he => he.1).trans (ht2.mono fun e he => he.2)
  refine ⟨cell_at hb' rfl, frozen_of_row w' pw 1 _ _ hb', ⟨?_, h.prow.ty htt (by decide), h.ps.ty (htt.mono fun e he => ?_), ?_, fun y hy => ?_⟩, hf.trans hset fun i _ q => ?_, ht.mono fun e he => by subst he; decide, htt.mono fun e he => by subst he; decide⟩
  · rw [setCell_eq_setRow w' pw 1 _ _ _ _ hb']; exact setRow_heap _ _ _ _ _ _ hb'
  · rcases he with rfl | rfl | rfl | rfl | rfl <;> decide
  · rw [List.length_append, flatL_app, flatL_one]
    exact hr.ty ht2 (by decide)
  · rcases List.mem_append.1 hy with hy | hy
    · exact (h.hs y hy).ty htt (by decide) (by decide)
    · obtain rfl := List.mem_singleton.1 hy
      exact hx.ty htt (by decide) (by decide)
  · rcases q with q | q
    · exact .inr q
    · exact .inl q
theorem flat_one (R : List Value) : flatL oneV R = R := by
  induction R with
  | nil => rfl
  | cons a t ih => show a :: flatL oneV t = a :: t; rw [ih]
/-- What is held is put behind the rest. -/
theorem WsAt.last {w : World} {pw : Nat} {ps : List PR} {hs : List Hd} {vP vH : Value} {N : Nat} (h : WsAt w pw ps hs vP vH N) {a b : Int} {R : List Value} {n : Nat} (hn : R.length = n) (hR : ∀ r, r ∈ R → ∃ k, MR w a b r k) (hn1 : n ≤ 100) (hh : hs.length ≤ 100000) (ty : TypeId) :
    ∃ v' w8, (Builtin.append_ #[49, 49] ty #[vH, .slice (some ⟨(w.alloc (.cells R.toArray 29)).heap.size, 0, none⟩) 1 1]).run Try.prog ((w.alloc (.cells R.toArray 29)).alloc (.cells (hdV ⟨.slice (some ⟨w.heap.size, 0, none⟩) n n, R, a, b⟩).toArray 73)) = .ok v' w8 ∧
      w8.cell? ⟨pw, 1, none⟩ = some vH ∧ w8.frozen? ⟨pw, 1, none⟩ = false ∧ WsAt (w8.setCell ⟨pw, 1, none⟩ v') pw ps (hs ++ [⟨.slice (some ⟨w.heap.size, 0, none⟩) n n, R, a, b⟩]) vP v' N ∧ Fr w (w8.setCell ⟨pw, 1, none⟩ v') (fun b => b = pw ∨ vH.ownBlock = some b) ∧ RowAt w8 73 46 v' (hs.length + 1) (flatL hdV hs ++ hdV ⟨.slice (some ⟨w.heap.size, 0, none⟩) n n, R, a, b⟩) ∧ Ty w w8 (fun e => e = 36) ∧ Ty w (w8.setCell ⟨pw, 1, none⟩ v') (fun e => e = 36) ∧ newer w vH v' := by
  obtain ⟨i, hi, hz, hsz, hby⟩ := infoH
  generalize hx : (⟨.slice (some ⟨w.heap.size, 0, none⟩) n n, R, a, b⟩ : Hd) = x at *
  have hF6 : Fr w (w.alloc (.cells R.toArray 29)) (fun _ => False) := Fr.alloc _ _ _
  have hb6 : (w.alloc (.cells R.toArray 29)).heap[w.heap.size]? = some (.cells R.toArray 29 (0, 0)) := heap_alloc_new w _
  generalize w.alloc (.cells R.toArray 29) = w6 at *
  have hF7 : Fr w6 (w6.alloc (.cells (hdV x).toArray 73)) (fun _ => False) := Fr.alloc _ _ _
  have hb7 : (w6.alloc (.cells (hdV x).toArray 73)).heap[w6.heap.size]? = some (.cells (hdV x).toArray 73 (0, 0)) := heap_alloc_new w6 _
  generalize w6.alloc (.cells (hdV x).toArray 73) = w7 at *
  have hF : Fr w w7 (fun _ => False) := hF6.trans hF7 fun _ _ q => by rcases q with q | q <;> exact q
  have hT : Ty w w7 (fun _ => True) := Ty.of_fr hF fun _ _ _ q => q.elim
  have h7 := h.ty hT
  have hxd : HdAt w7 x := by
    subst hx
    refine ⟨⟨?_, .inr ⟨w.heap.size, 0, n, R.toArray, ?_, (hF7.block _ (Array.getElem?_eq_some_iff.1 hb6).1 id).trans hb6, Nat.le_of_eq hn, by unfold maxLen; omega, by simp [hn], ?_⟩⟩, fun r hr => ?_⟩
    · show (flatL oneV R).length = R.length * 1; rw [flat_one]; omega
    · show Value.slice _ n n = Value.slice _ R.length n; rw [hn]
    · show ((R.toArray.toList.drop 0).take (R.length * 1)) = flatL oneV R; rw [flat_one]; simp
    · obtain ⟨k, hk⟩ := hR r hr; exact ⟨k, RowAt.ty hk hT trivial⟩
  have hv1 : x.v.oneCell' = true := by subst hx; rfl
  obtain ⟨v', w8, hr, hrow, hf, hnw⟩ := run_append_row (P := Try.prog) w7 49 ty 73 i _ 46 448 Try.underlying49 hi hz hsz hby (by kernel_rfl) vH hs.length (flatL hdV hs) h7.hrow ⟨w6.heap.size, 0, none⟩ 1 1 (hdV x) (by rw [hdV_len])
    (fun j u hj => by rw [Addr.add_mid, cell_of_row _ _ _ _ _ _ hb7, Nat.zero_add, List.getElem?_toArray]; exact hj) (hd_one x hv1) (.inl (by decide)) (by unfold maxLen; omega) (by omega)
  obtain ⟨c1, c2, c3, c4, c5, c6⟩ := h7.hold (wr := w7) hxd hrow hf hnw
  exact ⟨v', w8, hr, c1, c2, c3, hF.trans c4 fun _ _ q => by rcases q with q | q; exact q.elim; exact q, hrow, (hT.mono fun _ _ => trivial).trans c5, (hT.mono fun _ _ => trivial).trans c6, by rcases hnw with q | ⟨q, _⟩; exact .inl q; exact .inr ⟨_, q, hF.size⟩⟩
end Go.Proofs.Ytekkckfoikpljaa
