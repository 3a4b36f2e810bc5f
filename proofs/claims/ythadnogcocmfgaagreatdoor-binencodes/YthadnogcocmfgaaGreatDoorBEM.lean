import Derived.Test.YthadnogcocmfgaaGreatDoorBKp
import Derived.Deep.MidRow

namespace Go.Proofs.YthadnogcocmfgaaGreatDoor
set_option linter.unusedVariables false
open Go.RowKit Go.Great Go.Lib

theorem infoB : (Tryz.prog.info? 28).map (fun i => (i.zero, i.size, i.bytes)) = some (some (.slice none 0 0), 1, 24) := by kernel_rfl
theorem infoT : (Tryz.prog.info? 9).map (fun i => (i.zero, i.size, i.bytes)) = some (some (.string ⟨#[]⟩), 1, 16) := by kernel_rfl
theorem row_conv {w : World} {B n : Nat} {v : Value} {l : List UInt8} (h : w.ownsRow B 5 1 v n (byteCells l)) : (convert 28 9 v).run Tryz.prog w = .ok (.string ⟨l.toArray⟩) w := by
  have hn : n = l.length := by have := h.1; rw [bc_len] at this; omega
  rcases h.2 with ⟨rfl, h0⟩ | ⟨g, cap, cur, rfl, _⟩
  · obtain rfl : l = [] := List.length_eq_zero_iff.1 (by omega)
    show (convert 28 9 (.slice none 0 0)).run Tryz.prog w = .ok (.string ⟨#[]⟩) w
    kernel_rfl
  · exact conv_at (cap := cap) (rowAt h) n hn
/-- Messages that came in. -/
def MsgsIn (w : World) (a : Option Addr) (n : Nat) (Ms : Nat → Msg) : Prop := n = 0 ∨ ∃ b off, a = some ⟨b, off, none⟩ ∧ ∀ i, i < n → w.rangeAt b (off + i * 42) (Ms i).cs.toList ∧ (Ms i).ok ∧ (Ms i).okS
theorem rangeAt_low {w w' : World} {C b o : Nat} {cs : List Value} (h : w.rangeAt b o cs) (hb : Below C w w') (hC : b < C) : w'.rangeAt b o cs := fun j v hv => by
  rw [hb.cell (p := ⟨b, o + j, none⟩) hC]; exact h j v hv
theorem load_mid_run {op : Oper} {a : Act} {w : World} {b o : Nat} {M : Msg} (h : w.rangeAt b o M.cs.toList) (x : Operand) (ho : op.op = .load 23 x) (hx : a.eval x = .pointer (some ⟨b, o, none⟩)) : (execOp a.eval op).run Tryz.prog w = .ok (.value (.agg M.cs)) w := by
  have hr := run_loadVar_mid (P := Tryz.prog) w b o 23 M.cs.toList _ h Tryz.underlying23 rfl (by rw [Array.length_toList, M.cs_size]; kernel_rfl)
  unfold execOp
  simp only [ho, hx, Instr.loadAt, Instr.sureAddr, Sem.run_bind, Sem.run_pure, Result.andThen_ok, hr]
structure FS (C : Nat) (wr : World) (k : Nat) (vs : List Value) (Ls Ws : List (List UInt8)) (es : List Ent) (vC vW vK : Value) (nk : Nat) : Prop where
  len : vs.length = Ls.length
  rows : ∀ r v L, k ≤ r → vs[r]? = some v → Ls[r]? = some L → wr.ownsRow C 5 1 v L.length (byteCells L)
  apart : ∀ (r r' : Nat) (v v' : Value), k ≤ r → r < r' → vs[r]? = some v → vs[r']? = some v' → v.ownBlock = none ∨ v.ownBlock ≠ v'.ownBlock
  came : wr.ownsRow C 28 1 vC vs.length vs
  want : wr.ownsRow C 9 1 vW Ws.length (Ws.map fun L => .string ⟨L.toArray⟩)
  krow : wr.ownsRow C 83 2 vK nk (holdV es)
  kok : KeptOK wr es
  sep : ∀ e ∈ es, e.len ≠ 0 → ∀ g cur, e.a = some ⟨g, 0, none⟩ → wr.heap[g]? = some (.cells cur 5 (0, 0)) → ∀ r v, k ≤ r → vs[r]? = some v → some g ≠ v.ownBlock
theorem ent_block {w : World} {e : Ent} (h : EntOK w e) (hl : e.len ≠ 0) {g : Nat} (hg : e.a = some ⟨g, 0, none⟩) : ∃ cur, w.heap[g]? = some (.cells cur 5 (0, 0)) := by
  rcases h.2.2.2 with h0 | ⟨g', cur, h1, h2, _⟩
  · exact absurd h0 hl
  · rw [hg] at h1
    injection h1 with h1
    injection h1 with h1
    subst h1
    exact ⟨cur, h2⟩
theorem row_low {w w' : World} {B e size n : Nat} {v : Value} {xs : List Value} (h : w.ownsRow B e size v n xs) (hk : ∀ b, v.ownBlock = some b → w'.heap[b]? = w.heap[b]?) : w'.ownsRow B e size v n xs := by
  refine ⟨h.1, ?_⟩
  rcases h.2 with h | ⟨g, cap, cur, e1, e2, e3, e4⟩
  · exact .inl h
  · exact .inr ⟨g, cap, cur, e1, e2, (hk g (by rw [e1]; rfl)).trans e3, e4⟩
theorem FS.below {C : Nat} {wr w' : World} {k : Nat} {vs : List Value} {Ls Ws : List (List UInt8)} {es : List Ent} {vC vW vK : Value} {nk : Nat} (h : FS C wr k vs Ls Ws es vC vW vK nk) (hb : Below wr.heap.size wr w') : FS C w' k vs Ls Ws es vC vW vK nk where
  len := h.len
  rows := fun r v L hr h1 h2 => row_low (h.rows r v L hr h1 h2) fun b hb' => hb.block b ((h.rows r v L hr h1 h2).lt b hb').2
  apart := h.apart
  came := row_low h.came fun b hb' => hb.block b (h.came.lt b hb').2
  want := row_low h.want fun b hb' => hb.block b (h.want.lt b hb').2
  krow := row_low h.krow fun b hb' => hb.block b (h.krow.lt b hb').2
  kok := h.kok.below hb
  sep := fun e he hl g cur h1 h2 => by
    obtain ⟨cur', hc⟩ := ent_block (h.kok e he) hl h1
    exact h.sep e he hl g cur' h1 hc
/-- A frame more came. -/
theorem FS.frame {C : Nat} {wr w' : World} {vs : List Value} {Ls Ws : List (List UInt8)} {es : List Ent} {vC vW vK : Value} {nk : Nat} (h : FS C wr 0 vs Ls Ws es vC vW vK nk) (hC : C ≤ wr.heap.size) {v : Value} {L : List UInt8} (hv : w'.ownsRow wr.heap.size 5 1 v L.length (byteCells L)) (hb : Below wr.heap.size wr w') :
    (∀ (r : Nat) (u : Value) (U : List UInt8), (vs ++ [v])[r]? = some u → (Ls ++ [L])[r]? = some U → w'.ownsRow C 5 1 u U.length (byteCells U)) ∧ (∀ (r r' : Nat) (u u' : Value), r < r' → (vs ++ [v])[r]? = some u → (vs ++ [v])[r']? = some u' → u.ownBlock = none ∨ u.ownBlock ≠ u'.ownBlock) ∧
    (∀ e ∈ es, e.len ≠ 0 → ∀ g cur, e.a = some ⟨g, 0, none⟩ → w'.heap[g]? = some (.cells cur 5 (0, 0)) → ∀ (r : Nat) (u : Value), (vs ++ [v])[r]? = some u → some g ≠ u.ownBlock) := by
  have hf := h.below hb
  have split : ∀ (r : Nat) (u : Value), (vs ++ [v])[r]? = some u → (r < vs.length ∧ vs[r]? = some u) ∨ (r = vs.length ∧ u = v) := fun r u hu => by
    rcases Nat.lt_or_ge r vs.length with hr | hr
    · rw [List.getElem?_append_left hr] at hu; exact .inl ⟨hr, hu⟩
    · rw [List.getElem?_append_right hr] at hu
      have h0 : r - vs.length = 0 := by
        have := (List.getElem?_eq_some_iff.1 hu).1
        simp at this; omega
      rw [h0] at hu
      exact .inr ⟨by omega, by simpa using hu.symm⟩
  have low : ∀ (r : Nat) (u : Value), vs[r]? = some u → ∀ g, u.ownBlock = some g → g < wr.heap.size := fun r u hu g hg => by
    have hr := (List.getElem?_eq_some_iff.1 hu).1
    obtain ⟨U, hU⟩ : ∃ U, Ls[r]? = some U := ⟨_, List.getElem?_eq_getElem (by rw [← h.len]; exact hr)⟩
    exact ((h.rows r u U (Nat.zero_le _) hu hU).lt g hg).2
  refine ⟨fun r u U hu hU => ?_, fun r r' u u' hr hu hu' => ?_, fun e he hl g cur h1 h2 r u hu => ?_⟩
  · rcases split r u hu with ⟨hr, hu2⟩ | ⟨hr, rfl⟩
    · rw [List.getElem?_append_left (by rw [← h.len]; exact hr)] at hU
      exact hf.rows r u U (Nat.zero_le _) hu2 hU
    · rw [hr, h.len, List.getElem?_append_right (Nat.le_refl _), Nat.sub_self] at hU
      have : L = U := by simpa using hU
      subst this
      exact own_mono hv hC
  · rcases split r u hu with ⟨hr1, hu2⟩ | ⟨hr1, rfl⟩
    · rcases split r' u' hu' with ⟨hr2, hu3⟩ | ⟨hr2, rfl⟩
      · exact h.apart r r' u u' (Nat.zero_le _) hr hu2 hu3
      · cases hg : u.ownBlock with
        | none => exact .inl rfl
        | some g =>
          refine .inr fun e => ?_
          have := low r u hu2 g hg
          have := (hv.lt g e.symm).1
          omega
    · rcases split r' u' hu' with ⟨hr2, _⟩ | ⟨hr2, _⟩ <;> omega
  · rcases split r u hu with ⟨hr1, hu2⟩ | ⟨hr1, rfl⟩
    · exact hf.sep e he hl g cur h1 h2 r u (Nat.zero_le _) hu2
    · intro e2
      obtain ⟨cur', hc⟩ := ent_block (h.kok e he) hl h1
      have := (Array.getElem?_eq_some_iff.1 hc).1
      have := (hv.lt g e2.symm).1
      omega
end Go.Proofs.YthadnogcocmfgaaGreatDoor

namespace Go.Proofs.YthadnogcocmfgaaGreatDoor
set_option linter.unusedVariables false
open Go.RowKit Go.Great Go.Lib

theorem row_app {w w2 : World} {C t s nA e size n : Nat} {vA v : Value} {xsA xs : List Value} (hA : w.ownsRow C t s vA nA xsA) (h : w.ownsRow C e size v n xs) (hne : e ≠ t) (o : Obj) (hg : (w.alloc o).grownBy w2 vA.ownBlock) : w2.ownsRow C e size v n xs :=
  (h.alloc o).kept hg (own_ne (h.alloc o) (hA.alloc o) hne)
theorem heap_app {w w2 : World} {C t s nA : Nat} {vA : Value} {xsA : List Value} (hA : w.ownsRow C t s vA nA xsA) (ht : t ≠ 5) (o : Obj) (hg : (w.alloc o).grownBy w2 vA.ownBlock) {g : Nat} {cur : Array Value} (hc : w.heap[g]? = some (.cells cur 5 (0, 0))) : w2.heap[g]? = w.heap[g]? := by
  have hl := (Array.getElem?_eq_some_iff.1 hc).1
  have hal : (w.alloc o).heap[g]? = w.heap[g]? := ((Below.refl w.heap.size w).alloc (Nat.le_refl _) o).block g hl
  refine (hg.block g (by simp; omega) fun e => ?_).trans hal
  obtain ⟨c2, hc2⟩ := own_type hA e.symm
  rw [hc] at hc2
  injection hc2 with hc2
  injection hc2 with _ hc2
  exact ht hc2.symm
theorem kept_app {w w2 : World} {C t s nA : Nat} {vA : Value} {xsA : List Value} (hA : w.ownsRow C t s vA nA xsA) (ht : t ≠ 5) (o : Obj) (hg : (w.alloc o).grownBy w2 vA.ownBlock) {es : List Ent} (hk : KeptOK w es) : KeptOK w2 es := fun e he => (hk e he).keep fun _ g cur _ hc => heap_app hA ht o hg hc
/-- The frame is put into the list of those that came. -/
theorem FS.put1 {C : Nat} {wr w2 : World} {vs : List Value} {Ls Ws : List (List UInt8)} {es : List Ent} {vC vC' vW vK : Value} {nk : Nat} {v : Value} {L : List UInt8} (h : FS C wr 0 vs Ls Ws es vC vW vK nk)
    (hR : ∀ (r : Nat) (u : Value) (U : List UInt8), (vs ++ [v])[r]? = some u → (Ls ++ [L])[r]? = some U → wr.ownsRow C 5 1 u U.length (byteCells U)) (hA : ∀ (r r' : Nat) (u u' : Value), r < r' → (vs ++ [v])[r]? = some u → (vs ++ [v])[r']? = some u' → u.ownBlock = none ∨ u.ownBlock ≠ u'.ownBlock)
    (hS : ∀ e ∈ es, e.len ≠ 0 → ∀ g cur, e.a = some ⟨g, 0, none⟩ → wr.heap[g]? = some (.cells cur 5 (0, 0)) → ∀ (r : Nat) (u : Value), (vs ++ [v])[r]? = some u → some g ≠ u.ownBlock) (o : Obj) (h1 : w2.ownsRow C 28 1 vC' (vs.length + 1) (vs ++ [v])) (h2 : (wr.alloc o).grownBy w2 vC.ownBlock) : FS C w2 0 (vs ++ [v]) (Ls ++ [L]) Ws es vC' vW vK nk where
  len := by rw [List.length_append, List.length_append, h.len]; rfl
  rows := fun r u U _ hu hU => row_app h.came (hR r u U hu hU) (by decide) o h2
  apart := fun r r' u u' _ => hA r r' u u'
  came := by rw [List.length_append]; exact h1
  want := row_app h.came h.want (by decide) o h2
  krow := row_app h.came h.krow (by decide) o h2
  kok := kept_app h.came (by decide) o h2 h.kok
  sep := fun e he hl g cur g1 g2 r u _ hu => by
    obtain ⟨cur', hc⟩ := ent_block (h.kok e he) hl g1
    exact hS e he hl g cur' g1 hc r u hu
/-- What is wanted is put beside it. -/
theorem FS.put2 {C : Nat} {wr w2 : World} {vs : List Value} {Ls Ws : List (List UInt8)} {es : List Ent} {vC vW vW' vK : Value} {nk : Nat} {L : List UInt8} (h : FS C wr 0 vs Ls Ws es vC vW vK nk) (o : Obj) (h1 : w2.ownsRow C 9 1 vW' (Ws.length + 1) ((Ws.map fun L => Value.string ⟨L.toArray⟩) ++ [.string ⟨L.toArray⟩])) (h2 : (wr.alloc o).grownBy w2 vW.ownBlock) : FS C w2 0 vs Ls (Ws ++ [L]) es vC vW' vK nk where
  len := h.len
  rows := fun r u U hr hu hU => row_app h.want (h.rows r u U hr hu hU) (by decide) o h2
  apart := h.apart
  came := row_app h.want h.came (by decide) o h2
  want := by rw [List.length_append, List.map_append]; exact h1
  krow := row_app h.want h.krow (by decide) o h2
  kok := kept_app h.want (by decide) o h2 h.kok
  sep := fun e he hl g cur g1 g2 r u hr hu => by
    obtain ⟨cur', hc⟩ := ent_block (h.kok e he) hl g1
    exact h.sep e he hl g cur' g1 hc r u hr hu
/-- A frame is kept by its owner. -/
theorem FS.kept {C : Nat} {wr w2 : World} {k : Nat} {vs : List Value} {Ls Ws : List (List UInt8)} {es es' : List Ent} {vC vW vK vK' bt : Value} {nk mk : Nat} {v : Value} {L : List UInt8} (h : FS C wr k vs Ls Ws es vC vW vK nk) (hv : vs[k]? = some v) (hL : Ls[k]? = some L) (hks : KS wr C C nk L.length mk es vK v 70 vK' bt w2 es') : FS C w2 (k + 1) vs Ls Ws (es ++ es') vC vW vK' (nk + es'.length) := by
  have hrow := h.rows k v L (Nat.le_refl _) hv hL
  have keepRow : ∀ {e size n : Nat} {u : Value} {xs : List Value}, wr.ownsRow C e size u n xs → (u.ownBlock = none ∨ u.ownBlock ≠ v.ownBlock) → (u.ownBlock = none ∨ u.ownBlock ≠ vK.ownBlock) → w2.ownsRow C e size u n xs := fun {e size n u xs} hu n1 n2 => row_low hu fun b hb => by
    refine hks.rest b (hu.lt b hb).2 ?_ ?_
    · rcases n1 with n1 | n1
      · rw [n1] at hb; cases hb
      · rw [← hb]; exact n1
    · rcases n2 with n2 | n2
      · rw [n2] at hb; cases hb
      · rw [← hb]; exact n2
  have rowAt_ : ∀ r u, k + 1 ≤ r → vs[r]? = some u → ∃ U, Ls[r]? = some U := fun r u hr hu => ⟨_, List.getElem?_eq_getElem (by rw [← h.len]; exact (List.getElem?_eq_some_iff.1 hu).1)⟩
  refine ⟨h.len, fun r u U hr hu hU => ?_, fun r r' u u' hr => h.apart r r' u u' (by omega), keepRow h.came (own_ne h.came hrow (by decide)) (own_ne h.came h.krow (by decide)), keepRow h.want (own_ne h.want hrow (by decide)) (own_ne h.want h.krow (by decide)), hks.row, hks.ok, fun e he hl g cur g1 g2 r u hr hu => ?_⟩
  · have hu' := h.rows r u U (by omega) hu hU
    refine keepRow hu' ?_ (own_ne hu' h.krow (by decide))
    rcases h.apart k r v u (Nat.le_refl _) (by omega) hv hu with hn | hn
    · cases hb : u.ownBlock with
      | none => exact .inl rfl
      | some g => exact .inr (by rw [hn]; exact fun e => by cases e)
    · exact .inr fun e => hn e.symm
  · obtain ⟨U, hU⟩ := rowAt_ r u hr hu
    have hu' := h.rows r u U (by omega) hu hU
    rcases List.mem_append.1 he with he | he
    · obtain ⟨cur', hc⟩ := ent_block (h.kok e he) hl g1
      exact h.sep e he hl g cur' g1 hc r u (by omega) hu
    · obtain ⟨_, _, hn⟩ := hks.new e he
      rcases hn with ⟨_, h0⟩ | ⟨g', ha, hcase⟩
      · exact absurd h0 hl
      · rw [g1] at ha
        injection ha with ha
        injection ha with ha
        subst ha
        intro e2
        rcases hcase with hc | hc
        · rcases h.apart k r v u (Nat.le_refl _) (by omega) hv hu with hn | hn
          · rw [hn] at hc; cases hc
          · exact hn (hc.symm.trans e2)
        · have := (hu'.lt g e2.symm).2
          omega
end Go.Proofs.YthadnogcocmfgaaGreatDoor

namespace Go.Proofs.YthadnogcocmfgaaGreatDoor
set_option linter.unusedVariables false
set_option linter.unusedSimpArgs false
open Go.RowKit Go.Great Go.Lib

theorem conv_row_run {op : Oper} {a : Act} {w : World} {B n : Nat} {v : Value} {l : List UInt8} (h : w.ownsRow B 5 1 v n (byteCells l)) (x : Operand) (ho : op.op = .convert 28 9 x) (hx : a.eval x = v) : (execOp a.eval op).run Tryz.prog w = .ok (.value (.string ⟨l.toArray⟩)) w := by
  have hr := row_conv h
  unfold execOp
  simp only [ho, hx, Sem.run_bind, Result.andThen_ok, hr]
  rfl
theorem row_form {w : World} {B e n : Nat} {v : Value} {xs : List Value} (h : w.ownsRow B e 1 v n xs) : ∃ ao co, v = .slice ao n co := by
  rcases h.2 with ⟨rfl, rfl⟩ | ⟨g, cap, cur, rfl, _⟩
  · exact ⟨none, 0, rfl⟩
  · exact ⟨_, _, rfl⟩
def ixN (i i2 r : Nat) : Nat := if r = 2 then i2 else i
set_option maxRecDepth 100000 in
set_option maxHeartbeats 8000000 in
theorem BinEncodes_law (a : Option Addr) (n cap : Nat) (Ms : Nat → Msg) (hn : n ≤ 351843720878) (hc : n ≤ cap) (z : Int) (hzw : (Lit.int .i64 z).wf = true) (w : World) (hs : MsgsIn w a n Ms) (hM : Mon w) :
    Calls Tryz.prog 7 #[.slice a n cap, .int .i64 z] w fun e w' => e = .returned (.bool true) ∧ Below w.heap.size w w' := by
  obtain ⟨i0, hi, hz0, hz1, hz2⟩ := info_parts infoB
  obtain ⟨j0, hj, hy0, hy1, hy2⟩ := info_parts infoT
  have HM : Hid (MsgsIn w a n Ms ∧ Mon w ∧ 0 < w.heap.size ∧ n ≤ cap) := ⟨hs, hM, hM.lt, hc⟩
  clear hs hM hc hzw
  go_enter Tryz.func7, Tryz.ntmps7
  go_wp2_with (go_at_call 9; fail)
  refine (shown_any w HM.out.2.1).mono ?_
  rintro e w1 ⟨rfl, hb1⟩
  have HB1 : Hid (Below w.heap.size w w1) := hb1
  clear hb1
  have hS1 := Size_any z w1
  have hS2 := fun w' => refSizeOf_any z w'
  generalize sizeN z = N at *
  go_wp2_with (go_at_call 13; fail)
  refine hS1.mono ?_
  rintro e w2 ⟨rfl, hb2⟩
  have HB2 : Hid (Below w.heap.size w w2) := HB1.out.trans (hb2.mono HB1.out.size)
  clear hb2 HB1 hS1
  go_wp2_with (go_at_call 15; fail)
  refine (hS2 w2).mono ?_
  rintro e w4 ⟨rfl, hb4⟩
  have HB4 : Hid (Below w.heap.size w w4 ∧ w.heap.size ≤ w4.heap.size) := ⟨HB2.out.trans (hb4.mono HB2.out.size), (HB2.out.trans (hb4.mono HB2.out.size)).size⟩
  clear hb4 HB2 hS2
  have HIn : Hid (∀ wr, Below w4.heap.size w4 wr → Mon wr ∧ ∀ k, k < n → ∃ b off, a = some ⟨b, off, none⟩ ∧ wr.rangeAt b (off + k * 42) (Ms k).cs.toList ∧ (Ms k).ok ∧ (Ms k).okS) := fun wr hb => by
    have hw : Below w.heap.size w wr := HB4.out.1.trans (hb.mono HB4.out.2)
    refine ⟨HM.out.2.1.below hw HM.out.2.2.1, fun k hk => ?_⟩
    rcases HM.out.1 with h0 | ⟨b, off, h1, h2⟩
    · omega
    · obtain ⟨r1, r2, r3⟩ := h2 k hk
      refine ⟨b, off, h1, rangeAt_low r1 hw ?_, r2, r3⟩
      have := r1 0 _ (show (Ms k).cs.toList[0]? = some ((Ms k).cell 0) by rw [Array.getElem?_toList]; exact (Ms k).cs_get 0 (by decide))
      exact World.block_lt_of_cell? _ _ this
  go_wp2
  go_loopw [6, 7, 8, 9, 11, 12, 13, 14, 15, 16, 17, 18] (fun x6 x7 x8 x9 x11 x12 x13 x14 x15 x16 x17 x18 wr => ∃ (i nk : Nat) (ak : Option Addr) (ck : Nat), i ≤ n ∧ x7 = .int .i64 (i : Int) ∧ x6 = .slice ak nk ck ∧ Hid (nk = 15 * i ∧ ∃ es, wr.ownsRow w4.heap.size 83 2 (.slice ak nk ck) nk (holdV es) ∧ nk = es.length ∧ KeptOK wr es ∧ Below w4.heap.size w4 wr)) (fun _ x7 _ _ _ _ _ _ _ _ _ _ _ => n - (RowKit.intOf x7).toNat)
  case atStart => exact ⟨0, 0, none, 0, Nat.zero_le _, rfl, rfl, rfl, [], ⟨rfl, .inl ⟨rfl, rfl⟩⟩, rfl, (fun e he => by cases he), Below.refl _ _⟩
  case round =>
    obtain ⟨i, nk, ak, ck, hin, rfl, rfl, HR⟩ := hrel
    by_cases hlt : i < n
    · have hlt' : (i : Int) < (n : Int) := by omega
      obtain ⟨i2, hi2⟩ : ∃ i2 : Nat, i2 = (i + 1) % n := ⟨_, rfl⟩
      have hi2n : i2 < n := by rw [hi2]; exact Nat.mod_lt _ (by omega)
      have hrem : ((i : Int) + 1) % (n : Int) = (i2 : Int) := by rw [hi2]; simp
      have hremt : ((i : Int) + 1).tmod (n : Int) = (i2 : Int) := by rw [Int.tmod_eq_emod_of_nonneg (by omega)]; exact hrem
      have hn0 : ¬ (n : Int) = 0 := by omega
      have hn0n : ¬ n = 0 := by omega
      clear hi2
      go_upto_region 11 with fail
      have HI : Hid ((wr.alloc (.cells #[.int .i64 (i : Int), .int .i64 (i : Int), .int .i64 (i2 : Int)] 3)).ownsRow w4.heap.size 3 1 (.slice (some ⟨wr.heap.size, 0, none⟩) 3 3) 3 [.int .i64 (i : Int), .int .i64 (i : Int), .int .i64 (i2 : Int)] ∧ Below w4.heap.size w4 (wr.alloc (.cells #[.int .i64 (i : Int), .int .i64 (i : Int), .int .i64 (i2 : Int)] 3)) ∧ nk = 15 * i ∧ ∃ es, FS w4.heap.size (wr.alloc (.cells #[.int .i64 (i : Int), .int .i64 (i : Int), .int .i64 (i2 : Int)] 3)) 0 [] [] [] es (.slice none 0 0) (.slice none 0 0) (.slice ak nk ck) nk ∧ nk = es.length) := by
        obtain ⟨hnk, es, h1, h1l, h2, h3⟩ := HR.out
        have hal : Below wr.heap.size wr (wr.alloc (.cells #[.int .i64 (i : Int), .int .i64 (i : Int), .int .i64 (i2 : Int)] 3)) := (Below.refl _ wr).alloc (Nat.le_refl _) _
        refine ⟨⟨rfl, .inr ⟨wr.heap.size, 3, _, rfl, h3.size, heap_alloc_new wr _, by omega, by unfold maxLen; omega, rfl, rfl⟩⟩, h3.alloc h3.size _, hnk, es, ⟨rfl, fun r v L _ hv => by simp at hv, fun r r' v v' _ _ hv => by simp at hv, ⟨rfl, .inl ⟨rfl, rfl⟩⟩, ⟨rfl, .inl ⟨rfl, rfl⟩⟩, h1.alloc _, h2.below hal, fun e he hl g cur g1 g2 r v _ hv => by simp at hv⟩, h1l⟩
      clear HR hrem hremt
      generalize hgI : wr.heap.size = gI at *
      generalize wr.alloc (.cells #[.int .i64 (i : Int), .int .i64 (i : Int), .int .i64 (i2 : Int)] 3) = w5 at *
      clear hgI
      obtain ⟨h5a, h5b, hnk, es, h5c, hesl⟩ := HI.out
      have H5 : Hid (w5.ownsRow w4.heap.size 3 1 (.slice (some ⟨gI, 0, none⟩) 3 3) 3 [.int .i64 (i : Int), .int .i64 (i : Int), .int .i64 (i2 : Int)] ∧ Below w4.heap.size w4 w5 ∧ FS w4.heap.size w5 0 [] [] [] es (.slice none 0 0) (.slice none 0 0) (.slice ak nk ck) nk ∧ nk = es.length ∧ nk = 15 * i) := ⟨h5a, h5b, h5c, hesl, hnk⟩
      have hnk2 : nk ≤ 5300000000000 - 100 := by omega
      clear h5a h5b h5c hesl hnk HI
      go_loopw [8, 9, 11, 12, 13, 14, 15, 44] (fun x8 x9 x11 x12 x13 x14 x15 x44 wq => ∃ (r : Nat) (aC : Option Addr) (cC : Nat) (aW : Option Addr) (cW : Nat), r ≤ 3 ∧ x44 = .int .i64 (r : Int) ∧ x8 = .slice aC r cC ∧ x9 = .slice aW r cW ∧ Hid (wq.ownsRow w4.heap.size 3 1 (.slice (some ⟨gI, 0, none⟩) 3 3) 3 [.int .i64 (i : Int), .int .i64 (i : Int), .int .i64 (i2 : Int)] ∧ Below w4.heap.size w4 wq ∧ ∃ vs Ls, vs.length = r ∧ FS w4.heap.size wq 0 vs Ls Ls es (.slice aC r cC) (.slice aW r cW) (.slice ak nk ck) nk ∧ ∀ L ∈ Ls, L.length ≤ 418)) (fun _ _ _ _ _ _ _ x44 _ => 3 - (RowKit.intOf x44).toNat)
      case atStart => exact ⟨0, none, 0, none, 0, by omega, rfl, rfl, rfl, H5.out.1, H5.out.2.1, [], [], rfl, H5.out.2.2.1, fun L hL => by cases hL⟩
      case round =>
        obtain ⟨r, aC, cC, aW, cW, hr3, rfl, rfl, rfl, HQ⟩ := hrel
        by_cases hrl : r < 3
        · have hrl' : (r : Int) < 3 := by omega
          obtain ⟨k, hk⟩ : ∃ k, k = ixN i i2 r := ⟨_, rfl⟩
          have hkn : k < n := by rw [hk]; unfold ixN; split <;> omega
          have hkn' : (k : Int) < (n : Int) := by omega
          have hcI : wr.cell? ⟨gI, r, none⟩ = some (.int .i64 (k : Int)) := by
            have := HQ.out.1.cells (g := gI) rfl r (.int .i64 (k : Int)) (by
              rw [hk]
              have hc3 : r = 0 ∨ r = 1 ∨ r = 2 := by omega
              rcases hc3 with rfl | rfl | rfl <;> rfl)
            rwa [addr_add, Nat.zero_add] at this
          clear hk
          obtain ⟨b, off, rfl, hrg, hok, hokS⟩ := (HIn.out wr HQ.out.2.1).2 k hkn
          have HRg : Hid (wr.rangeAt b (off + k * 42) (Ms k).cs.toList ∧ (Ms k).ok ∧ (Ms k).okS) := ⟨hrg, hok, hokS⟩
          have HE1 : Hid (Unit → _) := fun _ => binEnc_any (Ms k) wr (HIn.out wr HQ.out.2.1).1 hok
          clear hrg hok hokS
          go_upto_region 13 with fail
          refine wp_region_lit ?_
          refine wpList_runTo rfl (some 49) rfl (.slice (some ⟨b, off, none⟩) n cap) wr (by kernel_rfl) ?_
          refine wpList_runTo rfl (some 50) rfl (.int .i64 (k : Int)) wr (by kernel_rfl) ?_
          simp only [Act.put, List.setIfInBounds_toArray, List.set_cons_zero, List.set_cons_succ]
          refine wpList_runTo rfl (some 51) rfl (.pointer (some ⟨b, off + k * 42, none⟩)) wr (by go_simp) ?_
          refine wpList_runTo rfl (some 52) rfl (.agg (Ms k).cs) wr (load_mid_run HRg.out.1 (.tmp 51) rfl (by kernel_rfl)) ?_
          refine wpList_callW rfl (some 53) rfl 11 #[.agg (Ms k).cs] (by kernel_rfl) (HE1.out ()) ?_
          rintro e w6 ⟨v, rfl, hv, hb6⟩
          refine ⟨_, rfl, ?_⟩
          clear HE1
          obtain ⟨vs, Ls, hvl, hFS, hshort⟩ := HQ.out.2.2
          have HF6 : Hid (vs.length = r ∧ FS w4.heap.size w6 0 vs Ls Ls es (.slice aC r cC) (.slice aW r cW) (.slice ak nk ck) nk ∧ (∀ L ∈ Ls, L.length ≤ 418) ∧ w6.ownsRow w4.heap.size 3 1 (.slice (some ⟨gI, 0, none⟩) 3 3) 3 [.int .i64 (i : Int), .int .i64 (i : Int), .int .i64 (i2 : Int)] ∧ Below w4.heap.size w4 w6) := ⟨hvl, hFS.below hb6, hshort, row_low HQ.out.1 fun b hb => hb6.block b (HQ.out.1.lt b hb).2, HQ.out.2.1.trans (hb6.mono HQ.out.2.1.size)⟩
          have HFr : Hid _ := hFS.frame HQ.out.2.1.size hv hb6
          clear hFS hv hvl hshort
          obtain ⟨va, vc, rfl⟩ : ∃ va vc, v = .slice va (FL (Ms k)).length vc := row_form (HFr.out.1 vs.length _ _ (by simp) (by have := HF6.out.2.1.len; simp [this]))
          generalize hVE : valE (Ms k) = VE at *
          have HRg6 : Hid (w6.rangeAt b (off + k * 42) (Ms k).cs.toList) := by
            obtain ⟨b', off', hbo, hr, _⟩ := (HIn.out w6 HF6.out.2.2.2.2).2 k hkn
            injection hbo with hbo
            injection hbo with hbo1 hbo2
            subst hbo1 hbo2
            exact hr
          have HE2 : Hid (Unit → Calls Tryz.prog 16 #[.agg (Ms k).cs] w6 fun e w' => ∃ v, e = .returned (.tuple #[v, .int .i64 VE]) ∧ w'.ownsRow w6.heap.size 5 1 v (FL (Ms k)).length (byteCells (FL (Ms k))) ∧ Below w6.heap.size w6 w') := fun _ => by
            have := refEnc_any (Ms k) w6 HRg.out.2.1 HRg.out.2.2
            rw [hVE] at this
            exact this
          clear hb6 HQ hVE
          refine wpList_runTo rfl (some 48) rfl (.tuple #[.slice va (FL (Ms k)).length vc, .int .i64 VE]) w6 (by kernel_rfl) ?_
          refine wpList_runTo rfl (some 54) rfl (.slice va (FL (Ms k)).length vc) w6 (by kernel_rfl) ?_
          refine wpList_runTo rfl (some 55) rfl (.int .i64 VE) w6 (by kernel_rfl) ?_
          refine wpList_runTo rfl (some 12) rfl (.slice va (FL (Ms k)).length vc) w6 (by kernel_rfl) ?_
          refine wpList_runTo rfl (some 13) rfl (.int .i64 VE) w6 (by kernel_rfl) ?_
          refine wpList_nil ?_
          simp only [Act.put, List.setIfInBounds_toArray, List.set_cons_zero, List.set_cons_succ]
          go_upto_region 14 with fail
          refine wp_region_lit ?_
          refine wpList_runTo rfl (some 57) rfl (.slice (some ⟨b, off, none⟩) n cap) w6 (by kernel_rfl) ?_
          refine wpList_runTo rfl (some 58) rfl (.int .i64 (k : Int)) w6 (by kernel_rfl) ?_
          simp only [Act.put, List.setIfInBounds_toArray, List.set_cons_zero, List.set_cons_succ]
          refine wpList_runTo rfl (some 59) rfl (.pointer (some ⟨b, off + k * 42, none⟩)) w6 (by go_simp) ?_
          refine wpList_runTo rfl (some 60) rfl (.agg (Ms k).cs) w6 (load_mid_run HRg6.out (.tmp 59) rfl (by kernel_rfl)) ?_
          refine wpList_callW rfl (some 61) rfl 16 #[.agg (Ms k).cs] (by kernel_rfl) (HE2.out ()) ?_
          rintro e w7 ⟨v7, rfl, hv7, hb7⟩
          refine ⟨_, rfl, ?_⟩
          clear HE2 HRg6
          generalize hFL : FL (Ms k) = L at *
          have hLs : L.length ≤ 418 := by rw [← hFL]; exact fl_short _
          have H7 : Hid (vs.length = r ∧ FS w4.heap.size w7 0 vs Ls Ls es (.slice aC r cC) (.slice aW r cW) (.slice ak nk ck) nk ∧ (∀ L ∈ Ls, L.length ≤ 418) ∧ w7.ownsRow w4.heap.size 3 1 (.slice (some ⟨gI, 0, none⟩) 3 3) 3 [.int .i64 (i : Int), .int .i64 (i : Int), .int .i64 (i2 : Int)] ∧ Below w4.heap.size w4 w7) := ⟨HF6.out.1, HF6.out.2.1.below hb7, HF6.out.2.2.1, row_low HF6.out.2.2.2.1 fun b hb => hb7.block b (HF6.out.2.2.2.1.lt b hb).2, HF6.out.2.2.2.2.trans (hb7.mono HF6.out.2.2.2.2.size)⟩
          have HFr7 : Hid ((∀ (r : Nat) (u : Value) (U : List UInt8), (vs ++ [.slice va L.length vc])[r]? = some u → (Ls ++ [L])[r]? = some U → w7.ownsRow w4.heap.size 5 1 u U.length (byteCells U)) ∧ (∀ (r r' : Nat) (u u' : Value), r < r' → (vs ++ [.slice va L.length vc])[r]? = some u → (vs ++ [.slice va L.length vc])[r']? = some u' → u.ownBlock = none ∨ u.ownBlock ≠ u'.ownBlock) ∧ ∀ e ∈ es, e.len ≠ 0 → ∀ g cur, e.a = some ⟨g, 0, none⟩ → w7.heap[g]? = some (.cells cur 5 (0, 0)) → ∀ (r : Nat) (u : Value), (vs ++ [.slice va L.length vc])[r]? = some u → some g ≠ u.ownBlock) :=
            ⟨fun r u U hu hU => row_low (HFr.out.1 r u U hu hU) fun b hb => hb7.block b ((HFr.out.1 r u U hu hU).lt b hb).2, HFr.out.2.1, fun e he hl g cur g1 g2 => by
              obtain ⟨cur', hc⟩ := ent_block (HF6.out.2.1.kok e he) hl g1
              exact HFr.out.2.2 e he hl g cur' g1 hc⟩
          obtain ⟨ra, rc, rfl⟩ := row_form hv7
          have Hv7 : Hid (w7.ownsRow w4.heap.size 5 1 (.slice ra L.length rc) L.length (byteCells L)) := own_mono hv7 HF6.out.2.2.2.2.size
          clear HFr HF6 hb7 hv7
          generalize (Ms k).cs = MCk at *
          refine wpList_runTo rfl (some 56) rfl (.tuple #[.slice ra L.length rc, .int .i64 VE]) w7 (by kernel_rfl) ?_
          refine wpList_runTo rfl (some 62) rfl (.slice ra L.length rc) w7 (by kernel_rfl) ?_
          refine wpList_runTo rfl (some 63) rfl (.int .i64 VE) w7 (by kernel_rfl) ?_
          refine wpList_runTo rfl (some 14) rfl (.slice ra L.length rc) w7 (by kernel_rfl) ?_
          refine wpList_runTo rfl (some 15) rfl (.int .i64 VE) w7 (by kernel_rfl) ?_
          refine wpList_nil ?_
          simp only [Act.put, List.setIfInBounds_toArray, List.set_cons_zero, List.set_cons_succ]
          have hnew8 : Hid (∀ j u, [Value.slice va L.length vc][j]? = some u → (w7.alloc (.cells #[.slice va L.length vc] 28)).cell? ((⟨w7.heap.size, 0, none⟩ : Addr).add j) = some u) := cell_one_new w7 _ _
          go_upto_region 18 with (at_builtin; refine wpList_append_own _ rfl _ _ 43 rfl w4.heap.size 28 i0 (.slice none 0 0) 1 24 Tryz.underlying43 hi hz0 hz1 hz2 rfl (by decide) _ r vs rfl (by have := H7.out.2.1.came; rw [H7.out.1] at this; exact this.alloc _) ⟨w7.heap.size, 0, none⟩ 1 1 [.slice va L.length vc] rfl rfl hnew8.out (fun x hx => by simp at hx; subst hx; rfl) (by unfold maxLen; omega) (by omega) (by have := H7.out.2.2.2.2.size; simp; omega) ?_; intro v8 w8 hown8 hgrow8 hnil8)
          obtain ⟨a8, c8, rfl⟩ := row_form hown8
          have H8 : Hid ((vs ++ [Value.slice va L.length vc]).length = r + 1 ∧ FS w4.heap.size w8 0 (vs ++ [.slice va L.length vc]) (Ls ++ [L]) Ls es (.slice a8 (r + 1) c8) (.slice aW r cW) (.slice ak nk ck) nk ∧ (∀ L' ∈ Ls ++ [L], L'.length ≤ 418) ∧ w8.ownsRow w4.heap.size 3 1 (.slice (some ⟨gI, 0, none⟩) 3 3) 3 [.int .i64 (i : Int), .int .i64 (i : Int), .int .i64 (i2 : Int)] ∧ Below w4.heap.size w4 w8 ∧ w8.ownsRow w4.heap.size 5 1 (.slice ra L.length rc) L.length (byteCells L) ∧ Ls.length = r) := by
            refine ⟨by rw [List.length_append, H7.out.1]; rfl, H7.out.2.1.put1 HFr7.out.1 HFr7.out.2.1 HFr7.out.2.2 _ (by rw [H7.out.1]; exact hown8) hgrow8, fun L' hL' => ?_, row_app H7.out.2.1.came H7.out.2.2.2.1 (by decide) _ hgrow8, below_grownBy (H7.out.2.2.2.2.alloc H7.out.2.2.2.2.size _) hgrow8 (Nat.le_refl _) (fun q hq => (H7.out.2.1.came.lt q hq).1), row_app H7.out.2.1.came Hv7.out (by decide) _ hgrow8, by rw [← H7.out.2.1.len, H7.out.1]⟩
            rcases List.mem_append.1 hL' with h | h
            · exact H7.out.2.2.1 L' h
            · have : L' = L := by simpa using h
              rw [this]; exact hLs
          clear hown8 hgrow8 hnil8 HFr7 H7 Hv7 hnew8
          have hnew9 : Hid (∀ j u, [Value.string ⟨L.toArray⟩][j]? = some u → (w8.alloc (.cells #[.string ⟨L.toArray⟩] 9)).cell? ((⟨w8.heap.size, 0, none⟩ : Addr).add j) = some u) := cell_one_new w8 _ _
          refine wp_region_lit ?_
          refine wpList_runTo rfl (some 71) rfl (.slice aW r cW) w8 (by kernel_rfl) ?_
          refine wpList_runTo rfl (some 72) rfl (.slice ra L.length rc) w8 (by kernel_rfl) ?_
          refine wpList_runTo rfl (some 73) rfl (.string ⟨L.toArray⟩) w8 (conv_row_run H8.out.2.2.2.2.2.1 (.tmp 72) rfl (by kernel_rfl)) ?_
          refine wpList_runTo rfl (some 74) rfl (.slice (some ⟨w8.heap.size, 0, none⟩) 1 1) (w8.alloc (.cells #[.string ⟨L.toArray⟩] 9)) (by kernel_rfl) ?_
          simp only [Act.put, List.setIfInBounds_toArray, List.set_cons_zero, List.set_cons_succ]
          refine wpList_append_own _ rfl _ _ 44 rfl w4.heap.size 9 j0 (.string ⟨#[]⟩) 1 16 Tryz.underlying44 hj hy0 hy1 hy2 rfl (by decide) _ r (Ls.map fun L => .string ⟨L.toArray⟩) rfl (by have := H8.out.2.1.want; rw [H8.out.2.2.2.2.2.2] at this; exact this.alloc _) ⟨w8.heap.size, 0, none⟩ 1 1 [.string ⟨L.toArray⟩] rfl rfl hnew9.out (fun x hx => by simp at hx; subst hx; rfl) (by unfold maxLen; omega) (by omega) (by have := H8.out.2.2.2.2.1.size; simp; omega) ?_
          intro v9 w9 hown9 hgrow9 hnil9
          obtain ⟨a9, c9, rfl⟩ := row_form hown9
          have H9 : Hid (w9.ownsRow w4.heap.size 3 1 (.slice (some ⟨gI, 0, none⟩) 3 3) 3 [.int .i64 (i : Int), .int .i64 (i : Int), .int .i64 (i2 : Int)] ∧ Below w4.heap.size w4 w9 ∧ ∃ vs Ls, vs.length = r + 1 ∧ FS w4.heap.size w9 0 vs Ls Ls es (.slice a8 (r + 1) c8) (.slice a9 (r + 1) c9) (.slice ak nk ck) nk ∧ ∀ L ∈ Ls, L.length ≤ 418) := by
            refine ⟨row_app H8.out.2.1.want H8.out.2.2.2.1 (by decide) _ hgrow9, below_grownBy (H8.out.2.2.2.2.1.alloc H8.out.2.2.2.2.1.size _) hgrow9 (Nat.le_refl _) (fun q hq => (H8.out.2.1.want.lt q hq).1), vs ++ [.slice va L.length vc], Ls ++ [L], H8.out.1, H8.out.2.1.put2 _ (by rw [H8.out.2.2.2.2.2.2]; exact hown9) hgrow9, H8.out.2.2.1⟩
          clear hown9 hgrow9 hnil9 H8 hnew9
          refine wpList_runTo rfl (some 9) rfl (.slice a9 (r + 1) c9) w9 (by kernel_rfl) ?_
          refine wpList_nil ?_
          generalize (⟨L.toArray⟩ : ByteArray) = LS at *
          simp only [Act.put, List.setIfInBounds_toArray, List.set_cons_zero, List.set_cons_succ]
          go_wp2
          exact ⟨⟨r + 1, a8, c8, a9, c9, by omega, by go_num, rfl, rfl, H9.out⟩, by simp [RowKit.intOf]; omega⟩
        · obtain rfl : r = 3 := by omega
          obtain ⟨vs, Ls, hvl, hFS, hshort⟩ := HQ.out.2.2
          obtain ⟨gC, rfl, hcC⟩ : ∃ gC, aC = some ⟨gC, 0, none⟩ ∧ 3 ≤ cC := by
            rcases hFS.came.2 with ⟨_, h0⟩ | ⟨g, cap', cur, e1, _, _, e4, _⟩
            · omega
            · injection e1 with e1 _ e5
              exact ⟨g, e1, by omega⟩
          obtain ⟨gW, rfl, hcW⟩ : ∃ gW, aW = some ⟨gW, 0, none⟩ ∧ 3 ≤ cW := by
            rcases hFS.want.2 with ⟨_, h0⟩ | ⟨g, cap', cur, e1, _, _, e4, _⟩
            · have := hFS.len; omega
            · injection e1 with e1 _ e5
              exact ⟨g, e1, by have := hFS.len; omega⟩
          have H3 : Hid (vs.length = 3 ∧ FS w4.heap.size wr 0 vs Ls Ls es (.slice (some ⟨gC, 0, none⟩) 3 cC) (.slice (some ⟨gW, 0, none⟩) 3 cW) (.slice ak nk ck) nk ∧ (∀ L ∈ Ls, L.length ≤ 418) ∧ Below w4.heap.size w4 wr ∧ nk = es.length ∧ nk = 15 * i ∧ Ls.length = 3) := ⟨hvl, hFS, hshort, HQ.out.2.1, H5.out.2.2.2.1, H5.out.2.2.2.2, by rw [← hFS.len, hvl]⟩
          clear HQ hvl hFS hshort H5
          have hcC' : (3 : Int) ≤ (cC : Int) := by omega
          go_upto_region 21 with fail
          go_loopw [6, 16, 17] (fun x6 x16 x17 wq => ∃ (k nk2 : Nat) (ak2 : Option Addr) (ck2 : Nat), k ≤ 3 ∧ x16 = .int .i64 (k : Int) ∧ x6 = .slice ak2 nk2 ck2 ∧ Hid (nk2 = 15 * i + 5 * k ∧ ∃ es2, nk2 = es2.length ∧ FS w4.heap.size wq k vs Ls Ls es2 (.slice (some ⟨gC, 0, none⟩) 3 cC) (.slice (some ⟨gW, 0, none⟩) 3 cW) (.slice ak2 nk2 ck2) nk2 ∧ Below w4.heap.size w4 wq)) (fun _ x16 _ _ => 3 - (RowKit.intOf x16).toNat)
          case atStart => exact ⟨0, nk, ak, ck, by omega, rfl, rfl, by have := H3.out.2.2.2.2.2.1; omega, es, H3.out.2.2.2.2.1, H3.out.2.1, H3.out.2.2.2.1⟩
          case round =>
            obtain ⟨k, nk2, ak2, ck2, hk3, rfl, rfl, HK⟩ := hrel
            have hnk3 : nk2 ≤ 5300000000000 := by have := HK.out.1; omega
            by_cases hkl : k < 3
            · have hkl' : (k : Int) < 3 := by omega
              go_upto_region 24 with fail
              go_loopw [17] (fun x17 wx => ∃ j : Nat, k ≤ j ∧ j ≤ 3 ∧ x17 = .int .i64 (j : Int) ∧ Hid (∃ es2, nk2 = es2.length ∧ FS w4.heap.size wx k vs Ls Ls es2 (.slice (some ⟨gC, 0, none⟩) 3 cC) (.slice (some ⟨gW, 0, none⟩) 3 cW) (.slice ak2 nk2 ck2) nk2 ∧ Below w4.heap.size w4 wx)) (fun x17 _ => 3 - (RowKit.intOf x17).toNat)
              case atStart => exact ⟨k, Nat.le_refl _, hk3, rfl, HK.out.2⟩
              case round =>
                obtain ⟨j, hkj, hj3, rfl, HX⟩ := hrel
                obtain ⟨es2, hes2, hFx, hbx⟩ := HX.out
                have HFx : Hid (nk2 = es2.length ∧ FS w4.heap.size wr k vs Ls Ls es2 (.slice (some ⟨gC, 0, none⟩) 3 cC) (.slice (some ⟨gW, 0, none⟩) 3 cW) (.slice ak2 nk2 ck2) nk2 ∧ Below w4.heap.size w4 wr) := ⟨hes2, hFx, hbx⟩
                clear hes2 hFx hbx HX
                by_cases hjl : j < 3
                · have hjl' : (j : Int) < 3 := by omega
                  obtain ⟨vj, hvj⟩ : ∃ vj, vs[j]? = some vj := ⟨_, List.getElem?_eq_getElem (by rw [H3.out.1]; exact hjl)⟩
                  obtain ⟨Lj, hLj⟩ : ∃ Lj, Ls[j]? = some Lj := ⟨_, List.getElem?_eq_getElem (by rw [H3.out.2.2.2.2.2.2]; exact hjl)⟩
                  have cC1 := HFx.out.2.1.came.cells (g := gC) rfl j vj hvj
                  have cW1 := HFx.out.2.1.want.cells (g := gW) rfl j (.string ⟨Lj.toArray⟩) (by simp [hLj])
                  rw [addr_add, Nat.zero_add] at cC1 cW1
                  have HRow : Hid (wr.ownsRow w4.heap.size 5 1 vj Lj.length (byteCells Lj)) := HFx.out.2.1.rows j vj Lj hkj hvj hLj
                  obtain ⟨va, vc, rfl⟩ := row_form HRow.out
                  clear hvj hLj
                  go_upto_region 26 with fail
                  refine wp_region_quiet_lit (by kernel_rfl) (by kernel_rfl) ?_
                  quiet_step (fail)
                  quiet_step (fail)
                  quiet_step (fail)
                  quiet_step (fail)
                  try simp only [Act.put, List.setIfInBounds_toArray, List.set_cons_zero, List.set_cons_succ]
                  refine quiet_runTo (by kernel_rfl) (some 94) rfl (.string ⟨Lj.toArray⟩) (fun w' hw => by obtain ⟨q, rfl⟩ := hw; exact conv_row_run (w := wr.drewN q) HRow.out (.tmp 93) rfl (by kernel_rfl)) ?_
                  try simp only [Act.put, List.setIfInBounds_toArray, List.set_cons_zero, List.set_cons_succ]
                  generalize (⟨Lj.toArray⟩ : ByteArray) = LS at *
                  have hS2 : (LS.toList == LS.toList) = true := by simp
                  repeat (quiet_step (fail))
                  refine wpQuiet_nil ?_
                  rintro _ ⟨q, rfl⟩
                  go_wp2
                  have HN1 : Hid (∃ es2, nk2 = es2.length ∧ FS w4.heap.size (wr.drewN q) k vs Ls Ls es2 (.slice (some ⟨gC, 0, none⟩) 3 cC) (.slice (some ⟨gW, 0, none⟩) 3 cW) (.slice ak2 nk2 ck2) nk2 ∧ Below w4.heap.size w4 (wr.drewN q)) := ⟨es2, HFx.out.1, HFx.out.2.1.below (below_drewN (Below.refl _ _) q), below_drewN HFx.out.2.2 q⟩
                  refine ⟨?_, ?_⟩
                  · repeat (apply Exists.intro)
                    refine ⟨⟨j + 1, by omega, by omega, by go_num, HN1⟩, rfl⟩
                  · simp [RowKit.intOf]; omega
                · have hjl' : ¬ (j : Int) < 3 := by omega
                  obtain ⟨vk, hvk⟩ : ∃ vk, vs[k]? = some vk := ⟨_, List.getElem?_eq_getElem (by rw [H3.out.1]; exact hkl)⟩
                  obtain ⟨Lk, hLk⟩ : ∃ Lk, Ls[k]? = some Lk := ⟨_, List.getElem?_eq_getElem (by rw [H3.out.2.2.2.2.2.2]; exact hkl)⟩
                  have cC1 := HFx.out.2.1.came.cells (g := gC) rfl k vk hvk
                  rw [addr_add, Nat.zero_add] at cC1
                  have hrow := HFx.out.2.1.rows k vk Lk (Nat.le_refl _) hvk hLk
                  have HKp : Hid (Unit → _) := fun _ => keep_any w4.heap.size w4.heap.size nk2 Lk.length es2 (.slice ak2 nk2 ck2) vk Lk wr hnk3 HFx.out.2.1.krow HFx.out.2.1.kok hrow (H3.out.2.2.1 Lk (List.mem_of_getElem? hLk)) HFx.out.2.2.size (Nat.le_refl _) HFx.out.2.2.size (fun e he hl g cur g1 g2 => HFx.out.2.1.sep e he hl g cur g1 g2 k vk (Nat.le_refl _) hvk)
                  have HV : Hid (vs[k]? = some vk ∧ Ls[k]? = some Lk) := ⟨hvk, hLk⟩
                  obtain ⟨va, vc, rfl⟩ := row_form hrow
                  clear hvk hLk hrow
                  go_wp2_with (go_at_call 17; fail)
                  refine (HKp.out ()).mono ?_
                  rintro e w10 ⟨vK', bt, es', mk, rfl, hks⟩
                  have hF10 := HFx.out.2.1.kept HV.out.1 HV.out.2 hks
                  have hb10 : Below w4.heap.size w4 w10 := HFx.out.2.2.trans hks.low
                  have hl5 : es'.length = 5 := hks.len
                  rw [hl5] at hF10
                  obtain ⟨a10, c10, rfl⟩ := hold_form hF10.krow
                  have H10 : Hid (nk2 + 5 = 15 * i + 5 * (k + 1) ∧ ∃ es2, nk2 + 5 = es2.length ∧ FS w4.heap.size w10 (k + 1) vs Ls Ls es2 (.slice (some ⟨gC, 0, none⟩) 3 cC) (.slice (some ⟨gW, 0, none⟩) 3 cW) (.slice a10 (nk2 + 5) c10) (nk2 + 5) ∧ Below w4.heap.size w4 w10) := ⟨by have := HK.out.1; omega, es2 ++ es', by rw [List.length_append, hl5, ← HFx.out.1], hF10, hb10⟩
                  clear hks hF10 hb10 hl5 HKp HK HFx HV cC1
                  go_wp2
                  refine ⟨?_, ?_⟩
                  · repeat (apply Exists.intro)
                    refine ⟨⟨k + 1, nk2 + 5, a10, c10, by omega, by go_num, rfl, H10⟩, rfl⟩
                  · simp [RowKit.intOf]; omega
            · obtain rfl : k = 3 := by omega
              obtain ⟨hnk4, es2, hes2, hFx, hbx⟩ := HK.out
              have HLk : Hid (Unit → _) := fun _ => looks_any es2 w4.heap.size nk2 (.slice ak2 nk2 ck2) wr hes2 (by omega) hFx.krow hFx.kok
              have HFx : Hid (nk2 = 15 * (i + 1) ∧ nk2 = es2.length ∧ wr.ownsRow w4.heap.size 83 2 (.slice ak2 nk2 ck2) nk2 (holdV es2) ∧ KeptOK wr es2 ∧ Below w4.heap.size w4 wr) := ⟨by omega, hes2, hFx.krow, hFx.kok, hbx⟩
              clear hnk4 hes2 hFx hbx HK
              go_wp2_with (go_at_call 18; fail)
              refine (HLk.out ()).mono ?_
              rintro e w11 ⟨rfl, hb11⟩
              have H11 : Hid (nk2 = 15 * (i + 1) ∧ ∃ es, w11.ownsRow w4.heap.size 83 2 (.slice ak2 nk2 ck2) nk2 (holdV es) ∧ nk2 = es.length ∧ KeptOK w11 es ∧ Below w4.heap.size w4 w11) := ⟨HFx.out.1, es2, row_low HFx.out.2.2.1 fun b hb => hb11.block b (HFx.out.2.2.1.lt b hb).2, HFx.out.2.1, HFx.out.2.2.2.1.below hb11, HFx.out.2.2.2.2.trans (hb11.mono HFx.out.2.2.2.2.size)⟩
              clear hb11 HFx HLk
              go_wp2
              exact ⟨⟨i + 1, nk2, ak2, ck2, by omega, by go_num, rfl, H11.out⟩, by simp [RowKit.intOf]; omega⟩
    · obtain rfl : i = n := by omega
      go_wp2
      go_ret
      refine ⟨rfl, ?_⟩
      obtain ⟨_, es, _, _, _, hb⟩ := HR.out
      exact HB4.out.1.trans (hb.mono HB4.out.2)
end Go.Proofs.YthadnogcocmfgaaGreatDoor
