/-
  TapeCut: commands that came in, commands kept, where the law stands.
-/
import Derived.Test.YtjnnecoikcmaeaaTC1
import Derived.Test.YtjnnecoikcmaeaaTQ7
import Derived.Test.YtjnnecoikcmaeaaTR2
namespace Go.Proofs.Ytjnnecoikcmaeaa
set_option linter.unusedVariables false
set_option linter.unusedSimpArgs false
open Go.RowKit Go.Great

def cmC (c : Cm) : List Value := c.cs.toList
theorem cmC_len (c : Cm) : (cmC c).length = 25 := rfl
theorem Cm.one (c : Cm) : c.cs.all (·.oneCell') = true := by kernel_rfl
theorem cmC_one (c : Cm) : ∀ u ∈ cmC c, u.oneCell' = true := fun u hu => Array.all_eq_true_iff_forall_mem.1 c.one u (by simpa [cmC] using hu)
theorem infoC : (Try.prog.info? 27).map (fun i => (i.zero, i.size, i.bytes)) = some (some (.agg zeroC.cs), 25, 240) := by kernel_rfl
def SrcC (w : World) (a : Option Addr) (n : Nat) (t : Nat → Cm) : Prop := n = 0 ∨ ∃ b off, a = some ⟨b, off, none⟩ ∧ ∀ j, j < n → w.rangeAt b (off + j * 25) (t j).cs.toList ∧ (t j).ok
theorem SrcC.below {w w' : World} {a : Option Addr} {n : Nat} {t : Nat → Cm} (h : SrcC w a n t) (hb : Below w.heap.size w w') : SrcC w' a n t := by
  rcases h with h | ⟨b, off, e, h⟩
  · exact .inl h
  · refine .inr ⟨b, off, e, fun j hj => ⟨fun i v hv => ?_, (h j hj).2⟩⟩
    have hc := (h j hj).1 i v hv
    exact (hb.cell (p := ⟨b, _, none⟩) (World.block_lt_of_cell? _ _ hc)).trans hc
theorem ixC_run {op : Oper} {a : Act} {g o n c i : Nat} (x y : Operand) (ho : op.op = .indexAddr 38 x y) (hx : a.eval x = .slice (some ⟨g, o, none⟩) n c) (hy : a.eval y = .int .i64 (i : Int)) (hi : i < n) (w : World) : (execOp a.eval op).run Try.prog w = .ok (.value (.pointer (some ⟨g, o + i * 25, none⟩))) w := by
  have h1 : (i : Int) < (n : Int) := by omega
  have h2 : ¬ (n : Int) ≤ (i : Int) := by omega
  unfold execOp
  simp only [ho, hx, hy]
  go_simp
theorem ixI_run {op : Oper} {a : Act} {g o n c i : Nat} (x y : Operand) (ho : op.op = .indexAddr 41 x y) (hx : a.eval x = .slice (some ⟨g, o, none⟩) n c) (hy : a.eval y = .int .i64 (i : Int)) (hi : i < n) (w : World) : (execOp a.eval op).run Try.prog w = .ok (.value (.pointer (some ⟨g, o + i, none⟩))) w := by
  have h1 : (i : Int) < (n : Int) := by omega
  have h2 : ¬ (n : Int) ≤ (i : Int) := by omega
  unfold execOp
  simp only [ho, hx, hy]
  go_simp
theorem ldC_run {op : Oper} {a : Act} {w : World} {g o : Nat} {c : Cm} (h : w.rangeAt g o c.cs.toList) (x : Operand) (ho : op.op = .load 27 x) (hx : a.eval x = .pointer (some ⟨g, o, none⟩)) : (execOp a.eval op).run Try.prog w = .ok (.value (.agg c.cs)) w := by
  have hl := run_loadVar_mid (P := Try.prog) w g o 27 c.cs.toList _ h Try.underlying27 rfl (by rw [Array.length_toList, Cm.cs_size]; kernel_rfl)
  unfold execOp
  simp only [ho, hx, Instr.loadAt, Instr.sureAddr, Sem.run_bind, Sem.run_pure, Result.andThen_ok, hl]
theorem row_cmd {w : World} {v : Value} {m : Nat} {L : List Cm} (h : RowAt w 27 25 v m (flatL cmC L)) {g off cap : Nat} (hv : v = .slice (some ⟨g, off, none⟩) m cap) {j : Nat} {c : Cm} (hj : L[j]? = some c) : w.rangeAt g (off + j * 25) c.cs.toList := fun i u hu => by
  have hi : i < 25 := (List.getElem?_eq_some_iff.1 hu).1
  have := h.cell hv (j := j * 25 + i) (u := u) (by rw [flatL_get cmC_len hj hi]; exact hu)
  rw [Nat.add_assoc]
  exact this
theorem row_int {w : World} {v : Value} {m : Nat} {L : List Nat} (h : RowAt w 3 1 v m (flatL intC L)) {g off cap : Nat} (hv : v = .slice (some ⟨g, off, none⟩) m cap) {j x : Nat} (hj : L[j]? = some x) : w.cell? ⟨g, off + j, none⟩ = some (.int .i64 (x : Int)) := by
  have := h.cell hv (j := j * 1 + 0) (u := .int .i64 (x : Int)) (by rw [flatL_get intC_len hj (by decide)]; rfl)
  simpa using this
/-- Where the law's first loop stands. -/
structure CA (w W : World) (t : Tp) (av ev : Value) (cs : Nat → Cm) (mt ma me : Nat) : Prop where
  bel : Below w.heap.size w W
  tp : TpAt W t
  tl : t.l = tpL cs mt
  te : t.es = ensL cs mt
  low : ∀ b, t.own b → w.heap.size ≤ b
  al : RowAt W 27 25 av ma (flatL cmC ((List.range ma).map cs))
  en : RowAt W 3 1 ev me (flatL intC (ensL cs me))
  alow : ∀ q, av.ownBlock = some q → w.heap.size ≤ q ∧ ¬ t.own q
  elow : ∀ q, ev.ownBlock = some q → w.heap.size ≤ q ∧ ¬ t.own q
  ha : ma ≤ mt
  he : me ≤ mt
  hE : ∀ j, j < mt → encE (cs j) = 0 ∧ (cs j).ok
def updC (cs : Nat → Cm) (m : Nat) (c : Cm) : Nat → Cm := fun j => if j = m then c else cs j
theorem updC_lt (cs : Nat → Cm) (c : Cm) {m j : Nat} (h : j < m) : updC cs m c j = cs j := if_neg (by omega)
theorem updC_eq (cs : Nat → Cm) (c : Cm) (m : Nat) : updC cs m c m = c := if_pos rfl
section
variable {w W W' : World} {t : Tp} {av ev : Value} {cs : Nat → Cm} {mt ma me : Nat}
theorem CA.below (h : CA w W t av ev cs mt ma me) (hb : Below W.heap.size W W') : CA w W' t av ev cs mt ma me :=
  ⟨below_step h.bel hb, h.tp.below hb, h.tl, h.te, h.low, h.al.fr (Fr.of_below hb (fun _ => False)) fun _ _ => id, h.en.fr (Fr.of_below hb (fun _ => False)) fun _ _ => id, h.alow, h.elow, h.ha, h.he, h.hE⟩
theorem below_fr {ex : Nat → Prop} (hb : Below w.heap.size w W) (hf : Fr W W' ex) (hn : ∀ b, ex b → w.heap.size ≤ b) : Below w.heap.size w W' :=
  ⟨hf.os.trans hb.os, hf.tape.trans hb.tape, hf.output.trans hb.output, Nat.le_trans hb.size hf.size, fun q hq => (hf.block q (Nat.lt_of_lt_of_le hq hb.size) (fun e => by have := hn q e; omega)).trans (hb.block q hq)⟩
theorem CA.len (h : CA w W t av ev cs mt ma me) : t.es.length = mt := by rw [h.te, ensL_len]
theorem CA.app (h : CA w W t av ev cs mt ma me) {c : Cm} (hc : c.ok) (hz : encE c = 0) {wv ev' : Value} (ht : TpAt W' (t.more (recL t.es.length (encL c)) wv ev')) (hf : Fr W W' t.own) (ho : ∀ b, (t.more (recL t.es.length (encL c)) wv ev').own b → t.own b ∨ W.heap.size ≤ b) : CA w W' (t.more (recL t.es.length (encL c)) wv ev') av ev (updC cs mt c) (mt + 1) ma me := by
  have hcs : ∀ j, j < mt → cs j = updC cs mt c j := fun j hj => (updC_lt cs c hj).symm
  have h1 : tpL (updC cs mt c) (mt + 1) = tpL cs mt ++ recL mt (encL c) := by
    show tpL (updC cs mt c) mt ++ recL mt (encL (updC cs mt c mt)) = _
    rw [updC_eq, ← tpL_ext mt hcs]
  have hltw := h.bel.size
  refine ⟨below_fr h.bel hf h.low, ht, ?_, ?_, fun b hb => ?_, ?_, ?_, fun q hq => ⟨(h.alow q hq).1, fun e => ?_⟩, fun q hq => ⟨(h.elow q hq).1, fun e => ?_⟩, by have := h.ha; omega, by have := h.he; omega, fun j hj => ?_⟩
  · show t.l ++ recL t.es.length (encL c) = _
    rw [h1, h.len, h.tl]
  · show t.es ++ [t.l.length + (recL t.es.length (encL c)).length] = _
    rw [ensL_succ, ← ensL_ext hcs, h.te, ensL_len, h.tl]
    congr 2
    unfold enN
    rw [h1, List.length_append]
  · rcases ho b hb with e | e
    · exact h.low b e
    · omega
  · have := h.al.fr hf fun q hq => (h.alow q hq).2
    rw [show (List.range ma).map (updC cs mt c) = (List.range ma).map cs from List.map_congr_left fun j hj => updC_lt cs c (by have := List.mem_range.1 hj; have := h.ha; omega)]
    exact this
  · have := h.en.fr hf fun q hq => (h.elow q hq).2
    rw [← ensL_ext (m := me) fun j hj => hcs j (by have := h.he; omega)]
    exact this
  · rcases ho q e with e | e
    · exact (h.alow q hq).2 e
    · have := (h.al.lt hq).1; omega
  · rcases ho q e with e | e
    · exact (h.elow q hq).2 e
    · have := (h.en.lt hq).1; omega
  · by_cases e : j = mt
    · rw [e, updC_eq]; exact ⟨hz, hc⟩
    · rw [updC_lt cs c (by omega)]; exact h.hE j (by omega)
theorem CA.all (h : CA w W t av ev cs mt ma me) (hm : ma < mt) (hs : mt ≤ 1000) {zb : Nat} (hc : W.rangeAt zb 0 (cs ma).cs.toList) (ty : TypeId) : ∃ v' W', (Builtin.append_ #[38, 38] ty #[av, .slice (some ⟨zb, 0, none⟩) 1 1]).run Try.prog W = .ok v' W' ∧ CA w W' t v' ev cs mt (ma + 1) me := by
  obtain ⟨i0, hi, hz0, hz1, hz2⟩ := info_parts infoC
  have hmx : 100000000000 ≤ maxLen := by decide
  obtain ⟨v', W', k1, k2, k3, k4⟩ := run_append_row (P := Try.prog) W 38 ty 27 i0 _ 25 240 Try.underlying38 hi hz0 hz1 hz2 (by rw [Value.cells]; exact zeroC.cs_size) av ma _ h.al ⟨zb, 0, none⟩ 1 1 (cmC (cs ma)) (by rw [cmC_len]) (fun j x hj => by
    rw [Addr.add_mid]
    exact hc j x hj) (cmC_one _) (.inl (by decide)) (by omega) (by omega)
  refine ⟨v', W', k1, ⟨below_fr h.bel k3 fun b e => (h.alow b e).1, h.tp.fr k3 fun b hb e => (h.alow b e).2 hb, h.tl, h.te, h.low, ?_, h.en.fr k3 fun q hq e => ?_, fun q hq => ?_, h.elow, hm, h.he, h.hE⟩⟩
  · rw [List.range_succ, List.map_append, flatL_app]
    show RowAt _ _ _ _ _ (_ ++ flatL cmC [cs ma])
    rw [flatL_one]
    exact k2
  · obtain ⟨_, c1, e1⟩ := h.al.lt e
    exact h.en.ne_type e1 (by decide) hq
  · rcases k4 with k4 | ⟨k4, _⟩
    · exact h.alow q (k4 ▸ hq)
    · rw [k4] at hq
      injection hq with hq
      exact ⟨by have := h.bel.size; omega, fun e => by have := h.tp.ltO e; omega⟩
theorem CA.ends (h : CA w W t av ev cs mt ma me) (hm : me < mt) (hs : mt ≤ 1000) {zb : Nat} (hc : W.cell? ⟨zb, 0, none⟩ = some (.int .i64 ((enN cs (me + 1) : Nat) : Int))) (ty : TypeId) : ∃ v' W', (Builtin.append_ #[41, 41] ty #[ev, .slice (some ⟨zb, 0, none⟩) 1 1]).run Try.prog W = .ok v' W' ∧ CA w W' t av v' cs mt ma (me + 1) := by
  obtain ⟨i0, hi, hz0, hz1, hz2⟩ := info_parts info3
  have hmx : 100000000000 ≤ maxLen := by decide
  obtain ⟨v', W', k1, k2, k3, k4⟩ := run_append_row (P := Try.prog) W 41 ty 3 i0 _ 1 8 Try.underlying41 hi hz0 hz1 hz2 rfl ev me _ h.en ⟨zb, 0, none⟩ 1 1 (intC (enN cs (me + 1))) rfl (fun j x hj => by
    rw [Addr.add_mid]
    cases j with
    | zero =>
      have e : .int .i64 ((enN cs (me + 1) : Nat) : Int) = x := by simpa [intC] using hj
      subst e; exact hc
    | succ j => simp [intC] at hj) (fun u hu => by
    have : u = .int .i64 ((enN cs (me + 1) : Nat) : Int) := by simpa [intC] using hu
    rw [this]; rfl) (.inl (by decide)) (by omega) (by omega)
  refine ⟨v', W', k1, ⟨below_fr h.bel k3 fun b e => (h.elow b e).1, h.tp.fr k3 fun b hb e => (h.elow b e).2 hb, h.tl, h.te, h.low, h.al.fr k3 fun q hq e => ?_, ?_, h.alow, fun q hq => ?_, h.ha, hm, h.hE⟩⟩
  · obtain ⟨_, c1, e1⟩ := h.en.lt e
    exact h.al.ne_type e1 (by decide) hq
  · rw [ensL_succ, flatL_app, flatL_one]
    exact k2
  · rcases k4 with k4 | ⟨k4, _⟩
    · exact h.elow q (k4 ▸ hq)
    · rw [k4] at hq
      injection hq with hq
      exact ⟨by have := h.bel.size; omega, fun e => by have := h.tp.ltO e; omega⟩
end
/-- Behind it: the commands, where they end, the bytes, all in blocks below B. -/
structure CB (w W : World) (B : Nat) (av ev bv : Value) (cs : Nat → Cm) (m : Nat) : Prop where
  bel : Below w.heap.size w W
  al : RowAt W 27 25 av m (flatL cmC ((List.range m).map cs))
  en : RowAt W 3 1 ev m (flatL intC (ensL cs m))
  by' : By W bv (tpL cs m)
  alow : ∀ q, av.ownBlock = some q → q < B
  elow : ∀ q, ev.ownBlock = some q → q < B
  blow : ∀ q, bv.ownBlock = some q → q < B
  wB : w.heap.size ≤ B
  BW : B ≤ W.heap.size
  hE : ∀ j, j < m → encE (cs j) = 0 ∧ (cs j).ok
section
variable {w W W' : World} {B : Nat} {av ev bv : Value} {cs : Nat → Cm} {m : Nat}
theorem CB.fr {ex : Nat → Prop} (h : CB w W B av ev bv cs m) (hf : Fr W W' ex) (hn : ∀ b, ex b → B ≤ b) : CB w W' B av ev bv cs m :=
  ⟨below_fr h.bel hf fun b e => Nat.le_trans h.wB (hn b e), h.al.fr hf fun q hq e => by have := h.alow q hq; have := hn q e; omega, h.en.fr hf fun q hq e => by have := h.elow q hq; have := hn q e; omega, h.by'.fr hf fun q hq e => by have := h.blow q hq; have := hn q e; omega, h.alow, h.elow, h.blow, h.wB, Nat.le_trans h.BW hf.size, h.hE⟩
theorem CB.below (h : CB w W B av ev bv cs m) (hb : Below W.heap.size W W') : CB w W' B av ev bv cs m := h.fr (Fr.of_below hb (fun _ => False)) fun _ => False.elim
theorem CA.bytes {t : Tp} (h : CA w W t av ev cs m m m) (hr : RowB W W' bv t.l) : CB w W' W'.heap.size av ev bv cs m := by
  have h1 := h.below hr.bel
  refine ⟨h1.bel, h1.al, h1.en, by have := hr.by'; rw [h.tl] at this; exact this, fun q hq => (h1.al.lt hq).1, fun q hq => (h1.en.lt hq).1, fun q hq => (hr.row.lt hq).1, h1.bel.size, Nat.le_refl _, h.hE⟩
theorem CB.bd (h : CB w W B av ev bv cs m) (hm : m ≤ 60) : enN cs m ≤ 40000 := by
  have := enN_bd (m := m) fun j hj => (h.hE j hj).1
  omega
end
/-- And a tape that has the first i of them. -/
structure CO (w W : World) (B : Nat) (av ev bv : Value) (cs : Nat → Cm) (m : Nat) (o : Tp) (i : Nat) : Prop where
  cb : CB w W B av ev bv cs m
  tp : TpAt W o
  ol : o.l = tpL cs i
  oe : o.es = ensL cs i
  own : ∀ b, o.own b → B ≤ b
  im : i ≤ m
section
variable {w W W' : World} {B : Nat} {av ev bv : Value} {cs : Nat → Cm} {m i : Nat} {o : Tp}
theorem CO.below (h : CO w W B av ev bv cs m o i) (hb : Below W.heap.size W W') : CO w W' B av ev bv cs m o i := ⟨h.cb.below hb, h.tp.below hb, h.ol, h.oe, h.own, h.im⟩
theorem CO.len (h : CO w W B av ev bv cs m o i) : o.es.length = i := by rw [h.oe, ensL_len]
theorem CO.app (h : CO w W B av ev bv cs m o i) (hi : i < m) {wv ev' : Value} (ht : TpAt W' (o.more (recL o.es.length (encL (cs i))) wv ev')) (hf : Fr W W' o.own) (ho : ∀ b, (o.more (recL o.es.length (encL (cs i))) wv ev').own b → o.own b ∨ W.heap.size ≤ b) : CO w W' B av ev bv cs m (o.more (recL o.es.length (encL (cs i))) wv ev') (i + 1) := by
  refine ⟨h.cb.fr hf h.own, ht, ?_, ?_, fun b hb => ?_, hi⟩
  · show o.l ++ recL o.es.length (encL (cs i)) = tpL cs i ++ recL i (encL (cs i))
    rw [h.len, h.ol]
  · show o.es ++ [o.l.length + (recL o.es.length (encL (cs i))).length] = _
    rw [ensL_succ, h.oe, ensL_len, h.ol, recL_len]
    congr 2
    exact (enN_succ cs i).symm
  · rcases ho b hb with e | e
    · exact h.own b e
    · exact Nat.le_trans h.cb.BW e
theorem begE_ens (cs : Nat → Cm) {i j : Nat} (hj : j < i) : begE (ensL cs i) j = enN cs j := by
  unfold begE
  cases j with
  | zero => rfl
  | succ j =>
    rw [if_neg (by omega), Nat.add_sub_cancel, List.getD_eq_getElem?_getD, ensL_get cs (by omega)]
    rfl
theorem CO.cmd (h : CO w W B av ev bv cs m o i) (hm : m ≤ 60) {j : Nat} (hj : j < i) : Calls Try.prog 16 #[.pointer (some ⟨o.g, 0, none⟩), .int .i64 (j : Int)] W fun e w' => e = .returned (.tuple #[.agg (cs j).cs, .int .i64 0]) ∧ Hid (Below W.heap.size W w') := by
  have him := h.im
  have hE := (h.cb.hE j (by omega)).1
  have hbd := h.cb.bd hm
  have hle := enN_le cs (j := i) (m := m) him
  have hlj := enN_le cs (j := j + 1) (m := i) (by omega)
  have hs := enN_succ cs j
  have hel := encL_len hE
  have hlen : o.l.length = enN cs i := by rw [h.ol]; rfl
  obtain ⟨d, hd, hdc⟩ := dec_enc hE
  have := Command_yes h.tp j (enN cs (j + 1)) (by rw [h.oe]; exact ensL_get cs hj) (by rw [h.oe, begE_ens cs hj]; omega) (by rw [hlen]; exact hlj) (by omega) (by rw [h.len]; omega) (by rw [h.oe, begE_ens cs hj]; omega) d (by
    rw [h.oe, begE_ens cs hj, h.ol]
    obtain ⟨t', ht⟩ := drop_at (cs := cs) (L := tpL cs i) (t := []) (q := i) (by rw [List.append_nil]) hj
    rw [ht, List.take_append_of_le_length (by rw [recL_len]; omega), List.take_of_length_le (by rw [recL_len]; omega), recL_drop]
    exact hd)
  rw [hdc] at this
  exact this
theorem exists_q (cs : Nat → Cm) {k : Nat} (hk : 4 ≤ k) : ∀ m, ∃ q, q ≤ m ∧ enN cs q ≤ k ∧ (q = m ∨ k < enN cs (q + 1))
  | 0 => ⟨0, Nat.le_refl _, by rw [enN_zero]; exact hk, .inl rfl⟩
  | m + 1 => by
    obtain ⟨q, h1, h2, h3⟩ := exists_q cs hk m
    rcases h3 with e | h3
    · subst e
      by_cases h : k < enN cs (q + 1)
      · exact ⟨q, by omega, h2, .inr h⟩
      · exact ⟨q + 1, Nat.le_refl _, by omega, .inl rfl⟩
    · exact ⟨q, by omega, h2, .inr h3⟩
/-- What Open finds of the bytes up to k. -/
theorem CB.open (h : CB w W B av ev bv cs m) (hm : m ≤ 60) {k q : Nat} (hk : k ≤ enN cs m) (hq : q ≤ m) (hqk : enN cs q ≤ k) (hmax : q = m ∨ k < enN cs (q + 1)) {e : Ending} (hr : OpR W ((tpL cs m).take k) e W') : ∃ o : Tp, e = .returned (.tuple #[.pointer (some ⟨o.g, 0, none⟩), .int .i64 ((enN cs q : Nat) : Int), .int .i64 0]) ∧ CO w W' B av ev bv cs m o q := by
  obtain ⟨o, p, he, hx⟩ := hr
  obtain ⟨h1, h2, h3, h4, h5, h6, h7, h8⟩ := hx.out
  have hE : ∀ j, j < m → encE (cs j) = 0 := fun j hj => (h.hE j hj).1
  obtain ⟨⟨t, ht⟩, hno⟩ := cut_no hE hk hqk hq hmax
  obtain ⟨g1, g2⟩ := open_gen ht (fun j hj => hE j (by omega)) hno (by omega) h3 h6
  subst g2
  refine ⟨o, he, h.below h7, h1, ?_, g1, fun b hb => Nat.le_trans h.BW (h8 b hb), hq⟩
  rw [h2, ht]
  exact List.take_left
end
set_option maxRecDepth 100000 in
theorem Open_short {w : World} {v : Value} {l : List Nat} (h : By w v l) (hl : l.length < 4) : Calls Try.prog 14 #[v] w fun e w' => e = .returned (.tuple #[.pointer none, .int .i64 0, .int .i64 180]) ∧ w' = w := by
  obtain ⟨va, vc, rfl, hvc⟩ := h.form
  have hl' : (l.length : Int) < 4 := by omega
  clear h
  generalize l.length = n at *
  go_enter Try.func14, Try.ntmps14
  go_wp2
  go_ret3
  exact ⟨rfl, rfl⟩
end Go.Proofs.Ytjnnecoikcmaeaa
