/-
  tape: a tape in memory: New, Len, Bytes.
-/
import Derived.Test.YtjnnecoikcmaeaaTQ2
import Derived.Lib.SlBytesConst
import Derived.Lib.SliceRun
namespace Go.Proofs.Ytjnnecoikcmaeaa
set_option linter.unusedVariables false
set_option linter.unusedSimpArgs false
open Go.RowKit Go.Great

def intC (x : Nat) : List Value := [.int .i64 (x : Int)]
theorem intC_len (x : Nat) : (intC x).length = 1 := rfl
/-- A tape: its bytes, and where each record ends. -/
structure Tp where
  g : Nat
  wv : Value
  l : List Nat
  ev : Value
  es : List Nat
def Tp.cs (t : Tp) : Array Value := #[t.wv, t.ev]
structure TpAt (w : World) (t : Tp) : Prop where
  blk : Blk w t.g 79 t.cs
  by' : By w t.wv t.l
  app : RowAt w 5 1 t.wv t.l.length (bvals t.l) ∨ ∃ b, t.wv = .slice (some ⟨b, 0, none⟩) t.l.length t.l.length ∧ 0 < t.l.length
  row : RowAt w 3 1 t.ev t.es.length (flatL intC t.es)
  lt : ∀ q, t.wv.ownBlock = some q → q < w.heap.size
  ne1 : t.wv.ownBlock ≠ some t.g
  ne2 : ∀ q, t.wv.ownBlock = some q → t.ev.ownBlock ≠ some q
def Tp.own (t : Tp) (b : Nat) : Prop := b = t.g ∨ t.wv.ownBlock = some b ∨ t.ev.ownBlock = some b
section
variable {w w' : World} {t : Tp}
theorem TpAt.ne3 (h : TpAt w t) : t.ev.ownBlock ≠ some t.g := h.row.ne_type h.blk (by decide)
theorem TpAt.fr {ex : Nat → Prop} (h : TpAt w t) (hf : Fr w w' ex) (hn : ∀ b, t.own b → ¬ ex b) : TpAt w' t := by
  refine ⟨h.blk.fr hf (hn _ (.inl rfl)), h.by'.fr hf fun q hq => hn q (.inr (.inl hq)), ?_, h.row.fr hf fun q hq => hn q (.inr (.inr hq)), fun q hq => Nat.lt_of_lt_of_le (h.lt q hq) hf.size, h.ne1, h.ne2⟩
  rcases h.app with k | k
  · exact .inl (k.fr hf fun q hq => hn q (.inr (.inl hq)))
  · exact .inr k
theorem TpAt.below (h : TpAt w t) (hb : Below w.heap.size w w') : TpAt w' t := h.fr (Fr.of_below hb (fun _ => False)) fun _ _ => id
theorem TpAt.ltO (h : TpAt w t) {b : Nat} (hb : t.own b) : b < w.heap.size := by
  rcases hb with e | e | e
  · rw [e]; exact h.blk.lt
  · exact h.lt b e
  · exact (h.row.lt e).1
end
theorem conv2_run {op : Oper} {a : Act} {w w' : World} {v u : Value} (x : Operand) (ho : op.op = .convert 28 28 x) (hx : a.eval x = v) (hc : (convert 28 28 v).run Try.prog w = .ok u w') : (execOp a.eval op).run Try.prog w = .ok (.value u) w' := by
  unfold execOp
  simp only [ho, hx]
  simp only [hc, Sem.run_bind, Result.andThen_ok]
  rfl
def magic : List Nat := [79, 84, 65, 80]
set_option maxRecDepth 100000 in
theorem New_any (w : World) : Calls Try.prog 11 #[] w fun e w' => ∃ t : Tp, e = .returned (.pointer (some ⟨t.g, 0, none⟩)) ∧ Hid (TpAt w' t ∧ t.l = magic ∧ t.es = [] ∧ Below w.heap.size w w' ∧ ∀ b, t.own b → w.heap.size ≤ b) := by
  have hcv := Lib.run_convert_bytes_const (P := Try.prog) w 28 5 #[.int .u8 79, .int .u8 84, .int .u8 65, .int .u8 80] 4 4 Try.underlying28 Try.underlying5
  obtain ⟨W1, hW1⟩ : ∃ W1, W1 = w.alloc (.cells #[.int .u8 79, .int .u8 84, .int .u8 65, .int .u8 80] 5 (4, 5)) := ⟨_, rfl⟩
  have hcv' : (convert 28 28 (.slice (some ⟨w.heap.size, 0, none⟩) 4 4)).run Try.prog (w.alloc (.cells #[.int .u8 79, .int .u8 84, .int .u8 65, .int .u8 80] 5)) = .ok (.slice (some ⟨w.heap.size, 0, none⟩) 4 4) W1 := by rw [hW1]; exact hcv
  have hg : W1.heap[w.heap.size]? = some (.cells #[.int .u8 79, .int .u8 84, .int .u8 65, .int .u8 80] 5 (4, 5)) := by rw [hW1]; exact heap_alloc_new w _
  have hs1 : W1.heap.size = w.heap.size + 1 := by rw [hW1]; simp
  have hb1 : Below w.heap.size w W1 := by rw [hW1]; exact (Below.refl _ w).alloc (Nat.le_refl _) _
  have HF : Hid (∃ t : Tp, t.g = W1.heap.size ∧ TpAt (W1.alloc (.cells #[.slice (some ⟨w.heap.size, 0, none⟩) 4 4, .slice none 0 0] 79)) t ∧ t.l = magic ∧ t.es = [] ∧ Below w.heap.size w (W1.alloc (.cells #[.slice (some ⟨w.heap.size, 0, none⟩) 4 4, .slice none 0 0] 79)) ∧ ∀ b, t.own b → w.heap.size ≤ b) := by
    have hb2 : Below W1.heap.size W1 (W1.alloc (.cells #[.slice (some ⟨w.heap.size, 0, none⟩) 4 4, .slice none 0 0] 79)) := (Below.refl _ W1).alloc (Nat.le_refl _) _
    have hg2 : (W1.alloc (.cells #[.slice (some ⟨w.heap.size, 0, none⟩) 4 4, .slice none 0 0] 79)).heap[w.heap.size]? = some (.cells #[.int .u8 79, .int .u8 84, .int .u8 65, .int .u8 80] 5 (4, 5)) := (hb2.block _ (by omega)).trans hg
    refine ⟨⟨W1.heap.size, .slice (some ⟨w.heap.size, 0, none⟩) 4 4, magic, .slice none 0 0, []⟩, rfl, ⟨Blk.new _ _ _, ⟨⟨some ⟨w.heap.size, 0, none⟩, 4, rfl, Nat.le_refl _, fun e => (by cases e), .inr ⟨w.heap.size, 0, rfl, fun j x hj => ?_⟩⟩, ?_⟩, .inr ⟨w.heap.size, rfl, (show 0 < magic.length from by decide)⟩, RowAt.none0 _ _ _, fun q hq => ?_, fun e => ?_, fun q hq e => (by cases e)⟩, rfl, rfl, below_step hb1 hb2, fun b hb => ?_⟩
    · have hjl : j < 4 := (List.getElem?_eq_some_iff.1 hj).1
      have hc := cell_of_row _ w.heap.size j _ _ _ hg2
      rw [Nat.zero_add, hc]
      have : j = 0 ∨ j = 1 ∨ j = 2 ∨ j = 3 := by omega
      rcases this with rfl | rfl | rfl | rfl <;> (injection hj with hj; subst hj; rfl)
    · intro x hx
      have : x ∈ [79, 84, 65, 80] := hx
      simp at this
      omega
    · have e : w.heap.size = q := by injection hq
      have := hb2.size
      omega
    · have e : w.heap.size = W1.heap.size := by injection e
      omega
    · rcases hb with e | e | e
      · rw [e]; exact hb1.size
      · have e : w.heap.size = b := by injection e
        omega
      · cases e
  clear hcv hg hb1
  go_enter Try.func11, Try.ntmps11
  go_upto_region 1 with fail
  rename_i K hK
  refine wp_region_lit ?_
  refine wpList_runTo rfl (some 1) rfl (.slice (some ⟨w.heap.size, 0, none⟩) 4 4) (w.alloc (.cells #[.int .u8 79, .int .u8 84, .int .u8 65, .int .u8 80] 5)) (by kernel_rfl) ?_
  simp only [Act.put, List.setIfInBounds_toArray, List.set_cons_zero, List.set_cons_succ]
  refine wpList_plain rfl fun K1 hK1 => ?_
  refine valR (d := some 2) rfl (w' := W1) (.slice (some ⟨w.heap.size, 0, none⟩) 4 4) (conv2_run (.tmp 1) rfl (by kernel_rfl) hcv') ?_
  refine hK1 _ _ ?_
  clear hK1 hcv'
  simp only [Act.put, List.setIfInBounds_toArray, List.set_cons_zero, List.set_cons_succ]
  refine wpList_runTo rfl (some 3) rfl (.agg #[.slice (some ⟨w.heap.size, 0, none⟩) 4 4, .slice none 0 0]) W1 (by kernel_rfl) ?_
  simp only [Act.put, List.setIfInBounds_toArray, List.set_cons_zero, List.set_cons_succ]
  refine wpList_runTo rfl (some 4) rfl (.pointer (some ⟨W1.heap.size, 0, none⟩)) (W1.alloc (.cells #[.slice (some ⟨w.heap.size, 0, none⟩) 4 4, .slice none 0 0] 79)) (by kernel_rfl) ?_
  simp only [Act.put, List.setIfInBounds_toArray, List.set_cons_zero, List.set_cons_succ]
  generalize W1.alloc (.cells #[.slice (some ⟨w.heap.size, 0, none⟩) 4 4, .slice none 0 0] 79) = W2 at *
  generalize W1.heap.size = tg at *
  refine wpList_runTo rfl (some 0) rfl (.pointer (some ⟨tg, 0, none⟩)) W2 (by kernel_rfl) ?_
  simp only [Act.put, List.setIfInBounds_toArray, List.set_cons_zero, List.set_cons_succ]
  refine wpList_nil ?_
  refine hK _ _ ?_
  clear hK
  obtain ⟨t, ht, hx⟩ := HF.out
  have HX : Hid _ := hx
  clear hx HF
  subst ht
  go_wp2
  go_ret
  exact ⟨t, rfl, HX⟩
theorem Len_any {w : World} {t : Tp} (h : TpAt w t) (hl : t.es.length ≤ 9223372036854775807) : Calls Try.prog 15 #[.pointer (some ⟨t.g, 0, none⟩)] w fun e w' => e = .returned (.int .i64 (t.es.length : Int)) ∧ w' = w := by
  obtain ⟨ea, ec, he, _⟩ := h.row.form
  have c1 : w.cell? ⟨t.g, 1, none⟩ = some t.ev := h.blk.cell 1
  rw [he] at c1
  clear h he
  generalize t.es.length = n at *
  go_enter Try.func15, Try.ntmps15
  go_wp2
  go_ret
  exact ⟨rfl, rfl⟩
set_option maxRecDepth 100000 in
theorem Clone_any {w : World} {v : Value} {l : List Nat} (h : By w v l) (h0 : l ≠ []) (hl : l.length ≤ 100000000000) : Calls Try.prog 33 #[v] w fun e w' => ∃ v', e = .returned v' ∧ Hid (RowB w w' v' l) := by
  have hb : Below w.heap.size w (w.alloc (.cells #[] 5)) := (Below.refl _ w).alloc (Nat.le_refl _) _
  have hr0 : RowB w (w.alloc (.cells #[] 5)) (.slice (some ⟨w.heap.size, 0, none⟩) 0 0) [] := ⟨⟨rfl, .inr ⟨w.heap.size, 0, 0, #[], rfl, heap_alloc_new w _, Nat.le_refl _, by decide, by simp, rfl⟩⟩, fun x hx => (by cases hx), hb, fun g hg => by
    have e : w.heap.size = g := by injection hg
    omega⟩
  obtain ⟨v', w', hr, hrow⟩ := hr0.app (h.below hb) (by simpa using hl) 28
  rw [List.nil_append] at hrow
  have HF : Hid (RowB w w' v' l) := hrow
  obtain ⟨a, cap, rfl, h1, h2, h3⟩ := h.ex
  rcases h3 with h3 | ⟨b, off, rfl, _⟩
  · exact absurd h3 h0
  have hen := Lib.run_eql_slice_nil (P := Try.prog) w 28 5 (some ⟨b, off, none⟩) l.length cap 0 0 Try.underlying28
  simp only [Option.isNone_some] at hen
  clear hrow hr0 hb h h2
  go_enter Try.func33, Try.ntmps33
  go_upto_region 3 with fail
  rename_i K hK
  refine wp_region_lit ?_
  refine wpList_runTo rfl (some 5) rfl (.slice (some ⟨w.heap.size, 0, none⟩) 0 0) (w.alloc (.cells #[] 5)) (by kernel_rfl) ?_
  simp only [Act.put, List.setIfInBounds_toArray, List.set_cons_zero, List.set_cons_succ]
  refine wpList_runTo rfl (some 6) rfl (.slice (some ⟨b, off, none⟩) l.length cap) (w.alloc (.cells #[] 5)) (by kernel_rfl) ?_
  simp only [Act.put, List.setIfInBounds_toArray, List.set_cons_zero, List.set_cons_succ]
  refine wpList_plain rfl fun K1 hK1 => ?_
  refine valR (d := some 7) rfl (w' := w') v' (exec_append (v1 := .slice (some ⟨w.heap.size, 0, none⟩) 0 0) (v2 := .slice (some ⟨b, off, none⟩) l.length cap) (.tmp 5) (.tmp 6) rfl (by kernel_rfl) (by kernel_rfl) hr) ?_
  refine hK1 _ _ ?_
  clear hK1 hr
  simp only [Act.put, List.setIfInBounds_toArray, List.set_cons_zero, List.set_cons_succ]
  refine wpList_runTo rfl (some 2) rfl (v') w' (by kernel_rfl) ?_
  simp only [Act.put, List.setIfInBounds_toArray, List.set_cons_zero, List.set_cons_succ]
  refine wpList_nil ?_
  refine hK _ _ ?_
  clear hK
  go_wp2
  go_ret
  exact ⟨v', rfl, HF⟩
theorem Bytes_any {w : World} {t : Tp} (h : TpAt w t) (h0 : t.l ≠ []) (hl : t.l.length ≤ 100000000000) : Calls Try.prog 13 #[.pointer (some ⟨t.g, 0, none⟩)] w fun e w' => ∃ v', e = .returned v' ∧ Hid (RowB w w' v' t.l) := by
  have hc := Clone_any h.by' h0 hl
  obtain ⟨wa, wc, he, _⟩ := h.by'.form
  have c0 : w.cell? ⟨t.g, 0, none⟩ = some t.wv := h.blk.cell 0
  rw [he] at c0 hc
  clear h he
  generalize t.l.length = n at *
  go_enter Try.func13, Try.ntmps13
  go_wp2_with (go_at_call 33; fail)
  refine hc.mono ?_
  rintro e w1 ⟨v', rfl, hx⟩
  have HF : Hid (RowB w w1 v' t.l) := hx.out
  clear hx hc
  go_wp2
  go_ret
  exact ⟨v', rfl, HF⟩
end Go.Proofs.Ytjnnecoikcmaeaa
