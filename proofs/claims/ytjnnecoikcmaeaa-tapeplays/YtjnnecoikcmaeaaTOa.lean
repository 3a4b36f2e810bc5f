import Derived.Test.YtjnnecoikcmaeaaTE8
import Derived.Test.YtjnnecoikcmaeaaTD3
import Derived.Lib.BufferWrite

namespace Go.Proofs.Ytjnnecoikcmaeaa
set_option linter.unusedVariables false
set_option linter.unusedSimpArgs false
open Go.RowKit Go.Great

theorem copy_str {w : World} {g n cap : Nat} {f : Nat → Nat} (ho : OwnA w g (n + 8) f) (s : ByteArray) : ∃ W2 f' k, (Builtin.copy_ #[28, 9] 3 #[.slice (some ⟨g, 0, none⟩) n cap, .string s]).run Try.prog w = .ok (.int .i64 k) W2 ∧ OwnA W2 g (n + 8) f' ∧ Fr w W2 (fun b => b = g) ∧ (s = ⟨#[79, 84, 65, 80]⟩ → 4 ≤ n → ∀ j, j < 4 → f' j = dN magic j) := by
  obtain ⟨arr, h1, h2, h3⟩ := ho
  obtain ⟨xs, hxs⟩ : ∃ xs, xs = List.take (Nat.min s.size n) (List.map (fun b : UInt8 => Value.int IntKind.u8 (b.toNat : Int)) s.data.toList) := ⟨_, rfl⟩
  have hlen : xs.length ≤ n := by
    rw [hxs, List.length_take]
    exact Nat.le_trans (Nat.min_le_left _ _) (Nat.min_le_right _ _)
  have hmem : ∀ j v, xs[j]? = some v → ∃ b : UInt8, v = Value.int IntKind.u8 (b.toNat : Int) := fun j v hv => by
    have hm := List.mem_of_getElem? hv
    rw [hxs] at hm
    have := List.mem_of_mem_take hm
    rw [List.mem_map] at this
    obtain ⟨b, _, e⟩ := this
    exact ⟨b, e.symm⟩
  have hone : ∀ v ∈ xs, v.oneCell' = true := fun v hv => by
    obtain ⟨j, hj⟩ := List.getElem?_of_mem hv
    obtain ⟨b, rfl⟩ := hmem j v hj
    rfl
  have hst := run_storeCells_at Try.prog g 0 5 xs 0 arr w h1 (by omega) hone
  simp only [Nat.add_zero, Nat.zero_add] at hst
  refine ⟨w.setRow g (arr.toList.take 0 ++ xs ++ arr.toList.drop xs.length).toArray, fun j => if j < xs.length then (match xs[j]? with | some (.int _ z) => z.toNat | _ => 0) else f j, ((Nat.min s.size n : Nat) : Int), ?_, ⟨_, setRow_heap w g arr _ 5 (0, 0) h1, by simp; omega, fun j hj => ?_⟩, ?_, ?_⟩
  · cases hq : Try.prog.info? 5 with
    | none => have := info5; rw [hq] at this; cases this
    | some i =>
      simp [Builtin.copy_, run_underlying Try.underlying28, Builtin.lenOf, Builtin.firstCells, sizeOf, typeInfo, hq]
      rw [← hxs, hst]
      simp [Result.andThen, goInt]
  · dsimp only
    by_cases e : j < xs.length
    · rw [if_pos e]
      obtain ⟨b, hb⟩ := hmem j _ (List.getElem?_eq_getElem e)
      have hx : xs[j]? = some (Value.int IntKind.u8 (b.toNat : Int)) := by rw [List.getElem?_eq_getElem e, hb]
      rw [hx]
      refine ⟨?_, ?_⟩
      · simp [List.getElem?_append, e]
        have := hb
        simp [this]
      · show ((b.toNat : Int)).toNat < 256
        have := b.toNat_lt
        omega
    · rw [if_neg e]
      refine ⟨?_, (h3 j hj).2⟩
      have := (h3 j hj).1
      simp [List.getElem?_append, e]
      rw [show xs.length + (j - xs.length) = j by omega]
      simpa using this
  · exact ⟨rfl, rfl, rfl, by simp, fun q hq hne => setRow_other w g q _ hne⟩
  · intro hs hn j hj
    subst hs
    have e : Nat.min (ByteArray.size ⟨#[79, 84, 65, 80]⟩) n = 4 := Nat.min_eq_left hn
    rw [e] at hxs
    subst hxs
    have : j = 0 ∨ j = 1 ∨ j = 2 ∨ j = 3 := by omega
    rcases this with rfl | rfl | rfl | rfl <;> rfl
/-- What an Append answers, and what is there then. -/
def apE (c : Cm) (n : Nat) : Int := if encE c = 0 then (if n < 1000000 then 0 else 122) else encE c
def apL (L : List Cm) (c : Cm) : List Cm := if encE c = 0 ∧ L.length < 1000000 then L ++ [c] else L
theorem geqT_run {op : Oper} {a : Act} {n : Nat} (x y : Operand) (ho : op.op = .binOp .geq 3 x y 3) (hx : a.eval x = .int .i64 (n : Int)) (hy : a.eval y = .int .i64 1000000) (hn : 1000000 ≤ n) (w : World) : (execOp a.eval op).run Try.prog w = .ok (.value (.bool true)) w := by
  obtain ⟨M, hM⟩ : ∃ M : Int, M = 1000000 := ⟨_, rfl⟩
  rw [← hM] at hy
  have h1 : M ≤ (n : Int) := by omega
  clear hM
  unfold execOp
  simp only [ho, hx, hy]
  go_simp
set_option maxRecDepth 100000 in
set_option maxHeartbeats 2000000 in
theorem Append_full {w : World} {t : Tp} (h : TpAt w t) (c : Cm) (hc : c.ok) (hes : t.es.length = 1000000) : Calls Try.prog 12 #[.pointer (some ⟨t.g, 0, none⟩), .agg c.cs] w fun e w' => e = .returned (.int .i64 (if encE c = 0 then 122 else encE c)) ∧ Hid (Below w.heap.size w w') := by
  obtain ⟨X, hX⟩ : ∃ X, X = c.cs := ⟨_, rfl⟩
  have HX : Hid (X = c.cs) := hX
  have hen := fun W => Encode_any c hc W
  rw [← hX] at hen ⊢
  clear hX
  have hb0 : Below w.heap.size w (w.alloc (.cells X 27)) := (Below.refl _ w).alloc (Nat.le_refl _) _
  have HB0 : Hid (Below w.heap.size w (w.alloc (.cells X 27)) ∧ Blk (w.alloc (.cells X 27)) w.heap.size 27 X ∧ TpAt (w.alloc (.cells X 27)) t) := ⟨hb0, Blk.new _ _ _, h.below hb0⟩
  clear hb0 h
  obtain ⟨R, hR⟩ : ∃ R, R = (if encE c = 0 then 122 else encE c) := ⟨_, rfl⟩
  have HRR : Hid (R = (if encE c = 0 then 122 else encE c)) := hR
  rw [← hR]
  clear hR
  go_enter Try.func12, Try.ntmps12
  go_upto_region 1 with fail
  rename_i K1 hK1
  generalize w.alloc (.cells X 27) = W0 at *
  refine wp_region_lit ?_
  refine wpList_load_row rfl 27 (.tmp 3) rfl w.heap.size (by kernel_rfl) 27 X (0, 0) _ HB0.out.2.1 Try.underlying27 rfl (by rw [HX.out, Cm.cs_size]; exact info27) ?_
  simp only [Act.put, List.setIfInBounds_toArray, List.set_cons_zero, List.set_cons_succ]
  refine wpList_callW rfl (some 9) rfl 9 #[.agg X] (by kernel_rfl) (hen W0) ?_
  clear hen
  rintro e W1 ⟨cv, rfl, hx⟩
  refine ⟨_, rfl, ?_⟩
  simp only [Act.put, List.setIfInBounds_toArray, List.set_cons_zero, List.set_cons_succ]
  obtain ⟨ee, hee⟩ : ∃ ee, ee = encE c := ⟨_, rfl⟩
  rw [← hee] at hx ⊢
  have HEE : Hid (ee = encE c) := hee
  clear hee
  refine wpList_runTo rfl (some 7) rfl (.tuple #[cv, .int .i64 ee]) W1 (by kernel_rfl) ?_
  simp only [Act.put, List.setIfInBounds_toArray, List.set_cons_zero, List.set_cons_succ]
  refine wpList_runTo rfl (some 10) rfl (cv) W1 (by kernel_rfl) ?_
  simp only [Act.put, List.setIfInBounds_toArray, List.set_cons_zero, List.set_cons_succ]
  refine wpList_runTo rfl (some 11) rfl (.int .i64 ee) W1 (by kernel_rfl) ?_
  simp only [Act.put, List.setIfInBounds_toArray, List.set_cons_zero, List.set_cons_succ]
  refine wpList_runTo rfl (some 5) rfl (cv) W1 (by kernel_rfl) ?_
  simp only [Act.put, List.setIfInBounds_toArray, List.set_cons_zero, List.set_cons_succ]
  refine wpList_runTo rfl (some 6) rfl (.int .i64 ee) W1 (by kernel_rfl) ?_
  simp only [Act.put, List.setIfInBounds_toArray, List.set_cons_zero, List.set_cons_succ]
  refine wpList_nil ?_
  refine hK1 _ _ ?_
  clear hK1
  have HB1 : Hid (Below w.heap.size w W1 ∧ TpAt W1 t) := ⟨below_step HB0.out.1 hx.out.1, HB0.out.2.2.below hx.out.1⟩
  clear hx HB0
  by_cases he0 : ee = 0
  · have HF : Hid (R = 122 ∧ Below w.heap.size w W1) := ⟨by rw [HRR.out, if_pos (by rw [← HEE.out]; exact he0)], HB1.out.1⟩
    have hln := Len_any HB1.out.2 (by omega)
    rw [hes] at hln
    subst he0
    go_upto_region 4 with fail
    rename_i K4 hK4
    refine wp_region_lit ?_
    refine wpList_runTo rfl (some 15) rfl (.pointer (some ⟨t.g, 0, none⟩)) W1 (by kernel_rfl) ?_
    simp only [Act.put, List.setIfInBounds_toArray, List.set_cons_zero, List.set_cons_succ]
    refine wpList_callW rfl (some 16) rfl 15 #[.pointer (some ⟨t.g, 0, none⟩)] (by kernel_rfl) hln ?_
    rintro e w2 ⟨rfl, ew⟩
    replace ew := ew.symm
    subst ew
    refine ⟨_, rfl, ?_⟩
    simp only [Act.put, List.setIfInBounds_toArray, List.set_cons_zero, List.set_cons_succ]
    refine wpList_runTo rfl (some 17) rfl (.bool true) W1 (by exact geqT_run (n := 1000000) (.tmp 16) (.const (.int .i64 1000000)) rfl (by kernel_rfl) rfl (Nat.le_refl _) _) ?_
    simp only [Act.put, List.setIfInBounds_toArray, List.set_cons_zero, List.set_cons_succ]
    refine wpList_nil ?_
    refine hK4 _ _ ?_
    clear hK4 hln hes HB1
    generalize ((1000000 : Nat) : Int) = mm
    go_wp2
    go_ret
    exact ⟨by rw [HF.out.1]; rfl, HF.out.2⟩
  · have HF : Hid (R = ee ∧ Below w.heap.size w W1) := ⟨by rw [HRR.out, if_neg (by rw [← HEE.out]; exact he0), HEE.out], HB1.out.1⟩
    have he1 : (ee == 0) = false := by simp [he0]
    have he2 : (ee != 0) = true := by simp [he0]
    clear HB1 hes he0
    go_wp2
    go_ret
    exact ⟨by rw [HF.out.1]; rfl, HF.out.2⟩
set_option maxRecDepth 100000 in
set_option maxHeartbeats 2000000 in
theorem refAppend_full {w : World} {g : Nat} {lv : Value} {L : List Cm} (h : RtAt w g lv L) (c : Cm) (hc : c.ok) (hl : L.length = 1000000) : Calls Try.prog 21 #[.pointer (some ⟨g, 0, none⟩), .agg c.cs] w fun e w' => e = .returned (.int .i64 (if encE c = 0 then 122 else encE c)) ∧ Hid (Below w.heap.size w w') := by
  obtain ⟨X, hX⟩ : ∃ X, X = c.cs := ⟨_, rfl⟩
  have HX : Hid (X = c.cs) := hX
  have hb0 : Below w.heap.size w (w.alloc (.cells X 27)) := (Below.refl _ w).alloc (Nat.le_refl _) _
  have HB0 : Hid (Below w.heap.size w (w.alloc (.cells X 27)) ∧ Blk (w.alloc (.cells X 27)) w.heap.size 27 X ∧ RtAt (w.alloc (.cells X 27)) g lv L) := ⟨hb0, Blk.new _ _ _, h.below hb0⟩
  have HM : Hid (∀ W, Calls Try.prog 40 #[.agg X] W fun e w' => e = .returned (.int .i64 (encE c)) ∧ Hid (Below W.heap.size W w')) := fun W => by rw [hX]; exact May_any c hc W
  rw [← hX]
  clear hX hc hb0
  obtain ⟨lva, lvc, hlf, _⟩ := h.row.form
  clear h
  obtain ⟨R, hR⟩ : ∃ R, R = (if encE c = 0 then 122 else encE c) := ⟨_, rfl⟩
  have HRR : Hid (R = (if encE c = 0 then 122 else encE c)) := hR
  rw [← hR]
  clear hR
  obtain ⟨n0, hn0⟩ : ∃ n0, n0 = L.length := ⟨_, rfl⟩
  rw [← hn0] at hlf
  have hn1 : 1000000 ≤ n0 := by omega
  have hn2 : n0 ≤ 1000000 := by omega
  clear hl hn0
  go_enter Try.func21, Try.ntmps21
  go_upto_region 1 with fail
  rename_i K hK
  generalize w.alloc (.cells X 27) = W0 at *
  have hm := HM.out W0
  refine wp_region_lit ?_
  refine wpList_load_row rfl 27 (.tmp 3) rfl w.heap.size (by kernel_rfl) 27 X (0, 0) _ HB0.out.2.1 Try.underlying27 rfl (by rw [HX.out, Cm.cs_size]; exact info27) ?_
  simp only [Act.put, List.setIfInBounds_toArray, List.set_cons_zero, List.set_cons_succ]
  refine wpList_callW rfl (some 7) rfl 40 #[.agg X] (by kernel_rfl) hm ?_
  clear hm
  rintro e W1 ⟨rfl, hx⟩
  refine ⟨_, rfl, ?_⟩
  simp only [Act.put, List.setIfInBounds_toArray, List.set_cons_zero, List.set_cons_succ]
  have HB1 : Hid (Below w.heap.size w W1 ∧ RtAt W1 g lv L) := ⟨below_step HB0.out.1 hx.out, HB0.out.2.2.below hx.out⟩
  clear hx HB0
  obtain ⟨E, hE⟩ : ∃ E, E = encE c := ⟨_, rfl⟩
  have HE : Hid (E = encE c) := hE
  rw [← hE]
  clear hE
  refine wpList_runTo rfl (some 5) rfl (.int .i64 E) W1 (by kernel_rfl) ?_
  simp only [Act.put, List.setIfInBounds_toArray, List.set_cons_zero, List.set_cons_succ]
  refine wpList_nil ?_
  refine hK _ _ ?_
  clear hK
  by_cases h0 : E = 0
  · have HF : Hid (R = 122 ∧ Below w.heap.size w W1) := ⟨by rw [HRR.out, if_pos (by rw [← HE.out]; exact h0)], HB1.out.1⟩
    subst h0
    go_upto_region 4 with fail
    rename_i K hK
    have c1 : W1.cell? ⟨g, 0, none⟩ = some (.slice lva n0 lvc) := by rw [← hlf]; exact HB1.out.2.blk.cell 0
    refine wp_region_lit ?_
    refine wpList_runTo rfl (some 13) rfl (.pointer (some ⟨g, 0, none⟩)) W1 (by kernel_rfl) ?_
    simp only [Act.put, List.setIfInBounds_toArray, List.set_cons_zero, List.set_cons_succ]
    refine wpList_runTo rfl (some 14) rfl (.pointer (some ⟨g, 0, none⟩)) W1 (by kernel_rfl) ?_
    simp only [Act.put, List.setIfInBounds_toArray, List.set_cons_zero, List.set_cons_succ]
    refine wpList_runTo rfl (some 15) rfl (.pointer (some ⟨g, 0, none⟩)) W1 (by kernel_rfl) ?_
    simp only [Act.put, List.setIfInBounds_toArray, List.set_cons_zero, List.set_cons_succ]
    refine wpList_runTo rfl (some 16) rfl (.slice lva n0 lvc) W1 (by go_simp) ?_
    simp only [Act.put, List.setIfInBounds_toArray, List.set_cons_zero, List.set_cons_succ]
    refine wpList_runTo rfl (some 17) rfl (.int .i64 (n0 : Int)) W1 (by kernel_rfl) ?_
    simp only [Act.put, List.setIfInBounds_toArray, List.set_cons_zero, List.set_cons_succ]
    refine wpList_runTo rfl (some 18) rfl (.bool true) W1 (by exact geqT_run (.tmp 17) (.const (.int .i64 1000000)) rfl (by kernel_rfl) rfl hn1 _) ?_
    simp only [Act.put, List.setIfInBounds_toArray, List.set_cons_zero, List.set_cons_succ]
    refine wpList_runTo rfl (some 12) rfl (.bool true) W1 (by kernel_rfl) ?_
    simp only [Act.put, List.setIfInBounds_toArray, List.set_cons_zero, List.set_cons_succ]
    refine wpList_nil ?_
    refine hK _ _ ?_
    clear hK c1 hn1 hn2
    go_wp2
    go_ret
    exact ⟨by rw [HF.out.1]; rfl, HF.out.2⟩
  · have HF : Hid (R = E ∧ Below w.heap.size w W1) := ⟨by rw [HRR.out, if_neg (by rw [← HE.out]; exact h0), HE.out], HB1.out.1⟩
    have hb1 : (E == 0) = false := by simpa using h0
    have hb2 : (E != 0) = true := by simpa using h0
    clear HB1 h0 hn1 hn2
    go_wp2
    go_ret
    exact ⟨by rw [HF.out.1]; rfl, HF.out.2⟩
/-- Append, of whatever tape. -/
theorem Append_L {w : World} {t : Tp} {L : List Cm} (h : TpAt w t) (hl : t.l = tpL (csL L) L.length) (he : t.es.length = L.length) (hok : ∀ c ∈ L, encE c = 0 ∧ c.ok) (hn : L.length ≤ 1000000) (c : Cm) (hc : c.ok) : Calls Try.prog 12 #[.pointer (some ⟨t.g, 0, none⟩), .agg c.cs] w fun e w' => e = .returned (.int .i64 (apE c L.length)) ∧ Hid (∃ t', TpAt w' t' ∧ t'.g = t.g ∧ t'.l = tpL (csL (apL L c)) (apL L c).length ∧ Fr w w' t.own ∧ ∀ b, t'.own b → t.own b ∨ w.heap.size ≤ b) := by
  by_cases hm : L.length < 1000000
  · have hbd := csL_len hok hn (Nat.le_refl _)
    refine (Append_any h c hc (by omega) (by rw [hl]; unfold enN at hbd; omega)).mono fun e w' hr => ?_
    rcases hr with ⟨h1, h2, h3⟩ | ⟨h1, h2, h3⟩
    · refine ⟨by rw [h2]; unfold apE; rw [if_neg h1], t, h.below h3.out, rfl, ?_, Fr.of_below h3.out _, fun b hb => .inl hb⟩
      rw [show apL L c = L from if_neg fun k => h1 k.1]
      exact hl
    · obtain ⟨wv, ev, k1, k2, k3⟩ := h3.out
      refine ⟨by rw [h2]; unfold apE; rw [if_pos h1, if_pos hm], _, k1, rfl, ?_, k2, k3⟩
      rw [show apL L c = L ++ [c] from if_pos ⟨h1, hm⟩, csL_app]
      show t.l ++ recL t.es.length (encL c) = _
      rw [hl, he]
  · refine (Append_full h c hc (by omega)).mono fun e w' ⟨h1, h2⟩ => ⟨?_, t, h.below h2.out, rfl, ?_, Fr.of_below h2.out _, fun b hb => .inl hb⟩
    · rw [h1]; unfold apE; rw [if_neg hm]
    · rw [show apL L c = L from if_neg fun k => hm k.2]
      exact hl
theorem refAppend_L {w : World} {g : Nat} {lv : Value} {L : List Cm} (h : RtAt w g lv L) (hn : L.length ≤ 1000000) (c : Cm) (hc : c.ok) : Calls Try.prog 21 #[.pointer (some ⟨g, 0, none⟩), .agg c.cs] w fun e w' => e = .returned (.int .i64 (apE c L.length)) ∧ Hid (∃ lv', RtAt w' g lv' (apL L c) ∧ Fr w w' (rtOwn g lv)) := by
  by_cases hm : L.length < 1000000
  · refine (refAppend_any h c hc hm).mono fun e w' hr => ?_
    rcases hr with ⟨h1, h2, h3⟩ | ⟨h1, h2, h3⟩
    · refine ⟨by rw [h2]; unfold apE; rw [if_neg h1], lv, ?_, Fr.of_below h3.out _⟩
      rw [show apL L c = L from if_neg fun k => h1 k.1]
      exact h.below h3.out
    · obtain ⟨lv', k1, k2, k3⟩ := h3.out
      refine ⟨by rw [h2]; unfold apE; rw [if_pos h1, if_pos hm], lv', ?_, k2⟩
      rw [show apL L c = L ++ [c] from if_pos ⟨h1, hm⟩]
      exact k1
  · refine (refAppend_full h c hc (by omega)).mono fun e w' ⟨h1, h2⟩ => ⟨?_, lv, ?_, Fr.of_below h2.out _⟩
    · rw [h1]; unfold apE; rw [if_neg hm]
    · rw [show apL L c = L from if_neg fun k => hm k.2]
      exact h.below h2.out
theorem apL_len (L : List Cm) (c : Cm) (h : L.length ≤ 1000000) : (apL L c).length ≤ 1000000 := by
  unfold apL
  split
  · rename_i k
    rw [List.length_append]
    show L.length + 1 ≤ _
    omega
  · exact h
end Go.Proofs.Ytjnnecoikcmaeaa

namespace Go.Proofs.Ytjnnecoikcmaeaa
set_option linter.unusedVariables false
set_option linter.unusedSimpArgs false
open Go.RowKit Go.Great

theorem ch_gen2 {cs : Nat → Cm} {L t : List Nat} {q : Nat} (hL : L = tpL cs q ++ t) (hE : ∀ j, j < q → encE (cs j) = 0) : ∀ {r : List Nat} {p : Nat}, ChR L r p → r.length ≤ q → p = enN cs r.length ∧ r = (ensL cs r.length).reverse
  | [], p, h, _ => ⟨h, rfl⟩
  | e :: r, p, h, hq => by
    obtain ⟨h1, b, n, h2, h3, h4⟩ := h
    rw [List.length_cons] at hq
    obtain ⟨i2, i3⟩ := ch_gen2 hL hE h2 (by omega)
    obtain ⟨t', hd⟩ := drop_at hL (show r.length < q by omega)
    have hf := frOk_of (hE r.length (by omega)) r.length t'
    rw [i2, hd] at h3
    have en : n = (encL (cs r.length)).length := h3.len.symm.trans hf.len
    have ee : e = enN cs (r.length + 1) := by rw [h4, i2, en, enN_succ]
    refine ⟨by rw [h1, ee]; rfl, ?_⟩
    show e :: r = (ensL cs (r.length + 1)).reverse
    rw [ensL_succ, List.reverse_append, ← i3, ee]
    rfl
/-- Both find the same. -/
theorem open_same {l es : List Nat} {a a' : Nat} {L : List Cm} (h : Chain l es a) (hm : es.length = 1000000 ∨ ∀ n, ¬ FrOk es.length (l.drop a) n) (hn : es.length ≤ 1000000) (hE : ∀ c ∈ L, encE c = 0 ∧ c.ok) (hl : tpL (csL L) L.length = l.take a') (ha : a' ≤ l.length) (hL : L.length ≤ 1000000) (hm' : L.length = 1000000 ∨ ∀ n, ¬ FrOk L.length (l.drop a') n) : es = ensL (csL L) L.length ∧ a = a' := by
  have hE' : ∀ j, j < L.length → encE (csL L j) = 0 := fun j hj => by
    rw [csL_get (List.getElem?_eq_getElem hj)]
    exact (hE _ (List.getElem_mem hj)).1
  have ea : a' = enN (csL L) L.length := by
    unfold enN
    rw [hl, List.length_take]; omega
  have el : l = tpL (csL L) L.length ++ l.drop a' := by rw [hl, List.take_append_drop]
  by_cases hlt : L.length < 1000000
  · have hno : ∀ n, ¬ FrOk L.length (l.drop (enN (csL L) L.length)) n := by
      rw [← ea]
      rcases hm' with k | k
      · omega
      · exact k
    obtain ⟨k1, k2⟩ := open_gen el hE' hno hlt h hm
    exact ⟨k1, by rw [k2, ea]⟩
  · have hr : es.reverse.length ≤ L.length := by rw [List.length_reverse]; omega
    obtain ⟨i2, i3⟩ := ch_gen2 el hE' h hr
    rw [List.length_reverse] at i2 i3 hr
    have e : es.length = L.length := by
      by_cases e : es.length = L.length
      · exact e
      · exfalso
        have hlt2 : es.length < L.length := by omega
        obtain ⟨t', hd⟩ := drop_at el hlt2
        rcases hm with k | k
        · omega
        · exact k _ (by rw [i2, hd]; exact frOk_of (hE' _ hlt2) _ _)
    have i4 := congrArg List.reverse i3
    rw [List.reverse_reverse, List.reverse_reverse] at i4
    exact ⟨by rw [i4, e], by rw [i2, e, ea]⟩
/-- The bytes, the list lent, the command. -/
structure OS (w W : World) (v : Value) (l : List Nat) (c : Cm) (pm g : Nat) (f : Nat → Nat) : Prop where
  bel : Below w.heap.size w W
  by' : By W v l
  hv : l = [] ∨ ∀ q, v.ownBlock = some q → q < w.heap.size
  own : OwnA W g (l.length + 8) f
  gg : w.heap.size ≤ g
  pm_ : Blk W pm 27 c.cs
  pw : w.heap.size ≤ pm
  pg : pm ≠ g
section
variable {w W W' : World} {v : Value} {l : List Nat} {c : Cm} {pm g : Nat} {f f' : Nat → Nat}
theorem OS.fr {ex : Nat → Prop} (h : OS w W v l c pm g f) (hf : Fr W W' ex) (hn : ∀ b, ex b → w.heap.size ≤ b ∧ b ≠ g ∧ b ≠ pm) : OS w W' v l c pm g f :=
  ⟨below_fr h.bel hf fun b e => (hn b e).1, h.by'.frE hf (by
    rcases h.hv with k | k
    · exact .inl k
    · exact .inr fun q hq e => by have := k q hq; have := (hn q e).1; omega), h.hv, h.own.keep (hf.block g h.own.lt fun e => (hn g e).2.1 rfl), h.gg, h.pm_.fr hf fun e => (hn pm e).2.2 rfl, h.pw, h.pg⟩
theorem OS.below (h : OS w W v l c pm g f) (hb : Below W.heap.size W W') : OS w W' v l c pm g f := h.fr (Fr.of_below hb (fun _ => False)) fun _ e => e.elim
theorem OS.turn (h : OS w W v l c pm g f) (hf : Fr W W' (fun b => b = g)) (ho : OwnA W' g (l.length + 8) f') : OS w W' v l c pm g f' :=
  ⟨below_fr h.bel hf fun b e => by rw [e]; exact h.gg, h.by'.frE hf (by
    rcases h.hv with k | k
    · exact .inl k
    · exact .inr fun q hq e => by have := k q hq; have := h.gg; omega), h.hv, ho, h.gg, h.pm_.fr hf h.pg, h.pw, h.pg⟩
theorem OS.lent (h : OS w W v l c pm g f) (m : List Nat) (hm : m.length = l.length) (hb : BB m) (hf : ∀ j, j < l.length → f j = dN m j) : By W (.slice (some ⟨g, 0, none⟩) l.length (l.length + 8)) m := by
  refine ⟨⟨some ⟨g, 0, none⟩, l.length + 8, by rw [hm], by omega, fun e => (by cases e), .inr ⟨g, 0, rfl, fun j x hj => ?_⟩⟩, hb⟩
  have hj' := (List.getElem?_eq_some_iff.1 hj).1
  have := h.own.cell j (by omega)
  rw [Nat.zero_add, this, hf j (by omega), dN_at hj']
  rw [List.getElem?_eq_getElem hj'] at hj
  injection hj with hj
  rw [hj]
/-- Whatever the list lent holds: it is a list of bytes. -/
theorem OS.anyB (h : OS w W v l c pm g f) : ∃ m : List Nat, m.length = l.length ∧ By W (.slice (some ⟨g, 0, none⟩) l.length (l.length + 8)) m := by
  refine ⟨(List.range l.length).map f, by simp, h.lent _ (by simp) (fun x hx => ?_) fun j hj => ?_⟩
  · rw [List.mem_map] at hx
    obtain ⟨j, hj, rfl⟩ := hx
    exact h.own.val j (by have := List.mem_range.1 hj; omega)
  · unfold dN
    rw [List.getD_eq_getElem?_getD, List.getElem?_map, List.getElem?_range hj]
    rfl
theorem OS.ltg (h : OS w W v l c pm g f) {n cp : Nat} : ∀ q, (Value.slice (some ⟨g, 0, none⟩) n cp).ownBlock = some q → q < W.heap.size := fun q hq => by
  have e : g = q := by injection hq
  rw [← e]; exact h.own.lt
end
/-- And both tapes. -/
structure OT (w W : World) (v : Value) (l : List Nat) (c : Cm) (pm g : Nat) (f : Nat → Nat) (t : Tp) (gx : Nat) (xv : Value) (L : List Cm) : Prop where
  os : OS w W v l c pm g f
  tp : TpAt W t
  rt : RtAt W gx xv L
  tlo : ∀ b, t.own b → w.heap.size ≤ b ∧ b ≠ g ∧ b ≠ pm
  xlo : ∀ b, rtOwn gx xv b → w.heap.size ≤ b ∧ b ≠ g ∧ b ≠ pm
  ap : ∀ b, t.own b → ¬ rtOwn gx xv b
  tl : t.l = tpL (csL L) L.length
  te : t.es = ensL (csL L) L.length
  ln : L.length ≤ 1000000
section
variable {w W W' : World} {v : Value} {l : List Nat} {c : Cm} {pm g : Nat} {f f' : Nat → Nat} {t : Tp} {gx : Nat} {xv : Value} {L : List Cm}
theorem OT.below (h : OT w W v l c pm g f t gx xv L) (hb : Below W.heap.size W W') : OT w W' v l c pm g f t gx xv L := ⟨h.os.below hb, h.tp.below hb, h.rt.below hb, h.tlo, h.xlo, h.ap, h.tl, h.te, h.ln⟩
theorem OT.turn (h : OT w W v l c pm g f t gx xv L) (hf : Fr W W' (fun b => b = g)) (ho : OwnA W' g (l.length + 8) f') : OT w W' v l c pm g f' t gx xv L := ⟨h.os.turn hf ho, h.tp.fr hf fun b hb e => (h.tlo b hb).2.1 e, h.rt.fr hf fun b hb e => (h.xlo b hb).2.1 e, h.tlo, h.xlo, h.ap, h.tl, h.te, h.ln⟩
theorem OT.bd (h : OT w W v l c pm g f t gx xv L) : t.l ≠ [] ∧ t.l.length ≤ 700000000 ∧ t.es.length = L.length := by
  have hb := csL_len h.rt.ok h.ln (Nat.le_refl _)
  have h0 := enN_le (csL L) (Nat.zero_le L.length)
  rw [enN_zero] at h0
  refine ⟨fun e => ?_, by rw [h.tl]; exact hb, by rw [h.te, ensL_len]⟩
  have h1 := congrArg List.length e
  rw [h.tl] at h1
  unfold enN at h0
  rw [h1] at h0
  simp at h0
theorem OT.cmd (h : OT w W v l c pm g f t gx xv L) {j : Nat} {d : Cm} (hj : L[j]? = some d) : Calls Try.prog 16 #[.pointer (some ⟨t.g, 0, none⟩), .int .i64 (j : Int)] W fun e w' => e = .returned (.tuple #[.agg d.cs, .int .i64 0]) ∧ Hid (Below W.heap.size W w') := by
  have hlt := (List.getElem?_eq_some_iff.1 hj).1
  have hE := (h.rt.get hj).1
  obtain ⟨_, hbd, hel⟩ := h.bd
  have hcs := csL_get hj
  have hlj := enN_le (csL L) (j := j + 1) (m := L.length) (by omega)
  have hs := enN_succ (csL L) j
  rw [hcs] at hs
  have hl2 := encL_len hE
  have hlen : t.l.length = enN (csL L) L.length := by rw [h.tl]; rfl
  have hln := h.ln
  obtain ⟨d', hd, hdc⟩ := dec_enc hE
  have := Command_yes h.tp j (enN (csL L) (j + 1)) (by rw [h.te]; exact ensL_get _ hlt) (by rw [h.te, begE_ens _ hlt]; omega) (by rw [hlen]; exact hlj) (by omega) (by omega) (by rw [h.te, begE_ens _ hlt]; omega) d' (by
    rw [h.te, begE_ens _ hlt, h.tl]
    obtain ⟨t', ht⟩ := drop_at (cs := csL L) (L := tpL (csL L) L.length) (t := []) (q := L.length) (by rw [List.append_nil]) hlt
    rw [ht, hcs, List.take_append_of_le_length (by rw [recL_len]; omega), List.take_of_length_le (by rw [recL_len]; omega), recL_drop]
    exact hd)
  rw [hdc] at this
  exact this
end
end Go.Proofs.Ytjnnecoikcmaeaa
