/-
  TapeOpens: the walk.
-/
import Derived.Test.YtjnnecoikcmaeaaTOa
namespace Go.Proofs.Ytjnnecoikcmaeaa
set_option linter.unusedVariables false
set_option linter.unusedSimpArgs false
open Go.RowKit Go.Great

theorem conv_back2 {w : World} {l : List Nat} (hb : BB l) : ∃ v w', (convert 9 28 (.string (ofN l))).run Try.prog w = .ok v w' ∧ By w' v l ∧ Below w.heap.size w w' := by
  refine ⟨_, _, Lib.run_convert_string_bytes w 9 28 5 (ofN l) Try.underlying9 Try.underlying28 Try.underlying5, ⟨⟨some ⟨w.heap.size, 0, none⟩, _, by rw [ofN_size], ?_, fun e => (by cases e), .inr ⟨w.heap.size, 0, rfl, fun j x hj => ?_⟩⟩, hb⟩, ?_⟩
  · rw [← ofN_size l]; exact grownCap_ge _ _ _ _
  · have hj' := (List.getElem?_eq_some_iff.1 hj).1
    have := Lib.bytesWorld_cell w 5 (ofN l) j (by rw [ofN_size]; exact hj')
    rw [Nat.zero_add, this]
    have e1 : ((ofN l).data.toList.getD j 0).toNat = x := by
      have h1 : (sB (ofN l)).getD j 0 = ((ofN l).data.toList.getD j 0).toNat := by
        unfold sB
        rw [List.getD_eq_getElem?_getD, List.getD_eq_getElem?_getD, List.getElem?_map]
        cases (ofN l).data.toList[j]? <;> rfl
      rw [← h1, sB_ofN hb, List.getD_eq_getElem?_getD, hj]
      rfl
    rw [e1]
  · exact ⟨rfl, rfl, rfl, by rw [Lib.bytesWorld_size]; omega, fun q hq => Lib.bytesWorld_at_old w 5 (ofN l) q hq⟩
theorem convS2_run {op : Oper} {a : Act} {w w' : World} {v u : Value} (x : Operand) (ho : op.op = .convert 9 28 x) (hx : a.eval x = v) (hc : (convert 9 28 v).run Try.prog w = .ok u w') : (execOp a.eval op).run Try.prog w = .ok (.value u) w' := by
  unfold execOp
  simp only [ho, hx]
  simp only [hc, Sem.run_bind, Result.andThen_ok]
  rfl
theorem sliceV_run {op : Oper} {a : Act} {v : Value} {ao : Option Addr} {n cap hi : Nat} (hv : v = .slice ao n cap) (x z : Operand) (ho : op.op = .slice 28 x none (some z) none) (hx : a.eval x = v) (hz : a.eval z = .int .i64 (hi : Int)) (h2 : hi ≤ cap) (w : World) : (execOp a.eval op).run Try.prog w = .ok (.value (cutV v 0 hi cap)) w := by
  subst hv
  exact sliceT_run x z ho hx hz h2 w
theorem exec_copy {op : Oper} {a : Act} {w w' : World} {v v1 v2 : Value} {t u : TypeId} (x y : Operand) (ho : op.op = .call { callee := .builtin .copy, args := #[x, y], argTypes := #[t, u] }) (hx : a.eval x = v1) (hy : a.eval y = v2) (hr : (Builtin.copy_ #[t, u] op.type #[v1, v2]).run Try.prog w = .ok v w') : (execOp a.eval op).run Try.prog w = .ok (.value v) w' := by
  unfold execOp
  simp only [ho, resolve, invoke, builtin, Sem.run_bind, Sem.run_pure, Result.andThen_ok, List.map_toArray, List.map_cons, List.map_nil, hx, hy, hr]
theorem ptrE_run {op : Oper} {a : Act} {ad : Addr} {T : TypeId} (hT : T = 39 ∨ T = 59) (x : Operand) (y : Operand) (ho : op.op = .binOp .eql T x y T) (hx : a.eval x = .pointer (some ad)) (hy : a.eval y = .pointer none) (w : World) : (execOp a.eval op).run Try.prog w = .ok (.value (.bool false)) w := by
  unfold execOp
  simp only [ho, hx, hy]
  rcases hT with rfl | rfl <;> go_simp
theorem ptrM_run {op : Oper} {a : Act} {ad : Addr} (x : Operand) (y : Operand) (ho : op.op = .binOp .neq 39 x y 39) (hx : a.eval x = .pointer (some ad)) (hy : a.eval y = .pointer none) (w : World) : (execOp a.eval op).run Try.prog w = .ok (.value (.bool true)) w := by
  unfold execOp
  simp only [ho, hx, hy]
  go_simp
theorem eqE2_run {op : Oper} {a : Act} {z : Int} (x y : Operand) (ho : op.op = .binOp .eql 30 x y 30) (hx : a.eval x = .int .i64 z) (hy : a.eval y = .int .i64 z) (w : World) : (execOp a.eval op).run Try.prog w = .ok (.value (.bool true)) w := by
  unfold execOp
  simp only [ho, hx, hy]
  go_simp
theorem by_lt {w : World} {v : Value} {l : List Nat} (h : By w v l) (h0 : l ≠ []) : ∀ q, v.ownBlock = some q → q < w.heap.size := fun q hq => (h.lt hq).resolve_left h0
theorem magic_ne {l : List Nat} (h : l.take 4 = magic) : l ≠ [] := fun e => by rw [e] at h; cases h
/-- What is taken of both tapes. -/
theorem OT.make {w W2 W4 W5 : World} {v : Value} {l : List Nat} {c : Cm} {pm g : Nat} {f : Nat → Nat} {t : Tp} {at_ gx a' : Nat} {xv : Value} {L : List Cm} (hs4 : OS w W4 v l c pm g f) (hb : Below W4.heap.size W4 W5) (ht : TpAt W4 t) (htl : t.l = l.take at_) (hch : Chain l t.es at_) (hmx : t.es.length = 1000000 ∨ ∀ n, ¬ FrOk t.es.length (l.drop at_) n) (hn : t.es.length ≤ 1000000) (hto : ∀ b, t.own b → W2.heap.size ≤ b) (hW2 : w.heap.size ≤ W2.heap.size ∧ g < W2.heap.size ∧ pm < W2.heap.size) (hx : RtAt W5 gx xv L) (hxl : tpL (csL L) L.length = l.take a') (ha : a' ≤ l.length) (hL : L.length ≤ 1000000) (hxm : L.length = 1000000 ∨ ∀ n, ¬ FrOk L.length (l.drop a') n) (hxo : ∀ b, rtOwn gx xv b → W4.heap.size ≤ b) : at_ = a' ∧ OT w W5 v l c pm g f t gx xv L := by
  obtain ⟨k1, k2⟩ := open_same hch hmx hn hx.ok hxl ha hL hxm
  have hg4 := hs4.own.lt
  have hp4 := hs4.pm_.lt
  refine ⟨k2, hs4.below hb, ht.below hb, hx, fun b hb => ?_, fun b hb => ?_, fun b h1 h2 => ?_, by rw [htl, hxl, k2], k1, hL⟩
  · have := hto b hb
    exact ⟨by omega, by omega, by omega⟩
  · have := hxo b hb
    have := hs4.bel.size
    exact ⟨by omega, by omega, by omega⟩
  · have := ht.ltO h1
    have := hxo b h2
    omega
set_option maxRecDepth 100000 in
set_option maxHeartbeats 16000000 in
theorem TapeOpens_law {w : World} {v : Value} {l : List Nat} (hv0 : By w v l) (hl : l.length ≤ 140737488351232) (c : Cm) (hc : c.ok) : Calls Try.prog 7 #[v, .agg c.cs] w fun e w' => e = .returned (.bool true) ∧ Hid (Below w.heap.size w w') := by
  have hbb := hv0.bb
  have hv : l = [] ∨ ∀ q, v.ownBlock = some q → q < w.heap.size := by
    by_cases e : l = []
    · exact .inl e
    · exact .inr fun q hq => (hv0.lt hq).resolve_left e
  have HL : Hid (l.length ≤ 140737488351232 ∧ BB l ∧ c.ok) := ⟨hl, hbb, hc⟩
  obtain ⟨X, hX⟩ : ∃ X, X = c.cs := ⟨_, rfl⟩
  have hb0 : Below w.heap.size w (w.alloc (.cells X 27)) := (Below.refl _ w).alloc (Nat.le_refl _) _
  have HB0 : Hid (Below w.heap.size w (w.alloc (.cells X 27)) ∧ Blk (w.alloc (.cells X 27)) w.heap.size 27 c.cs) := ⟨hb0, by rw [← hX]; exact Blk.new _ _ _⟩
  rw [← hX]
  clear hX hb0 hc
  have hsh := shown_any (w.alloc (.cells X 27))
  obtain ⟨a, cap, hvf, hcap⟩ := hv0.form
  go_enter Try.func7, Try.ntmps7
  go_upto_region 1 with fail
  rename_i K hK
  generalize w.alloc (.cells X 27) = W0 at *
  refine wp_region_lit ?_
  refine wpList_callW rfl (some 25) rfl 8 #[] (by kernel_rfl) hsh ?_
  clear hsh
  rintro e W1 ⟨rfl, hx⟩
  refine ⟨_, rfl, ?_⟩
  simp only [Act.put, List.setIfInBounds_toArray, List.set_cons_zero, List.set_cons_succ]
  refine wpList_runTo rfl (some 5) rfl (.bool true) W1 (by kernel_rfl) ?_
  simp only [Act.put, List.setIfInBounds_toArray, List.set_cons_zero, List.set_cons_succ]
  refine wpList_nil ?_
  refine hK _ _ ?_
  clear hK
  have HB1 : Hid (Below w.heap.size w W1 ∧ Blk W1 w.heap.size 27 c.cs ∧ By W1 v l) := ⟨below_step HB0.out.1 hx.out, HB0.out.2.below hx.out HB0.out.2.lt, hv0.below (below_step HB0.out.1 hx.out)⟩
  have HV : Hid (l = [] ∨ ∀ q, v.ownBlock = some q → q < w.heap.size) := hv
  clear hx HB0 hv0 hv hbb
  have hsrc : Src W1 a l.length (dN l) := by
    have hy1 := HB1.out.2.2
    rw [hvf] at hy1
    exact hy1.src.2.2.1
  have hle := lent8_any a l.length cap (dN l) W1 hl hsrc
  rw [← hvf] at hle
  clear hsrc
  go_upto_region 2 with fail
  rename_i K hK
  refine wp_region_lit ?_
  refine wpList_runTo rfl (some 26) rfl (v) W1 (by kernel_rfl) ?_
  simp only [Act.put, List.setIfInBounds_toArray, List.set_cons_zero, List.set_cons_succ]
  refine wpList_callW rfl (some 27) rfl 17 #[v] (by kernel_rfl) hle ?_
  clear hle
  rintro e W2 ⟨rfl, ho, hb⟩
  refine ⟨_, rfl, ?_⟩
  simp only [Act.put, List.setIfInBounds_toArray, List.set_cons_zero, List.set_cons_succ]
  obtain ⟨g, hg⟩ : ∃ g, g = W1.heap.size := ⟨_, rfl⟩
  obtain ⟨pm, hpm⟩ : ∃ pm, pm = w.heap.size := ⟨_, rfl⟩
  have HS2 : Hid (OS w W2 v l c pm g (fun j => if j < l.length then dN l j else 201)) := ⟨below_step HB1.out.1 hb, HB1.out.2.2.below hb, HV.out, by rw [hg]; exact ho, by rw [hg]; exact HB1.out.1.size, by rw [hpm]; exact HB1.out.2.1.below hb HB1.out.2.1.lt, by rw [hpm]; exact Nat.le_refl _, by have := HB1.out.2.1.lt; omega⟩
  rw [← hg, ← hpm]
  clear ho hb HB1 hg hpm
  have hlv : By W2 (.slice (some ⟨g, 0, none⟩) l.length (l.length + 8)) l := HS2.out.lent l rfl HL.out.2.1 (fun j hj => by rw [if_pos hj])
  obtain ⟨lv, hlvf⟩ : ∃ lv, lv = Value.slice (some ⟨g, 0, none⟩) l.length (l.length + 8) := ⟨_, rfl⟩
  rw [← hlvf] at hlv ⊢
  refine wpList_runTo rfl (some 6) rfl (lv) W2 (by kernel_rfl) ?_
  simp only [Act.put, List.setIfInBounds_toArray, List.set_cons_zero, List.set_cons_succ]
  refine wpList_nil ?_
  refine hK _ _ ?_
  clear hK
  have HBk : Hid (∀ (W : World) (f : Nat → Nat), OS w W v l c pm g f → (∀ j, j < l.length → f j = dN l j) → (∀ j, l.length ≤ j → f j = 201) → Calls Try.prog 18 #[lv, v] W fun e w' => e = .returned (.bool true) ∧ OwnA w' g (l.length + 8) (fun _ => 202) ∧ Fr W w' (fun b => b = g)) := fun W f hs h1 h2 => by
    have hy := hs.by'
    rw [hvf] at hy
    have := back_any g l.length a cap (dN l) W hl hy.src.2.2.1 (fun b off e hn => by
      rcases hs.hv with h | h
      · rw [h] at hn; exact absurd hn (by decide)
      · have h1 := h b (by rw [hvf, e]; rfl)
        have h2 := hs.gg
        omega) (hs.own.ext fun j hj => by
          by_cases e : j < l.length
          · rw [if_pos e, h1 j e]
          · rw [if_neg e, h2 j (by omega)])
    rw [hlvf, hvf]
    exact this
  have HLv : Hid (lv = .slice (some ⟨g, 0, none⟩) l.length (l.length + 8) ∧ v = .slice a l.length cap) := ⟨hlvf, hvf⟩
  by_cases hm : l.take 4 = magic
  · skip
    have hop := Open_yes hlv (.inr (by rw [hlvf]; exact HS2.out.ltg)) (by omega) hm
    clear hlv
    go_upto_region 3 with fail
    rename_i K hK
    refine wp_region_lit ?_
    refine wpList_runTo rfl (some 29) rfl (lv) W2 (by kernel_rfl) ?_
    simp only [Act.put, List.setIfInBounds_toArray, List.set_cons_zero, List.set_cons_succ]
    refine wpList_callW rfl (some 30) rfl 14 #[lv] (by kernel_rfl) hop ?_
    clear hop
    rintro e W3 ⟨t, at_, rfl, hx⟩
    refine ⟨_, rfl, ?_⟩
    simp only [Act.put, List.setIfInBounds_toArray, List.set_cons_zero, List.set_cons_succ]
    have HT3 : Hid (OS w W3 v l c pm g (fun j => if j < l.length then dN l j else 201) ∧ TpAt W3 t ∧ t.l = l.take at_ ∧ Chain l t.es at_ ∧ t.es.length ≤ 1000000 ∧ (t.es.length = 1000000 ∨ ∀ n, ¬ FrOk t.es.length (l.drop at_) n) ∧ (∀ b, t.own b → W2.heap.size ≤ b) ∧ w.heap.size ≤ W2.heap.size ∧ g < W2.heap.size ∧ pm < W2.heap.size ∧ at_ ≤ l.length) := ⟨HS2.out.below hx.out.2.2.2.2.2.2.1, hx.out.1, hx.out.2.1, hx.out.2.2.1, hx.out.2.2.2.1.2, hx.out.2.2.2.2.2.1, hx.out.2.2.2.2.2.2.2, HS2.out.bel.size, HS2.out.own.lt, HS2.out.pm_.lt, hx.out.2.2.2.2.1⟩
    clear hx HS2
    obtain ⟨tg, htg⟩ : ∃ tg, tg = t.g := ⟨_, rfl⟩
    have HTG : Hid (t.g = tg) := htg.symm
    rw [← htg]
    clear htg
    refine wpList_runTo rfl (some 28) rfl (.tuple #[.pointer (some ⟨tg, 0, none⟩), .int .i64 (at_ : Int), .int .i64 0]) W3 (by kernel_rfl) ?_
    simp only [Act.put, List.setIfInBounds_toArray, List.set_cons_zero, List.set_cons_succ]
    refine wpList_runTo rfl (some 31) rfl (.pointer (some ⟨tg, 0, none⟩)) W3 (by kernel_rfl) ?_
    simp only [Act.put, List.setIfInBounds_toArray, List.set_cons_zero, List.set_cons_succ]
    refine wpList_runTo rfl (some 32) rfl (.int .i64 (at_ : Int)) W3 (by kernel_rfl) ?_
    simp only [Act.put, List.setIfInBounds_toArray, List.set_cons_zero, List.set_cons_succ]
    refine wpList_runTo rfl (some 33) rfl (.int .i64 0) W3 (by kernel_rfl) ?_
    simp only [Act.put, List.setIfInBounds_toArray, List.set_cons_zero, List.set_cons_succ]
    refine wpList_runTo rfl (some 7) rfl (.pointer (some ⟨tg, 0, none⟩)) W3 (by kernel_rfl) ?_
    simp only [Act.put, List.setIfInBounds_toArray, List.set_cons_zero, List.set_cons_succ]
    refine wpList_runTo rfl (some 8) rfl (.int .i64 (at_ : Int)) W3 (by kernel_rfl) ?_
    simp only [Act.put, List.setIfInBounds_toArray, List.set_cons_zero, List.set_cons_succ]
    refine wpList_runTo rfl (some 9) rfl (.int .i64 0) W3 (by kernel_rfl) ?_
    simp only [Act.put, List.setIfInBounds_toArray, List.set_cons_zero, List.set_cons_succ]
    refine wpList_nil ?_
    refine hK _ _ ?_
    clear hK
    have hbk := HBk.out W3 _ HT3.out.1 (fun j hj => by rw [if_pos hj]) (fun j hj => by rw [if_neg (by omega)])
    go_upto_region 4 with fail
    rename_i K hK
    refine wp_region_lit ?_
    refine wpList_runTo rfl (some 34) rfl (lv) W3 (by kernel_rfl) ?_
    simp only [Act.put, List.setIfInBounds_toArray, List.set_cons_zero, List.set_cons_succ]
    refine wpList_runTo rfl (some 35) rfl (v) W3 (by kernel_rfl) ?_
    simp only [Act.put, List.setIfInBounds_toArray, List.set_cons_zero, List.set_cons_succ]
    refine wpList_callW rfl (some 36) rfl 18 #[lv, v] (by kernel_rfl) hbk ?_
    clear hbk
    rintro e W4 ⟨rfl, ho, hf⟩
    refine ⟨_, rfl, ?_⟩
    simp only [Act.put, List.setIfInBounds_toArray, List.set_cons_zero, List.set_cons_succ]
    have HT4 : Hid (OS w W4 v l c pm g (fun _ => 202) ∧ TpAt W4 t ∧ t.l = l.take at_ ∧ Chain l t.es at_ ∧ t.es.length ≤ 1000000 ∧ (t.es.length = 1000000 ∨ ∀ n, ¬ FrOk t.es.length (l.drop at_) n) ∧ (∀ b, t.own b → W2.heap.size ≤ b) ∧ w.heap.size ≤ W2.heap.size ∧ g < W2.heap.size ∧ pm < W2.heap.size ∧ at_ ≤ l.length) := ⟨HT3.out.1.turn hf ho, HT3.out.2.1.fr hf fun b hb e => by have := HT3.out.2.2.2.2.2.2.1 b hb; have := HT3.out.2.2.2.2.2.2.2.2.1; omega, HT3.out.2.2⟩
    clear HT3 ho hf
    refine wpList_runTo rfl (some 10) rfl (.bool true) W4 (by kernel_rfl) ?_
    simp only [Act.put, List.setIfInBounds_toArray, List.set_cons_zero, List.set_cons_succ]
    refine wpList_nil ?_
    refine hK _ _ ?_
    clear hK
    have hrp := refOpen_yes HT4.out.1.by' (by_lt HT4.out.1.by' (magic_ne hm)) (by omega) hm
    go_upto_region 5 with fail
    rename_i K hK
    refine wp_region_lit ?_
    refine wpList_runTo rfl (some 38) rfl (v) W4 (by kernel_rfl) ?_
    simp only [Act.put, List.setIfInBounds_toArray, List.set_cons_zero, List.set_cons_succ]
    refine wpList_callW rfl (some 39) rfl 28 #[v] (by kernel_rfl) hrp ?_
    clear hrp
    rintro e W5 ⟨gx, xv, L, a', rfl, hx⟩
    refine ⟨_, rfl, ?_⟩
    simp only [Act.put, List.setIfInBounds_toArray, List.set_cons_zero, List.set_cons_succ]
    obtain ⟨haa, hot⟩ := OT.make HT4.out.1 hx.out.2.2.2.2.2.2.1 HT4.out.2.1 HT4.out.2.2.1 HT4.out.2.2.2.1 HT4.out.2.2.2.2.2.1 HT4.out.2.2.2.2.1 HT4.out.2.2.2.2.2.2.1 ⟨HT4.out.2.2.2.2.2.2.2.1, HT4.out.2.2.2.2.2.2.2.2.1, HT4.out.2.2.2.2.2.2.2.2.2.1⟩ hx.out.1 hx.out.2.1 hx.out.2.2.2.1 hx.out.2.2.2.2.1 hx.out.2.2.2.2.2.1 hx.out.2.2.2.2.2.2.2
    have HAt : Hid (t.l = l.take at_ ∧ at_ ≤ l.length) := ⟨HT4.out.2.2.1, HT4.out.2.2.2.2.2.2.2.2.2.2⟩
    have HO5 : Hid (OT w W5 v l c pm g (fun _ => 202) t gx xv L) := hot
    subst haa
    clear hx HT4 hot
    refine wpList_runTo rfl (some 37) rfl (.tuple #[.pointer (some ⟨gx, 0, none⟩), .int .i64 (at_ : Int), .int .i64 0]) W5 (by kernel_rfl) ?_
    simp only [Act.put, List.setIfInBounds_toArray, List.set_cons_zero, List.set_cons_succ]
    refine wpList_runTo rfl (some 40) rfl (.pointer (some ⟨gx, 0, none⟩)) W5 (by kernel_rfl) ?_
    simp only [Act.put, List.setIfInBounds_toArray, List.set_cons_zero, List.set_cons_succ]
    refine wpList_runTo rfl (some 41) rfl (.int .i64 (at_ : Int)) W5 (by kernel_rfl) ?_
    simp only [Act.put, List.setIfInBounds_toArray, List.set_cons_zero, List.set_cons_succ]
    refine wpList_runTo rfl (some 42) rfl (.int .i64 0) W5 (by kernel_rfl) ?_
    simp only [Act.put, List.setIfInBounds_toArray, List.set_cons_zero, List.set_cons_succ]
    refine wpList_runTo rfl (some 11) rfl (.pointer (some ⟨gx, 0, none⟩)) W5 (by kernel_rfl) ?_
    simp only [Act.put, List.setIfInBounds_toArray, List.set_cons_zero, List.set_cons_succ]
    refine wpList_runTo rfl (some 12) rfl (.int .i64 (at_ : Int)) W5 (by kernel_rfl) ?_
    simp only [Act.put, List.setIfInBounds_toArray, List.set_cons_zero, List.set_cons_succ]
    refine wpList_runTo rfl (some 13) rfl (.int .i64 0) W5 (by kernel_rfl) ?_
    simp only [Act.put, List.setIfInBounds_toArray, List.set_cons_zero, List.set_cons_succ]
    refine wpList_nil ?_
    refine hK _ _ ?_
    clear hK
    go_upto_region 6 with fail
    rename_i K hK
    refine wp_region_lit ?_
    refine wpList_runTo rfl (some 43) rfl (.bool true) W5 (by kernel_rfl) ?_
    simp only [Act.put, List.setIfInBounds_toArray, List.set_cons_zero, List.set_cons_succ]
    refine wpList_runTo rfl (some 44) rfl (.bool false) W5 (by kernel_rfl) ?_
    simp only [Act.put, List.setIfInBounds_toArray, List.set_cons_zero, List.set_cons_succ]
    refine wpList_runTo rfl (some 45) rfl (.bool false) W5 (by kernel_rfl) ?_
    simp only [Act.put, List.setIfInBounds_toArray, List.set_cons_zero, List.set_cons_succ]
    refine wpList_runToG (by kernel_rfl) (some 46) rfl (.bool true) W5 (by kernel_rfl) ?_
    simp only [Act.put, List.setIfInBounds_toArray, List.set_cons_zero, List.set_cons_succ]
    refine wpList_runToG (by kernel_rfl) (some 47) rfl (.bool false) W5 (by kernel_rfl) ?_
    simp only [Act.put, List.setIfInBounds_toArray, List.set_cons_zero, List.set_cons_succ]
    refine wpList_runTo rfl (some 48) rfl (.bool false) W5 (by kernel_rfl) ?_
    simp only [Act.put, List.setIfInBounds_toArray, List.set_cons_zero, List.set_cons_succ]
    refine wpList_runTo rfl (some 49) rfl (.bool false) W5 (by kernel_rfl) ?_
    simp only [Act.put, List.setIfInBounds_toArray, List.set_cons_zero, List.set_cons_succ]
    refine wpList_runToG (by kernel_rfl) (some 50) rfl (.int .i64 (at_ : Int)) W5 (by kernel_rfl) ?_
    simp only [Act.put, List.setIfInBounds_toArray, List.set_cons_zero, List.set_cons_succ]
    refine wpList_runToG (by kernel_rfl) (some 51) rfl (.int .i64 (at_ : Int)) W5 (by kernel_rfl) ?_
    simp only [Act.put, List.setIfInBounds_toArray, List.set_cons_zero, List.set_cons_succ]
    refine wpList_runToG (by kernel_rfl) (some 52) rfl (.bool false) W5 (by exact neN_run (N := at_) (.tmp 50) (.tmp 51) rfl (by kernel_rfl) (by kernel_rfl) _) ?_
    simp only [Act.put, List.setIfInBounds_toArray, List.set_cons_zero, List.set_cons_succ]
    refine wpList_runTo rfl (some 53) rfl (.bool false) W5 (by kernel_rfl) ?_
    simp only [Act.put, List.setIfInBounds_toArray, List.set_cons_zero, List.set_cons_succ]
    refine wpList_runTo rfl (some 54) rfl (.bool false) W5 (by kernel_rfl) ?_
    simp only [Act.put, List.setIfInBounds_toArray, List.set_cons_zero, List.set_cons_succ]
    refine wpList_runToG (by kernel_rfl) (some 55) rfl (.int .i64 0) W5 (by kernel_rfl) ?_
    simp only [Act.put, List.setIfInBounds_toArray, List.set_cons_zero, List.set_cons_succ]
    refine wpList_runToG (by kernel_rfl) (some 56) rfl (.int .i64 0) W5 (by kernel_rfl) ?_
    simp only [Act.put, List.setIfInBounds_toArray, List.set_cons_zero, List.set_cons_succ]
    refine wpList_runToG (by kernel_rfl) (some 57) rfl (.bool false) W5 (by kernel_rfl) ?_
    simp only [Act.put, List.setIfInBounds_toArray, List.set_cons_zero, List.set_cons_succ]
    refine wpList_runTo rfl (some 58) rfl (.bool false) W5 (by kernel_rfl) ?_
    simp only [Act.put, List.setIfInBounds_toArray, List.set_cons_zero, List.set_cons_succ]
    refine wpList_runTo rfl (some 59) rfl (.bool false) W5 (by kernel_rfl) ?_
    simp only [Act.put, List.setIfInBounds_toArray, List.set_cons_zero, List.set_cons_succ]
    refine wpList_runToG (by kernel_rfl) (some 60) rfl (.pointer (some ⟨tg, 0, none⟩)) W5 (by kernel_rfl) ?_
    simp only [Act.put, List.setIfInBounds_toArray, List.set_cons_zero, List.set_cons_succ]
    refine wpList_runToG (by kernel_rfl) (some 61) rfl (.bool false) W5 (by exact ptrE_run (ad := ⟨tg, 0, none⟩) (.inl rfl) (.tmp 60) (.const (.pointer none)) rfl (by kernel_rfl) rfl _) ?_
    simp only [Act.put, List.setIfInBounds_toArray, List.set_cons_zero, List.set_cons_succ]
    refine wpList_runToG (by kernel_rfl) (some 62) rfl (.pointer (some ⟨gx, 0, none⟩)) W5 (by kernel_rfl) ?_
    simp only [Act.put, List.setIfInBounds_toArray, List.set_cons_zero, List.set_cons_succ]
    refine wpList_runToG (by kernel_rfl) (some 63) rfl (.bool false) W5 (by exact ptrE_run (ad := ⟨gx, 0, none⟩) (.inr rfl) (.tmp 62) (.const (.pointer none)) rfl (by kernel_rfl) rfl _) ?_
    simp only [Act.put, List.setIfInBounds_toArray, List.set_cons_zero, List.set_cons_succ]
    refine wpList_runToG (by kernel_rfl) (some 64) rfl (.bool false) W5 (by kernel_rfl) ?_
    simp only [Act.put, List.setIfInBounds_toArray, List.set_cons_zero, List.set_cons_succ]
    refine wpList_runTo rfl (some 65) rfl (.bool false) W5 (by kernel_rfl) ?_
    simp only [Act.put, List.setIfInBounds_toArray, List.set_cons_zero, List.set_cons_succ]
    refine wpList_nil ?_
    refine hK _ _ ?_
    clear hK
    obtain ⟨W6, f6, k6, hcp, ho6, hf6, hmg⟩ := copy_str (cap := l.length + 8) HO5.out.os.own ⟨#[79, 84, 65, 80]⟩
    rw [← hlvf] at hcp
    go_upto_region 8 with fail
    rename_i K hK
    refine wp_region_lit ?_
    refine wpList_runTo rfl (some 66) rfl (lv) W5 (by kernel_rfl) ?_
    simp only [Act.put, List.setIfInBounds_toArray, List.set_cons_zero, List.set_cons_succ]
    refine wpList_plain rfl fun K1 hK1 => ?_
    refine valR (d := some 67) rfl (w' := W6) (.int .i64 k6) (exec_copy (v1 := lv) (v2 := .string ⟨#[79, 84, 65, 80]⟩) (.tmp 66) (.const (.string ⟨#[79, 84, 65, 80]⟩)) rfl (by kernel_rfl) rfl hcp) ?_
    refine hK1 _ _ ?_
    clear hK1 hcp
    simp only [Act.put, List.setIfInBounds_toArray, List.set_cons_zero, List.set_cons_succ]
    refine wpList_nil ?_
    refine hK _ _ ?_
    clear hK
    have HO6 : Hid (OT w W6 v l c pm g f6 t gx xv L) := HO5.out.turn hf6 ho6
    clear HO5
    obtain ⟨l2, hl2, hby2⟩ : ∃ l2 : List Nat, l2.length = l.length ∧ l2.take 4 = magic ∧ By W6 lv l2 := by
      have h4 : 4 ≤ l.length := by
        have := congrArg List.length hm
        rw [List.length_take] at this
        have e : magic.length = 4 := rfl
        omega
      refine ⟨(List.range l.length).map f6, by simp, ?_, ?_⟩
      · apply List.ext_getElem?
        intro j
        by_cases hj : j < 4
        · rw [List.getElem?_take_of_lt hj, List.getElem?_map, List.getElem?_range (by omega), Option.map_some, hmg rfl h4 j hj]
          have : j = 0 ∨ j = 1 ∨ j = 2 ∨ j = 3 := by omega
          rcases this with rfl | rfl | rfl | rfl <;> rfl
        · rw [List.getElem?_eq_none (by rw [List.length_take]; omega), List.getElem?_eq_none (by show 4 ≤ j; omega)]
      · rw [hlvf]
        refine HO6.out.os.lent _ (by simp) (fun x hx => ?_) fun j hj => ?_
        · rw [List.mem_map] at hx
          obtain ⟨j, hj, rfl⟩ := hx
          exact HO6.out.os.own.val j (by have := List.mem_range.1 hj; omega)
        · unfold dN
          rw [List.getD_eq_getElem?_getD, List.getElem?_map, List.getElem?_range hj]
          rfl
    clear hf6 ho6 hmg
    obtain ⟨hm2, hby2⟩ := hby2
    have hop := Open_yes hby2 (.inr (by rw [hlvf]; exact HO6.out.os.ltg)) (by rw [hl2]; omega) hm2
    go_upto_region 9 with fail
    rename_i K hK
    refine wp_region_lit ?_
    refine wpList_runTo rfl (some 69) rfl (lv) W6 (by kernel_rfl) ?_
    simp only [Act.put, List.setIfInBounds_toArray, List.set_cons_zero, List.set_cons_succ]
    refine wpList_callW rfl (some 70) rfl 14 #[lv] (by kernel_rfl) hop ?_
    clear hop
    rintro e W7 ⟨t2, p2, rfl, hx⟩
    refine ⟨_, rfl, ?_⟩
    simp only [Act.put, List.setIfInBounds_toArray, List.set_cons_zero, List.set_cons_succ]
    have H7 : Hid (OT w W7 v l c pm g f6 t gx xv L ∧ By W7 lv l2 ∧ TpAt W7 t2 ∧ t2.l = l2.take p2 ∧ Chain l2 t2.es p2 ∧ t2.es.length ≤ 1000000 ∧ (t2.es.length = 1000000 ∨ ∀ n, ¬ FrOk t2.es.length (l2.drop p2) n)) := ⟨HO6.out.below hx.out.2.2.2.2.2.2.1, hby2.below hx.out.2.2.2.2.2.2.1, hx.out.1, hx.out.2.1, hx.out.2.2.1, hx.out.2.2.2.1.2, hx.out.2.2.2.2.2.1⟩
    clear hx HO6 hby2
    obtain ⟨g2, hg2⟩ : ∃ g2, g2 = t2.g := ⟨_, rfl⟩
    have HG2 : Hid (t2.g = g2) := hg2.symm
    rw [← hg2]
    clear hg2
    refine wpList_runTo rfl (some 68) rfl (.tuple #[.pointer (some ⟨g2, 0, none⟩), .int .i64 (p2 : Int), .int .i64 0]) W7 (by kernel_rfl) ?_
    simp only [Act.put, List.setIfInBounds_toArray, List.set_cons_zero, List.set_cons_succ]
    refine wpList_runTo rfl (some 71) rfl (.pointer (some ⟨g2, 0, none⟩)) W7 (by kernel_rfl) ?_
    simp only [Act.put, List.setIfInBounds_toArray, List.set_cons_zero, List.set_cons_succ]
    refine wpList_runTo rfl (some 72) rfl (.int .i64 (p2 : Int)) W7 (by kernel_rfl) ?_
    simp only [Act.put, List.setIfInBounds_toArray, List.set_cons_zero, List.set_cons_succ]
    refine wpList_runTo rfl (some 73) rfl (.int .i64 0) W7 (by kernel_rfl) ?_
    simp only [Act.put, List.setIfInBounds_toArray, List.set_cons_zero, List.set_cons_succ]
    refine wpList_runTo rfl (some 14) rfl (.pointer (some ⟨g2, 0, none⟩)) W7 (by kernel_rfl) ?_
    simp only [Act.put, List.setIfInBounds_toArray, List.set_cons_zero, List.set_cons_succ]
    refine wpList_runTo rfl (some 15) rfl (.int .i64 (p2 : Int)) W7 (by kernel_rfl) ?_
    simp only [Act.put, List.setIfInBounds_toArray, List.set_cons_zero, List.set_cons_succ]
    refine wpList_runTo rfl (some 16) rfl (.int .i64 0) W7 (by kernel_rfl) ?_
    simp only [Act.put, List.setIfInBounds_toArray, List.set_cons_zero, List.set_cons_succ]
    refine wpList_nil ?_
    refine hK _ _ ?_
    clear hK
    obtain ⟨cv, W8, hcv, hcb, hcbel⟩ := conv_back2 (w := W7) H7.out.2.1.bb
    have H8 : Hid (OT w W8 v l c pm g f6 t gx xv L ∧ TpAt W8 t2 ∧ t2.l = l2.take p2 ∧ Chain l2 t2.es p2 ∧ t2.es.length ≤ 1000000 ∧ (t2.es.length = 1000000 ∨ ∀ n, ¬ FrOk t2.es.length (l2.drop p2) n)) := ⟨H7.out.1.below hcbel, H7.out.2.2.1.below hcbel, H7.out.2.2.2⟩
    have hby7 := H7.out.2.1
    have hrp := refOpen_yes hcb (by_lt hcb (magic_ne hm2)) (by rw [hl2]; omega) hm2
    clear H7 hcb hcbel
    go_upto_region 10 with fail
    rename_i K hK
    refine wp_region_lit ?_
    refine wpList_runTo rfl (some 75) rfl (lv) W7 (by kernel_rfl) ?_
    simp only [Act.put, List.setIfInBounds_toArray, List.set_cons_zero, List.set_cons_succ]
    refine wpList_runTo rfl (some 76) rfl (.string (ofN l2)) W7 (by exact conv_run (.tmp 75) rfl (by kernel_rfl) hby7) ?_
    simp only [Act.put, List.setIfInBounds_toArray, List.set_cons_zero, List.set_cons_succ]
    refine wpList_runTo rfl (some 77) rfl (cv) W8 (by exact convS2_run (.tmp 76) rfl (by kernel_rfl) hcv) ?_
    simp only [Act.put, List.setIfInBounds_toArray, List.set_cons_zero, List.set_cons_succ]
    clear hby7 hcv
    generalize ofN l2 = sl2
    refine wpList_callW rfl (some 78) rfl 28 #[cv] (by kernel_rfl) hrp ?_
    clear hrp
    rintro e W9 ⟨gy, yv, M, b', rfl, hx⟩
    refine ⟨_, rfl, ?_⟩
    simp only [Act.put, List.setIfInBounds_toArray, List.set_cons_zero, List.set_cons_succ]
    obtain ⟨hs1, hs2⟩ := open_same H8.out.2.2.2.1 H8.out.2.2.2.2.2 H8.out.2.2.2.2.1 hx.out.1.ok hx.out.2.1 hx.out.2.2.2.1 hx.out.2.2.2.2.1 hx.out.2.2.2.2.2.1
    have hbdM := csL_len hx.out.1.ok hx.out.2.2.2.2.1 (Nat.le_refl _)
    have H9 : Hid (OT w W9 v l c pm g f6 t gx xv L ∧ TpAt W9 t2 ∧ t2.l = tpL (csL M) M.length ∧ RtAt W9 gy yv M ∧ M.length ≤ 1000000 ∧ t2.l ≠ [] ∧ t2.l.length ≤ 700000000) := by
      have e : t2.l = tpL (csL M) M.length := by rw [H8.out.2.2.1, hx.out.2.1, hs2]
      have h0 := enN_le (csL M) (Nat.zero_le M.length)
      rw [enN_zero] at h0
      refine ⟨H8.out.1.below hx.out.2.2.2.2.2.2.1, H8.out.2.1.below hx.out.2.2.2.2.2.2.1, e, hx.out.1, hx.out.2.2.2.2.1, fun e2 => ?_, by rw [e]; exact hbdM⟩
      have h1 := congrArg List.length e2
      rw [e] at h1
      unfold enN at h0
      rw [h1] at h0
      simp at h0
    subst hs2
    clear hx H8 hs1 hbdM
    refine wpList_runTo rfl (some 74) rfl (.tuple #[.pointer (some ⟨gy, 0, none⟩), .int .i64 (p2 : Int), .int .i64 0]) W9 (by kernel_rfl) ?_
    simp only [Act.put, List.setIfInBounds_toArray, List.set_cons_zero, List.set_cons_succ]
    refine wpList_runTo rfl (some 79) rfl (.pointer (some ⟨gy, 0, none⟩)) W9 (by kernel_rfl) ?_
    simp only [Act.put, List.setIfInBounds_toArray, List.set_cons_zero, List.set_cons_succ]
    refine wpList_runTo rfl (some 80) rfl (.int .i64 (p2 : Int)) W9 (by kernel_rfl) ?_
    simp only [Act.put, List.setIfInBounds_toArray, List.set_cons_zero, List.set_cons_succ]
    refine wpList_runTo rfl (some 81) rfl (.int .i64 0) W9 (by kernel_rfl) ?_
    simp only [Act.put, List.setIfInBounds_toArray, List.set_cons_zero, List.set_cons_succ]
    refine wpList_runTo rfl (some 17) rfl (.pointer (some ⟨gy, 0, none⟩)) W9 (by kernel_rfl) ?_
    simp only [Act.put, List.setIfInBounds_toArray, List.set_cons_zero, List.set_cons_succ]
    refine wpList_runTo rfl (some 18) rfl (.int .i64 (p2 : Int)) W9 (by kernel_rfl) ?_
    simp only [Act.put, List.setIfInBounds_toArray, List.set_cons_zero, List.set_cons_succ]
    refine wpList_runTo rfl (some 19) rfl (.int .i64 0) W9 (by kernel_rfl) ?_
    simp only [Act.put, List.setIfInBounds_toArray, List.set_cons_zero, List.set_cons_succ]
    refine wpList_nil ?_
    refine hK _ _ ?_
    clear hK
    go_upto_region 11 with fail
    go_cut [109] from 82 to 109 (fun x109 wx => x109 = .bool false ∧ Hid (OT w wx v l c pm g f6 t gx xv L))
    case first =>
      rename_i J9 K9 hJ9 hK9
      have hbd : Below W9.heap.size W9 W9.drew := ⟨rfl, rfl, rfl, Nat.le_refl _, fun _ _ => rfl⟩
      have HA : Hid (OT w W9.drew v l c pm g f6 t gx xv L ∧ TpAt W9.drew t2 ∧ RtAt W9.drew gy yv M) := ⟨H9.out.1.below hbd, H9.out.2.1.below hbd, H9.out.2.2.2.1.below hbd⟩
      clear hbd
      refine wp_region_held (S := fun _ => True) (by kernel_rfl) ?_
      change wpAnyH _ _ _ _ _ _ _ _ (World.drew _)
      generalize W9.drew = WX at *
      have hS : True := trivial
      refine takeR (i := 0) (v := .int .i64 (p2 : Int)) (some 82) rfl rfl (by kernel_rfl) (by kernel_rfl) (by kernel_rfl) (fun _ _ _ h => h) (Or.inl ⟨by kernel_rfl, fun w' hSw => by kernel_rfl⟩) hS ?_
      simp only [Act.put, List.setIfInBounds_toArray, List.set_cons_zero, List.set_cons_succ]
      refine takeR (i := 1) (v := .int .i64 (p2 : Int)) (some 83) rfl rfl (by kernel_rfl) (by kernel_rfl) (by kernel_rfl) (fun _ _ _ h => h) (Or.inl ⟨by kernel_rfl, fun w' hSw => by kernel_rfl⟩) hS ?_
      simp only [Act.put, List.setIfInBounds_toArray, List.set_cons_zero, List.set_cons_succ]
      refine takeR (i := 2) (v := .bool false) (some 84) rfl rfl (by kernel_rfl) (by kernel_rfl) (by kernel_rfl) (fun _ _ _ h => h) (Or.inl ⟨by kernel_rfl, fun w' hSw => by exact neN_run (N := p2) (.tmp 82) (.tmp 83) rfl (by kernel_rfl) (by kernel_rfl) _⟩) hS ?_
      simp only [Act.put, List.setIfInBounds_toArray, List.set_cons_zero, List.set_cons_succ]
      refine takeR (i := 3) (v := .bool false) (some 85) rfl rfl (by kernel_rfl) (by kernel_rfl) (by kernel_rfl) (fun _ _ _ h => h) (Or.inl ⟨by kernel_rfl, fun w' hSw => by kernel_rfl⟩) hS ?_
      simp only [Act.put, List.setIfInBounds_toArray, List.set_cons_zero, List.set_cons_succ]
      refine takeR (i := 4) (v := .int .i64 0) (some 86) rfl rfl (by kernel_rfl) (by kernel_rfl) (by kernel_rfl) (fun _ _ _ h => h) (Or.inl ⟨by kernel_rfl, fun w' hSw => by kernel_rfl⟩) hS ?_
      simp only [Act.put, List.setIfInBounds_toArray, List.set_cons_zero, List.set_cons_succ]
      refine takeR (i := 5) (v := .int .i64 0) (some 87) rfl rfl (by kernel_rfl) (by kernel_rfl) (by kernel_rfl) (fun _ _ _ h => h) (Or.inl ⟨by kernel_rfl, fun w' hSw => by kernel_rfl⟩) hS ?_
      simp only [Act.put, List.setIfInBounds_toArray, List.set_cons_zero, List.set_cons_succ]
      refine takeR (i := 6) (v := .bool false) (some 88) rfl rfl (by kernel_rfl) (by kernel_rfl) (by kernel_rfl) (fun _ _ _ h => h) (Or.inl ⟨by kernel_rfl, fun w' hSw => by kernel_rfl⟩) hS ?_
      simp only [Act.put, List.setIfInBounds_toArray, List.set_cons_zero, List.set_cons_succ]
      refine takeR (i := 7) (v := .bool false) (some 89) rfl rfl (by kernel_rfl) (by kernel_rfl) (by kernel_rfl) (fun _ _ _ h => h) (Or.inl ⟨by kernel_rfl, fun w' hSw => by kernel_rfl⟩) hS ?_
      simp only [Act.put, List.setIfInBounds_toArray, List.set_cons_zero, List.set_cons_succ]
      refine takeR (i := 8) (v := .bool false) (some 90) rfl rfl (by kernel_rfl) (by kernel_rfl) (by kernel_rfl) (fun _ _ _ h => h) (Or.inl ⟨by kernel_rfl, fun w' hSw => by kernel_rfl⟩) hS ?_
      simp only [Act.put, List.setIfInBounds_toArray, List.set_cons_zero, List.set_cons_succ]
      refine takeR (i := 9) (v := .pointer (some ⟨g2, 0, none⟩)) (some 91) rfl rfl (by kernel_rfl) (by kernel_rfl) (by kernel_rfl) (fun _ _ _ h => h) (Or.inl ⟨by kernel_rfl, fun w' hSw => by kernel_rfl⟩) hS ?_
      simp only [Act.put, List.setIfInBounds_toArray, List.set_cons_zero, List.set_cons_succ]
      refine takeR (i := 10) (v := .bool false) (some 92) rfl rfl (by kernel_rfl) (by kernel_rfl) (by kernel_rfl) (fun _ _ _ h => h) (Or.inl ⟨by kernel_rfl, fun w' hSw => by exact ptrE_run (ad := ⟨g2, 0, none⟩) (.inl rfl) (.tmp 91) (.const (.pointer none)) rfl (by kernel_rfl) rfl _⟩) hS ?_
      simp only [Act.put, List.setIfInBounds_toArray, List.set_cons_zero, List.set_cons_succ]
      refine takeR (i := 11) (v := .pointer (some ⟨gy, 0, none⟩)) (some 93) rfl rfl (by kernel_rfl) (by kernel_rfl) (by kernel_rfl) (fun _ _ _ h => h) (Or.inl ⟨by kernel_rfl, fun w' hSw => by kernel_rfl⟩) hS ?_
      simp only [Act.put, List.setIfInBounds_toArray, List.set_cons_zero, List.set_cons_succ]
      refine takeR (i := 12) (v := .bool false) (some 94) rfl rfl (by kernel_rfl) (by kernel_rfl) (by kernel_rfl) (fun _ _ _ h => h) (Or.inl ⟨by kernel_rfl, fun w' hSw => by exact ptrE_run (ad := ⟨gy, 0, none⟩) (.inr rfl) (.tmp 93) (.const (.pointer none)) rfl (by kernel_rfl) rfl _⟩) hS ?_
      simp only [Act.put, List.setIfInBounds_toArray, List.set_cons_zero, List.set_cons_succ]
      refine takeR (i := 13) (v := .bool false) (some 95) rfl rfl (by kernel_rfl) (by kernel_rfl) (by kernel_rfl) (fun _ _ _ h => h) (Or.inl ⟨by kernel_rfl, fun w' hSw => by kernel_rfl⟩) hS ?_
      simp only [Act.put, List.setIfInBounds_toArray, List.set_cons_zero, List.set_cons_succ]
      refine takeR (i := 14) (v := .bool false) (some 96) rfl rfl (by kernel_rfl) (by kernel_rfl) (by kernel_rfl) (fun _ _ _ h => h) (Or.inl ⟨by kernel_rfl, fun w' hSw => by kernel_rfl⟩) hS ?_
      simp only [Act.put, List.setIfInBounds_toArray, List.set_cons_zero, List.set_cons_succ]
      refine takeR (i := 15) (v := .bool false) (some 97) rfl rfl (by kernel_rfl) (by kernel_rfl) (by kernel_rfl) (fun _ _ _ h => h) (Or.inl ⟨by kernel_rfl, fun w' hSw => by kernel_rfl⟩) hS ?_
      simp only [Act.put, List.setIfInBounds_toArray, List.set_cons_zero, List.set_cons_succ]
      refine takeR (i := 16) (v := .pointer (some ⟨g2, 0, none⟩)) (some 98) rfl rfl (by kernel_rfl) (by kernel_rfl) (by kernel_rfl) (fun _ _ _ h => h) (Or.inl ⟨by kernel_rfl, fun w' hSw => by kernel_rfl⟩) hS ?_
      simp only [Act.put, List.setIfInBounds_toArray, List.set_cons_zero, List.set_cons_succ]
      refine takeR (i := 17) (v := .bool true) (some 99) rfl rfl (by kernel_rfl) (by kernel_rfl) (by kernel_rfl) (fun _ _ _ h => h) (Or.inl ⟨by kernel_rfl, fun w' hSw => by exact ptrM_run (ad := ⟨g2, 0, none⟩) (.tmp 98) (.const (.pointer none)) rfl (by kernel_rfl) rfl _⟩) hS ?_
      simp only [Act.put, List.setIfInBounds_toArray, List.set_cons_zero, List.set_cons_succ]
      refine takeR (i := 18) (v := .bool true) (some 100) rfl rfl (by kernel_rfl) (by kernel_rfl) (by kernel_rfl) (fun _ _ _ h => h) (Or.inl ⟨by kernel_rfl, fun w' hSw => by kernel_rfl⟩) hS ?_
      simp only [Act.put, List.setIfInBounds_toArray, List.set_cons_zero, List.set_cons_succ]
      refine takeR (i := 19) (v := .pointer (some ⟨g2, 0, none⟩)) (some 101) rfl rfl (by kernel_rfl) (by kernel_rfl) (by kernel_rfl) (fun _ _ _ h => h) (Or.inl ⟨by kernel_rfl, fun w' hSw => by kernel_rfl⟩) hS ?_
      simp only [Act.put, List.setIfInBounds_toArray, List.set_cons_zero, List.set_cons_succ]
      refine takeR (i := 22) (v := .pointer (some ⟨gy, 0, none⟩)) (some 104) rfl rfl (by kernel_rfl) (by kernel_rfl) (by kernel_rfl) (fun _ _ _ h => h) (Or.inl ⟨by kernel_rfl, fun w' hSw => by kernel_rfl⟩) hS ?_
      simp only [Act.put, List.setIfInBounds_toArray, List.set_cons_zero, List.set_cons_succ]
      have hby := Bytes_any HA.out.2.1 H9.out.2.2.2.2.2.1 (by have := H9.out.2.2.2.2.2.2; omega)
      rw [H9.out.2.2.1, HG2.out] at hby
      refine wpAnyH_ready (rs := [20]) (by kernel_rfl) (by simp) ?_
      refine AllReadyH.cons rfl (fun K1 hK1 => ?_) AllReadyH.nil
      rw [if_pos (by kernel_rfl)]
      refine callR (d := some 102) rfl 13 #[.pointer (some ⟨g2, 0, none⟩)] (by kernel_rfl) hby ?_
      clear hby
      rintro e WY ⟨v1, rfl, hx1⟩
      refine ⟨_, rfl, ?_⟩
      have hrb := refBytes_any (HA.out.2.2.below hx1.out.bel) H9.out.2.2.2.2.1
      have HB1 : Hid (OT w WY v l c pm g f6 t gx xv L ∧ By WY v1 (tpL (csL M) M.length)) := ⟨HA.out.1.below hx1.out.bel, hx1.out.by'⟩
      clear hx1 HA
      refine hK1.out _ _ hS (fun _ => ?_)
      clear hK1
      simp only [Act.put, List.setIfInBounds_toArray, List.set_cons_zero, List.set_cons_succ]
      refine wpAnyH_ready (rs := [21, 23]) (by kernel_rfl) (by simp) ?_
      refine AllReadyH.cons rfl (fun K1 hK1 => ?_) (AllReadyH.cons rfl (fun K1 hK1 => ?_) AllReadyH.nil)
      · skip
        rw [if_pos (by kernel_rfl)]
        refine valR (d := some 103) rfl (.string (ofN (tpL (csL M) M.length))) (conv_run (.tmp 102) rfl (by kernel_rfl) HB1.out.2) ?_
        refine hK1.out _ _ hS (fun _ => ?_)
        clear hK1
        simp only [Act.put, List.setIfInBounds_toArray, List.set_cons_zero, List.set_cons_succ]
        refine wpAnyH_ready (rs := [23]) (by kernel_rfl) (by simp) ?_
        refine AllReadyH.cons rfl (fun K1 hK1 => ?_) AllReadyH.nil
        rw [if_pos (by kernel_rfl)]
        refine callR (d := some 105) rfl 24 #[.pointer (some ⟨gy, 0, none⟩)] (by kernel_rfl) hrb ?_
        clear hrb
        rintro e WZ ⟨v2, rfl, hx2⟩
        refine ⟨_, rfl, ?_⟩
        have HB : Hid (OT w WZ v l c pm g f6 t gx xv L ∧ By WZ v1 (tpL (csL M) M.length) ∧ By WZ v2 (tpL (csL M) M.length)) := ⟨HB1.out.1.below hx2.out.bel, HB1.out.2.below hx2.out.bel, hx2.out.by'⟩
        clear hx2 HB1
        refine hK1.out _ _ hS (fun _ => ?_)
        clear hK1
        simp only [Act.put, List.setIfInBounds_toArray, List.set_cons_zero, List.set_cons_succ]
        refine wpAnyH_ready (rs := [24]) (by kernel_rfl) (by simp) ?_
        refine AllReadyH.cons rfl (fun K1 hK1 => ?_) AllReadyH.nil
        rw [if_pos (by kernel_rfl)]
        refine valR (d := some 106) rfl (.string (ofN (tpL (csL M) M.length))) (conv_run (.tmp 105) rfl (by kernel_rfl) HB.out.2.2) ?_
        refine hK1.out _ _ hS (fun _ => ?_)
        clear hK1
        simp only [Act.put, List.setIfInBounds_toArray, List.set_cons_zero, List.set_cons_succ]
        refine takeR (i := 25) (v := .bool false) (some 107) rfl rfl (by kernel_rfl) (by kernel_rfl) (by kernel_rfl) (fun _ _ _ h => h) (Or.inl ⟨by kernel_rfl, fun w' hSw => by exact neS_run (s := ofN (tpL (csL M) M.length)) (t := ofN (tpL (csL M) M.length)) (.tmp 103) (.tmp 106) rfl (by kernel_rfl) (by kernel_rfl) rfl _⟩) hS ?_
        simp only [Act.put, List.setIfInBounds_toArray, List.set_cons_zero, List.set_cons_succ]
        refine takeR (i := 26) (v := .bool false) (some 108) rfl rfl (by kernel_rfl) (by kernel_rfl) (by kernel_rfl) (fun _ _ _ h => h) (Or.inl ⟨by kernel_rfl, fun w' hSw => by kernel_rfl⟩) hS ?_
        simp only [Act.put, List.setIfInBounds_toArray, List.set_cons_zero, List.set_cons_succ]
        refine takeR (i := 27) (v := .bool false) (some 109) rfl rfl (by kernel_rfl) (by kernel_rfl) (by kernel_rfl) (fun _ _ _ h => h) (Or.inl ⟨by kernel_rfl, fun w' hSw => by kernel_rfl⟩) hS ?_
        simp only [Act.put, List.setIfInBounds_toArray, List.set_cons_zero, List.set_cons_succ]
        refine wpAnyH_done (by kernel_rfl) ?_ _
        first
          | refine hK9 _ _ (hJ9 _ _ ?_)
          | refine hJ9 _ _ ?_
        repeat apply Exists.intro
        exact ⟨⟨rfl, HB.out.1⟩, rfl⟩
      · skip
        rw [if_pos (by kernel_rfl)]
        refine callR (d := some 105) rfl 24 #[.pointer (some ⟨gy, 0, none⟩)] (by kernel_rfl) hrb ?_
        clear hrb
        rintro e WZ ⟨v2, rfl, hx2⟩
        refine ⟨_, rfl, ?_⟩
        have HB : Hid (OT w WZ v l c pm g f6 t gx xv L ∧ By WZ v1 (tpL (csL M) M.length) ∧ By WZ v2 (tpL (csL M) M.length)) := ⟨HB1.out.1.below hx2.out.bel, HB1.out.2.below hx2.out.bel, hx2.out.by'⟩
        clear hx2 HB1
        refine hK1.out _ _ hS (fun _ => ?_)
        clear hK1
        simp only [Act.put, List.setIfInBounds_toArray, List.set_cons_zero, List.set_cons_succ]
        refine wpAnyH_ready (rs := [21, 24]) (by kernel_rfl) (by simp) ?_
        refine AllReadyH.cons rfl (fun K1 hK1 => ?_) (AllReadyH.cons rfl (fun K1 hK1 => ?_) AllReadyH.nil)
        · skip
          rw [if_pos (by kernel_rfl)]
          refine valR (d := some 103) rfl (.string (ofN (tpL (csL M) M.length))) (conv_run (.tmp 102) rfl (by kernel_rfl) HB.out.2.1) ?_
          refine hK1.out _ _ hS (fun _ => ?_)
          clear hK1
          simp only [Act.put, List.setIfInBounds_toArray, List.set_cons_zero, List.set_cons_succ]
          refine wpAnyH_ready (rs := [24]) (by kernel_rfl) (by simp) ?_
          refine AllReadyH.cons rfl (fun K1 hK1 => ?_) AllReadyH.nil
          rw [if_pos (by kernel_rfl)]
          refine valR (d := some 106) rfl (.string (ofN (tpL (csL M) M.length))) (conv_run (.tmp 105) rfl (by kernel_rfl) HB.out.2.2) ?_
          refine hK1.out _ _ hS (fun _ => ?_)
          clear hK1
          simp only [Act.put, List.setIfInBounds_toArray, List.set_cons_zero, List.set_cons_succ]
          refine takeR (i := 25) (v := .bool false) (some 107) rfl rfl (by kernel_rfl) (by kernel_rfl) (by kernel_rfl) (fun _ _ _ h => h) (Or.inl ⟨by kernel_rfl, fun w' hSw => by exact neS_run (s := ofN (tpL (csL M) M.length)) (t := ofN (tpL (csL M) M.length)) (.tmp 103) (.tmp 106) rfl (by kernel_rfl) (by kernel_rfl) rfl _⟩) hS ?_
          simp only [Act.put, List.setIfInBounds_toArray, List.set_cons_zero, List.set_cons_succ]
          refine takeR (i := 26) (v := .bool false) (some 108) rfl rfl (by kernel_rfl) (by kernel_rfl) (by kernel_rfl) (fun _ _ _ h => h) (Or.inl ⟨by kernel_rfl, fun w' hSw => by kernel_rfl⟩) hS ?_
          simp only [Act.put, List.setIfInBounds_toArray, List.set_cons_zero, List.set_cons_succ]
          refine takeR (i := 27) (v := .bool false) (some 109) rfl rfl (by kernel_rfl) (by kernel_rfl) (by kernel_rfl) (fun _ _ _ h => h) (Or.inl ⟨by kernel_rfl, fun w' hSw => by kernel_rfl⟩) hS ?_
          simp only [Act.put, List.setIfInBounds_toArray, List.set_cons_zero, List.set_cons_succ]
          refine wpAnyH_done (by kernel_rfl) ?_ _
          first
            | refine hK9 _ _ (hJ9 _ _ ?_)
            | refine hJ9 _ _ ?_
          repeat apply Exists.intro
          exact ⟨⟨rfl, HB.out.1⟩, rfl⟩
        · skip
          rw [if_pos (by kernel_rfl)]
          refine valR (d := some 106) rfl (.string (ofN (tpL (csL M) M.length))) (conv_run (.tmp 105) rfl (by kernel_rfl) HB.out.2.2) ?_
          refine hK1.out _ _ hS (fun _ => ?_)
          clear hK1
          simp only [Act.put, List.setIfInBounds_toArray, List.set_cons_zero, List.set_cons_succ]
          refine wpAnyH_ready (rs := [21]) (by kernel_rfl) (by simp) ?_
          refine AllReadyH.cons rfl (fun K1 hK1 => ?_) AllReadyH.nil
          rw [if_pos (by kernel_rfl)]
          refine valR (d := some 103) rfl (.string (ofN (tpL (csL M) M.length))) (conv_run (.tmp 102) rfl (by kernel_rfl) HB.out.2.1) ?_
          refine hK1.out _ _ hS (fun _ => ?_)
          clear hK1
          simp only [Act.put, List.setIfInBounds_toArray, List.set_cons_zero, List.set_cons_succ]
          refine takeR (i := 25) (v := .bool false) (some 107) rfl rfl (by kernel_rfl) (by kernel_rfl) (by kernel_rfl) (fun _ _ _ h => h) (Or.inl ⟨by kernel_rfl, fun w' hSw => by exact neS_run (s := ofN (tpL (csL M) M.length)) (t := ofN (tpL (csL M) M.length)) (.tmp 103) (.tmp 106) rfl (by kernel_rfl) (by kernel_rfl) rfl _⟩) hS ?_
          simp only [Act.put, List.setIfInBounds_toArray, List.set_cons_zero, List.set_cons_succ]
          refine takeR (i := 26) (v := .bool false) (some 108) rfl rfl (by kernel_rfl) (by kernel_rfl) (by kernel_rfl) (fun _ _ _ h => h) (Or.inl ⟨by kernel_rfl, fun w' hSw => by kernel_rfl⟩) hS ?_
          simp only [Act.put, List.setIfInBounds_toArray, List.set_cons_zero, List.set_cons_succ]
          refine takeR (i := 27) (v := .bool false) (some 109) rfl rfl (by kernel_rfl) (by kernel_rfl) (by kernel_rfl) (fun _ _ _ h => h) (Or.inl ⟨by kernel_rfl, fun w' hSw => by kernel_rfl⟩) hS ?_
          simp only [Act.put, List.setIfInBounds_toArray, List.set_cons_zero, List.set_cons_succ]
          refine wpAnyH_done (by kernel_rfl) ?_ _
          first
            | refine hK9 _ _ (hJ9 _ _ ?_)
            | refine hJ9 _ _ ?_
          repeat apply Exists.intro
          exact ⟨⟨rfl, HB.out.1⟩, rfl⟩
    case rest =>
      obtain ⟨rfl, HC⟩ := hcut
      have hvf' := HLv.out.2
      go_upto_region 15 with fail
      have hbd : Below wc.heap.size wc wc.drew := ⟨rfl, rfl, rfl, Nat.le_refl _, fun _ _ => rfl⟩
      have HD : Hid (OT w wc.drew v l c pm g f6 t gx xv L) := HC.out.below hbd
      clear hbd HC
      have HCt : Hid (∀ W, By W v l → By W (cutV v 0 at_ cap) (l.take at_)) := fun W hW => by
        rw [hvf'] at hW ⊢
        have := hW.cut (lo := 0) (hi := at_) (mx := cap) (Nat.zero_le _) HAt.out.2 (by have := HAt.out.2; omega) (Nat.le_refl _)
        rw [List.drop_zero, Nat.sub_zero] at this
        exact this
      refine wp_region_held (S := fun w' => By w' (cutV v 0 at_ cap) (l.take at_)) (by kernel_rfl) ?_
      change wpAnyH _ _ _ _ _ _ _ _ (World.drew _)
      generalize wc.drew = WD at *
      have hS := HCt.out WD HD.out.os.by'
      obtain ⟨hb1, hb2, hb3⟩ := HD.out.bd
      have hln := Len_any HD.out.tp (by rw [hb3]; have := HD.out.ln; omega)
      rw [hb3, HTG.out] at hln
      have hrl := refLen_any HD.out.rt (by have := HD.out.ln; omega)
      have hby := Bytes_any HD.out.tp hb1 (by omega)
      rw [HTG.out, HAt.out.1] at hby
      refine takeR (i := 0) (v := .pointer (some ⟨tg, 0, none⟩)) (some 112) rfl rfl (by kernel_rfl) (by kernel_rfl) (by kernel_rfl) (fun _ _ _ h => h) (Or.inl ⟨by kernel_rfl, fun w' hSw => by kernel_rfl⟩) hS ?_
      simp only [Act.put, List.setIfInBounds_toArray, List.set_cons_zero, List.set_cons_succ]
      refine takeR (i := 2) (v := .pointer (some ⟨gx, 0, none⟩)) (some 114) rfl rfl (by kernel_rfl) (by kernel_rfl) (by kernel_rfl) (fun _ _ _ h => h) (Or.inl ⟨by kernel_rfl, fun w' hSw => by kernel_rfl⟩) hS ?_
      simp only [Act.put, List.setIfInBounds_toArray, List.set_cons_zero, List.set_cons_succ]
      refine wpAnyH_ready (rs := [1]) (by kernel_rfl) (by simp) ?_
      refine AllReadyH.cons rfl (fun K1 hK1 => ?_) AllReadyH.nil
      rw [if_pos (by kernel_rfl)]
      refine callR (d := some 113) rfl 15 #[.pointer (some ⟨tg, 0, none⟩)] (by kernel_rfl) hln ?_
      rintro e w7 ⟨rfl, ew⟩
      replace ew := ew.symm
      subst ew
      refine ⟨_, rfl, ?_⟩
      refine hK1.out _ _ hS (fun _ => ?_)
      clear hK1 hln
      simp only [Act.put, List.setIfInBounds_toArray, List.set_cons_zero, List.set_cons_succ]
      refine wpAnyH_ready (rs := [3]) (by kernel_rfl) (by simp) ?_
      refine AllReadyH.cons rfl (fun K1 hK1 => ?_) AllReadyH.nil
      rw [if_pos (by kernel_rfl)]
      refine callR (d := some 115) rfl 23 #[.pointer (some ⟨gx, 0, none⟩)] (by kernel_rfl) hrl ?_
      rintro e w7 ⟨rfl, ew⟩
      replace ew := ew.symm
      subst ew
      refine ⟨_, rfl, ?_⟩
      refine hK1.out _ _ hS (fun _ => ?_)
      clear hK1 hrl
      simp only [Act.put, List.setIfInBounds_toArray, List.set_cons_zero, List.set_cons_succ]
      refine takeR (i := 4) (v := .bool false) (some 116) rfl rfl (by kernel_rfl) (by kernel_rfl) (by kernel_rfl) (fun _ _ _ h => h) (Or.inl ⟨by kernel_rfl, fun w' hSw => by exact neN_run (N := L.length) (.tmp 113) (.tmp 115) rfl (by kernel_rfl) (by kernel_rfl) _⟩) hS ?_
      simp only [Act.put, List.setIfInBounds_toArray, List.set_cons_zero, List.set_cons_succ]
      refine takeR (i := 5) (v := .bool false) (some 117) rfl rfl (by kernel_rfl) (by kernel_rfl) (by kernel_rfl) (fun _ _ _ h => h) (Or.inl ⟨by kernel_rfl, fun w' hSw => by kernel_rfl⟩) hS ?_
      simp only [Act.put, List.setIfInBounds_toArray, List.set_cons_zero, List.set_cons_succ]
      refine takeR (i := 6) (v := .pointer (some ⟨tg, 0, none⟩)) (some 118) rfl rfl (by kernel_rfl) (by kernel_rfl) (by kernel_rfl) (fun _ _ _ h => h) (Or.inl ⟨by kernel_rfl, fun w' hSw => by kernel_rfl⟩) hS ?_
      simp only [Act.put, List.setIfInBounds_toArray, List.set_cons_zero, List.set_cons_succ]
      refine takeR (i := 9) (v := v) (some 121) rfl rfl (by kernel_rfl) (by kernel_rfl) (by kernel_rfl) (fun _ _ _ h => h) (Or.inl ⟨by kernel_rfl, fun w' hSw => by kernel_rfl⟩) hS ?_
      simp only [Act.put, List.setIfInBounds_toArray, List.set_cons_zero, List.set_cons_succ]
      refine takeR (i := 10) (v := .int .i64 (at_ : Int)) (some 122) rfl rfl (by kernel_rfl) (by kernel_rfl) (by kernel_rfl) (fun _ _ _ h => h) (Or.inl ⟨by kernel_rfl, fun w' hSw => by kernel_rfl⟩) hS ?_
      simp only [Act.put, List.setIfInBounds_toArray, List.set_cons_zero, List.set_cons_succ]
      refine takeR (i := 11) (v := cutV v 0 at_ cap) (some 123) rfl rfl (by kernel_rfl) (by kernel_rfl) (by kernel_rfl) (fun _ _ _ h => h) (Or.inl ⟨by kernel_rfl, fun w' hSw => by exact sliceV_run hvf' (.tmp 121) (.tmp 122) rfl (by kernel_rfl) (by kernel_rfl) (by have := HAt.out.2; omega) _⟩) hS ?_
      simp only [Act.put, List.setIfInBounds_toArray, List.set_cons_zero, List.set_cons_succ]
      refine takeR (i := 12) (v := .string (ofN (l.take at_))) (some 124) rfl rfl (by kernel_rfl) (by kernel_rfl) (by kernel_rfl) (fun _ _ _ h => h) (Or.inl ⟨by kernel_rfl, fun w' hSw => by exact conv_run (.tmp 123) rfl (by kernel_rfl) hSw⟩) hS ?_
      simp only [Act.put, List.setIfInBounds_toArray, List.set_cons_zero, List.set_cons_succ]
      refine wpAnyH_ready (rs := [7]) (by kernel_rfl) (by simp) ?_
      refine AllReadyH.cons rfl (fun K1 hK1 => ?_) AllReadyH.nil
      rw [if_pos (by kernel_rfl)]
      refine callR (d := some 119) rfl 13 #[.pointer (some ⟨tg, 0, none⟩)] (by kernel_rfl) hby ?_
      clear hby
      rintro e WE ⟨v1, rfl, hx⟩
      refine ⟨_, rfl, ?_⟩
      have HE : Hid (OT w WE v l c pm g f6 t gx xv L) := HD.out.below hx.out.bel
      have hS2 := HCt.out WE HE.out.os.by'
      have hy1 := hx.out.by'
      clear hx HD hS
      refine hK1.out _ _ hS2 (fun _ => ?_)
      clear hK1
      simp only [Act.put, List.setIfInBounds_toArray, List.set_cons_zero, List.set_cons_succ]
      refine wpAnyH_ready (rs := [8]) (by kernel_rfl) (by simp) ?_
      refine AllReadyH.cons rfl (fun K1 hK1 => ?_) AllReadyH.nil
      rw [if_pos (by kernel_rfl)]
      refine valR (d := some 120) rfl (.string (ofN (l.take at_))) (conv_run (.tmp 119) rfl (by kernel_rfl) hy1) ?_
      refine hK1.out _ _ hS2 (fun _ => ?_)
      clear hK1 hy1
      simp only [Act.put, List.setIfInBounds_toArray, List.set_cons_zero, List.set_cons_succ]
      refine takeR (i := 13) (v := .bool false) (some 125) rfl rfl (by kernel_rfl) (by kernel_rfl) (by kernel_rfl) (fun _ _ _ h => h) (Or.inl ⟨by kernel_rfl, fun w' hSw => by exact neS_run (s := ofN (l.take at_)) (t := ofN (l.take at_)) (.tmp 120) (.tmp 124) rfl (by kernel_rfl) (by kernel_rfl) rfl _⟩) hS2 ?_
      simp only [Act.put, List.setIfInBounds_toArray, List.set_cons_zero, List.set_cons_succ]
      refine takeR (i := 14) (v := .bool false) (some 126) rfl rfl (by kernel_rfl) (by kernel_rfl) (by kernel_rfl) (fun _ _ _ h => h) (Or.inl ⟨by kernel_rfl, fun w' hSw => by kernel_rfl⟩) hS2 ?_
      simp only [Act.put, List.setIfInBounds_toArray, List.set_cons_zero, List.set_cons_succ]
      refine wpAnyH_done (by kernel_rfl) ?_ _
      clear hS2 hb1 hb2 hb3
      generalize ofN (l.take at_) = s1
      generalize cutV v 0 at_ cap = cc1
      obtain ⟨n, hn⟩ : ∃ n, n = L.length := ⟨_, rfl⟩
      have HN : Hid (n = L.length) := hn
      have hn6 : n ≤ 1000000 := by rw [hn]; exact HE.out.ln
      rw [← hn]
      clear hn
      go_upto_region 17 with fail
      go_wp2
      go_loopw [20] (fun x wr => ∃ i : Nat, i ≤ n ∧ x = .int .i64 (i : Int) ∧ Hid (OT w wr v l c pm g f6 t gx xv L)) (fun x _ => n - (intOf x).toNat)
      case atStart => exact ⟨0, Nat.zero_le _, rfl, HE⟩
      case round =>
        clear HE
        obtain ⟨i, hin, rfl, HR⟩ := hrel
        have hrl := refLen_any HR.out.rt (by have := HR.out.ln; omega)
        rw [← HN.out] at hrl
        go_upto_region 18 with fail
        rename_i K hK
        refine wp_region_lit ?_
        refine wpList_runTo rfl (some 127) rfl (.int .i64 (i : Int)) wr (by kernel_rfl) ?_
        simp only [Act.put, List.setIfInBounds_toArray, List.set_cons_zero, List.set_cons_succ]
        refine wpList_runTo rfl (some 128) rfl (.pointer (some ⟨gx, 0, none⟩)) wr (by kernel_rfl) ?_
        simp only [Act.put, List.setIfInBounds_toArray, List.set_cons_zero, List.set_cons_succ]
        refine wpList_callW rfl (some 129) rfl 23 #[.pointer (some ⟨gx, 0, none⟩)] (by kernel_rfl) hrl ?_
        clear hrl
        rintro e w7 ⟨rfl, ew⟩
        replace ew := ew.symm
        subst ew
        refine ⟨_, rfl, ?_⟩
        simp only [Act.put, List.setIfInBounds_toArray, List.set_cons_zero, List.set_cons_succ]
        by_cases hi : i < n
        · skip
          refine wpList_runTo rfl (some 130) rfl (.bool true) wr (by exact ltN_run (n := i) (k := n) (.tmp 127) (.tmp 129) rfl (by kernel_rfl) (by kernel_rfl) (decide_eq_true hi) _) ?_
          simp only [Act.put, List.setIfInBounds_toArray, List.set_cons_zero, List.set_cons_succ]
          refine wpList_nil ?_
          refine hK _ _ ?_
          clear hK
          obtain ⟨d, hd⟩ : ∃ d, L[i]? = some d := ⟨_, List.getElem?_eq_getElem (by rw [← HN.out]; exact hi)⟩
          have hcm := HR.out.cmd hd
          rw [HTG.out] at hcm
          go_upto_region 20 with fail
          rename_i K hK
          refine wp_region_lit ?_
          refine wpList_runTo rfl (some 134) rfl (.pointer (some ⟨tg, 0, none⟩)) wr (by kernel_rfl) ?_
          simp only [Act.put, List.setIfInBounds_toArray, List.set_cons_zero, List.set_cons_succ]
          refine wpList_runTo rfl (some 135) rfl (.int .i64 (i : Int)) wr (by kernel_rfl) ?_
          simp only [Act.put, List.setIfInBounds_toArray, List.set_cons_zero, List.set_cons_succ]
          refine wpList_callW rfl (some 136) rfl 16 #[.pointer (some ⟨tg, 0, none⟩), .int .i64 (i : Int)] (by kernel_rfl) hcm ?_
          clear hcm
          rintro e WF ⟨rfl, hb⟩
          refine ⟨_, rfl, ?_⟩
          simp only [Act.put, List.setIfInBounds_toArray, List.set_cons_zero, List.set_cons_succ]
          refine wpList_runTo rfl (some 133) rfl (.tuple #[.agg d.cs, .int .i64 0]) WF (by kernel_rfl) ?_
          simp only [Act.put, List.setIfInBounds_toArray, List.set_cons_zero, List.set_cons_succ]
          refine wpList_runTo rfl (some 137) rfl (.agg d.cs) WF (by kernel_rfl) ?_
          simp only [Act.put, List.setIfInBounds_toArray, List.set_cons_zero, List.set_cons_succ]
          refine wpList_runTo rfl (some 138) rfl (.int .i64 0) WF (by kernel_rfl) ?_
          simp only [Act.put, List.setIfInBounds_toArray, List.set_cons_zero, List.set_cons_succ]
          refine wpList_runTo rfl (some 21) rfl (.pointer (some ⟨WF.heap.size, 0, none⟩)) (WF.alloc (.cells zeroC.cs 27)) (by kernel_rfl) ?_
          simp only [Act.put, List.setIfInBounds_toArray, List.set_cons_zero, List.set_cons_succ]
          refine store_cmd (c := d) (c' := zeroC) (Blk.new WF _ _) (.tmp 21) (.tmp 137) rfl rfl (by kernel_rfl) (by kernel_rfl) ?_
          simp only [Act.put, List.setIfInBounds_toArray, List.set_cons_zero, List.set_cons_succ]
          have HR2 : Hid (OT w ((WF.alloc (.cells zeroC.cs 27)).setRow WF.heap.size d.cs) v l c pm g f6 t gx xv L ∧ Blk ((WF.alloc (.cells zeroC.cs 27)).setRow WF.heap.size d.cs) WF.heap.size 27 d.cs) := ⟨(HR.out.below hb.out).below new_set.1, new_set.2⟩
          clear HR hb
          generalize (WF.alloc (.cells zeroC.cs 27)).setRow WF.heap.size d.cs = WG at *
          generalize WF.heap.size = q1 at *
          refine wpList_runTo rfl (some 22) rfl (.int .i64 0) WG (by kernel_rfl) ?_
          simp only [Act.put, List.setIfInBounds_toArray, List.set_cons_zero, List.set_cons_succ]
          refine wpList_nil ?_
          refine hK _ _ ?_
          clear hK
          obtain ⟨dc, hdc⟩ : ∃ dc, dc = d.cs := ⟨_, rfl⟩
          rw [← hdc]
          have hrc := refCommand_yes HR2.out.1.rt (by have := HR2.out.1.ln; omega) hd
          clear hd
          go_upto_region 21 with fail
          rename_i K hK
          refine wp_region_lit ?_
          refine wpList_runTo rfl (some 140) rfl (.pointer (some ⟨gx, 0, none⟩)) WG (by kernel_rfl) ?_
          simp only [Act.put, List.setIfInBounds_toArray, List.set_cons_zero, List.set_cons_succ]
          refine wpList_runTo rfl (some 141) rfl (.int .i64 (i : Int)) WG (by kernel_rfl) ?_
          simp only [Act.put, List.setIfInBounds_toArray, List.set_cons_zero, List.set_cons_succ]
          refine wpList_callW rfl (some 142) rfl 26 #[.pointer (some ⟨gx, 0, none⟩), .int .i64 (i : Int)] (by kernel_rfl) hrc ?_
          clear hrc
          rintro e WH ⟨rfl, hb⟩
          refine ⟨_, rfl, ?_⟩
          simp only [Act.put, List.setIfInBounds_toArray, List.set_cons_zero, List.set_cons_succ]
          refine wpList_runTo rfl (some 139) rfl (.tuple #[.agg d.cs, .int .i64 0]) WH (by kernel_rfl) ?_
          simp only [Act.put, List.setIfInBounds_toArray, List.set_cons_zero, List.set_cons_succ]
          refine wpList_runTo rfl (some 143) rfl (.agg d.cs) WH (by kernel_rfl) ?_
          simp only [Act.put, List.setIfInBounds_toArray, List.set_cons_zero, List.set_cons_succ]
          refine wpList_runTo rfl (some 144) rfl (.int .i64 0) WH (by kernel_rfl) ?_
          simp only [Act.put, List.setIfInBounds_toArray, List.set_cons_zero, List.set_cons_succ]
          refine wpList_runTo rfl (some 23) rfl (.pointer (some ⟨WH.heap.size, 0, none⟩)) (WH.alloc (.cells zeroC.cs 27)) (by kernel_rfl) ?_
          simp only [Act.put, List.setIfInBounds_toArray, List.set_cons_zero, List.set_cons_succ]
          refine store_cmd (c := d) (c' := zeroC) (Blk.new WH _ _) (.tmp 23) (.tmp 143) rfl rfl (by kernel_rfl) (by kernel_rfl) ?_
          simp only [Act.put, List.setIfInBounds_toArray, List.set_cons_zero, List.set_cons_succ]
          have HR3 : Hid (OT w ((WH.alloc (.cells zeroC.cs 27)).setRow WH.heap.size d.cs) v l c pm g f6 t gx xv L ∧ Blk ((WH.alloc (.cells zeroC.cs 27)).setRow WH.heap.size d.cs) q1 27 d.cs ∧ Blk ((WH.alloc (.cells zeroC.cs 27)).setRow WH.heap.size d.cs) WH.heap.size 27 d.cs) := ⟨(HR2.out.1.below hb.out).below new_set.1, (HR2.out.2.below hb.out HR2.out.2.lt).below new_set.1 (HR2.out.2.below hb.out HR2.out.2.lt).lt, new_set.2⟩
          clear HR2 hb
          generalize (WH.alloc (.cells zeroC.cs 27)).setRow WH.heap.size d.cs = WI at *
          generalize WH.heap.size = q2 at *
          refine wpList_runTo rfl (some 24) rfl (.int .i64 0) WI (by kernel_rfl) ?_
          simp only [Act.put, List.setIfInBounds_toArray, List.set_cons_zero, List.set_cons_succ]
          refine wpList_nil ?_
          refine hK _ _ ?_
          clear hK
          rw [← hdc]
          go_upto_region 22 with fail
          rename_i K hK
          refine wp_region_lit ?_
          refine load_cmd (c := d) HR3.out.2.1 (.tmp 21) rfl rfl (by kernel_rfl) ?_
          simp only [Act.put, List.setIfInBounds_toArray, List.set_cons_zero, List.set_cons_succ]
          refine load_cmd (c := d) HR3.out.2.2 (.tmp 23) rfl rfl (by kernel_rfl) ?_
          simp only [Act.put, List.setIfInBounds_toArray, List.set_cons_zero, List.set_cons_succ]
          refine wpList_runTo rfl (some 147) rfl (.bool false) WI (by exact neC_run (c := d) (.tmp 145) (.tmp 146) rfl (by kernel_rfl) (by kernel_rfl) _) ?_
          simp only [Act.put, List.setIfInBounds_toArray, List.set_cons_zero, List.set_cons_succ]
          refine wpList_nil ?_
          refine hK _ _ ?_
          clear hK
          rw [← hdc]
          clear hdc
          have HR4 : Hid (OT w WI v l c pm g f6 t gx xv L) := HR3.out.1
          clear HR3
          go_wp2
          exact ⟨⟨i + 1, by omega, by go_num, HR4⟩, by simp [intOf]; omega⟩
        · skip
          refine wpList_runTo rfl (some 130) rfl (.bool false) wr (by exact ltN_run (n := i) (k := n) (.tmp 127) (.tmp 129) rfl (by kernel_rfl) (by kernel_rfl) (decide_eq_false hi) _) ?_
          simp only [Act.put, List.setIfInBounds_toArray, List.set_cons_zero, List.set_cons_succ]
          refine wpList_nil ?_
          refine hK _ _ ?_
          clear hK hi
          have hap := Append_L HR.out.tp HR.out.tl HR.out.bd.2.2 HR.out.rt.ok HR.out.ln c HL.out.2.2
          rw [HTG.out] at hap
          go_upto_region 24 with fail
          rename_i K hK
          refine wp_region_lit ?_
          refine wpList_runTo rfl (some 148) rfl (.pointer (some ⟨tg, 0, none⟩)) wr (by kernel_rfl) ?_
          simp only [Act.put, List.setIfInBounds_toArray, List.set_cons_zero, List.set_cons_succ]
          refine load_cmd (c := c) HR.out.os.pm_ (.tmp 3) rfl rfl (by kernel_rfl) ?_
          simp only [Act.put, List.setIfInBounds_toArray, List.set_cons_zero, List.set_cons_succ]
          refine wpList_callW rfl (some 150) rfl 12 #[.pointer (some ⟨tg, 0, none⟩), .agg c.cs] (by kernel_rfl) hap ?_
          clear hap
          rintro e WJ ⟨rfl, hx⟩
          refine ⟨_, rfl, ?_⟩
          simp only [Act.put, List.setIfInBounds_toArray, List.set_cons_zero, List.set_cons_succ]
          obtain ⟨t3, ht3, ht3g, ht3l, hfr3, ho3⟩ := hx.out
          obtain ⟨E, hE⟩ : ∃ E, E = apE c L.length := ⟨_, rfl⟩
          rw [← hE]
          refine wpList_runTo rfl (some 16) rfl (.int .i64 E) WJ (by kernel_rfl) ?_
          simp only [Act.put, List.setIfInBounds_toArray, List.set_cons_zero, List.set_cons_succ]
          refine wpList_nil ?_
          refine hK _ _ ?_
          clear hK hx
          have HJ : Hid (OS w WJ v l c pm g f6 ∧ TpAt WJ t3 ∧ t3.g = tg ∧ t3.l = tpL (csL (apL L c)) (apL L c).length ∧ RtAt WJ gx xv L ∧ (∀ b, t3.own b → ¬ rtOwn gx xv b)) := ⟨HR.out.os.fr hfr3 HR.out.tlo, ht3, ht3g, ht3l, HR.out.rt.fr hfr3 fun b hb e => HR.out.ap b e hb, fun b h1 h2 => by
            rcases ho3 b h1 with k | k
            · exact HR.out.ap b k h2
            · have := HR.out.rt.ltO h2; omega⟩
          have HLn : Hid (L.length ≤ 1000000 ∧ ∀ b, rtOwn gx xv b → w.heap.size ≤ b ∧ b ≠ g ∧ b ≠ pm) := ⟨HR.out.ln, HR.out.xlo⟩
          clear HR ht3 ht3g ht3l hfr3 ho3
          obtain ⟨dc, hdc⟩ : ∃ dc, dc = c.cs := ⟨_, rfl⟩
          rw [← hdc]
          have hrp := refAppend_L HJ.out.2.2.2.2.1 HLn.out.1 c HL.out.2.2
          rw [← hE] at hrp
          clear hE
          go_upto_region 25 with fail
          rename_i K hK
          refine wp_region_lit ?_
          refine wpList_runTo rfl (some 151) rfl (.pointer (some ⟨gx, 0, none⟩)) WJ (by kernel_rfl) ?_
          simp only [Act.put, List.setIfInBounds_toArray, List.set_cons_zero, List.set_cons_succ]
          refine load_cmd (c := c) HJ.out.1.pm_ (.tmp 3) rfl rfl (by kernel_rfl) ?_
          simp only [Act.put, List.setIfInBounds_toArray, List.set_cons_zero, List.set_cons_succ]
          refine wpList_callW rfl (some 153) rfl 21 #[.pointer (some ⟨gx, 0, none⟩), .agg c.cs] (by kernel_rfl) hrp ?_
          clear hrp
          rintro e WK ⟨rfl, hx⟩
          refine ⟨_, rfl, ?_⟩
          simp only [Act.put, List.setIfInBounds_toArray, List.set_cons_zero, List.set_cons_succ]
          obtain ⟨xv3, hx3, hfx3⟩ := hx.out
          rw [← hdc]
          clear hdc
          refine wpList_runTo rfl (some 19) rfl (.int .i64 E) WK (by kernel_rfl) ?_
          simp only [Act.put, List.setIfInBounds_toArray, List.set_cons_zero, List.set_cons_succ]
          refine wpList_nil ?_
          refine hK _ _ ?_
          clear hK hx
          have HK : Hid (OS w WK v l c pm g f6 ∧ TpAt WK t3 ∧ t3.g = tg ∧ t3.l = tpL (csL (apL L c)) (apL L c).length ∧ RtAt WK gx xv3 (apL L c)) := ⟨HJ.out.1.fr hfx3 HLn.out.2, HJ.out.2.1.fr hfx3 fun b h1 h2 => HJ.out.2.2.2.2.2 b h1 h2, HJ.out.2.2.1, HJ.out.2.2.2.1, hx3⟩
          have hM6 := apL_len L c HLn.out.1
          clear HJ HLn hx3 hfx3
          generalize apL L c = M at *
          have HKb : Hid (t3.l ≠ [] ∧ t3.l.length ≤ 700000000) := by
            have h0 := enN_le (csL M) (Nat.zero_le M.length)
            rw [enN_zero] at h0
            refine ⟨fun e2 => ?_, by rw [HK.out.2.2.2.1]; exact csL_len HK.out.2.2.2.2.ok hM6 (Nat.le_refl _)⟩
            have h1 := congrArg List.length e2
            rw [HK.out.2.2.2.1] at h1
            unfold enN at h0
            rw [h1] at h0
            simp at h0
          go_upto_region 26 with fail
          have hbd : Below WK.heap.size WK WK.drew := ⟨rfl, rfl, rfl, Nat.le_refl _, fun _ _ => rfl⟩
          have HA : Hid (OS w WK.drew v l c pm g f6 ∧ TpAt WK.drew t3 ∧ RtAt WK.drew gx xv3 M) := ⟨HK.out.1.below hbd, HK.out.2.1.below hbd, HK.out.2.2.2.2.below hbd⟩
          have HG3 : Hid (t3.g = tg) := HK.out.2.2.1
          have HL3 : Hid (t3.l = tpL (csL M) M.length) := HK.out.2.2.2.1
          clear hbd HK
          refine wp_region_held (S := fun _ => True) (by kernel_rfl) ?_
          change wpAnyH _ _ _ _ _ _ _ _ (World.drew _)
          generalize WK.drew = WX at *
          have hS : True := trivial
          refine takeR (i := 0) (v := .int .i64 E) (some 154) rfl rfl (by kernel_rfl) (by kernel_rfl) (by kernel_rfl) (fun _ _ _ h => h) (Or.inl ⟨by kernel_rfl, fun w' hSw => by kernel_rfl⟩) hS ?_
          simp only [Act.put, List.setIfInBounds_toArray, List.set_cons_zero, List.set_cons_succ]
          refine takeR (i := 1) (v := .int .i64 E) (some 155) rfl rfl (by kernel_rfl) (by kernel_rfl) (by kernel_rfl) (fun _ _ _ h => h) (Or.inl ⟨by kernel_rfl, fun w' hSw => by kernel_rfl⟩) hS ?_
          simp only [Act.put, List.setIfInBounds_toArray, List.set_cons_zero, List.set_cons_succ]
          refine takeR (i := 2) (v := .bool true) (some 156) rfl rfl (by kernel_rfl) (by kernel_rfl) (by kernel_rfl) (fun _ _ _ h => h) (Or.inl ⟨by kernel_rfl, fun w' hSw => by exact eqE2_run (z := E) (.tmp 154) (.tmp 155) rfl (by kernel_rfl) (by kernel_rfl) _⟩) hS ?_
          simp only [Act.put, List.setIfInBounds_toArray, List.set_cons_zero, List.set_cons_succ]
          refine takeR (i := 3) (v := .bool true) (some 157) rfl rfl (by kernel_rfl) (by kernel_rfl) (by kernel_rfl) (fun _ _ _ h => h) (Or.inl ⟨by kernel_rfl, fun w' hSw => by kernel_rfl⟩) hS ?_
          simp only [Act.put, List.setIfInBounds_toArray, List.set_cons_zero, List.set_cons_succ]
          refine takeR (i := 4) (v := .pointer (some ⟨tg, 0, none⟩)) (some 158) rfl rfl (by kernel_rfl) (by kernel_rfl) (by kernel_rfl) (fun _ _ _ h => h) (Or.inl ⟨by kernel_rfl, fun w' hSw => by kernel_rfl⟩) hS ?_
          simp only [Act.put, List.setIfInBounds_toArray, List.set_cons_zero, List.set_cons_succ]
          refine takeR (i := 7) (v := .pointer (some ⟨gx, 0, none⟩)) (some 161) rfl rfl (by kernel_rfl) (by kernel_rfl) (by kernel_rfl) (fun _ _ _ h => h) (Or.inl ⟨by kernel_rfl, fun w' hSw => by kernel_rfl⟩) hS ?_
          simp only [Act.put, List.setIfInBounds_toArray, List.set_cons_zero, List.set_cons_succ]
          have hby := Bytes_any HA.out.2.1 HKb.out.1 (by have := HKb.out.2; omega)
          rw [HL3.out, HG3.out] at hby
          refine wpAnyH_ready (rs := [5]) (by kernel_rfl) (by simp) ?_
          refine AllReadyH.cons rfl (fun K1 hK1 => ?_) AllReadyH.nil
          rw [if_pos (by kernel_rfl)]
          refine callR (d := some 159) rfl 13 #[.pointer (some ⟨tg, 0, none⟩)] (by kernel_rfl) hby ?_
          clear hby
          rintro e WY ⟨v1, rfl, hx1⟩
          refine ⟨_, rfl, ?_⟩
          have hrb := refBytes_any (HA.out.2.2.below hx1.out.bel) hM6
          have HB1 : Hid (OS w WY v l c pm g f6 ∧ By WY v1 (tpL (csL M) M.length)) := ⟨HA.out.1.below hx1.out.bel, hx1.out.by'⟩
          clear hx1 HA
          refine hK1.out _ _ hS (fun _ => ?_)
          clear hK1
          simp only [Act.put, List.setIfInBounds_toArray, List.set_cons_zero, List.set_cons_succ]
          refine wpAnyH_ready (rs := [6, 8]) (by kernel_rfl) (by simp) ?_
          refine AllReadyH.cons rfl (fun K1 hK1 => ?_) (AllReadyH.cons rfl (fun K1 hK1 => ?_) AllReadyH.nil)
          · skip
            rw [if_pos (by kernel_rfl)]
            refine valR (d := some 160) rfl (.string (ofN (tpL (csL M) M.length))) (conv_run (.tmp 159) rfl (by kernel_rfl) HB1.out.2) ?_
            refine hK1.out _ _ hS (fun _ => ?_)
            clear hK1
            simp only [Act.put, List.setIfInBounds_toArray, List.set_cons_zero, List.set_cons_succ]
            refine wpAnyH_ready (rs := [8]) (by kernel_rfl) (by simp) ?_
            refine AllReadyH.cons rfl (fun K1 hK1 => ?_) AllReadyH.nil
            rw [if_pos (by kernel_rfl)]
            refine callR (d := some 162) rfl 24 #[.pointer (some ⟨gx, 0, none⟩)] (by kernel_rfl) hrb ?_
            clear hrb
            rintro e WZ ⟨v2, rfl, hx2⟩
            refine ⟨_, rfl, ?_⟩
            have HB : Hid (OS w WZ v l c pm g f6 ∧ By WZ v1 (tpL (csL M) M.length) ∧ By WZ v2 (tpL (csL M) M.length)) := ⟨HB1.out.1.below hx2.out.bel, HB1.out.2.below hx2.out.bel, hx2.out.by'⟩
            clear hx2 HB1
            refine hK1.out _ _ hS (fun _ => ?_)
            clear hK1
            simp only [Act.put, List.setIfInBounds_toArray, List.set_cons_zero, List.set_cons_succ]
            refine wpAnyH_ready (rs := [9]) (by kernel_rfl) (by simp) ?_
            refine AllReadyH.cons rfl (fun K1 hK1 => ?_) AllReadyH.nil
            rw [if_pos (by kernel_rfl)]
            refine valR (d := some 163) rfl (.string (ofN (tpL (csL M) M.length))) (conv_run (.tmp 162) rfl (by kernel_rfl) HB.out.2.2) ?_
            refine hK1.out _ _ hS (fun _ => ?_)
            clear hK1
            simp only [Act.put, List.setIfInBounds_toArray, List.set_cons_zero, List.set_cons_succ]
            refine takeR (i := 10) (v := .bool true) (some 164) rfl rfl (by kernel_rfl) (by kernel_rfl) (by kernel_rfl) (fun _ _ _ h => h) (Or.inl ⟨by kernel_rfl, fun w' hSw => by exact eqS_run (s := ofN (tpL (csL M) M.length)) (.tmp 160) (.tmp 163) rfl (by kernel_rfl) (by kernel_rfl) _⟩) hS ?_
            simp only [Act.put, List.setIfInBounds_toArray, List.set_cons_zero, List.set_cons_succ]
            refine takeR (i := 11) (v := .bool true) (some 165) rfl rfl (by kernel_rfl) (by kernel_rfl) (by kernel_rfl) (fun _ _ _ h => h) (Or.inl ⟨by kernel_rfl, fun w' hSw => by kernel_rfl⟩) hS ?_
            simp only [Act.put, List.setIfInBounds_toArray, List.set_cons_zero, List.set_cons_succ]
            refine takeR (i := 12) (v := .bool true) (some 4) rfl rfl (by kernel_rfl) (by kernel_rfl) (by kernel_rfl) (fun _ _ _ h => h) (Or.inl ⟨by kernel_rfl, fun w' hSw => by kernel_rfl⟩) hS ?_
            simp only [Act.put, List.setIfInBounds_toArray, List.set_cons_zero, List.set_cons_succ]
            refine wpAnyH_done (by kernel_rfl) ?_ _
            generalize ofN (tpL (csL M) M.length) = s5
            go_wp2
            go_ret
            exact ⟨rfl, HB.out.1.bel⟩
          · skip
            rw [if_pos (by kernel_rfl)]
            refine callR (d := some 162) rfl 24 #[.pointer (some ⟨gx, 0, none⟩)] (by kernel_rfl) hrb ?_
            clear hrb
            rintro e WZ ⟨v2, rfl, hx2⟩
            refine ⟨_, rfl, ?_⟩
            have HB : Hid (OS w WZ v l c pm g f6 ∧ By WZ v1 (tpL (csL M) M.length) ∧ By WZ v2 (tpL (csL M) M.length)) := ⟨HB1.out.1.below hx2.out.bel, HB1.out.2.below hx2.out.bel, hx2.out.by'⟩
            clear hx2 HB1
            refine hK1.out _ _ hS (fun _ => ?_)
            clear hK1
            simp only [Act.put, List.setIfInBounds_toArray, List.set_cons_zero, List.set_cons_succ]
            refine wpAnyH_ready (rs := [6, 9]) (by kernel_rfl) (by simp) ?_
            refine AllReadyH.cons rfl (fun K1 hK1 => ?_) (AllReadyH.cons rfl (fun K1 hK1 => ?_) AllReadyH.nil)
            · skip
              rw [if_pos (by kernel_rfl)]
              refine valR (d := some 160) rfl (.string (ofN (tpL (csL M) M.length))) (conv_run (.tmp 159) rfl (by kernel_rfl) HB.out.2.1) ?_
              refine hK1.out _ _ hS (fun _ => ?_)
              clear hK1
              simp only [Act.put, List.setIfInBounds_toArray, List.set_cons_zero, List.set_cons_succ]
              refine wpAnyH_ready (rs := [9]) (by kernel_rfl) (by simp) ?_
              refine AllReadyH.cons rfl (fun K1 hK1 => ?_) AllReadyH.nil
              rw [if_pos (by kernel_rfl)]
              refine valR (d := some 163) rfl (.string (ofN (tpL (csL M) M.length))) (conv_run (.tmp 162) rfl (by kernel_rfl) HB.out.2.2) ?_
              refine hK1.out _ _ hS (fun _ => ?_)
              clear hK1
              simp only [Act.put, List.setIfInBounds_toArray, List.set_cons_zero, List.set_cons_succ]
              refine takeR (i := 10) (v := .bool true) (some 164) rfl rfl (by kernel_rfl) (by kernel_rfl) (by kernel_rfl) (fun _ _ _ h => h) (Or.inl ⟨by kernel_rfl, fun w' hSw => by exact eqS_run (s := ofN (tpL (csL M) M.length)) (.tmp 160) (.tmp 163) rfl (by kernel_rfl) (by kernel_rfl) _⟩) hS ?_
              simp only [Act.put, List.setIfInBounds_toArray, List.set_cons_zero, List.set_cons_succ]
              refine takeR (i := 11) (v := .bool true) (some 165) rfl rfl (by kernel_rfl) (by kernel_rfl) (by kernel_rfl) (fun _ _ _ h => h) (Or.inl ⟨by kernel_rfl, fun w' hSw => by kernel_rfl⟩) hS ?_
              simp only [Act.put, List.setIfInBounds_toArray, List.set_cons_zero, List.set_cons_succ]
              refine takeR (i := 12) (v := .bool true) (some 4) rfl rfl (by kernel_rfl) (by kernel_rfl) (by kernel_rfl) (fun _ _ _ h => h) (Or.inl ⟨by kernel_rfl, fun w' hSw => by kernel_rfl⟩) hS ?_
              simp only [Act.put, List.setIfInBounds_toArray, List.set_cons_zero, List.set_cons_succ]
              refine wpAnyH_done (by kernel_rfl) ?_ _
              generalize ofN (tpL (csL M) M.length) = s5
              go_wp2
              go_ret
              exact ⟨rfl, HB.out.1.bel⟩
            · skip
              rw [if_pos (by kernel_rfl)]
              refine valR (d := some 163) rfl (.string (ofN (tpL (csL M) M.length))) (conv_run (.tmp 162) rfl (by kernel_rfl) HB.out.2.2) ?_
              refine hK1.out _ _ hS (fun _ => ?_)
              clear hK1
              simp only [Act.put, List.setIfInBounds_toArray, List.set_cons_zero, List.set_cons_succ]
              refine wpAnyH_ready (rs := [6]) (by kernel_rfl) (by simp) ?_
              refine AllReadyH.cons rfl (fun K1 hK1 => ?_) AllReadyH.nil
              rw [if_pos (by kernel_rfl)]
              refine valR (d := some 160) rfl (.string (ofN (tpL (csL M) M.length))) (conv_run (.tmp 159) rfl (by kernel_rfl) HB.out.2.1) ?_
              refine hK1.out _ _ hS (fun _ => ?_)
              clear hK1
              simp only [Act.put, List.setIfInBounds_toArray, List.set_cons_zero, List.set_cons_succ]
              refine takeR (i := 10) (v := .bool true) (some 164) rfl rfl (by kernel_rfl) (by kernel_rfl) (by kernel_rfl) (fun _ _ _ h => h) (Or.inl ⟨by kernel_rfl, fun w' hSw => by exact eqS_run (s := ofN (tpL (csL M) M.length)) (.tmp 160) (.tmp 163) rfl (by kernel_rfl) (by kernel_rfl) _⟩) hS ?_
              simp only [Act.put, List.setIfInBounds_toArray, List.set_cons_zero, List.set_cons_succ]
              refine takeR (i := 11) (v := .bool true) (some 165) rfl rfl (by kernel_rfl) (by kernel_rfl) (by kernel_rfl) (fun _ _ _ h => h) (Or.inl ⟨by kernel_rfl, fun w' hSw => by kernel_rfl⟩) hS ?_
              simp only [Act.put, List.setIfInBounds_toArray, List.set_cons_zero, List.set_cons_succ]
              refine takeR (i := 12) (v := .bool true) (some 4) rfl rfl (by kernel_rfl) (by kernel_rfl) (by kernel_rfl) (fun _ _ _ h => h) (Or.inl ⟨by kernel_rfl, fun w' hSw => by kernel_rfl⟩) hS ?_
              simp only [Act.put, List.setIfInBounds_toArray, List.set_cons_zero, List.set_cons_succ]
              refine wpAnyH_done (by kernel_rfl) ?_ _
              generalize ofN (tpL (csL M) M.length) = s5
              go_wp2
              go_ret
              exact ⟨rfl, HB.out.1.bel⟩
  · skip
    have hop := Open_no hlv (by omega) hm
    clear hlv
    go_upto_region 3 with fail
    rename_i K hK
    refine wp_region_lit ?_
    refine wpList_runTo rfl (some 29) rfl (lv) W2 (by kernel_rfl) ?_
    simp only [Act.put, List.setIfInBounds_toArray, List.set_cons_zero, List.set_cons_succ]
    refine wpList_callW rfl (some 30) rfl 14 #[lv] (by kernel_rfl) hop ?_
    clear hop
    rintro e w3 ⟨rfl, ew⟩
    replace ew := ew.symm
    subst ew
    refine ⟨_, rfl, ?_⟩
    simp only [Act.put, List.setIfInBounds_toArray, List.set_cons_zero, List.set_cons_succ]
    refine wpList_runTo rfl (some 28) rfl (.tuple #[.pointer none, .int .i64 0, .int .i64 180]) W2 (by kernel_rfl) ?_
    simp only [Act.put, List.setIfInBounds_toArray, List.set_cons_zero, List.set_cons_succ]
    refine wpList_runTo rfl (some 31) rfl (.pointer none) W2 (by kernel_rfl) ?_
    simp only [Act.put, List.setIfInBounds_toArray, List.set_cons_zero, List.set_cons_succ]
    refine wpList_runTo rfl (some 32) rfl (.int .i64 0) W2 (by kernel_rfl) ?_
    simp only [Act.put, List.setIfInBounds_toArray, List.set_cons_zero, List.set_cons_succ]
    refine wpList_runTo rfl (some 33) rfl (.int .i64 180) W2 (by kernel_rfl) ?_
    simp only [Act.put, List.setIfInBounds_toArray, List.set_cons_zero, List.set_cons_succ]
    refine wpList_runTo rfl (some 7) rfl (.pointer none) W2 (by kernel_rfl) ?_
    simp only [Act.put, List.setIfInBounds_toArray, List.set_cons_zero, List.set_cons_succ]
    refine wpList_runTo rfl (some 8) rfl (.int .i64 0) W2 (by kernel_rfl) ?_
    simp only [Act.put, List.setIfInBounds_toArray, List.set_cons_zero, List.set_cons_succ]
    refine wpList_runTo rfl (some 9) rfl (.int .i64 180) W2 (by kernel_rfl) ?_
    simp only [Act.put, List.setIfInBounds_toArray, List.set_cons_zero, List.set_cons_succ]
    refine wpList_nil ?_
    refine hK _ _ ?_
    clear hK
    have hbk := HBk.out W2 _ HS2.out (fun j hj => by rw [if_pos hj]) (fun j hj => by rw [if_neg (by omega)])
    go_upto_region 4 with fail
    rename_i K hK
    refine wp_region_lit ?_
    refine wpList_runTo rfl (some 34) rfl (lv) W2 (by kernel_rfl) ?_
    simp only [Act.put, List.setIfInBounds_toArray, List.set_cons_zero, List.set_cons_succ]
    refine wpList_runTo rfl (some 35) rfl (v) W2 (by kernel_rfl) ?_
    simp only [Act.put, List.setIfInBounds_toArray, List.set_cons_zero, List.set_cons_succ]
    refine wpList_callW rfl (some 36) rfl 18 #[lv, v] (by kernel_rfl) hbk ?_
    clear hbk
    rintro e W4 ⟨rfl, ho, hf⟩
    refine ⟨_, rfl, ?_⟩
    simp only [Act.put, List.setIfInBounds_toArray, List.set_cons_zero, List.set_cons_succ]
    have HS4 : Hid (OS w W4 v l c pm g (fun _ => 202)) := HS2.out.turn hf ho
    clear HS2 ho hf
    refine wpList_runTo rfl (some 10) rfl (.bool true) W4 (by kernel_rfl) ?_
    simp only [Act.put, List.setIfInBounds_toArray, List.set_cons_zero, List.set_cons_succ]
    refine wpList_nil ?_
    refine hK _ _ ?_
    clear hK
    have hrp := refOpen_no HS4.out.by' (by omega) hm
    go_upto_region 5 with fail
    rename_i K hK
    refine wp_region_lit ?_
    refine wpList_runTo rfl (some 38) rfl (v) W4 (by kernel_rfl) ?_
    simp only [Act.put, List.setIfInBounds_toArray, List.set_cons_zero, List.set_cons_succ]
    refine wpList_callW rfl (some 39) rfl 28 #[v] (by kernel_rfl) hrp ?_
    clear hrp
    rintro e w5 ⟨rfl, ew⟩
    replace ew := ew.symm
    subst ew
    refine ⟨_, rfl, ?_⟩
    simp only [Act.put, List.setIfInBounds_toArray, List.set_cons_zero, List.set_cons_succ]
    refine wpList_runTo rfl (some 37) rfl (.tuple #[.pointer none, .int .i64 0, .int .i64 180]) W4 (by kernel_rfl) ?_
    simp only [Act.put, List.setIfInBounds_toArray, List.set_cons_zero, List.set_cons_succ]
    refine wpList_runTo rfl (some 40) rfl (.pointer none) W4 (by kernel_rfl) ?_
    simp only [Act.put, List.setIfInBounds_toArray, List.set_cons_zero, List.set_cons_succ]
    refine wpList_runTo rfl (some 41) rfl (.int .i64 0) W4 (by kernel_rfl) ?_
    simp only [Act.put, List.setIfInBounds_toArray, List.set_cons_zero, List.set_cons_succ]
    refine wpList_runTo rfl (some 42) rfl (.int .i64 180) W4 (by kernel_rfl) ?_
    simp only [Act.put, List.setIfInBounds_toArray, List.set_cons_zero, List.set_cons_succ]
    refine wpList_runTo rfl (some 11) rfl (.pointer none) W4 (by kernel_rfl) ?_
    simp only [Act.put, List.setIfInBounds_toArray, List.set_cons_zero, List.set_cons_succ]
    refine wpList_runTo rfl (some 12) rfl (.int .i64 0) W4 (by kernel_rfl) ?_
    simp only [Act.put, List.setIfInBounds_toArray, List.set_cons_zero, List.set_cons_succ]
    refine wpList_runTo rfl (some 13) rfl (.int .i64 180) W4 (by kernel_rfl) ?_
    simp only [Act.put, List.setIfInBounds_toArray, List.set_cons_zero, List.set_cons_succ]
    refine wpList_nil ?_
    refine hK _ _ ?_
    clear hK
    go_upto_region 6 with fail
    rename_i K hK
    refine wp_region_lit ?_
    refine wpList_runTo rfl (some 43) rfl (.bool true) W4 (by kernel_rfl) ?_
    simp only [Act.put, List.setIfInBounds_toArray, List.set_cons_zero, List.set_cons_succ]
    refine wpList_runTo rfl (some 44) rfl (.bool false) W4 (by kernel_rfl) ?_
    simp only [Act.put, List.setIfInBounds_toArray, List.set_cons_zero, List.set_cons_succ]
    refine wpList_runTo rfl (some 45) rfl (.bool false) W4 (by kernel_rfl) ?_
    simp only [Act.put, List.setIfInBounds_toArray, List.set_cons_zero, List.set_cons_succ]
    refine wpList_runToG (by kernel_rfl) (some 46) rfl (.bool true) W4 (by kernel_rfl) ?_
    simp only [Act.put, List.setIfInBounds_toArray, List.set_cons_zero, List.set_cons_succ]
    refine wpList_runToG (by kernel_rfl) (some 47) rfl (.bool false) W4 (by kernel_rfl) ?_
    simp only [Act.put, List.setIfInBounds_toArray, List.set_cons_zero, List.set_cons_succ]
    refine wpList_runTo rfl (some 48) rfl (.bool false) W4 (by kernel_rfl) ?_
    simp only [Act.put, List.setIfInBounds_toArray, List.set_cons_zero, List.set_cons_succ]
    refine wpList_runTo rfl (some 49) rfl (.bool false) W4 (by kernel_rfl) ?_
    simp only [Act.put, List.setIfInBounds_toArray, List.set_cons_zero, List.set_cons_succ]
    refine wpList_runToG (by kernel_rfl) (some 50) rfl (.int .i64 0) W4 (by kernel_rfl) ?_
    simp only [Act.put, List.setIfInBounds_toArray, List.set_cons_zero, List.set_cons_succ]
    refine wpList_runToG (by kernel_rfl) (some 51) rfl (.int .i64 0) W4 (by kernel_rfl) ?_
    simp only [Act.put, List.setIfInBounds_toArray, List.set_cons_zero, List.set_cons_succ]
    refine wpList_runToG (by kernel_rfl) (some 52) rfl (.bool false) W4 (by kernel_rfl) ?_
    simp only [Act.put, List.setIfInBounds_toArray, List.set_cons_zero, List.set_cons_succ]
    refine wpList_runTo rfl (some 53) rfl (.bool false) W4 (by kernel_rfl) ?_
    simp only [Act.put, List.setIfInBounds_toArray, List.set_cons_zero, List.set_cons_succ]
    refine wpList_runTo rfl (some 54) rfl (.bool false) W4 (by kernel_rfl) ?_
    simp only [Act.put, List.setIfInBounds_toArray, List.set_cons_zero, List.set_cons_succ]
    refine wpList_runToG (by kernel_rfl) (some 55) rfl (.int .i64 180) W4 (by kernel_rfl) ?_
    simp only [Act.put, List.setIfInBounds_toArray, List.set_cons_zero, List.set_cons_succ]
    refine wpList_runToG (by kernel_rfl) (some 56) rfl (.int .i64 180) W4 (by kernel_rfl) ?_
    simp only [Act.put, List.setIfInBounds_toArray, List.set_cons_zero, List.set_cons_succ]
    refine wpList_runToG (by kernel_rfl) (some 57) rfl (.bool false) W4 (by kernel_rfl) ?_
    simp only [Act.put, List.setIfInBounds_toArray, List.set_cons_zero, List.set_cons_succ]
    refine wpList_runTo rfl (some 58) rfl (.bool false) W4 (by kernel_rfl) ?_
    simp only [Act.put, List.setIfInBounds_toArray, List.set_cons_zero, List.set_cons_succ]
    refine wpList_runTo rfl (some 59) rfl (.bool false) W4 (by kernel_rfl) ?_
    simp only [Act.put, List.setIfInBounds_toArray, List.set_cons_zero, List.set_cons_succ]
    refine wpList_runToG (by kernel_rfl) (some 60) rfl (.pointer none) W4 (by kernel_rfl) ?_
    simp only [Act.put, List.setIfInBounds_toArray, List.set_cons_zero, List.set_cons_succ]
    refine wpList_runToG (by kernel_rfl) (some 61) rfl (.bool true) W4 (by kernel_rfl) ?_
    simp only [Act.put, List.setIfInBounds_toArray, List.set_cons_zero, List.set_cons_succ]
    refine wpList_runToG (by kernel_rfl) (some 62) rfl (.pointer none) W4 (by kernel_rfl) ?_
    simp only [Act.put, List.setIfInBounds_toArray, List.set_cons_zero, List.set_cons_succ]
    refine wpList_runToG (by kernel_rfl) (some 63) rfl (.bool true) W4 (by kernel_rfl) ?_
    simp only [Act.put, List.setIfInBounds_toArray, List.set_cons_zero, List.set_cons_succ]
    refine wpList_runToG (by kernel_rfl) (some 64) rfl (.bool false) W4 (by kernel_rfl) ?_
    simp only [Act.put, List.setIfInBounds_toArray, List.set_cons_zero, List.set_cons_succ]
    refine wpList_runTo rfl (some 65) rfl (.bool false) W4 (by kernel_rfl) ?_
    simp only [Act.put, List.setIfInBounds_toArray, List.set_cons_zero, List.set_cons_succ]
    refine wpList_nil ?_
    refine hK _ _ ?_
    clear hK
    obtain ⟨W6, f6, k6, hcp, ho6, hf6, hmg⟩ := copy_str (cap := l.length + 8) HS4.out.own ⟨#[79, 84, 65, 80]⟩
    rw [← hlvf] at hcp
    go_upto_region 8 with fail
    rename_i K hK
    refine wp_region_lit ?_
    refine wpList_runTo rfl (some 66) rfl (lv) W4 (by kernel_rfl) ?_
    simp only [Act.put, List.setIfInBounds_toArray, List.set_cons_zero, List.set_cons_succ]
    refine wpList_plain rfl fun K1 hK1 => ?_
    refine valR (d := some 67) rfl (w' := W6) (.int .i64 k6) (exec_copy (v1 := lv) (v2 := .string ⟨#[79, 84, 65, 80]⟩) (.tmp 66) (.const (.string ⟨#[79, 84, 65, 80]⟩)) rfl (by kernel_rfl) rfl hcp) ?_
    refine hK1 _ _ ?_
    clear hK1 hcp
    simp only [Act.put, List.setIfInBounds_toArray, List.set_cons_zero, List.set_cons_succ]
    refine wpList_nil ?_
    refine hK _ _ ?_
    clear hK
    have HS6 : Hid (OS w W6 v l c pm g f6) := HS4.out.turn hf6 ho6
    clear HS4 hf6 ho6 hmg
    obtain ⟨l2, hl2, hby2⟩ := HS6.out.anyB
    rw [← hlvf] at hby2
    by_cases hm2 : l2.take 4 = magic
    · skip
      have hop := Open_yes hby2 (.inr (by rw [hlvf]; exact HS6.out.ltg)) (by rw [hl2]; omega) hm2
      go_upto_region 9 with fail
      rename_i K hK
      refine wp_region_lit ?_
      refine wpList_runTo rfl (some 69) rfl (lv) W6 (by kernel_rfl) ?_
      simp only [Act.put, List.setIfInBounds_toArray, List.set_cons_zero, List.set_cons_succ]
      refine wpList_callW rfl (some 70) rfl 14 #[lv] (by kernel_rfl) hop ?_
      clear hop
      rintro e W7 ⟨t2, p2, rfl, hx⟩
      refine ⟨_, rfl, ?_⟩
      simp only [Act.put, List.setIfInBounds_toArray, List.set_cons_zero, List.set_cons_succ]
      have H7 : Hid (OS w W7 v l c pm g f6 ∧ By W7 lv l2 ∧ TpAt W7 t2 ∧ t2.l = l2.take p2 ∧ Chain l2 t2.es p2 ∧ t2.es.length ≤ 1000000 ∧ (t2.es.length = 1000000 ∨ ∀ n, ¬ FrOk t2.es.length (l2.drop p2) n)) := ⟨HS6.out.below hx.out.2.2.2.2.2.2.1, hby2.below hx.out.2.2.2.2.2.2.1, hx.out.1, hx.out.2.1, hx.out.2.2.1, hx.out.2.2.2.1.2, hx.out.2.2.2.2.2.1⟩
      clear hx HS6 hby2
      obtain ⟨g2, hg2⟩ : ∃ g2, g2 = t2.g := ⟨_, rfl⟩
      have HG2 : Hid (t2.g = g2) := hg2.symm
      rw [← hg2]
      clear hg2
      refine wpList_runTo rfl (some 68) rfl (.tuple #[.pointer (some ⟨g2, 0, none⟩), .int .i64 (p2 : Int), .int .i64 0]) W7 (by kernel_rfl) ?_
      simp only [Act.put, List.setIfInBounds_toArray, List.set_cons_zero, List.set_cons_succ]
      refine wpList_runTo rfl (some 71) rfl (.pointer (some ⟨g2, 0, none⟩)) W7 (by kernel_rfl) ?_
      simp only [Act.put, List.setIfInBounds_toArray, List.set_cons_zero, List.set_cons_succ]
      refine wpList_runTo rfl (some 72) rfl (.int .i64 (p2 : Int)) W7 (by kernel_rfl) ?_
      simp only [Act.put, List.setIfInBounds_toArray, List.set_cons_zero, List.set_cons_succ]
      refine wpList_runTo rfl (some 73) rfl (.int .i64 0) W7 (by kernel_rfl) ?_
      simp only [Act.put, List.setIfInBounds_toArray, List.set_cons_zero, List.set_cons_succ]
      refine wpList_runTo rfl (some 14) rfl (.pointer (some ⟨g2, 0, none⟩)) W7 (by kernel_rfl) ?_
      simp only [Act.put, List.setIfInBounds_toArray, List.set_cons_zero, List.set_cons_succ]
      refine wpList_runTo rfl (some 15) rfl (.int .i64 (p2 : Int)) W7 (by kernel_rfl) ?_
      simp only [Act.put, List.setIfInBounds_toArray, List.set_cons_zero, List.set_cons_succ]
      refine wpList_runTo rfl (some 16) rfl (.int .i64 0) W7 (by kernel_rfl) ?_
      simp only [Act.put, List.setIfInBounds_toArray, List.set_cons_zero, List.set_cons_succ]
      refine wpList_nil ?_
      refine hK _ _ ?_
      clear hK
      obtain ⟨cv, W8, hcv, hcb, hcbel⟩ := conv_back2 (w := W7) H7.out.2.1.bb
      have H8 : Hid (OS w W8 v l c pm g f6 ∧ TpAt W8 t2 ∧ t2.l = l2.take p2 ∧ Chain l2 t2.es p2 ∧ t2.es.length ≤ 1000000 ∧ (t2.es.length = 1000000 ∨ ∀ n, ¬ FrOk t2.es.length (l2.drop p2) n)) := ⟨H7.out.1.below hcbel, H7.out.2.2.1.below hcbel, H7.out.2.2.2⟩
      have hby7 := H7.out.2.1
      have hrp := refOpen_yes hcb (by_lt hcb (magic_ne hm2)) (by rw [hl2]; omega) hm2
      clear H7 hcb hcbel
      go_upto_region 10 with fail
      rename_i K hK
      refine wp_region_lit ?_
      refine wpList_runTo rfl (some 75) rfl (lv) W7 (by kernel_rfl) ?_
      simp only [Act.put, List.setIfInBounds_toArray, List.set_cons_zero, List.set_cons_succ]
      refine wpList_runTo rfl (some 76) rfl (.string (ofN l2)) W7 (by exact conv_run (.tmp 75) rfl (by kernel_rfl) hby7) ?_
      simp only [Act.put, List.setIfInBounds_toArray, List.set_cons_zero, List.set_cons_succ]
      refine wpList_runTo rfl (some 77) rfl (cv) W8 (by exact convS2_run (.tmp 76) rfl (by kernel_rfl) hcv) ?_
      simp only [Act.put, List.setIfInBounds_toArray, List.set_cons_zero, List.set_cons_succ]
      clear hby7 hcv
      generalize ofN l2 = sl2
      refine wpList_callW rfl (some 78) rfl 28 #[cv] (by kernel_rfl) hrp ?_
      clear hrp
      rintro e W9 ⟨gy, yv, M, b', rfl, hx⟩
      refine ⟨_, rfl, ?_⟩
      simp only [Act.put, List.setIfInBounds_toArray, List.set_cons_zero, List.set_cons_succ]
      obtain ⟨hs1, hs2⟩ := open_same H8.out.2.2.2.1 H8.out.2.2.2.2.2 H8.out.2.2.2.2.1 hx.out.1.ok hx.out.2.1 hx.out.2.2.2.1 hx.out.2.2.2.2.1 hx.out.2.2.2.2.2.1
      have hbdM := csL_len hx.out.1.ok hx.out.2.2.2.2.1 (Nat.le_refl _)
      have H9 : Hid (OS w W9 v l c pm g f6 ∧ TpAt W9 t2 ∧ t2.l = tpL (csL M) M.length ∧ RtAt W9 gy yv M ∧ M.length ≤ 1000000 ∧ t2.l ≠ [] ∧ t2.l.length ≤ 700000000) := by
        have e : t2.l = tpL (csL M) M.length := by rw [H8.out.2.2.1, hx.out.2.1, hs2]
        have h0 := enN_le (csL M) (Nat.zero_le M.length)
        rw [enN_zero] at h0
        refine ⟨H8.out.1.below hx.out.2.2.2.2.2.2.1, H8.out.2.1.below hx.out.2.2.2.2.2.2.1, e, hx.out.1, hx.out.2.2.2.2.1, fun e2 => ?_, by rw [e]; exact hbdM⟩
        have h1 := congrArg List.length e2
        rw [e] at h1
        unfold enN at h0
        rw [h1] at h0
        simp at h0
      subst hs2
      clear hx H8 hs1 hbdM
      refine wpList_runTo rfl (some 74) rfl (.tuple #[.pointer (some ⟨gy, 0, none⟩), .int .i64 (p2 : Int), .int .i64 0]) W9 (by kernel_rfl) ?_
      simp only [Act.put, List.setIfInBounds_toArray, List.set_cons_zero, List.set_cons_succ]
      refine wpList_runTo rfl (some 79) rfl (.pointer (some ⟨gy, 0, none⟩)) W9 (by kernel_rfl) ?_
      simp only [Act.put, List.setIfInBounds_toArray, List.set_cons_zero, List.set_cons_succ]
      refine wpList_runTo rfl (some 80) rfl (.int .i64 (p2 : Int)) W9 (by kernel_rfl) ?_
      simp only [Act.put, List.setIfInBounds_toArray, List.set_cons_zero, List.set_cons_succ]
      refine wpList_runTo rfl (some 81) rfl (.int .i64 0) W9 (by kernel_rfl) ?_
      simp only [Act.put, List.setIfInBounds_toArray, List.set_cons_zero, List.set_cons_succ]
      refine wpList_runTo rfl (some 17) rfl (.pointer (some ⟨gy, 0, none⟩)) W9 (by kernel_rfl) ?_
      simp only [Act.put, List.setIfInBounds_toArray, List.set_cons_zero, List.set_cons_succ]
      refine wpList_runTo rfl (some 18) rfl (.int .i64 (p2 : Int)) W9 (by kernel_rfl) ?_
      simp only [Act.put, List.setIfInBounds_toArray, List.set_cons_zero, List.set_cons_succ]
      refine wpList_runTo rfl (some 19) rfl (.int .i64 0) W9 (by kernel_rfl) ?_
      simp only [Act.put, List.setIfInBounds_toArray, List.set_cons_zero, List.set_cons_succ]
      refine wpList_nil ?_
      refine hK _ _ ?_
      clear hK
      go_upto_region 11 with fail
      go_cut [109] from 82 to 109 (fun x109 wx => x109 = .bool false ∧ Hid (OS w wx v l c pm g f6))
      case first =>
        rename_i J9 K9 hJ9 hK9
        have hbd : Below W9.heap.size W9 W9.drew := ⟨rfl, rfl, rfl, Nat.le_refl _, fun _ _ => rfl⟩
        have HA : Hid (OS w W9.drew v l c pm g f6 ∧ TpAt W9.drew t2 ∧ RtAt W9.drew gy yv M) := ⟨H9.out.1.below hbd, H9.out.2.1.below hbd, H9.out.2.2.2.1.below hbd⟩
        clear hbd
        refine wp_region_held (S := fun _ => True) (by kernel_rfl) ?_
        change wpAnyH _ _ _ _ _ _ _ _ (World.drew _)
        generalize W9.drew = WX at *
        have hS : True := trivial
        refine takeR (i := 0) (v := .int .i64 (p2 : Int)) (some 82) rfl rfl (by kernel_rfl) (by kernel_rfl) (by kernel_rfl) (fun _ _ _ h => h) (Or.inl ⟨by kernel_rfl, fun w' hSw => by kernel_rfl⟩) hS ?_
        simp only [Act.put, List.setIfInBounds_toArray, List.set_cons_zero, List.set_cons_succ]
        refine takeR (i := 1) (v := .int .i64 (p2 : Int)) (some 83) rfl rfl (by kernel_rfl) (by kernel_rfl) (by kernel_rfl) (fun _ _ _ h => h) (Or.inl ⟨by kernel_rfl, fun w' hSw => by kernel_rfl⟩) hS ?_
        simp only [Act.put, List.setIfInBounds_toArray, List.set_cons_zero, List.set_cons_succ]
        refine takeR (i := 2) (v := .bool false) (some 84) rfl rfl (by kernel_rfl) (by kernel_rfl) (by kernel_rfl) (fun _ _ _ h => h) (Or.inl ⟨by kernel_rfl, fun w' hSw => by exact neN_run (N := p2) (.tmp 82) (.tmp 83) rfl (by kernel_rfl) (by kernel_rfl) _⟩) hS ?_
        simp only [Act.put, List.setIfInBounds_toArray, List.set_cons_zero, List.set_cons_succ]
        refine takeR (i := 3) (v := .bool false) (some 85) rfl rfl (by kernel_rfl) (by kernel_rfl) (by kernel_rfl) (fun _ _ _ h => h) (Or.inl ⟨by kernel_rfl, fun w' hSw => by kernel_rfl⟩) hS ?_
        simp only [Act.put, List.setIfInBounds_toArray, List.set_cons_zero, List.set_cons_succ]
        refine takeR (i := 4) (v := .int .i64 0) (some 86) rfl rfl (by kernel_rfl) (by kernel_rfl) (by kernel_rfl) (fun _ _ _ h => h) (Or.inl ⟨by kernel_rfl, fun w' hSw => by kernel_rfl⟩) hS ?_
        simp only [Act.put, List.setIfInBounds_toArray, List.set_cons_zero, List.set_cons_succ]
        refine takeR (i := 5) (v := .int .i64 0) (some 87) rfl rfl (by kernel_rfl) (by kernel_rfl) (by kernel_rfl) (fun _ _ _ h => h) (Or.inl ⟨by kernel_rfl, fun w' hSw => by kernel_rfl⟩) hS ?_
        simp only [Act.put, List.setIfInBounds_toArray, List.set_cons_zero, List.set_cons_succ]
        refine takeR (i := 6) (v := .bool false) (some 88) rfl rfl (by kernel_rfl) (by kernel_rfl) (by kernel_rfl) (fun _ _ _ h => h) (Or.inl ⟨by kernel_rfl, fun w' hSw => by kernel_rfl⟩) hS ?_
        simp only [Act.put, List.setIfInBounds_toArray, List.set_cons_zero, List.set_cons_succ]
        refine takeR (i := 7) (v := .bool false) (some 89) rfl rfl (by kernel_rfl) (by kernel_rfl) (by kernel_rfl) (fun _ _ _ h => h) (Or.inl ⟨by kernel_rfl, fun w' hSw => by kernel_rfl⟩) hS ?_
        simp only [Act.put, List.setIfInBounds_toArray, List.set_cons_zero, List.set_cons_succ]
        refine takeR (i := 8) (v := .bool false) (some 90) rfl rfl (by kernel_rfl) (by kernel_rfl) (by kernel_rfl) (fun _ _ _ h => h) (Or.inl ⟨by kernel_rfl, fun w' hSw => by kernel_rfl⟩) hS ?_
        simp only [Act.put, List.setIfInBounds_toArray, List.set_cons_zero, List.set_cons_succ]
        refine takeR (i := 9) (v := .pointer (some ⟨g2, 0, none⟩)) (some 91) rfl rfl (by kernel_rfl) (by kernel_rfl) (by kernel_rfl) (fun _ _ _ h => h) (Or.inl ⟨by kernel_rfl, fun w' hSw => by kernel_rfl⟩) hS ?_
        simp only [Act.put, List.setIfInBounds_toArray, List.set_cons_zero, List.set_cons_succ]
        refine takeR (i := 10) (v := .bool false) (some 92) rfl rfl (by kernel_rfl) (by kernel_rfl) (by kernel_rfl) (fun _ _ _ h => h) (Or.inl ⟨by kernel_rfl, fun w' hSw => by exact ptrE_run (ad := ⟨g2, 0, none⟩) (.inl rfl) (.tmp 91) (.const (.pointer none)) rfl (by kernel_rfl) rfl _⟩) hS ?_
        simp only [Act.put, List.setIfInBounds_toArray, List.set_cons_zero, List.set_cons_succ]
        refine takeR (i := 11) (v := .pointer (some ⟨gy, 0, none⟩)) (some 93) rfl rfl (by kernel_rfl) (by kernel_rfl) (by kernel_rfl) (fun _ _ _ h => h) (Or.inl ⟨by kernel_rfl, fun w' hSw => by kernel_rfl⟩) hS ?_
        simp only [Act.put, List.setIfInBounds_toArray, List.set_cons_zero, List.set_cons_succ]
        refine takeR (i := 12) (v := .bool false) (some 94) rfl rfl (by kernel_rfl) (by kernel_rfl) (by kernel_rfl) (fun _ _ _ h => h) (Or.inl ⟨by kernel_rfl, fun w' hSw => by exact ptrE_run (ad := ⟨gy, 0, none⟩) (.inr rfl) (.tmp 93) (.const (.pointer none)) rfl (by kernel_rfl) rfl _⟩) hS ?_
        simp only [Act.put, List.setIfInBounds_toArray, List.set_cons_zero, List.set_cons_succ]
        refine takeR (i := 13) (v := .bool false) (some 95) rfl rfl (by kernel_rfl) (by kernel_rfl) (by kernel_rfl) (fun _ _ _ h => h) (Or.inl ⟨by kernel_rfl, fun w' hSw => by kernel_rfl⟩) hS ?_
        simp only [Act.put, List.setIfInBounds_toArray, List.set_cons_zero, List.set_cons_succ]
        refine takeR (i := 14) (v := .bool false) (some 96) rfl rfl (by kernel_rfl) (by kernel_rfl) (by kernel_rfl) (fun _ _ _ h => h) (Or.inl ⟨by kernel_rfl, fun w' hSw => by kernel_rfl⟩) hS ?_
        simp only [Act.put, List.setIfInBounds_toArray, List.set_cons_zero, List.set_cons_succ]
        refine takeR (i := 15) (v := .bool false) (some 97) rfl rfl (by kernel_rfl) (by kernel_rfl) (by kernel_rfl) (fun _ _ _ h => h) (Or.inl ⟨by kernel_rfl, fun w' hSw => by kernel_rfl⟩) hS ?_
        simp only [Act.put, List.setIfInBounds_toArray, List.set_cons_zero, List.set_cons_succ]
        refine takeR (i := 16) (v := .pointer (some ⟨g2, 0, none⟩)) (some 98) rfl rfl (by kernel_rfl) (by kernel_rfl) (by kernel_rfl) (fun _ _ _ h => h) (Or.inl ⟨by kernel_rfl, fun w' hSw => by kernel_rfl⟩) hS ?_
        simp only [Act.put, List.setIfInBounds_toArray, List.set_cons_zero, List.set_cons_succ]
        refine takeR (i := 17) (v := .bool true) (some 99) rfl rfl (by kernel_rfl) (by kernel_rfl) (by kernel_rfl) (fun _ _ _ h => h) (Or.inl ⟨by kernel_rfl, fun w' hSw => by exact ptrM_run (ad := ⟨g2, 0, none⟩) (.tmp 98) (.const (.pointer none)) rfl (by kernel_rfl) rfl _⟩) hS ?_
        simp only [Act.put, List.setIfInBounds_toArray, List.set_cons_zero, List.set_cons_succ]
        refine takeR (i := 18) (v := .bool true) (some 100) rfl rfl (by kernel_rfl) (by kernel_rfl) (by kernel_rfl) (fun _ _ _ h => h) (Or.inl ⟨by kernel_rfl, fun w' hSw => by kernel_rfl⟩) hS ?_
        simp only [Act.put, List.setIfInBounds_toArray, List.set_cons_zero, List.set_cons_succ]
        refine takeR (i := 19) (v := .pointer (some ⟨g2, 0, none⟩)) (some 101) rfl rfl (by kernel_rfl) (by kernel_rfl) (by kernel_rfl) (fun _ _ _ h => h) (Or.inl ⟨by kernel_rfl, fun w' hSw => by kernel_rfl⟩) hS ?_
        simp only [Act.put, List.setIfInBounds_toArray, List.set_cons_zero, List.set_cons_succ]
        refine takeR (i := 22) (v := .pointer (some ⟨gy, 0, none⟩)) (some 104) rfl rfl (by kernel_rfl) (by kernel_rfl) (by kernel_rfl) (fun _ _ _ h => h) (Or.inl ⟨by kernel_rfl, fun w' hSw => by kernel_rfl⟩) hS ?_
        simp only [Act.put, List.setIfInBounds_toArray, List.set_cons_zero, List.set_cons_succ]
        have hby := Bytes_any HA.out.2.1 H9.out.2.2.2.2.2.1 (by have := H9.out.2.2.2.2.2.2; omega)
        rw [H9.out.2.2.1, HG2.out] at hby
        refine wpAnyH_ready (rs := [20]) (by kernel_rfl) (by simp) ?_
        refine AllReadyH.cons rfl (fun K1 hK1 => ?_) AllReadyH.nil
        rw [if_pos (by kernel_rfl)]
        refine callR (d := some 102) rfl 13 #[.pointer (some ⟨g2, 0, none⟩)] (by kernel_rfl) hby ?_
        clear hby
        rintro e WY ⟨v1, rfl, hx1⟩
        refine ⟨_, rfl, ?_⟩
        have hrb := refBytes_any (HA.out.2.2.below hx1.out.bel) H9.out.2.2.2.2.1
        have HB1 : Hid (OS w WY v l c pm g f6 ∧ By WY v1 (tpL (csL M) M.length)) := ⟨HA.out.1.below hx1.out.bel, hx1.out.by'⟩
        clear hx1 HA
        refine hK1.out _ _ hS (fun _ => ?_)
        clear hK1
        simp only [Act.put, List.setIfInBounds_toArray, List.set_cons_zero, List.set_cons_succ]
        refine wpAnyH_ready (rs := [21, 23]) (by kernel_rfl) (by simp) ?_
        refine AllReadyH.cons rfl (fun K1 hK1 => ?_) (AllReadyH.cons rfl (fun K1 hK1 => ?_) AllReadyH.nil)
        · skip
          rw [if_pos (by kernel_rfl)]
          refine valR (d := some 103) rfl (.string (ofN (tpL (csL M) M.length))) (conv_run (.tmp 102) rfl (by kernel_rfl) HB1.out.2) ?_
          refine hK1.out _ _ hS (fun _ => ?_)
          clear hK1
          simp only [Act.put, List.setIfInBounds_toArray, List.set_cons_zero, List.set_cons_succ]
          refine wpAnyH_ready (rs := [23]) (by kernel_rfl) (by simp) ?_
          refine AllReadyH.cons rfl (fun K1 hK1 => ?_) AllReadyH.nil
          rw [if_pos (by kernel_rfl)]
          refine callR (d := some 105) rfl 24 #[.pointer (some ⟨gy, 0, none⟩)] (by kernel_rfl) hrb ?_
          clear hrb
          rintro e WZ ⟨v2, rfl, hx2⟩
          refine ⟨_, rfl, ?_⟩
          have HB : Hid (OS w WZ v l c pm g f6 ∧ By WZ v1 (tpL (csL M) M.length) ∧ By WZ v2 (tpL (csL M) M.length)) := ⟨HB1.out.1.below hx2.out.bel, HB1.out.2.below hx2.out.bel, hx2.out.by'⟩
          clear hx2 HB1
          refine hK1.out _ _ hS (fun _ => ?_)
          clear hK1
          simp only [Act.put, List.setIfInBounds_toArray, List.set_cons_zero, List.set_cons_succ]
          refine wpAnyH_ready (rs := [24]) (by kernel_rfl) (by simp) ?_
          refine AllReadyH.cons rfl (fun K1 hK1 => ?_) AllReadyH.nil
          rw [if_pos (by kernel_rfl)]
          refine valR (d := some 106) rfl (.string (ofN (tpL (csL M) M.length))) (conv_run (.tmp 105) rfl (by kernel_rfl) HB.out.2.2) ?_
          refine hK1.out _ _ hS (fun _ => ?_)
          clear hK1
          simp only [Act.put, List.setIfInBounds_toArray, List.set_cons_zero, List.set_cons_succ]
          refine takeR (i := 25) (v := .bool false) (some 107) rfl rfl (by kernel_rfl) (by kernel_rfl) (by kernel_rfl) (fun _ _ _ h => h) (Or.inl ⟨by kernel_rfl, fun w' hSw => by exact neS_run (s := ofN (tpL (csL M) M.length)) (t := ofN (tpL (csL M) M.length)) (.tmp 103) (.tmp 106) rfl (by kernel_rfl) (by kernel_rfl) rfl _⟩) hS ?_
          simp only [Act.put, List.setIfInBounds_toArray, List.set_cons_zero, List.set_cons_succ]
          refine takeR (i := 26) (v := .bool false) (some 108) rfl rfl (by kernel_rfl) (by kernel_rfl) (by kernel_rfl) (fun _ _ _ h => h) (Or.inl ⟨by kernel_rfl, fun w' hSw => by kernel_rfl⟩) hS ?_
          simp only [Act.put, List.setIfInBounds_toArray, List.set_cons_zero, List.set_cons_succ]
          refine takeR (i := 27) (v := .bool false) (some 109) rfl rfl (by kernel_rfl) (by kernel_rfl) (by kernel_rfl) (fun _ _ _ h => h) (Or.inl ⟨by kernel_rfl, fun w' hSw => by kernel_rfl⟩) hS ?_
          simp only [Act.put, List.setIfInBounds_toArray, List.set_cons_zero, List.set_cons_succ]
          refine wpAnyH_done (by kernel_rfl) ?_ _
          first
            | refine hK9 _ _ (hJ9 _ _ ?_)
            | refine hJ9 _ _ ?_
          repeat apply Exists.intro
          exact ⟨⟨rfl, HB.out.1⟩, rfl⟩
        · skip
          rw [if_pos (by kernel_rfl)]
          refine callR (d := some 105) rfl 24 #[.pointer (some ⟨gy, 0, none⟩)] (by kernel_rfl) hrb ?_
          clear hrb
          rintro e WZ ⟨v2, rfl, hx2⟩
          refine ⟨_, rfl, ?_⟩
          have HB : Hid (OS w WZ v l c pm g f6 ∧ By WZ v1 (tpL (csL M) M.length) ∧ By WZ v2 (tpL (csL M) M.length)) := ⟨HB1.out.1.below hx2.out.bel, HB1.out.2.below hx2.out.bel, hx2.out.by'⟩
          clear hx2 HB1
          refine hK1.out _ _ hS (fun _ => ?_)
          clear hK1
          simp only [Act.put, List.setIfInBounds_toArray, List.set_cons_zero, List.set_cons_succ]
          refine wpAnyH_ready (rs := [21, 24]) (by kernel_rfl) (by simp) ?_
          refine AllReadyH.cons rfl (fun K1 hK1 => ?_) (AllReadyH.cons rfl (fun K1 hK1 => ?_) AllReadyH.nil)
          · skip
            rw [if_pos (by kernel_rfl)]
            refine valR (d := some 103) rfl (.string (ofN (tpL (csL M) M.length))) (conv_run (.tmp 102) rfl (by kernel_rfl) HB.out.2.1) ?_
            refine hK1.out _ _ hS (fun _ => ?_)
            clear hK1
            simp only [Act.put, List.setIfInBounds_toArray, List.set_cons_zero, List.set_cons_succ]
            refine wpAnyH_ready (rs := [24]) (by kernel_rfl) (by simp) ?_
            refine AllReadyH.cons rfl (fun K1 hK1 => ?_) AllReadyH.nil
            rw [if_pos (by kernel_rfl)]
            refine valR (d := some 106) rfl (.string (ofN (tpL (csL M) M.length))) (conv_run (.tmp 105) rfl (by kernel_rfl) HB.out.2.2) ?_
            refine hK1.out _ _ hS (fun _ => ?_)
            clear hK1
            simp only [Act.put, List.setIfInBounds_toArray, List.set_cons_zero, List.set_cons_succ]
            refine takeR (i := 25) (v := .bool false) (some 107) rfl rfl (by kernel_rfl) (by kernel_rfl) (by kernel_rfl) (fun _ _ _ h => h) (Or.inl ⟨by kernel_rfl, fun w' hSw => by exact neS_run (s := ofN (tpL (csL M) M.length)) (t := ofN (tpL (csL M) M.length)) (.tmp 103) (.tmp 106) rfl (by kernel_rfl) (by kernel_rfl) rfl _⟩) hS ?_
            simp only [Act.put, List.setIfInBounds_toArray, List.set_cons_zero, List.set_cons_succ]
            refine takeR (i := 26) (v := .bool false) (some 108) rfl rfl (by kernel_rfl) (by kernel_rfl) (by kernel_rfl) (fun _ _ _ h => h) (Or.inl ⟨by kernel_rfl, fun w' hSw => by kernel_rfl⟩) hS ?_
            simp only [Act.put, List.setIfInBounds_toArray, List.set_cons_zero, List.set_cons_succ]
            refine takeR (i := 27) (v := .bool false) (some 109) rfl rfl (by kernel_rfl) (by kernel_rfl) (by kernel_rfl) (fun _ _ _ h => h) (Or.inl ⟨by kernel_rfl, fun w' hSw => by kernel_rfl⟩) hS ?_
            simp only [Act.put, List.setIfInBounds_toArray, List.set_cons_zero, List.set_cons_succ]
            refine wpAnyH_done (by kernel_rfl) ?_ _
            first
              | refine hK9 _ _ (hJ9 _ _ ?_)
              | refine hJ9 _ _ ?_
            repeat apply Exists.intro
            exact ⟨⟨rfl, HB.out.1⟩, rfl⟩
          · skip
            rw [if_pos (by kernel_rfl)]
            refine valR (d := some 106) rfl (.string (ofN (tpL (csL M) M.length))) (conv_run (.tmp 105) rfl (by kernel_rfl) HB.out.2.2) ?_
            refine hK1.out _ _ hS (fun _ => ?_)
            clear hK1
            simp only [Act.put, List.setIfInBounds_toArray, List.set_cons_zero, List.set_cons_succ]
            refine wpAnyH_ready (rs := [21]) (by kernel_rfl) (by simp) ?_
            refine AllReadyH.cons rfl (fun K1 hK1 => ?_) AllReadyH.nil
            rw [if_pos (by kernel_rfl)]
            refine valR (d := some 103) rfl (.string (ofN (tpL (csL M) M.length))) (conv_run (.tmp 102) rfl (by kernel_rfl) HB.out.2.1) ?_
            refine hK1.out _ _ hS (fun _ => ?_)
            clear hK1
            simp only [Act.put, List.setIfInBounds_toArray, List.set_cons_zero, List.set_cons_succ]
            refine takeR (i := 25) (v := .bool false) (some 107) rfl rfl (by kernel_rfl) (by kernel_rfl) (by kernel_rfl) (fun _ _ _ h => h) (Or.inl ⟨by kernel_rfl, fun w' hSw => by exact neS_run (s := ofN (tpL (csL M) M.length)) (t := ofN (tpL (csL M) M.length)) (.tmp 103) (.tmp 106) rfl (by kernel_rfl) (by kernel_rfl) rfl _⟩) hS ?_
            simp only [Act.put, List.setIfInBounds_toArray, List.set_cons_zero, List.set_cons_succ]
            refine takeR (i := 26) (v := .bool false) (some 108) rfl rfl (by kernel_rfl) (by kernel_rfl) (by kernel_rfl) (fun _ _ _ h => h) (Or.inl ⟨by kernel_rfl, fun w' hSw => by kernel_rfl⟩) hS ?_
            simp only [Act.put, List.setIfInBounds_toArray, List.set_cons_zero, List.set_cons_succ]
            refine takeR (i := 27) (v := .bool false) (some 109) rfl rfl (by kernel_rfl) (by kernel_rfl) (by kernel_rfl) (fun _ _ _ h => h) (Or.inl ⟨by kernel_rfl, fun w' hSw => by kernel_rfl⟩) hS ?_
            simp only [Act.put, List.setIfInBounds_toArray, List.set_cons_zero, List.set_cons_succ]
            refine wpAnyH_done (by kernel_rfl) ?_ _
            first
              | refine hK9 _ _ (hJ9 _ _ ?_)
              | refine hJ9 _ _ ?_
            repeat apply Exists.intro
            exact ⟨⟨rfl, HB.out.1⟩, rfl⟩
      case rest =>
        obtain ⟨rfl, HC⟩ := hcut
        go_wp2
        go_ret
        exact ⟨rfl, HC.out.bel⟩
    · skip
      have hop := Open_no hby2 (by rw [hl2]; omega) hm2
      go_upto_region 9 with fail
      rename_i K hK
      refine wp_region_lit ?_
      refine wpList_runTo rfl (some 69) rfl (lv) W6 (by kernel_rfl) ?_
      simp only [Act.put, List.setIfInBounds_toArray, List.set_cons_zero, List.set_cons_succ]
      refine wpList_callW rfl (some 70) rfl 14 #[lv] (by kernel_rfl) hop ?_
      clear hop
      rintro e w7 ⟨rfl, ew⟩
      replace ew := ew.symm
      subst ew
      refine ⟨_, rfl, ?_⟩
      simp only [Act.put, List.setIfInBounds_toArray, List.set_cons_zero, List.set_cons_succ]
      have H7 : Hid (OS w W6 v l c pm g f6 ∧ By W6 lv l2) := ⟨HS6.out, hby2⟩
      clear HS6 hby2
      refine wpList_runTo rfl (some 68) rfl (.tuple #[.pointer none, .int .i64 0, .int .i64 180]) W6 (by kernel_rfl) ?_
      simp only [Act.put, List.setIfInBounds_toArray, List.set_cons_zero, List.set_cons_succ]
      refine wpList_runTo rfl (some 71) rfl (.pointer none) W6 (by kernel_rfl) ?_
      simp only [Act.put, List.setIfInBounds_toArray, List.set_cons_zero, List.set_cons_succ]
      refine wpList_runTo rfl (some 72) rfl (.int .i64 0) W6 (by kernel_rfl) ?_
      simp only [Act.put, List.setIfInBounds_toArray, List.set_cons_zero, List.set_cons_succ]
      refine wpList_runTo rfl (some 73) rfl (.int .i64 180) W6 (by kernel_rfl) ?_
      simp only [Act.put, List.setIfInBounds_toArray, List.set_cons_zero, List.set_cons_succ]
      refine wpList_runTo rfl (some 14) rfl (.pointer none) W6 (by kernel_rfl) ?_
      simp only [Act.put, List.setIfInBounds_toArray, List.set_cons_zero, List.set_cons_succ]
      refine wpList_runTo rfl (some 15) rfl (.int .i64 0) W6 (by kernel_rfl) ?_
      simp only [Act.put, List.setIfInBounds_toArray, List.set_cons_zero, List.set_cons_succ]
      refine wpList_runTo rfl (some 16) rfl (.int .i64 180) W6 (by kernel_rfl) ?_
      simp only [Act.put, List.setIfInBounds_toArray, List.set_cons_zero, List.set_cons_succ]
      refine wpList_nil ?_
      refine hK _ _ ?_
      clear hK
      obtain ⟨cv, W8, hcv, hcb, hcbel⟩ := conv_back2 (w := W6) H7.out.2.bb
      have H8 : Hid (OS w W8 v l c pm g f6) := H7.out.1.below hcbel
      have hby7 := H7.out.2
      have hrp := refOpen_no hcb (by rw [hl2]; omega) hm2
      clear H7 hcb hcbel
      go_upto_region 10 with fail
      rename_i K hK
      refine wp_region_lit ?_
      refine wpList_runTo rfl (some 75) rfl (lv) W6 (by kernel_rfl) ?_
      simp only [Act.put, List.setIfInBounds_toArray, List.set_cons_zero, List.set_cons_succ]
      refine wpList_runTo rfl (some 76) rfl (.string (ofN l2)) W6 (by exact conv_run (.tmp 75) rfl (by kernel_rfl) hby7) ?_
      simp only [Act.put, List.setIfInBounds_toArray, List.set_cons_zero, List.set_cons_succ]
      refine wpList_runTo rfl (some 77) rfl (cv) W8 (by exact convS2_run (.tmp 76) rfl (by kernel_rfl) hcv) ?_
      simp only [Act.put, List.setIfInBounds_toArray, List.set_cons_zero, List.set_cons_succ]
      clear hby7 hcv
      generalize ofN l2 = sl2
      refine wpList_callW rfl (some 78) rfl 28 #[cv] (by kernel_rfl) hrp ?_
      clear hrp
      rintro e w9 ⟨rfl, ew⟩
      replace ew := ew.symm
      subst ew
      refine ⟨_, rfl, ?_⟩
      simp only [Act.put, List.setIfInBounds_toArray, List.set_cons_zero, List.set_cons_succ]
      refine wpList_runTo rfl (some 74) rfl (.tuple #[.pointer none, .int .i64 0, .int .i64 180]) W8 (by kernel_rfl) ?_
      simp only [Act.put, List.setIfInBounds_toArray, List.set_cons_zero, List.set_cons_succ]
      refine wpList_runTo rfl (some 79) rfl (.pointer none) W8 (by kernel_rfl) ?_
      simp only [Act.put, List.setIfInBounds_toArray, List.set_cons_zero, List.set_cons_succ]
      refine wpList_runTo rfl (some 80) rfl (.int .i64 0) W8 (by kernel_rfl) ?_
      simp only [Act.put, List.setIfInBounds_toArray, List.set_cons_zero, List.set_cons_succ]
      refine wpList_runTo rfl (some 81) rfl (.int .i64 180) W8 (by kernel_rfl) ?_
      simp only [Act.put, List.setIfInBounds_toArray, List.set_cons_zero, List.set_cons_succ]
      refine wpList_runTo rfl (some 17) rfl (.pointer none) W8 (by kernel_rfl) ?_
      simp only [Act.put, List.setIfInBounds_toArray, List.set_cons_zero, List.set_cons_succ]
      refine wpList_runTo rfl (some 18) rfl (.int .i64 0) W8 (by kernel_rfl) ?_
      simp only [Act.put, List.setIfInBounds_toArray, List.set_cons_zero, List.set_cons_succ]
      refine wpList_runTo rfl (some 19) rfl (.int .i64 180) W8 (by kernel_rfl) ?_
      simp only [Act.put, List.setIfInBounds_toArray, List.set_cons_zero, List.set_cons_succ]
      refine wpList_nil ?_
      refine hK _ _ ?_
      clear hK
      go_upto_region 11 with fail
      go_cut [109] from 82 to 109 (fun x109 wx => x109 = .bool false ∧ Hid (OS w wx v l c pm g f6))
      case first =>
        rename_i J9 K9 hJ9 hK9
        have hbd : Below W8.heap.size W8 W8.drew := ⟨rfl, rfl, rfl, Nat.le_refl _, fun _ _ => rfl⟩
        have HA : Hid (OS w W8.drew v l c pm g f6) := H8.out.below hbd
        clear hbd
        refine wp_region_held (S := fun _ => True) (by kernel_rfl) ?_
        change wpAnyH _ _ _ _ _ _ _ _ (World.drew _)
        generalize W8.drew = WX at *
        have hS : True := trivial
        refine takeR (i := 0) (v := .int .i64 0) (some 82) rfl rfl (by kernel_rfl) (by kernel_rfl) (by kernel_rfl) (fun _ _ _ h => h) (Or.inl ⟨by kernel_rfl, fun w' hSw => by kernel_rfl⟩) hS ?_
        simp only [Act.put, List.setIfInBounds_toArray, List.set_cons_zero, List.set_cons_succ]
        refine takeR (i := 1) (v := .int .i64 0) (some 83) rfl rfl (by kernel_rfl) (by kernel_rfl) (by kernel_rfl) (fun _ _ _ h => h) (Or.inl ⟨by kernel_rfl, fun w' hSw => by kernel_rfl⟩) hS ?_
        simp only [Act.put, List.setIfInBounds_toArray, List.set_cons_zero, List.set_cons_succ]
        refine takeR (i := 2) (v := .bool false) (some 84) rfl rfl (by kernel_rfl) (by kernel_rfl) (by kernel_rfl) (fun _ _ _ h => h) (Or.inl ⟨by kernel_rfl, fun w' hSw => by kernel_rfl⟩) hS ?_
        simp only [Act.put, List.setIfInBounds_toArray, List.set_cons_zero, List.set_cons_succ]
        refine takeR (i := 3) (v := .bool false) (some 85) rfl rfl (by kernel_rfl) (by kernel_rfl) (by kernel_rfl) (fun _ _ _ h => h) (Or.inl ⟨by kernel_rfl, fun w' hSw => by kernel_rfl⟩) hS ?_
        simp only [Act.put, List.setIfInBounds_toArray, List.set_cons_zero, List.set_cons_succ]
        refine takeR (i := 4) (v := .int .i64 180) (some 86) rfl rfl (by kernel_rfl) (by kernel_rfl) (by kernel_rfl) (fun _ _ _ h => h) (Or.inl ⟨by kernel_rfl, fun w' hSw => by kernel_rfl⟩) hS ?_
        simp only [Act.put, List.setIfInBounds_toArray, List.set_cons_zero, List.set_cons_succ]
        refine takeR (i := 5) (v := .int .i64 180) (some 87) rfl rfl (by kernel_rfl) (by kernel_rfl) (by kernel_rfl) (fun _ _ _ h => h) (Or.inl ⟨by kernel_rfl, fun w' hSw => by kernel_rfl⟩) hS ?_
        simp only [Act.put, List.setIfInBounds_toArray, List.set_cons_zero, List.set_cons_succ]
        refine takeR (i := 6) (v := .bool false) (some 88) rfl rfl (by kernel_rfl) (by kernel_rfl) (by kernel_rfl) (fun _ _ _ h => h) (Or.inl ⟨by kernel_rfl, fun w' hSw => by kernel_rfl⟩) hS ?_
        simp only [Act.put, List.setIfInBounds_toArray, List.set_cons_zero, List.set_cons_succ]
        refine takeR (i := 7) (v := .bool false) (some 89) rfl rfl (by kernel_rfl) (by kernel_rfl) (by kernel_rfl) (fun _ _ _ h => h) (Or.inl ⟨by kernel_rfl, fun w' hSw => by kernel_rfl⟩) hS ?_
        simp only [Act.put, List.setIfInBounds_toArray, List.set_cons_zero, List.set_cons_succ]
        refine takeR (i := 8) (v := .bool false) (some 90) rfl rfl (by kernel_rfl) (by kernel_rfl) (by kernel_rfl) (fun _ _ _ h => h) (Or.inl ⟨by kernel_rfl, fun w' hSw => by kernel_rfl⟩) hS ?_
        simp only [Act.put, List.setIfInBounds_toArray, List.set_cons_zero, List.set_cons_succ]
        refine takeR (i := 9) (v := .pointer none) (some 91) rfl rfl (by kernel_rfl) (by kernel_rfl) (by kernel_rfl) (fun _ _ _ h => h) (Or.inl ⟨by kernel_rfl, fun w' hSw => by kernel_rfl⟩) hS ?_
        simp only [Act.put, List.setIfInBounds_toArray, List.set_cons_zero, List.set_cons_succ]
        refine takeR (i := 10) (v := .bool true) (some 92) rfl rfl (by kernel_rfl) (by kernel_rfl) (by kernel_rfl) (fun _ _ _ h => h) (Or.inl ⟨by kernel_rfl, fun w' hSw => by kernel_rfl⟩) hS ?_
        simp only [Act.put, List.setIfInBounds_toArray, List.set_cons_zero, List.set_cons_succ]
        refine takeR (i := 11) (v := .pointer none) (some 93) rfl rfl (by kernel_rfl) (by kernel_rfl) (by kernel_rfl) (fun _ _ _ h => h) (Or.inl ⟨by kernel_rfl, fun w' hSw => by kernel_rfl⟩) hS ?_
        simp only [Act.put, List.setIfInBounds_toArray, List.set_cons_zero, List.set_cons_succ]
        refine takeR (i := 12) (v := .bool true) (some 94) rfl rfl (by kernel_rfl) (by kernel_rfl) (by kernel_rfl) (fun _ _ _ h => h) (Or.inl ⟨by kernel_rfl, fun w' hSw => by kernel_rfl⟩) hS ?_
        simp only [Act.put, List.setIfInBounds_toArray, List.set_cons_zero, List.set_cons_succ]
        refine takeR (i := 13) (v := .bool false) (some 95) rfl rfl (by kernel_rfl) (by kernel_rfl) (by kernel_rfl) (fun _ _ _ h => h) (Or.inl ⟨by kernel_rfl, fun w' hSw => by kernel_rfl⟩) hS ?_
        simp only [Act.put, List.setIfInBounds_toArray, List.set_cons_zero, List.set_cons_succ]
        refine takeR (i := 14) (v := .bool false) (some 96) rfl rfl (by kernel_rfl) (by kernel_rfl) (by kernel_rfl) (fun _ _ _ h => h) (Or.inl ⟨by kernel_rfl, fun w' hSw => by kernel_rfl⟩) hS ?_
        simp only [Act.put, List.setIfInBounds_toArray, List.set_cons_zero, List.set_cons_succ]
        refine takeR (i := 15) (v := .bool false) (some 97) rfl rfl (by kernel_rfl) (by kernel_rfl) (by kernel_rfl) (fun _ _ _ h => h) (Or.inl ⟨by kernel_rfl, fun w' hSw => by kernel_rfl⟩) hS ?_
        simp only [Act.put, List.setIfInBounds_toArray, List.set_cons_zero, List.set_cons_succ]
        refine takeR (i := 16) (v := .pointer none) (some 98) rfl rfl (by kernel_rfl) (by kernel_rfl) (by kernel_rfl) (fun _ _ _ h => h) (Or.inl ⟨by kernel_rfl, fun w' hSw => by kernel_rfl⟩) hS ?_
        simp only [Act.put, List.setIfInBounds_toArray, List.set_cons_zero, List.set_cons_succ]
        refine takeR (i := 17) (v := .bool false) (some 99) rfl rfl (by kernel_rfl) (by kernel_rfl) (by kernel_rfl) (fun _ _ _ h => h) (Or.inl ⟨by kernel_rfl, fun w' hSw => by kernel_rfl⟩) hS ?_
        simp only [Act.put, List.setIfInBounds_toArray, List.set_cons_zero, List.set_cons_succ]
        refine takeR (i := 18) (v := .bool false) (some 100) rfl rfl (by kernel_rfl) (by kernel_rfl) (by kernel_rfl) (fun _ _ _ h => h) (Or.inl ⟨by kernel_rfl, fun w' hSw => by kernel_rfl⟩) hS ?_
        simp only [Act.put, List.setIfInBounds_toArray, List.set_cons_zero, List.set_cons_succ]
        refine takeR (i := 19) (v := undef) (some 101) rfl rfl (by kernel_rfl) (by kernel_rfl) (by kernel_rfl) (fun _ _ _ h => h) (Or.inr ⟨by kernel_rfl, rfl⟩) hS ?_
        simp only [Act.put, List.setIfInBounds_toArray, List.set_cons_zero, List.set_cons_succ]
        refine takeR (i := 20) (v := undef) (some 102) rfl rfl (by kernel_rfl) (by kernel_rfl) (by kernel_rfl) (fun _ _ _ h => h) (Or.inr ⟨by kernel_rfl, rfl⟩) hS ?_
        simp only [Act.put, List.setIfInBounds_toArray, List.set_cons_zero, List.set_cons_succ]
        refine takeR (i := 21) (v := undef) (some 103) rfl rfl (by kernel_rfl) (by kernel_rfl) (by kernel_rfl) (fun _ _ _ h => h) (Or.inr ⟨by kernel_rfl, rfl⟩) hS ?_
        simp only [Act.put, List.setIfInBounds_toArray, List.set_cons_zero, List.set_cons_succ]
        refine takeR (i := 22) (v := undef) (some 104) rfl rfl (by kernel_rfl) (by kernel_rfl) (by kernel_rfl) (fun _ _ _ h => h) (Or.inr ⟨by kernel_rfl, rfl⟩) hS ?_
        simp only [Act.put, List.setIfInBounds_toArray, List.set_cons_zero, List.set_cons_succ]
        refine takeR (i := 23) (v := undef) (some 105) rfl rfl (by kernel_rfl) (by kernel_rfl) (by kernel_rfl) (fun _ _ _ h => h) (Or.inr ⟨by kernel_rfl, rfl⟩) hS ?_
        simp only [Act.put, List.setIfInBounds_toArray, List.set_cons_zero, List.set_cons_succ]
        refine takeR (i := 24) (v := undef) (some 106) rfl rfl (by kernel_rfl) (by kernel_rfl) (by kernel_rfl) (fun _ _ _ h => h) (Or.inr ⟨by kernel_rfl, rfl⟩) hS ?_
        simp only [Act.put, List.setIfInBounds_toArray, List.set_cons_zero, List.set_cons_succ]
        refine takeR (i := 25) (v := undef) (some 107) rfl rfl (by kernel_rfl) (by kernel_rfl) (by kernel_rfl) (fun _ _ _ h => h) (Or.inr ⟨by kernel_rfl, rfl⟩) hS ?_
        simp only [Act.put, List.setIfInBounds_toArray, List.set_cons_zero, List.set_cons_succ]
        refine takeR (i := 26) (v := .bool false) (some 108) rfl rfl (by kernel_rfl) (by kernel_rfl) (by kernel_rfl) (fun _ _ _ h => h) (Or.inl ⟨by kernel_rfl, fun w' hSw => by kernel_rfl⟩) hS ?_
        simp only [Act.put, List.setIfInBounds_toArray, List.set_cons_zero, List.set_cons_succ]
        refine takeR (i := 27) (v := .bool false) (some 109) rfl rfl (by kernel_rfl) (by kernel_rfl) (by kernel_rfl) (fun _ _ _ h => h) (Or.inl ⟨by kernel_rfl, fun w' hSw => by kernel_rfl⟩) hS ?_
        simp only [Act.put, List.setIfInBounds_toArray, List.set_cons_zero, List.set_cons_succ]
        refine wpAnyH_done (by kernel_rfl) ?_ _
        first
          | refine hK9 _ _ (hJ9 _ _ ?_)
          | refine hJ9 _ _ ?_
        repeat apply Exists.intro
        exact ⟨⟨rfl, HA.out⟩, rfl⟩
      case rest =>
        obtain ⟨rfl, HC⟩ := hcut
        go_wp2
        go_ret
        exact ⟨rfl, HC.out.bel⟩
theorem TapeOpens_row {w : World} {v : Value} {l : List Nat} (h : By w v l) (hl : l.length ≤ 140737488351232) {c : Cm} (hc : c.ok) : Calls Try.prog 7 #[v, .agg c.cs] w fun e w' => e = .returned (.bool true) ∧ Below w.heap.size w w' := (TapeOpens_law h hl c hc).mono fun _ _ ⟨h1, h2⟩ => ⟨h1, h2.out⟩
end Go.Proofs.Ytjnnecoikcmaeaa
