import Derived.Test.YtkpoheknmcepnaaGreatDoorFrLookT
import Derived.Test.YtkpoheknmcepnaaGreatDoorRfM
import Derived.Test.YtkpoheknmcepnaaGreatDoorFrWalk
import Derived.Deep.RegionHeld3
import Derived.Test.YtkpoheknmcepnaaGreatDoorFrLookB
import Derived.Test.YtkpoheknmcepnaaGreatDoorFrE

namespace Go.Proofs.YtkpoheknmcepnaaGreatDoor
set_option linter.unusedVariables false
open Go.RowKit Go.Lib

/-- What a look tells, as the reference does: could it be one, and how long is it. -/
def CdOK (p : Part Nat) (c : Bool) (m : Nat) : Prop := match p with
  | .wrong => c = false
  | .begun _ => c = true ∧ m = 0
  | .whole n => c = true ∧ m = n
theorem forL_both (a b : List UInt8) (l : List UInt8) : ∀ i, forL (a ++ b) i l = match forL a i l with
    | .begun n => .begun n
    | .wrong => .wrong
    | .whole k => forL b k l := by
  induction a with
  | nil => intro i; simp only [List.nil_append, forL]
  | cons c a ih =>
    intro i
    rw [List.cons_append, forL.eq_2, forL.eq_2]
    by_cases h : i < l.length
    · rw [dif_pos h, dif_pos h]
      by_cases h2 : l[i] = c
      · rw [if_pos h2, if_pos h2]; exact ih (i + 1)
      · rw [if_neg h2, if_neg h2]
    · rw [dif_neg h, dif_neg h]
/-- The digits so far. -/
def dgK (l : List UInt8) (k : Nat) : List UInt8 := (l.drop 12).take k
theorem dgK_snoc {l : List UInt8} {k : Nat} (h : 12 + k < l.length) : dgK l (k + 1) = dgK l k ++ [l[12 + k]] := by
  unfold dgK
  rw [List.take_add_one, List.getElem?_drop, List.getElem?_eq_getElem h]; rfl
theorem dgK_len {l : List UInt8} {k : Nat} (h : 12 + k ≤ l.length) : (dgK l k).length = k := by
  unfold dgK; rw [List.length_take, List.length_drop]; omega
theorem digsAt_dg {l : List UInt8} {k : Nat} (hd : digs (dgK l k) = true) : digsAt 12 l = dgK l k ++ ((l.drop 12).drop k).takeWhile isDigB := by
  unfold digsAt
  conv => lhs; rw [← List.take_append_drop k (l.drop 12)]
  refine List.takeWhile_append_of_pos fun c hc => ?_
  rw [isDigB_dig]
  unfold digs at hd
  exact List.all_eq_true.1 hd c hc
theorem drop_at12 {l : List UInt8} {k : Nat} (h : 12 + k < l.length) : (l.drop 12).drop k = l[12 + k] :: l.drop (12 + k + 1) := by
  rw [List.drop_drop, List.drop_eq_getElem_cons h]
theorem digsAt_end {l : List UInt8} {k : Nat} (h : l.length = 12 + k) (hd : digs (dgK l k) = true) : digsAt 12 l = dgK l k := by
  rw [digsAt_dg hd, List.drop_drop, List.drop_eq_nil_of_le (by omega)]; simp
theorem digsAt_stop {l : List UInt8} {k : Nat} (h : 12 + k < l.length) (hd : digs (dgK l k) = true) (hn : dig l[12 + k] = false) : digsAt 12 l = dgK l k := by
  rw [digsAt_dg hd, drop_at12 h, List.takeWhile_cons_of_neg (by rw [isDigB_dig, hn]; decide), List.append_nil]
section
variable {l : List UInt8} {k n : Nat}
theorem text_short (hh : forL headT 0 l = .whole 12) (h : l.length = 12 + k) (hd : digs (dgK l k) = true) (hv : k = 0 ∨ lenV (dgK l k) = some n) : ∃ m, textP lenV prT headT lastT l = .begun m := by
  have hl : ∃ m, lenP l = .begun m := by
    unfold lenP Part.then
    rw [hh]
    simp only [roomL]
    rcases hv with rfl | hv
    · rw [if_pos (by omega)]; exact ⟨_, rfl⟩
    · by_cases h0 : l.length < 12 + 1
      · rw [if_pos h0]; exact ⟨_, rfl⟩
      · rw [if_neg h0]
        have e : forL [1] (12 + k) l = .begun (12 + k + 1) := by rw [forL.eq_2, dif_neg (by omega)]
        simp only [lenL, digsAt_end h hd, hv, dgK_len (by omega : 12 + k ≤ l.length), e]
        exact ⟨_, rfl⟩
  obtain ⟨m, hm⟩ := hl
  exact ⟨m, by rw [text_eq, hm]⟩
theorem text_len (hh : forL headT 0 l = .whole 12) (h : 12 + k < l.length) (hd : digs (dgK l k) = true) (h1 : l[12 + k] = 1) (hv : lenV (dgK l k) = some n) : lenP l = .whole (n, 12 + k + 1) := by
  unfold lenP Part.then
  rw [hh]
  simp only [roomL]
  have e : forL [1] (12 + k) l = .whole (12 + k + 1) := by rw [forL.eq_2, dif_pos h, if_pos h1]; rfl
  rw [if_neg (by omega)]
  simp only [lenL, digsAt_stop h hd (by rw [h1]; decide), hv, dgK_len (by omega : 12 + k ≤ l.length), e]
theorem text_bad (hh : forL headT 0 l = .whole 12) (h : 12 + k < l.length) (hd : digs (dgK l k) = true) (hn : dig l[12 + k] = false) (hk : k = 0 ∨ ¬ l[12 + k] = 1) : textP lenV prT headT lastT l = .wrong := by
  have hl : lenP l = .wrong := by
    unfold lenP Part.then
    rw [hh]
    simp only [roomL]
    rw [if_neg (by omega)]
    simp only [lenL, digsAt_stop h hd hn]
    rcases hk with rfl | hk
    · have : dgK l 0 = [] := by simp [dgK]
      rw [this, lenV_nil]
    · cases lenV (dgK l k) with
      | none => rfl
      | some v =>
        have e : forL [1] (12 + k) l = .wrong := by rw [forL.eq_2, dif_pos h, if_neg hk]
        simp only [dgK_len (by omega : 12 + k ≤ l.length), e]
  rw [text_eq, hl]
theorem text_num (hh : forL headT 0 l = .whole 12) (h : 12 + k ≤ l.length) (hk : 0 < k) (hd : digs (dgK l k) = true) (hv : lenV (dgK l k) = none) : textP lenV prT headT lastT l = .wrong := by
  have hne : dgK l k ≠ [] := fun e => by have := dgK_len h; rw [e] at this; simp at this; omega
  have hl : lenP l = .wrong := by
    unfold lenP Part.then
    rw [hh]
    simp only [roomL]
    rw [if_neg (by omega)]
    simp only [lenL, digsAt_dg hd, lenV_stays _ _ hne hv]
  rw [text_eq, hl]
end
theorem lenV_eq {d : List UInt8} : lenV d = if numB d = true ∧ val d ≤ 1000 then some (val d).toNat else none := by
  unfold lenV
  by_cases h : numB d = true ∧ val d ≤ 1000
  · rw [if_pos (puE_zero.2 h), if_pos h, (pu_le h.1 h.2).1]
  · rw [if_neg (fun e => h (puE_zero.1 e)), if_neg h]
/-- The first digit. -/
theorem lenV_one {c : UInt8} (h : dig c = true) : lenV [c] = some (c.toNat - 48) := by
  have hc := (dig_iff c).1 h
  have hv : val [c] = (c.toNat : Int) - 48 := by simp [val]
  rw [lenV_eq, if_pos ⟨by simp [numB, digs, h], by rw [hv]; omega⟩, hv]
  congr 1
  omega
/-- A further digit: none behind a nought; else ten times and that. -/
theorem lenV_next {d : List UInt8} {n : Nat} {c : UInt8} (h : lenV d = some n) (hc : dig c = true) : lenV (d ++ [c]) = if n = 0 then none else if 10 * n + (c.toNat - 48) ≤ 1000 then some (10 * n + (c.toNat - 48)) else none := by
  have hcb := (dig_iff c).1 hc
  rw [lenV_eq] at h
  split at h
  · rename_i hg
    injection h with h
    have hdg := numB_digs hg.1
    have hv0 := val_nonneg d hdg
    have hdn := dec_num d hg.1
    rw [h] at hdn
    obtain ⟨x, t, e, hx, _⟩ := head_dec n
    rw [e] at hdn
    by_cases h0 : n = 0
    · rw [if_pos h0]
      subst h0
      have e0 : decDigits 0 = [48] := by kernel_rfl
      rw [e0] at e
      rw [← hdn, ← e, lenV_eq, if_neg]
      rintro ⟨q, _⟩
      simp [numB] at q
    · rw [if_neg h0]
      have hva := val_app d c
      have hnb : numB (d ++ [c]) = true := by
        have h2 : digs (d ++ [c]) = true := by rw [digs_app, hdg, hc]; rfl
        rw [← hdn] at h2 ⊢
        unfold numB
        rw [h2]
        cases t with
        | nil => simpa using hx (by omega)
        | cons y t => simpa using hx (by omega)
      rw [lenV_eq, hva]
      by_cases hle : 10 * n + (c.toNat - 48) ≤ 1000
      · rw [if_pos ⟨hnb, by omega⟩, if_pos hle]; congr 1; omega
      · rw [if_neg (by rintro ⟨_, q⟩; omega), if_neg hle]
  · cases h
theorem digs_next {l : List UInt8} {k : Nat} (h : 12 + k < l.length) (hd : digs (dgK l k) = true) (hc : dig l[12 + k] = true) : digs (dgK l (k + 1)) = true := by
  rw [dgK_snoc h, digs_app, hd, hc]; rfl
/-- Behind the length: where the last field stands. -/
theorem text_last {l : List UInt8} {n i : Nat} (hl : lenP l = .whole (n, i)) : textP lenV prT headT lastT l = forL (lastT ++ prT (l.take (i + n))) (i + n) l := by
  rw [text_eq, hl, forL_both]
  simp only
  cases forL lastT (i + n) l <;> rfl
end Go.Proofs.YtkpoheknmcepnaaGreatDoor

namespace Go.Proofs.YtkpoheknmcepnaaGreatDoor
set_option linter.unusedVariables false
set_option linter.unusedSimpArgs false
open Go.RowKit Go.Great Go.Lib

theorem refDigit_any (c : UInt8) (w : World) : Calls Tryz.prog 133 #[.int .u8 (c.toNat : Int)] w fun e w' => e = .returned (.bool (dig c)) ∧ w' = w := by
  have hR : dig c = (decide (48 ≤ (c.toNat : Int)) && decide ((c.toNat : Int) ≤ 57)) := rfl
  generalize dig c = R at *
  generalize (c.toNat : Int) = z at *
  by_cases h1 : 48 ≤ z
  · by_cases h2 : z ≤ 57
    · have HR : Hid (R = true) := by show _ = _; rw [hR]; simp [h1, h2]
      clear hR
      go_enter Tryz.func133, Tryz.ntmps133
      go_wp2
      go_ret
      exact ⟨ret_bool (by rw [HR.out]), rfl⟩
    · have HR : Hid (R = false) := by show _ = _; rw [hR]; simp [h2]
      clear hR
      go_enter Tryz.func133, Tryz.ntmps133
      go_wp2
      go_ret
      exact ⟨ret_bool (by rw [HR.out]), rfl⟩
  · have HR : Hid (R = false) := by show _ = _; rw [hR]; simp [h1]
    clear hR
    go_enter Tryz.func133, Tryz.ntmps133
    go_wp2
    go_ret
    exact ⟨ret_bool (by rw [HR.out]), rfl⟩
theorem lsrc_cell {w : World} {b off : Nat} {l : List UInt8} (h : LSrc w (some ⟨b, off, none⟩) l) {j : Nat} (hj : j < l.length) : w.cell? ⟨b, off + j, none⟩ = some (.int .u8 (l[j].toNat : Int)) := by
  rcases h with h | ⟨b', off', e, hr⟩
  · subst h; cases hj
  · injection e with e
    injection e with e1 e2 _
    subst e1 e2
    exact hr j hj
theorem refSum_one (B : Nat) (b off k cap : Nat) (l : List UInt8) (w : World) (hk : k ≤ l.length) (hl : l.length ≤ 1000000000)
    (hB : w.cell? ⟨B, 0, none⟩ = some (.slice (some ⟨b, off, none⟩) k cap)) (h : LSrc w (some ⟨b, off, none⟩) l) :
    Calls Tryz.prog 134 #[.slice (some ⟨B, 0, none⟩) 1 1] w fun e w' => e = .returned (.int .i64 (sumL (l.take k) : Int)) ∧ w' = w := by
  have h1 := refSum_any (some ⟨B, 0, none⟩) 1 1 (fun _ => k) (fun _ => frD l) w (by decide) (.inr ⟨B, 0, rfl, fun i hi => by
    obtain rfl : i = 0 := by omega
    refine ⟨some ⟨b, off, none⟩, cap, hB, (by show k ≤ 140737488351232; omega), .inr ⟨b, off, rfl, fun j hj => ⟨?_, ?_⟩⟩⟩
    · have hj' : j < k := hj
      rw [lsrc_cell h (by omega)]
      show _ = some (Value.int .u8 ((frD l j : Nat) : Int))
      unfold frD
      rw [List.getD_eq_getElem?_getD, List.getElem?_eq_getElem (by omega)]; rfl
    · unfold frD; exact UInt8.toNat_lt _⟩)
  have e : sumRows (fun _ => k) (fun _ => frD l) 1 = sumL (l.take k) := by
    show sumRow 0 (frD l) k = _
    exact frRow_list l k hk
  rw [e] at h1
  exact h1
theorem LSrc.low {w w' : World} {a : Option Addr} {l : List UInt8} (h : LSrc w a l) (hb : Below w.heap.size w w') : LSrc w' a l := by
  rcases h with h | ⟨b, off, e, hr⟩
  · exact .inl h
  · exact .inr ⟨b, off, e, fun j hj => (hb.cell (p := ⟨b, off + j, none⟩) (World.block_lt_of_cell? _ _ (hr j hj))).trans (hr j hj)⟩
theorem LSrc.more {w : World} {a : Option Addr} {l : List UInt8} (h : LSrc w a l) (h0 : 0 < l.length) : ∃ b off, a = some ⟨b, off, none⟩ := by
  rcases h with h | ⟨b, off, e, hr⟩
  · subst h; cases h0
  · exact ⟨b, off, e⟩
theorem cases12 {i : Nat} (h : i < 12) : i = 0 ∨ i = 1 ∨ i = 2 ∨ i = 3 ∨ i = 4 ∨ i = 5 ∨ i = 6 ∨ i = 7 ∨ i = 8 ∨ i = 9 ∨ i = 10 ∨ i = 11 := by omega
theorem exec_index {P : Program} {w w' : World} {o : Oper} {a : Act} {ty : TypeId} (s x : Operand) (ho : o.op = .index ty s x) {v u r : Value} (hs : a.eval s = v) (hx : a.eval x = u) (hr : (Instr.index ty v u).run P w = .ok r w') : (execOp a.eval o).run P w = .ok (.value r) w' := by
  unfold execOp
  simp only [ho, hs, hx, Sem.run_bind, hr, Result.andThen_ok, Sem.run_pure]
def hdB (i : Nat) : Nat := (headT.getD i 0).toNat
/-- What the reference tells of a text. -/
def TxA (p : Part Nat) (w : World) (e : Ending) (w' : World) : Prop := ∃ (c : Bool) (m : Nat), e = .returned (.tuple #[.bool c, .int .i64 (m : Int)]) ∧ CdOK p c m ∧ Below w.heap.size w w'
theorem TxA.no {p : Part Nat} {w w' : World} (h : p = .wrong) (hb : Below w.heap.size w w') : TxA p w (.returned (.tuple #[.bool false, .int .i64 0])) w' := ⟨false, 0, rfl, by rw [h]; rfl, hb⟩
theorem TxA.some {p : Part Nat} {w w' : World} (h : ∃ n, p = .begun n) (hb : Below w.heap.size w w') : TxA p w (.returned (.tuple #[.bool true, .int .i64 0])) w' := ⟨true, 0, rfl, by obtain ⟨n, h⟩ := h; rw [h]; exact ⟨rfl, rfl⟩, hb⟩
theorem head_wrong {l : List UInt8} (h : forL headT 0 l = .wrong) : textP lenV prT headT lastT l = .wrong := by
  have : lenP l = .wrong := by unfold lenP Part.then; rw [h]
  rw [text_eq, this]
theorem head_begun {l : List UInt8} {n : Nat} (h : forL headT 0 l = .begun n) : ∃ m, textP lenV prT headT lastT l = .begun m := by
  have : lenP l = .begun n := by unfold lenP Part.then; rw [h]
  exact ⟨n, by rw [text_eq, this]⟩
set_option maxRecDepth 100000 in
set_option maxHeartbeats 4000000 in
theorem refText_any (a : Option Addr) (n c : Nat) (l : List UInt8) (w : World) (hs : LSrc w a l) (hn : l.length = n) (hnc : n ≤ c) (hn1 : n ≤ 1000000000) :
    Calls Tryz.prog 69 #[.slice a n c] w fun e w' => TxA (textP lenV prT headT lastT l) w e w' := by
  have HS : Hid (LSrc w a l ∧ l.length = n) := ⟨hs, hn⟩
  obtain ⟨TP, hTP⟩ : ∃ TP, textP lenV prT headT lastT l = TP := ⟨_, rfl⟩
  rw [hTP]
  have HT : Hid (textP lenV prT headT lastT l = TP) := hTP
  clear hs hn hTP
  go_enter Tryz.func69, Tryz.ntmps69
  go_wp2
  go_loopw [4] (fun x wr => ∃ i : Nat, i ≤ 12 ∧ x = .int .i64 (i : Int) ∧ Hid (forL headT 0 l = forL (headT.drop i) (0 + i) l) ∧ Hid (Below w.heap.size w wr)) (fun x _ => 12 - (RowKit.intOf x).toNat)
  case atStart => exact ⟨0, Nat.zero_le _, rfl, rfl, Below.refl _ _⟩
  case round =>
    obtain ⟨i, hi, rfl, HF, HW⟩ := hrel
    by_cases hlt : i < 12
    · have hlt' : (i : Int) < 12 := by omega
      by_cases hb : i < n
      · have hb' : ¬ (n : Int) ≤ (i : Int) := by omega
        have hb2 : (i : Int) < (n : Int) := by omega
        obtain ⟨b, off, rfl⟩ := HS.out.1.more (by have := HS.out.2; omega)
        have hil : i < l.length := by have := HS.out.2; omega
        have hbd : Below w.heap.size w wr.drew := HW.out.drew
        have hcl := lsrc_cell (HS.out.1.low hbd) hil
        have HBD : Hid (Below w.heap.size w wr.drew) := hbd
        obtain ⟨x, hx⟩ : ∃ x, l[i].toNat = x := ⟨_, rfl⟩
        rw [hx] at hcl
        have hht : i < headT.length := hlt
        have hhd : (headT[i]).toNat = hdB i := by unfold hdB; rw [List.getD_eq_getElem?_getD, List.getElem?_eq_getElem hht]; rfl
        obtain ⟨y, hy⟩ : ∃ y, hdB i = y := ⟨_, rfl⟩
        have hix : ∀ w' : World, (Instr.index 9 (.string ⟨#[56, 61, 70, 73, 88, 46, 52, 46, 52, 1, 57, 61]⟩) (.int .i64 (i : Int))).run Tryz.prog w' = .ok (.int .u8 (y : Int)) w' := fun w' => by
          rw [← hy]
          rcases cases12 hlt with rfl | rfl | rfl | rfl | rfl | rfl | rfl | rfl | rfl | rfl | rfl | rfl <;> kernel_rfl
        have hq : l[i] = headT[i] ↔ x = y := by
          rw [← hx, ← hy, ← hhd]; exact ⟨fun e => by rw [e], fun e => UInt8.toNat_inj.1 e⟩
        have HQ : Hid (l[i] = headT[i] ↔ x = y) := hq
        clear hbd hx hhd hy hq HW
        go_upto_region 6 with fail
        rename_i Kc hKc
        refine wp_region_held (S := fun w' => w'.cell? ⟨b, off + i, none⟩ = some (.int .u8 (x : Int))) (by kernel_rfl) ?_
        change wpAnyH _ _ _ _ _ _ _ _ (World.drew _)
        generalize wr.drew = w9 at *
        refine takeR (i := 0) (v := .slice (some ⟨b, off, none⟩) n c) (some 21) rfl rfl (by kernel_rfl) (by kernel_rfl) (by kernel_rfl) (fun _ _ _ h => h) (Or.inl ⟨by kernel_rfl, fun w' hSw => by kernel_rfl⟩) hcl ?_
        simp only [Act.put, List.setIfInBounds_toArray, List.set_cons_zero, List.set_cons_succ]
        refine takeR (i := 1) (v := .int .i64 (i : Int)) (some 22) rfl rfl (by kernel_rfl) (by kernel_rfl) (by kernel_rfl) (fun _ _ _ h => h) (Or.inl ⟨by kernel_rfl, fun w' hSw => by kernel_rfl⟩) hcl ?_
        simp only [Act.put, List.setIfInBounds_toArray, List.set_cons_zero, List.set_cons_succ]
        refine takeR (i := 2) (v := .pointer (some ⟨b, off + i, none⟩)) (some 23) rfl rfl (by kernel_rfl) (by kernel_rfl) (by kernel_rfl) (fun _ _ _ h => h) (Or.inl ⟨by kernel_rfl, fun w' hSw => by clear hSw; go_simp⟩) hcl ?_
        simp only [Act.put, List.setIfInBounds_toArray, List.set_cons_zero, List.set_cons_succ]
        refine takeR (i := 3) (v := .int .u8 (x : Int)) (some 24) rfl rfl (by kernel_rfl) (by kernel_rfl) (by kernel_rfl) (fun _ _ _ h => h) (Or.inl ⟨by kernel_rfl, fun w' hSw => by go_simp⟩) hcl ?_
        simp only [Act.put, List.setIfInBounds_toArray, List.set_cons_zero, List.set_cons_succ]
        refine takeR (i := 4) (v := .int .i64 (i : Int)) (some 25) rfl rfl (by kernel_rfl) (by kernel_rfl) (by kernel_rfl) (fun _ _ _ h => h) (Or.inl ⟨by kernel_rfl, fun w' hSw => by kernel_rfl⟩) hcl ?_
        simp only [Act.put, List.setIfInBounds_toArray, List.set_cons_zero, List.set_cons_succ]
        refine takeR (i := 5) (v := .int .u8 (y : Int)) (some 26) rfl rfl (by kernel_rfl) (by kernel_rfl) (by kernel_rfl) (fun _ _ _ h => h) (Or.inl ⟨by kernel_rfl, fun w' hSw => by exact exec_index _ _ rfl (by kernel_rfl) (by kernel_rfl) (hix w')⟩) hcl ?_
        simp only [Act.put, List.setIfInBounds_toArray, List.set_cons_zero, List.set_cons_succ]
        by_cases hxy : x = y
        · have hN : Hid (forL headT 0 l = forL (headT.drop (i + 1)) (0 + (i + 1)) l) := forL_next (t := headT) (k := 0) hht (by omega) (by simpa using HQ.out.2 hxy) HF.out
          subst hxy
          refine takeR (i := 6) (v := .bool false) (some 27) rfl rfl (by kernel_rfl) (by kernel_rfl) (by kernel_rfl) (fun _ _ _ h => h) (Or.inl ⟨by kernel_rfl, fun w' hSw => by clear hSw; go_simp⟩) hcl ?_
          simp only [Act.put, List.setIfInBounds_toArray, List.set_cons_zero, List.set_cons_succ]
          refine wpAnyH_done (by kernel_rfl) ?_ _
          refine hKc _ _ ?_
          clear hKc hix hcl HF HQ
          have hiw : IntKind.i64.wrap ((i : Int) + 1) = (i : Int) + 1 := by rw [IntKind.wrap_i64]; omega
          go_wp2
          go_roundw
          case rel => exact ⟨i + 1, by omega, by go_num, hN.out, HBD.out⟩
          case measure => simp [RowKit.intOf]; omega
        · have hN : Hid (TP = .wrong) := HT.out.symm.trans (head_wrong (forL_no (t := headT) (k := 0) hht (by omega) (fun e => hxy (HQ.out.1 (by simpa using e))) HF.out))
          have hxy' : ¬ (x : Int) = (y : Int) := by omega
          refine takeR (i := 6) (v := .bool true) (some 27) rfl rfl (by kernel_rfl) (by kernel_rfl) (by kernel_rfl) (fun _ _ _ h => h) (Or.inl ⟨by kernel_rfl, fun w' hSw => by clear hSw; go_simp⟩) hcl ?_
          simp only [Act.put, List.setIfInBounds_toArray, List.set_cons_zero, List.set_cons_succ]
          refine wpAnyH_done (by kernel_rfl) ?_ _
          refine hKc _ _ ?_
          clear hKc hix hcl HF HQ
          go_wp2
          go_ret2
          exact TxA.no hN.out HBD.out
      · have hb' : (n : Int) ≤ (i : Int) := by omega
        have hN : Hid (∃ m, TP = .begun m) := by
          have h1 := forL_short (t := headT) (k := 0) (i := i) (l := l) hlt (by have := HS.out.2; omega) HF.out
          obtain ⟨m, hm⟩ := head_begun h1
          exact ⟨m, HT.out.symm.trans hm⟩
        clear HF
        go_wp2
        go_ret2
        exact TxA.some hN.out HW.out
    · have hi12 : i = 12 := by omega
      have hlt12 : ¬ (i : Int) < 12 := by omega
      have hF12 : forL headT 0 l = .whole 12 := by have := HF.out; rw [hi12] at this; exact this
      have HH : Hid (forL headT 0 l = .whole 12 ∧ 12 ≤ n) := ⟨hF12, by
        have h1 := (forL_whole hF12).2.1 (by decide)
        have := HS.out.2
        omega⟩
      clear HF hF12 hi12 hlt hi
      go_wp2
      go_loopw [5, 6, 7, 8] (fun x5 x6 x7 _ wr => ∃ k v : Nat, 12 + k ≤ n ∧ x7 = .int .i64 (k : Int) ∧ x5 = .int .i64 ((12 : Int) + (k : Int)) ∧ x6 = .int .i64 (v : Int) ∧ v ≤ 1000 ∧ Hid (digs (dgK l k) = true ∧ (k = 0 ∧ v = 0 ∨ 0 < k ∧ lenV (dgK l k) = some v)) ∧ Hid (Below w.heap.size w wr)) (fun _ _ x7 _ _ => n - (RowKit.intOf x7).toNat)
      case atStart => exact ⟨0, 0, HH.out.2, rfl, rfl, rfl, by decide, ⟨by simp [dgK, digs], .inl ⟨rfl, rfl⟩⟩, HW.out⟩
      case round =>
        obtain ⟨k, v, hk, rfl, rfl, rfl, hv, HD, HW2⟩ := hrel
        by_cases he : 12 + k = n
        · have hN : Hid (∃ m, TP = .begun m) := by
            obtain ⟨m, hm⟩ := text_short (n := v) HH.out.1 (by have := HS.out.2; omega) HD.out.1 (HD.out.2.imp (fun q => q.1) (fun q => q.2))
            exact ⟨m, HT.out.symm.trans hm⟩
          have he' : (n : Int) ≤ (12 : Int) + (k : Int) := by omega
          go_wp2
          go_ret2
          exact TxA.some hN.out HW2.out
        · have hlt : 12 + k < n := by omega
          have he' : ¬ (n : Int) ≤ (12 : Int) + (k : Int) := by omega
          have he2 : (12 : Int) + (k : Int) < (n : Int) := by omega
          have he3 : ((12 : Int) + (k : Int)).toNat = 12 + k := by omega
          obtain ⟨b, off, rfl⟩ := HS.out.1.more (by have := HS.out.2; omega)
          have hil : 12 + k < l.length := by have := HS.out.2; omega
          have hcl := lsrc_cell (HS.out.1.low HW2.out) hil
          obtain ⟨ch, hch⟩ : ∃ ch, l[12 + k] = ch := ⟨_, rfl⟩
          rw [hch] at hcl
          have HC : Hid (l[12 + k] = ch) := hch
          have hchn := ch.toNat_lt
          have h1w : IntKind.i64.wrap ((12 : Int) + (k : Int) + 1) = (12 : Int) + (k : Int) + 1 := by rw [IntKind.wrap_i64]; omega
          have h2w : IntKind.i64.wrap ((k : Int) + 1) = (k : Int) + 1 := by rw [IntKind.wrap_i64]; omega
          clear hch
          by_cases hA : ch = 1 ∧ 0 < k
          · obtain ⟨hc1, hk0⟩ := hA
            have hlv : lenV (dgK l k) = some v := by
              rcases HD.out.2 with q | q
              · omega
              · exact q.2
            have hlen := text_len HH.out.1 hil HD.out.1 (HC.out.trans hc1) hlv
            obtain ⟨E, hE⟩ : ∃ E, 12 + k + 1 + v = E := ⟨_, rfl⟩
            have HL : Hid (TP = forL (lastT ++ prT (l.take E)) E l) := by
              show TP = _
              rw [← HT.out, text_last hlen, hE]
            have hx1 : (ch.toNat : Int) = 1 := by rw [hc1]; rfl
            have hk0' : (0 : Int) < (k : Int) := by omega
            have h3w : IntKind.i64.wrap ((12 : Int) + (k : Int) + 1 + (v : Int)) = (E : Int) := by rw [IntKind.wrap_i64]; omega
            have hE0 : 13 ≤ E := by omega
            clear hlv hlen hc1 HD HH hE
            by_cases hgt : n < E
            · have hN : Hid (∃ m, TP = .begun m) := ⟨E + 1, by
                rw [HL.out]
                show forL (49 :: _) E l = _
                rw [forL.eq_2, dif_neg (by have := HS.out.2; omega)]⟩
              have hgt' : (n : Int) < (E : Int) := by omega
              go_wp2
              go_ret2
              exact TxA.some hN.out HW2.out
            · have hgt' : ¬ (n : Int) < (E : Int) := by omega
              have hgt2 : (E : Int) ≤ (n : Int) := by omega
              have hEc : (E : Int) ≤ (c : Int) := by omega
              have h5 : (wr.alloc (.cells #[.slice (some ⟨b, off, none⟩) E c] 22)).cell? ⟨wr.heap.size, 0, none⟩ = some (.slice (some ⟨b, off, none⟩) E c) := by simp
              have hB5 : Below w.heap.size w (wr.alloc (.cells #[.slice (some ⟨b, off, none⟩) E c] 22)) := HW2.out.alloc HW2.out.size _
              have hsum := refSum_one wr.heap.size b off E c l _ (by have := HS.out.2; omega) (by have := HS.out.2; omega) h5 (HS.out.1.low hB5)
              have hsl : sumL (l.take E) < 256 := sumL_lt _
              obtain ⟨sm, hsm⟩ : ∃ sm, sumL (l.take E) = sm := ⟨_, rfl⟩
              rw [hsm] at hsum hsl
              have HW3 : Hid (TP = forL (lastT ++ (three sm ++ [1])) E l) := by
                show TP = _
                rw [HL.out]; unfold prT; rw [hsm]
              clear HL hsm
              go_upto_region 25 with fail
              rename_i Kc hKc
              refine wp_region_lit ?_
              refine wpList_runTo rfl (some 79) rfl (.slice (some ⟨b, off, none⟩) n c) wr (by kernel_rfl) ?_
              simp only [Act.put, List.setIfInBounds_toArray, List.set_cons_zero, List.set_cons_succ]
              refine wpList_runTo rfl (some 80) rfl (.int .i64 (E : Int)) wr (by kernel_rfl) ?_
              simp only [Act.put, List.setIfInBounds_toArray, List.set_cons_zero, List.set_cons_succ]
              refine wpList_runTo rfl (some 81) rfl (.slice (some ⟨b, off, none⟩) E c) wr (by go_simp) ?_
              simp only [Act.put, List.setIfInBounds_toArray, List.set_cons_zero, List.set_cons_succ]
              refine wpList_runTo rfl (some 82) rfl (.slice (some ⟨wr.heap.size, 0, none⟩) 1 1) (wr.alloc (.cells #[.slice (some ⟨b, off, none⟩) E c] 22)) (by kernel_rfl) ?_
              simp only [Act.put, List.setIfInBounds_toArray, List.set_cons_zero, List.set_cons_succ]
              generalize wr.alloc (.cells #[.slice (some ⟨b, off, none⟩) E c] 22) = w5 at *
              refine wpList_callF rfl (some 83) rfl 134 #[.slice (some ⟨wr.heap.size, 0, none⟩) 1 1] (by kernel_rfl) hsum ?_
              rintro e w6 ⟨rfl, rfl⟩
              refine ⟨_, rfl, ?_⟩
              simp only [Act.put, List.setIfInBounds_toArray, List.set_cons_zero, List.set_cons_succ]
              refine wpList_runTo rfl (some 10) rfl (.int .i64 (sm : Int)) w6 (by kernel_rfl) ?_
              simp only [Act.put, List.setIfInBounds_toArray, List.set_cons_zero, List.set_cons_succ]
              refine wpList_nil ?_
              refine hKc _ _ ?_
              clear hKc hsum h5
              have hsrc : LSrc (w6.alloc (.cells #[.int .u8 (48 + (sm : Int) / 100), .int .u8 (48 + (sm : Int) / 10 % 10), .int .u8 (48 + (sm : Int) % 10)] 5)) (some ⟨w6.heap.size, 0, none⟩) (three sm) := by
                have h3 : ∀ c : Nat, c < 10 → ((UInt8.ofNat (48 + c)).toNat : Int) = 48 + (c : Int) := fun c hc => by rw [chr_nat hc]; omega
                have e1 := h3 (sm / 100) (by omega)
                have e2 := h3 (sm / 10 % 10) (by omega)
                have e3 := h3 (sm % 10) (by omega)
                refine .inr ⟨w6.heap.size, 0, rfl, fun j hj => ?_⟩
                rw [Nat.zero_add, cell_of_row _ _ j _ _ _ (heap_alloc_new w6 _)]
                have hj3 : j < 3 := hj
                have hjj : j = 0 ∨ j = 1 ∨ j = 2 := by omega
                rcases hjj with rfl | rfl | rfl
                · simp [three]; omega
                · simp [three]; omega
                · simp [three]; omega
              have hcv := conv_src (cap := 3) hsrc 3 rfl
              have HB7 : Hid (Below w.heap.size w (w6.alloc (.cells #[.int .u8 (48 + (sm : Int) / 100), .int .u8 (48 + (sm : Int) / 10 % 10), .int .u8 (48 + (sm : Int) % 10)] 5))) := hB5.alloc hB5.size _
              clear hsrc
              obtain ⟨T, hT⟩ : ∃ T : ByteArray, ⟨(three sm).toArray⟩ = T := ⟨_, rfl⟩
              rw [hT] at hcv
              have HTT : Hid ((⟨(three sm).toArray⟩ : ByteArray) = T) := hT
              clear hT hB5
              have hT3 : T.size = 3 := by rw [← HTT.out]; rfl
              have z1 : ¬ 9223372036854775807 < 3 + T.size := by omega
              have z2 : ¬ 9223372036854775807 < 3 + T.size + 1 := by omega
              have HT3 : Hid (T.size = 3) := hT3
              clear hT3
              go_upto_region 27 with fail
              have hS7 : (⟨#[49, 48, 61]⟩ ++ T ++ ⟨#[1]⟩ : ByteArray).size = 7 := by rw [← HTT.out]; rfl
              have hS8 : (⟨#[49, 48, 61]⟩ ++ T ++ ⟨#[1]⟩ : ByteArray).data.toList = lastT ++ (three sm ++ [1]) := by rw [← HTT.out]; rfl
              generalize (⟨#[49, 48, 61]⟩ ++ T ++ ⟨#[1]⟩ : ByteArray) = S7 at *
              generalize w6.alloc (.cells #[.int .u8 (48 + (sm : Int) / 100), .int .u8 (48 + (sm : Int) / 10 % 10), .int .u8 (48 + (sm : Int) % 10)] 5) = w7 at *
              obtain ⟨W, hW⟩ : ∃ W, lastT ++ (three sm ++ [1]) = W := ⟨_, rfl⟩
              rw [hW] at hS8
              have hWl : W.length = 7 := by rw [← hW]; rfl
              have HTW : Hid (TP = forL W E l) := by show TP = _; rw [HW3.out, hW]
              have HSW : Hid (S7.data.toList = W ∧ W.length = 7) := ⟨hS8, hWl⟩
              clear hW HW3 hcv HTT HT3 z1 z2 hS8 hWl
              go_wp2
              go_loopw [12] (fun x wr => ∃ j : Nat, j ≤ 7 ∧ x = .int .i64 (j : Int) ∧ Hid (forL W E l = forL (W.drop j) (E + j) l) ∧ Hid (Below w.heap.size w wr)) (fun x _ => 7 - (RowKit.intOf x).toNat)
              case atStart => exact ⟨0, Nat.zero_le _, rfl, rfl, HB7.out⟩
              case round =>
                obtain ⟨w8, hw8⟩ : ∃ w8, w8 = wr := ⟨_, rfl⟩
                obtain ⟨j, hj, rfl, HF, HW8⟩ := hrel
                by_cases hj7 : j < 7
                · have hj7' : (j : Int) < 7 := by omega
                  have hEj : IntKind.i64.wrap ((E : Int) + (j : Int)) = (E : Int) + (j : Int) := by rw [IntKind.wrap_i64]; omega
                  have hjw : j < W.length := by rw [HSW.out.2]; exact hj7
                  by_cases hin : E + j < n
                  · have hin' : ¬ (n : Int) ≤ (E : Int) + (j : Int) := by omega
                    have hin2 : (E : Int) + (j : Int) < (n : Int) := by omega
                    have hin3 : ((E : Int) + (j : Int)).toNat = E + j := by omega
                    have hin4 : ¬ (E : Int) + (j : Int) < 0 := by omega
                    have hil2 : E + j < l.length := by have := HS.out.2; omega
                    have hbd : Below w.heap.size w wr.drew := HW8.out.drew
                    have hcl2 := lsrc_cell (HS.out.1.low hbd) hil2
                    have HBD : Hid (Below w.heap.size w wr.drew) := hbd
                    obtain ⟨x, hx⟩ : ∃ x, l[E + j].toNat = x := ⟨_, rfl⟩
                    rw [hx] at hcl2
                    have hjs : j < S7.size := by omega
                    obtain ⟨y, hy⟩ : ∃ y, W[j].toNat = y := ⟨_, rfl⟩
                    have hyy : S7[j].toNat = y := by
                      rw [← hy]
                      have e1 : S7.data.toList[j]? = some S7[j] := by rw [Array.getElem?_toList]; exact Array.getElem?_eq_getElem hjs
                      rw [HSW.out.1, List.getElem?_eq_getElem hjw] at e1
                      injection e1 with e1
                      rw [e1]
                    have hq : l[E + j] = W[j] ↔ x = y := by
                      rw [← hx, ← hy]; exact ⟨fun e => by rw [e], fun e => UInt8.toNat_inj.1 e⟩
                    have HQ : Hid (l[E + j] = W[j] ↔ x = y) := hq
                    clear hbd hx hy hq HW8 hcl
                    have hix : ∀ w' : World, (Instr.index 9 (.string S7) (.int .i64 (j : Int))).run Tryz.prog w' = .ok (.int .u8 (y : Int)) w' := fun w' => by
                      have hjs' : (j : Int) < (S7.size : Int) := by omega
                      go_simp
                    go_upto_region 32 with fail
                    rename_i Kc hKc
                    refine wp_region_held (S := fun w' => w'.cell? ⟨b, off + (E + j), none⟩ = some (.int .u8 (x : Int))) (by kernel_rfl) ?_
                    change wpAnyH _ _ _ _ _ _ _ _ (World.drew _)
                    generalize wr.drew = w9 at *
                    refine takeR (i := 0) (v := .slice (some ⟨b, off, none⟩) n c) (some 113) rfl rfl (by kernel_rfl) (by kernel_rfl) (by kernel_rfl) (fun _ _ _ h => h) (Or.inl ⟨by kernel_rfl, fun w' hSw => by kernel_rfl⟩) hcl2 ?_
                    simp only [Act.put, List.setIfInBounds_toArray, List.set_cons_zero, List.set_cons_succ]
                    refine takeR (i := 1) (v := .int .i64 (E : Int)) (some 114) rfl rfl (by kernel_rfl) (by kernel_rfl) (by kernel_rfl) (fun _ _ _ h => h) (Or.inl ⟨by kernel_rfl, fun w' hSw => by kernel_rfl⟩) hcl2 ?_
                    simp only [Act.put, List.setIfInBounds_toArray, List.set_cons_zero, List.set_cons_succ]
                    refine takeR (i := 2) (v := .int .i64 (j : Int)) (some 115) rfl rfl (by kernel_rfl) (by kernel_rfl) (by kernel_rfl) (fun _ _ _ h => h) (Or.inl ⟨by kernel_rfl, fun w' hSw => by kernel_rfl⟩) hcl2 ?_
                    simp only [Act.put, List.setIfInBounds_toArray, List.set_cons_zero, List.set_cons_succ]
                    refine takeR (i := 3) (v := .int .i64 ((E : Int) + (j : Int))) (some 116) rfl rfl (by kernel_rfl) (by kernel_rfl) (by kernel_rfl) (fun _ _ _ h => h) (Or.inl ⟨by kernel_rfl, fun w' hSw => by clear hSw; go_simp⟩) hcl2 ?_
                    simp only [Act.put, List.setIfInBounds_toArray, List.set_cons_zero, List.set_cons_succ]
                    refine takeR (i := 4) (v := .pointer (some ⟨b, off + (E + j), none⟩)) (some 117) rfl rfl (by kernel_rfl) (by kernel_rfl) (by kernel_rfl) (fun _ _ _ h => h) (Or.inl ⟨by kernel_rfl, fun w' hSw => by clear hSw; go_simp⟩) hcl2 ?_
                    simp only [Act.put, List.setIfInBounds_toArray, List.set_cons_zero, List.set_cons_succ]
                    refine takeR (i := 5) (v := .int .u8 (x : Int)) (some 118) rfl rfl (by kernel_rfl) (by kernel_rfl) (by kernel_rfl) (fun _ _ _ h => h) (Or.inl ⟨by kernel_rfl, fun w' hSw => by go_simp⟩) hcl2 ?_
                    simp only [Act.put, List.setIfInBounds_toArray, List.set_cons_zero, List.set_cons_succ]
                    refine takeR (i := 6) (v := .string S7) (some 119) rfl rfl (by kernel_rfl) (by kernel_rfl) (by kernel_rfl) (fun _ _ _ h => h) (Or.inl ⟨by kernel_rfl, fun w' hSw => by kernel_rfl⟩) hcl2 ?_
                    simp only [Act.put, List.setIfInBounds_toArray, List.set_cons_zero, List.set_cons_succ]
                    refine takeR (i := 7) (v := .int .i64 (j : Int)) (some 120) rfl rfl (by kernel_rfl) (by kernel_rfl) (by kernel_rfl) (fun _ _ _ h => h) (Or.inl ⟨by kernel_rfl, fun w' hSw => by kernel_rfl⟩) hcl2 ?_
                    simp only [Act.put, List.setIfInBounds_toArray, List.set_cons_zero, List.set_cons_succ]
                    refine takeR (i := 8) (v := .int .u8 (y : Int)) (some 121) rfl rfl (by kernel_rfl) (by kernel_rfl) (by kernel_rfl) (fun _ _ _ h => h) (Or.inl ⟨by kernel_rfl, fun w' hSw => by exact exec_index _ _ rfl (by kernel_rfl) (by kernel_rfl) (hix w')⟩) hcl2 ?_
                    simp only [Act.put, List.setIfInBounds_toArray, List.set_cons_zero, List.set_cons_succ]
                    by_cases hxy : x = y
                    · have hN : Hid (forL W E l = forL (W.drop (j + 1)) (E + (j + 1)) l) := forL_next hjw (by omega) (HQ.out.2 hxy) HF.out
                      subst hxy
                      have hjj : IntKind.i64.wrap ((j : Int) + 1) = (j : Int) + 1 := by rw [IntKind.wrap_i64]; omega
                      refine takeR (i := 9) (v := .bool false) (some 122) rfl rfl (by kernel_rfl) (by kernel_rfl) (by kernel_rfl) (fun _ _ _ h => h) (Or.inl ⟨by kernel_rfl, fun w' hSw => by clear hSw; go_simp⟩) hcl2 ?_
                      simp only [Act.put, List.setIfInBounds_toArray, List.set_cons_zero, List.set_cons_succ]
                      refine wpAnyH_done (by kernel_rfl) ?_ _
                      refine hKc _ _ ?_
                      clear hKc hix hcl2 HF HQ
                      go_wp2
                      go_roundw
                      case rel => exact ⟨j + 1, by omega, by go_num, hN.out, HBD.out⟩
                      case measure => simp [RowKit.intOf]; omega
                    · have hN : Hid (TP = .wrong) := HTW.out.trans (forL_no hjw (by omega) (fun e => hxy (HQ.out.1 e)) HF.out)
                      have hxy' : ¬ (x : Int) = (y : Int) := by omega
                      refine takeR (i := 9) (v := .bool true) (some 122) rfl rfl (by kernel_rfl) (by kernel_rfl) (by kernel_rfl) (fun _ _ _ h => h) (Or.inl ⟨by kernel_rfl, fun w' hSw => by clear hSw; go_simp⟩) hcl2 ?_
                      simp only [Act.put, List.setIfInBounds_toArray, List.set_cons_zero, List.set_cons_succ]
                      refine wpAnyH_done (by kernel_rfl) ?_ _
                      refine hKc _ _ ?_
                      clear hKc hix hcl2 HF HQ
                      go_wp2
                      go_ret2
                      exact TxA.no hN.out HBD.out
                  · have hin' : (n : Int) ≤ (E : Int) + (j : Int) := by omega
                    have hN : Hid (∃ m, TP = .begun m) := ⟨_, HTW.out.trans (forL_short hjw (by have := HS.out.2; omega) HF.out)⟩
                    clear HF
                    go_wp2
                    go_ret2
                    exact TxA.some hN.out HW8.out
                · obtain rfl : j = 7 := by omega
                  have hN : Hid (TP = .whole (E + 7)) := by
                    show TP = _
                    rw [HTW.out, HF.out]
                    have := HSW.out.2
                    rw [List.drop_eq_nil_of_le (by omega)]
                    rfl
                  have hE7 : IntKind.i64.wrap ((E : Int) + 7) = (E : Int) + 7 := by rw [IntKind.wrap_i64]; omega
                  clear HF
                  go_wp2
                  go_ret2
                  exact ⟨true, E + 7, by first | rfl | (rw [Int.natCast_add]; rfl), by rw [hN.out]; exact ⟨rfl, rfl⟩, HW8.out⟩
          · have hdc := refDigit_any ch wr
            by_cases hdg : dig ch = true
            · rw [hdg] at hdc
              have hcb := (dig_iff ch).1 hdg
              have HDG : Hid (dig ch = true) := hdg
              have hx1 : ¬ (ch.toNat : Int) = 1 := by omega
              have hdn := digs_next hil HD.out.1 (by rw [HC.out]; exact hdg)
              have hsn := dgK_snoc hil
              rw [HC.out] at hsn
              obtain ⟨v2, hv2⟩ : ∃ v2, 10 * v + (ch.toNat - 48) = v2 := ⟨_, rfl⟩
              have y1 : IntKind.i64.wrap ((10 : Int) * (v : Int)) = (10 : Int) * (v : Int) := by rw [IntKind.wrap_i64]; omega
              have y2 : IntKind.i64.wrap ((10 : Int) * (v : Int) + (ch.toNat : Int)) = (10 : Int) * (v : Int) + (ch.toNat : Int) := by rw [IntKind.wrap_i64]; omega
              have y3 : IntKind.i64.wrap ((10 : Int) * (v : Int) + (ch.toNat : Int) - 48) = (v2 : Int) := by rw [IntKind.wrap_i64]; omega
              have y4 : IntKind.i64.wrap (ch.toNat : Int) = (ch.toNat : Int) := by rw [IntKind.wrap_i64]; omega
              rcases HD.out.2 with ⟨hk0, hv0⟩ | ⟨hk0, hlv⟩
              · have hk0' : ¬ (0 : Int) < (k : Int) := by omega
                have HLV : Hid (lenV (dgK l (k + 1)) = some v2) := by
                  show lenV _ = _
                  rw [hsn]
                  have : dgK l k = [] := by rw [hk0]; simp [dgK]
                  rw [this, List.nil_append, lenV_one hdg]
                  congr 1
                  omega
                have hkn : k + 1 ≤ n ∧ v2 ≤ 9 := by omega
                have hv1 : ¬ (1000 : Int) < (v2 : Int) := by omega
                clear hdg hdn hsn hA hk0 hv0
                go_wp2_with (go_at_call 133; refine hdc.mono ?_; rintro e w2 ⟨rfl, rfl⟩)
                go_roundw
                case rel => exact ⟨k + 1, v2, by omega, by go_num, by go_num, rfl, by omega, ⟨digs_next hil HD.out.1 (by rw [HC.out]; exact HDG.out), .inr ⟨by omega, HLV.out⟩⟩, HW2.out⟩
                case measure => simp [RowKit.intOf]; omega
              · have hln := lenV_next hlv hdg
                have hk0' : (0 : Int) < (k : Int) := by omega
                by_cases hz : v = 0
                · have hN : Hid (TP = .wrong) := HT.out.symm.trans (text_num HH.out.1 (by omega) (Nat.succ_pos k) hdn (by rw [hsn, hln, if_pos hz]))
                  have hz' : (v : Int) = 0 := by omega
                  clear hdg hdn hsn hA hln hlv y1 y2 y3 y4 hv2
                  go_wp2_with (go_at_call 133; refine hdc.mono ?_; rintro e w2 ⟨rfl, rfl⟩)
                  go_ret2
                  exact TxA.no hN.out HW2.out
                · have hz' : ¬ (v : Int) = 0 := by omega
                  rw [if_neg hz, hv2] at hln
                  by_cases hgt : v2 ≤ 1000
                  · have HLV : Hid (lenV (dgK l (k + 1)) = some v2) := by
                      show lenV _ = _
                      rw [hsn, hln, if_pos hgt]
                    have hv1 : ¬ (1000 : Int) < (v2 : Int) := by omega
                    clear hdg hdn hsn hA hln hlv
                    go_wp2_with (go_at_call 133; refine hdc.mono ?_; rintro e w2 ⟨rfl, rfl⟩)
                    go_roundw
                    case rel => exact ⟨k + 1, v2, by omega, by go_num, by go_num, rfl, by omega, ⟨digs_next hil HD.out.1 (by rw [HC.out]; exact HDG.out), .inr ⟨by omega, HLV.out⟩⟩, HW2.out⟩
                    case measure => simp [RowKit.intOf]; omega
                  · have hN : Hid (TP = .wrong) := HT.out.symm.trans (text_num HH.out.1 (by omega) (Nat.succ_pos k) hdn (by rw [hsn, hln, if_neg hgt]))
                    have hv1 : (1000 : Int) < (v2 : Int) := by omega
                    clear hdg hdn hsn hA hln hlv
                    go_wp2_with (go_at_call 133; refine hdc.mono ?_; rintro e w2 ⟨rfl, rfl⟩)
                    go_ret2
                    exact TxA.no hN.out HW2.out
            · have hdf : dig ch = false := by simpa using hdg
              rw [hdf] at hdc
              have hN : Hid (TP = .wrong) := HT.out.symm.trans (text_bad HH.out.1 hil HD.out.1 (by rw [HC.out]; exact hdf) (by
                rcases Nat.eq_zero_or_pos k with q | q
                · exact .inl q
                · exact .inr fun e => hA ⟨HC.out.symm.trans e, q⟩))
              by_cases hc1 : ch = 1
              · have hk0 : k = 0 := by
                  rcases Nat.eq_zero_or_pos k with q | q
                  · exact q
                  · exact absurd ⟨hc1, q⟩ hA
                have hk0' : ¬ (0 : Int) < (k : Int) := by omega
                have hx1 : (ch.toNat : Int) = 1 := by rw [hc1]; rfl
                rw [hx1] at hdc
                clear hdg hdf hA hc1 hk0
                go_wp2_with (go_at_call 133; refine hdc.mono ?_; rintro e w2 ⟨rfl, rfl⟩)
                go_ret2
                exact TxA.no hN.out HW2.out
              · have hx1 : ¬ (ch.toNat : Int) = 1 := fun e => hc1 (UInt8.toNat_inj.1 (by show ch.toNat = 1; omega))
                clear hdg hdf hA hc1
                go_wp2_with (go_at_call 133; refine hdc.mono ?_; rintro e w2 ⟨rfl, rfl⟩)
                go_ret2
                exact TxA.no hN.out HW2.out
end Go.Proofs.YtkpoheknmcepnaaGreatDoor

namespace Go.Proofs.YtkpoheknmcepnaaGreatDoor
set_option linter.unusedVariables false
open Go.RowKit

theorem forL_yes {l : List UInt8} {t : UInt8} {ts : List UInt8} {i : Nat} (h : i < l.length) (hd : dL l i = t.toNat) : forL (t :: ts) i l = forL ts (i + 1) l := by
  rw [forL.eq_2, dif_pos h, if_pos]
  unfold dL at hd
  rw [List.getD_eq_getElem?_getD, List.getElem?_eq_getElem h] at hd
  exact UInt8.toNat_inj.1 hd
theorem forL_not {l : List UInt8} {t : UInt8} {ts : List UInt8} {i : Nat} (h : i < l.length) (hd : ¬ dL l i = t.toNat) : forL (t :: ts) i l = .wrong := by
  rw [forL.eq_2, dif_pos h, if_neg]
  intro e
  apply hd
  unfold dL
  rw [List.getD_eq_getElem?_getD, List.getElem?_eq_getElem h, ← e]; rfl
theorem forL_out {l : List UInt8} {t : UInt8} {ts : List UInt8} {i : Nat} (h : ¬ i < l.length) : forL (t :: ts) i l = .begun (i + 1) := by
  rw [forL.eq_2, dif_neg h]
section
variable {l : List UInt8}
theorem bin_w0 (h : 0 < l.length) (h0 : ¬ dL l 0 = 79) : binP sizeF okF l = .wrong := by
  rw [bin_eq, forL_not (t := 79) h h0]
theorem bin_w1 (h : 1 < l.length) (h0 : dL l 0 = 79) (h1 : ¬ dL l 1 = 67) : binP sizeF okF l = .wrong := by
  rw [bin_eq, forL_yes (t := 79) (by omega) h0, forL_not (t := 67) h h1]
theorem bin_b5 (h : l.length < 5) (h0 : 0 < l.length → dL l 0 = 79) (h1 : 1 < l.length → dL l 1 = 67) : ∃ m, binP sizeF okF l = .begun m := by
  rw [bin_eq]
  by_cases g0 : 0 < l.length
  · rw [forL_yes (t := 79) g0 (h0 g0)]
    by_cases g1 : 1 < l.length
    · rw [forL_yes (t := 67) g1 (h1 g1)]
      simp only [forL]
      rw [if_pos h]; exact ⟨_, rfl⟩
    · rw [forL_out g1]; exact ⟨_, rfl⟩
  · rw [forL_out g0]; exact ⟨_, rfl⟩
theorem bin_head (h : 5 ≤ l.length) (h0 : dL l 0 = 79) (h1 : dL l 1 = 67) : forL [79, 67] 0 l = .whole 2 := by
  rw [forL_yes (t := 79) (by omega) h0, forL_yes (t := 67) (by omega) h1]; rfl
theorem bin_ws (h : 5 ≤ l.length) (h0 : dL l 0 = 79) (h1 : dL l 1 = 67) (hs : sizeN (dL l 4 : Int) = 0 ∨ ¬ sizeN (dL l 4 : Int) = getN (dL (l.drop 2)) 2) : binP sizeF okF l = .wrong := by
  have e : sizeF l = none := by
    unfold sizeF
    rw [if_pos (hs.imp id fun q e => q e.symm)]
  rw [bin_eq, bin_head h h0 h1]
  simp only
  rw [if_neg (by omega), e]
theorem bin_size (hs : ¬ sizeN (dL l 4 : Int) = 0) (hn : sizeN (dL l 4 : Int) = getN (dL (l.drop 2)) 2) : sizeF l = some (sizeN (dL l 4 : Int)) := by
  unfold sizeF
  rw [if_neg]
  rintro (q | q)
  · exact hs q
  · exact q hn.symm
theorem bin_w5 (h : 5 < l.length) (h0 : dL l 0 = 79) (h1 : dL l 1 = 67) (hs : ¬ sizeN (dL l 4 : Int) = 0) (hn : sizeN (dL l 4 : Int) = getN (dL (l.drop 2)) 2) (h5 : ¬ dL l 5 = 1) : binP sizeF okF l = .wrong := by
  rw [bin_eq, bin_head (by omega) h0 h1]
  simp only
  rw [if_neg (by omega), bin_size hs hn]
  simp only
  rw [forL_not (t := 1) h h5]
theorem bin_bs (h : 5 ≤ l.length) (h0 : dL l 0 = 79) (h1 : dL l 1 = 67) (hs : ¬ sizeN (dL l 4 : Int) = 0) (hn : sizeN (dL l 4 : Int) = getN (dL (l.drop 2)) 2) (h5 : 5 < l.length → dL l 5 = 1) (hlt : l.length < sizeN (dL l 4 : Int)) : ∃ m, binP sizeF okF l = .begun m := by
  rw [bin_eq, bin_head (by omega) h0 h1]
  simp only
  rw [if_neg (by omega), bin_size hs hn]
  simp only
  by_cases g : 5 < l.length
  · rw [forL_yes (t := 1) g (h5 g)]
    simp only [forL]
    rw [if_pos hlt]; exact ⟨_, rfl⟩
  · rw [forL_out g]; exact ⟨_, rfl⟩
theorem bin_end (h0 : dL l 0 = 79) (h1 : dL l 1 = 67) (hs : ¬ sizeN (dL l 4 : Int) = 0) (hn : sizeN (dL l 4 : Int) = getN (dL (l.drop 2)) 2) (h5 : dL l 5 = 1) (hle : sizeN (dL l 4 : Int) ≤ l.length) (hg : 10 < sizeN (dL l 4 : Int)) :
    binP sizeF okF l = if getN (dL (l.drop 6)) 4 = crcL (l.take 6 ++ (l.drop 10).take (sizeN (dL l 4 : Int) - 10)) then .whole (sizeN (dL l 4 : Int)) else .wrong := by
  rw [bin_eq, bin_head (by omega) h0 h1]
  simp only
  rw [if_neg (by omega), bin_size hs hn]
  simp only
  rw [forL_yes (t := 1) (by omega) h5]
  simp only [forL]
  rw [if_neg (by omega)]
end
end Go.Proofs.YtkpoheknmcepnaaGreatDoor

namespace Go.Proofs.YtkpoheknmcepnaaGreatDoor
set_option linter.unusedVariables false
set_option linter.unusedSimpArgs false
open Go.RowKit Go.Great

theorem wu32 {z y : Int} (h0 : 0 ≤ z) (h1 : z < 4294967296) (h : z = y) : IntKind.u32.wrap z = y := by rw [IntKind.wrap_u32']; omega
theorem By_app {w : World} {v : Value} {l l2 : List UInt8} {n m gs os c : Nat} (h : ByAt w v l) (hn : l.length = n) (hs : LSrc w (some ⟨gs, os, none⟩) l2) (hm : l2.length = m) (hm0 : 0 < m) (hb : n + m ≤ 1000000000) :
    ∃ a8 c8 w8, (Builtin.append_ #[22, 22] 22 #[v, .slice (some ⟨gs, os, none⟩) m c]).run Tryz.prog w = .ok (.slice a8 (n + m) c8) w8 ∧ ByAt w8 (.slice a8 (n + m) c8) (l ++ l2) ∧ Fr w w8 (fun b => v.ownBlock = some b) ∧ ((Value.slice a8 (n + m) c8).ownBlock = v.ownBlock ∨ ∃ b, (Value.slice a8 (n + m) c8).ownBlock = some b ∧ w.heap.size ≤ b) := by
  subst hn hm
  obtain ⟨i, hi, hz, hsz, hby⟩ := infoB
  obtain ⟨v', w', hr, hrow, hfa, hnw⟩ := run_append_row (P := Tryz.prog) w 22 22 5 i _ 1 1 Tryz.underlying22 hi hz hsz hby (by rfl) v l.length (flatL u8V l) h ⟨gs, os, none⟩ l2.length c (flatL u8V l2) (by rw [flatL_len u8V_len]) (lsrc_cells hs) (u8_one l2) (.inl hm0) (by unfold maxLen; omega) (by omega)
  obtain ⟨a8, c8, rfl, _⟩ := hrow.form
  refine ⟨a8, c8, w', hr, by unfold ByAt; rw [List.length_append, flatL_app]; exact hrow, hfa, ?_⟩
  rcases hnw with e | ⟨e, _⟩
  · exact .inl e
  · exact .inr ⟨_, e, Nat.le_refl _⟩
theorem dL_cell {w : World} {b off : Nat} {l : List UInt8} (h : LSrc w (some ⟨b, off, none⟩) l) {j : Nat} (hj : j < l.length) : w.cell? ⟨b, off + j, none⟩ = some (.int .u8 (dL l j : Int)) := by
  rw [lsrc_cell h hj]
  unfold dL
  rw [List.getD_eq_getElem?_getD, List.getElem?_eq_getElem hj]; rfl
theorem ByAt.srcN {w : World} {a : Option Addr} {n c : Nat} {l : List UInt8} (h : ByAt w (.slice a n c) l) (hn : l.length = n) : Src w a n (dL l) := by
  by_cases h0 : n = 0
  · exact .inl h0
  · have hs := ByAt.src h
    obtain ⟨b, off, rfl⟩ := hs.more (by omega)
    exact .inr ⟨b, off, rfl, fun j hj => ⟨dL_cell hs (by omega), dL_lt l j⟩⟩
set_option maxRecDepth 100000 in
set_option maxHeartbeats 4000000 in
theorem refBin_any (a : Option Addr) (n c : Nat) (l : List UInt8) (w : World) (hs : LSrc w a l) (hn : l.length = n) (hnc : n ≤ c) (hn1 : n ≤ 1000000000) :
    Calls Tryz.prog 70 #[.slice a n c] w fun e w' => TxA (binP sizeF okF l) w e w' := by
  have HS : Hid (LSrc w a l ∧ l.length = n) := ⟨hs, hn⟩
  obtain ⟨TP, hTP⟩ : ∃ TP, binP sizeF okF l = TP := ⟨_, rfl⟩
  rw [hTP]
  have HT : Hid (binP sizeF okF l = TP) := hTP
  clear hs hn hTP
  by_cases g0 : 0 < n
  · obtain ⟨b, off, rfl⟩ := HS.out.1.more (by have := HS.out.2; omega)
    have c0 := dL_cell HS.out.1 (j := 0) (by have := HS.out.2; omega)
    rw [Nat.add_zero] at c0
    have g0' : (0 : Int) < (n : Int) := by omega
    have hx0 := dL_lt l 0
    obtain ⟨x0, e0⟩ : ∃ x, dL l 0 = x := ⟨_, rfl⟩
    rw [e0] at c0 hx0
    by_cases h0 : x0 = 79
    · have h0' : (x0 : Int) = 79 := by omega
      by_cases g1 : 1 < n
      · have g1' : (1 : Int) < (n : Int) := by omega
        have c1 := dL_cell HS.out.1 (j := 1) (by have := HS.out.2; omega)
        obtain ⟨x1, e1⟩ : ∃ x, dL l 1 = x := ⟨_, rfl⟩
        rw [e1] at c1
        by_cases h1 : x1 = 67
        · have h1' : (x1 : Int) = 67 := by omega
          by_cases g5 : n < 5
          · have g5' : (n : Int) < 5 := by omega
            have hN : Hid (∃ m, TP = .begun m) := by
              obtain ⟨m, hm⟩ := bin_b5 (l := l) (by have := HS.out.2; omega) (fun _ => e0.trans h0) (fun _ => e1.trans h1)
              exact ⟨m, HT.out.symm.trans hm⟩
            clear e0 e1 h0 h1
            go_enter Tryz.func70, Tryz.ntmps70
            go_wp2
            go_ret2
            exact TxA.some hN.out (Below.refl _ _)
          · have g5' : ¬ (n : Int) < 5 := by omega
            have HE : Hid (dL l 0 = 79 ∧ dL l 1 = 67) := ⟨e0.trans h0, e1.trans h1⟩
            clear e0 e1 h0 h1 hx0
            go_enter Tryz.func70, Tryz.ntmps70
            go_upto_region 5 with fail
            have hbd : Below w.heap.size w w.drew := (Below.refl _ w).drew
            have hlen := HS.out.2
            have hL := HS.out.1.low hbd
            have c2 := dL_cell hL (j := 2) (by omega)
            have c3 := dL_cell hL (j := 3) (by omega)
            have c4 := dL_cell hL (j := 4) (by omega)
            have b2 := dL_lt l 2
            have b3 := dL_lt l 3
            have b4 := dL_lt l 4
            obtain ⟨x2, e2⟩ : ∃ x, dL l 2 = x := ⟨_, rfl⟩
            obtain ⟨x3, e3⟩ : ∃ x, dL l 3 = x := ⟨_, rfl⟩
            obtain ⟨x4, e4⟩ : ∃ x, dL l 4 = x := ⟨_, rfl⟩
            have hN2 : getN (dL (l.drop 2)) 2 = x2 * 256 + x3 := by
              simp only [getN, dL_drop]
              rw [← e2, ← e3]
              show (0 * 256 + dL l 2) * 256 + dL l 3 = _
              omega
            obtain ⟨n2, hn2⟩ : ∃ n2, x2 * 256 + x3 = n2 := ⟨_, rfl⟩
            rw [e2] at c2 b2
            rw [e3] at c3 b3
            rw [e4] at c4 b4
            have HE2 : Hid (dL l 4 = x4 ∧ getN (dL (l.drop 2)) 2 = n2) := ⟨e4, hN2.trans hn2⟩
            have hSS : w.drew.cell? ⟨b, off + 2, none⟩ = some (.int .u8 (x2 : Int)) ∧ w.drew.cell? ⟨b, off + 3, none⟩ = some (.int .u8 (x3 : Int)) := ⟨c2, c3⟩
            have HBD : Hid (Below w.heap.size w w.drew) := hbd
            have y1 : IntKind.i64.wrap (x2 : Int) = (x2 : Int) := by rw [IntKind.wrap_i64]; omega
            have y2 : IntKind.i64.wrap ((x2 : Int) * 256) = (x2 : Int) * 256 := by rw [IntKind.wrap_i64]; omega
            have y3 : IntKind.i64.wrap (x3 : Int) = (x3 : Int) := by rw [IntKind.wrap_i64]; omega
            have y4 : IntKind.i64.wrap ((x2 : Int) * 256 + (x3 : Int)) = (n2 : Int) := by rw [IntKind.wrap_i64]; omega
            have y5 : IntKind.i64.wrap (x4 : Int) = (x4 : Int) := by rw [IntKind.wrap_i64]; omega
            have i2 : (2 : Int) < (n : Int) := by omega
            have i3 : (3 : Int) < (n : Int) := by omega
            have i4 : (4 : Int) < (n : Int) := by omega
            have hn2b : n2 < 65536 := by omega
            clear hbd hlen hL c2 c3 e2 e3 e4 hN2 hn2
            rename_i Kc hKc
            refine wp_region_held (S := fun w' => w'.cell? ⟨b, off + 2, none⟩ = some (.int .u8 (x2 : Int)) ∧ w'.cell? ⟨b, off + 3, none⟩ = some (.int .u8 (x3 : Int))) (by kernel_rfl) ?_
            change wpAnyH _ _ _ _ _ _ _ _ (World.drew _)
            generalize w.drew = w2 at *
            refine takeR (i := 0) (v := .slice (some ⟨b, off, none⟩) n c) (some 31) rfl rfl (by kernel_rfl) (by kernel_rfl) (by kernel_rfl) (fun _ _ _ h => h) (Or.inl ⟨by kernel_rfl, fun w' hSw => by kernel_rfl⟩) hSS ?_
            simp only [Act.put, List.setIfInBounds_toArray, List.set_cons_zero, List.set_cons_succ]
            refine takeR (i := 1) (v := .pointer (some ⟨b, off + 2, none⟩)) (some 32) rfl rfl (by kernel_rfl) (by kernel_rfl) (by kernel_rfl) (fun _ _ _ h => h) (Or.inl ⟨by kernel_rfl, fun w' hSw => by clear hSw; go_simp⟩) hSS ?_
            simp only [Act.put, List.setIfInBounds_toArray, List.set_cons_zero, List.set_cons_succ]
            refine takeR (i := 2) (v := .int .u8 (x2 : Int)) (some 33) rfl rfl (by kernel_rfl) (by kernel_rfl) (by kernel_rfl) (fun _ _ _ h => h) (Or.inl ⟨by kernel_rfl, fun w' hSw => by have q0 := hSw.1; go_simp⟩) hSS ?_
            simp only [Act.put, List.setIfInBounds_toArray, List.set_cons_zero, List.set_cons_succ]
            refine takeR (i := 3) (v := .int .i64 (x2 : Int)) (some 34) rfl rfl (by kernel_rfl) (by kernel_rfl) (by kernel_rfl) (fun _ _ _ h => h) (Or.inl ⟨by kernel_rfl, fun w' hSw => by clear hSw; go_simp⟩) hSS ?_
            simp only [Act.put, List.setIfInBounds_toArray, List.set_cons_zero, List.set_cons_succ]
            refine takeR (i := 4) (v := .int .i64 ((x2 : Int) * 256)) (some 35) rfl rfl (by kernel_rfl) (by kernel_rfl) (by kernel_rfl) (fun _ _ _ h => h) (Or.inl ⟨by kernel_rfl, fun w' hSw => by clear hSw; go_simp⟩) hSS ?_
            simp only [Act.put, List.setIfInBounds_toArray, List.set_cons_zero, List.set_cons_succ]
            refine takeR (i := 5) (v := .slice (some ⟨b, off, none⟩) n c) (some 36) rfl rfl (by kernel_rfl) (by kernel_rfl) (by kernel_rfl) (fun _ _ _ h => h) (Or.inl ⟨by kernel_rfl, fun w' hSw => by kernel_rfl⟩) hSS ?_
            simp only [Act.put, List.setIfInBounds_toArray, List.set_cons_zero, List.set_cons_succ]
            refine takeR (i := 6) (v := .pointer (some ⟨b, off + 3, none⟩)) (some 37) rfl rfl (by kernel_rfl) (by kernel_rfl) (by kernel_rfl) (fun _ _ _ h => h) (Or.inl ⟨by kernel_rfl, fun w' hSw => by clear hSw; go_simp⟩) hSS ?_
            simp only [Act.put, List.setIfInBounds_toArray, List.set_cons_zero, List.set_cons_succ]
            refine takeR (i := 7) (v := .int .u8 (x3 : Int)) (some 38) rfl rfl (by kernel_rfl) (by kernel_rfl) (by kernel_rfl) (fun _ _ _ h => h) (Or.inl ⟨by kernel_rfl, fun w' hSw => by have q0 := hSw.2; go_simp⟩) hSS ?_
            simp only [Act.put, List.setIfInBounds_toArray, List.set_cons_zero, List.set_cons_succ]
            refine takeR (i := 8) (v := .int .i64 (x3 : Int)) (some 39) rfl rfl (by kernel_rfl) (by kernel_rfl) (by kernel_rfl) (fun _ _ _ h => h) (Or.inl ⟨by kernel_rfl, fun w' hSw => by clear hSw; go_simp⟩) hSS ?_
            simp only [Act.put, List.setIfInBounds_toArray, List.set_cons_zero, List.set_cons_succ]
            refine takeR (i := 9) (v := .int .i64 (n2 : Int)) (some 40) rfl rfl (by kernel_rfl) (by kernel_rfl) (by kernel_rfl) (fun _ _ _ h => h) (Or.inl ⟨by kernel_rfl, fun w' hSw => by clear hSw; go_simp⟩) hSS ?_
            simp only [Act.put, List.setIfInBounds_toArray, List.set_cons_zero, List.set_cons_succ]
            refine takeR (i := 10) (v := .int .i64 (n2 : Int)) (some 4) rfl rfl (by kernel_rfl) (by kernel_rfl) (by kernel_rfl) (fun _ _ _ h => h) (Or.inl ⟨by kernel_rfl, fun w' hSw => by kernel_rfl⟩) hSS ?_
            simp only [Act.put, List.setIfInBounds_toArray, List.set_cons_zero, List.set_cons_succ]
            refine wpAnyH_done (by kernel_rfl) ?_ _
            refine hKc _ _ ?_
            clear hKc hSS
            go_wp2_with (go_at_call 135; fail)
            refine (refSizeOf_any (x4 : Int) w2).mono ?_
            rintro e w3 ⟨rfl, hb3⟩
            have HB3 : Hid (Below w.heap.size w w3) := HBD.out.trans (hb3.mono HBD.out.size)
            have hszc := frSize_cs (x4 : Int)
            obtain ⟨sz, hsz⟩ : ∃ sz, sizeN (x4 : Int) = sz := ⟨_, rfl⟩
            rw [hsz] at hszc ⊢
            have HSZ : Hid (sizeN (dL l 4 : Int) = sz ∧ getN (dL (l.drop 2)) 2 = n2) := ⟨by rw [HE2.out.1]; exact hsz, HE2.out.2⟩
            clear hb3 hsz HE2 c4 y1 y2 y3 y4 y5 i2 i3 i4 HBD
            by_cases hs0 : sz = 0
            · have hN : Hid (TP = .wrong) := HT.out.symm.trans (bin_ws (by have := HS.out.2; omega) HE.out.1 HE.out.2 (.inl (HSZ.out.1.trans hs0)))
              have hs0' : (sz : Int) = 0 := by omega
              clear hszc hs0
              go_wp2
              go_ret2
              exact TxA.no hN.out HB3.out
            · have hs0' : ¬ (sz : Int) = 0 := by omega
              have hsb : 10 < sz ∧ sz ≤ 1000 := by omega
              by_cases hsn : sz = n2
              · have hs0n : ¬ (n2 : Int) = 0 := by omega
                subst hsn
                by_cases g6 : 5 < n
                · have g6' : (5 : Int) < (n : Int) := by omega
                  have c5 := dL_cell (HS.out.1.low HB3.out) (j := 5) (by have := HS.out.2; omega)
                  obtain ⟨x5, e5⟩ : ∃ x, dL l 5 = x := ⟨_, rfl⟩
                  rw [e5] at c5
                  by_cases h5 : x5 = 1
                  · have h5' : (x5 : Int) = 1 := by omega
                    by_cases hlt : n < sz
                    · have hlt' : (n : Int) < (sz : Int) := by omega
                      have hN : Hid (∃ m, TP = .begun m) := by
                        obtain ⟨m, hm⟩ := bin_bs (l := l) (by have := HS.out.2; omega) HE.out.1 HE.out.2 (by rw [HSZ.out.1]; exact hs0) (HSZ.out.1.trans HSZ.out.2.symm) (fun _ => e5.trans h5) (by rw [HSZ.out.1]; have := HS.out.2; omega)
                        exact ⟨m, HT.out.symm.trans hm⟩
                      clear hszc hs0 e5 h5
                      go_wp2
                      go_ret2
                      exact TxA.some hN.out HB3.out
                    · have hlt' : ¬ (n : Int) < (sz : Int) := by omega
                      have hEnd := bin_end (l := l) HE.out.1 HE.out.2 (by rw [HSZ.out.1]; exact hs0) (HSZ.out.1.trans HSZ.out.2.symm) (e5.trans h5) (by rw [HSZ.out.1]; have := HS.out.2; omega) (by rw [HSZ.out.1]; omega)
                      rw [HSZ.out.1, HT.out] at hEnd
                      have HEND : Hid _ := hEnd
                      clear hszc hs0 e5 h5 hEnd
                      have hL3 := HS.out.1.low HB3.out
                      have hnil : ByAt w3 (.slice none 0 0) [] := RowAt.none0 w3 5 1
                      obtain ⟨a4, c4, w4, hr4, hb4, hf4, ho4⟩ := By_app (n := 0) (m := 6) (c := c) hnil rfl (hL3.take 6) (by rw [List.length_take]; have := HS.out.2; omega) (by decide) (by decide)
                      rw [Nat.zero_add] at hr4 hb4 ho4
                      have hF34 : Fr w3 w4 (fun _ => False) := hf4.mono fun b' _ q => by cases q
                      have HB4 : Hid (Below w.heap.size w w4) := HB3.out.trans (hF34.below HB3.out.size fun _ _ q => q)
                      have hL4 := HS.out.1.low HB4.out
                      obtain ⟨a5, c5', w5, hr5, hb5, hf5, ho5⟩ := By_app (n := 6) (m := sz - 10) (c := c - 10) hb4 (by rw [List.nil_append, List.length_take]; have := HS.out.2; omega) ((hL4.drop 10).take (sz - 10)) (by rw [List.length_take, List.length_drop]; have := HS.out.2; omega) (by omega) (by omega)
                      have hne4 : ∀ b', (Value.slice a4 6 c4).ownBlock = some b' → w3.heap.size ≤ b' := fun b' hb' => by
                        rcases ho4 with q | ⟨b'', q, hb''⟩
                        · rw [q] at hb'; cases hb'
                        · rw [q] at hb'; injection hb' with hb'; omega
                      have HB5 : Hid (Below w.heap.size w w5) := HB4.out.trans (hf5.below HB4.out.size fun b' hb' q => by have := hne4 b' q; have := HB3.out.size; omega)
                      obtain ⟨m5, hm5⟩ : ∃ m5, 6 + (sz - 10) = m5 := ⟨_, rfl⟩
                      rw [List.nil_append, hm5] at hb5
                      rw [hm5] at hr5
                      have hlm5 : (l.take 6 ++ (l.drop 10).take (sz - 10)).length = m5 := by rw [List.length_append, List.length_take, List.length_take, List.length_drop]; have := HS.out.2; omega
                      have hb5d : ByAt w5.drew (.slice a5 m5 c5') (l.take 6 ++ (l.drop 10).take (sz - 10)) := RowAt.fr hb5 ((Fr.refl w5 (fun _ => False)).drew) fun _ _ q => q
                      have hcr := refCrc_any a5 m5 c5' (dL (l.take 6 ++ (l.drop 10).take (sz - 10))) w5.drew (by omega) (hb5d.srcN hlm5)
                      have hCL : crcEnd (crcRow (dL (l.take 6 ++ (l.drop 10).take (sz - 10))) m5) = crcL (l.take 6 ++ (l.drop 10).take (sz - 10)) := by
                        unfold crcL
                        rw [hlm5]
                      rw [hCL] at hcr
                      have hcl4 := crcL_lt (l.take 6 ++ (l.drop 10).take (sz - 10))
                      obtain ⟨CR, hCR⟩ : ∃ CR, crcL (l.take 6 ++ (l.drop 10).take (sz - 10)) = CR := ⟨_, rfl⟩
                      rw [hCR] at hcr hcl4
                      obtain ⟨G4, hG4⟩ : ∃ G4, getN (dL (l.drop 6)) 4 = G4 := ⟨_, rfl⟩
                      have HTP : Hid (TP = if G4 = CR then .whole sz else .wrong) := by
                        show TP = _
                        rw [HEND.out, hCR, hG4]
                      have hL6 := HS.out.1.low (HB5.out.drew)
                      have d6 := dL_cell hL6 (j := 6) (by have := HS.out.2; omega)
                      have d7 := dL_cell hL6 (j := 7) (by have := HS.out.2; omega)
                      have d8 := dL_cell hL6 (j := 8) (by have := HS.out.2; omega)
                      have d9 := dL_cell hL6 (j := 9) (by have := HS.out.2; omega)
                      have b6 := dL_lt l 6
                      have b7 := dL_lt l 7
                      have b8 := dL_lt l 8
                      have b9 := dL_lt l 9
                      have hG : ((dL l 6 * 256 + dL l 7) * 256 + dL l 8) * 256 + dL l 9 = G4 := by
                        rw [← hG4]
                        simp only [getN, dL_drop]
                        show _ = (((0 * 256 + dL l 6) * 256 + dL l 7) * 256 + dL l 8) * 256 + dL l 9
                        omega
                      generalize dL l 6 = x6 at *
                      generalize dL l 7 = x7 at *
                      generalize dL l 8 = x8 at *
                      generalize dL l 9 = x9 at *
                      have hSS : w5.drew.cell? ⟨b, off + 6, none⟩ = some (.int .u8 (x6 : Int)) ∧ w5.drew.cell? ⟨b, off + 7, none⟩ = some (.int .u8 (x7 : Int)) ∧ w5.drew.cell? ⟨b, off + 8, none⟩ = some (.int .u8 (x8 : Int)) ∧ w5.drew.cell? ⟨b, off + 9, none⟩ = some (.int .u8 (x9 : Int)) := ⟨d6, d7, d8, d9⟩
                      have HB6 : Hid (Below w.heap.size w w5.drew) := HB5.out.drew
                      have HR4 : Hid _ := hr4
                      have HR5 : Hid _ := hr5
                      clear hr4 hr5 hb4 hb5 hf4 hf5 ho4 ho5 hF34 hL3 hL4 hne4 hCL hCR HEND hL6 d6 d7 d8 d9 hG4 hb5d hlm5 hnil
                      have i6 : (6 : Int) ≤ (n : Int) := by omega
                      have i6c : (6 : Int) ≤ (c : Int) := by omega
                      have i10 : (10 : Int) ≤ (sz : Int) := by omega
                      have isc : (sz : Int) ≤ (c : Int) := by omega
                      have isn : (sz : Int) ≤ (n : Int) := by omega
                      have ic : ¬ c = 10 := by omega
                      have it : ((sz : Int) - 10).toNat = sz - 10 := by omega
                      have j6 : (6 : Int) < (n : Int) := by omega
                      have j7 : (7 : Int) < (n : Int) := by omega
                      have j8 : (8 : Int) < (n : Int) := by omega
                      have j9 : (9 : Int) < (n : Int) := by omega
                      go_upto_region 12 with fail
                      rename_i Kc hKc
                      refine wp_region_lit ?_
                      refine wpList_runTo rfl (some 68) rfl (.slice none 0 0) w3 (by kernel_rfl) ?_
                      simp only [Act.put, List.setIfInBounds_toArray, List.set_cons_zero, List.set_cons_succ]
                      refine wpList_runTo rfl (some 69) rfl (.slice (some ⟨b, off, none⟩) n c) w3 (by kernel_rfl) ?_
                      simp only [Act.put, List.setIfInBounds_toArray, List.set_cons_zero, List.set_cons_succ]
                      refine wpList_runTo rfl (some 70) rfl (.slice (some ⟨b, off, none⟩) 6 c) w3 (by go_simp) ?_
                      simp only [Act.put, List.setIfInBounds_toArray, List.set_cons_zero, List.set_cons_succ]
                      refine wpList_runTo rfl (some 71) rfl (.slice a4 6 c4) w4 (exec_append _ _ 22 rfl (by kernel_rfl) (by kernel_rfl) HR4.out) ?_
                      simp only [Act.put, List.setIfInBounds_toArray, List.set_cons_zero, List.set_cons_succ]
                      refine wpList_runTo rfl (some 6) rfl (.slice a4 6 c4) w4 (by kernel_rfl) ?_
                      simp only [Act.put, List.setIfInBounds_toArray, List.set_cons_zero, List.set_cons_succ]
                      refine wpList_nil ?_
                      refine hKc _ _ ?_
                      clear hKc HR4
                      go_upto_region 13 with fail
                      rename_i Kc hKc
                      refine wp_region_lit ?_
                      refine wpList_runTo rfl (some 72) rfl (.slice a4 6 c4) w4 (by kernel_rfl) ?_
                      simp only [Act.put, List.setIfInBounds_toArray, List.set_cons_zero, List.set_cons_succ]
                      refine wpList_runTo rfl (some 73) rfl (.slice (some ⟨b, off, none⟩) n c) w4 (by kernel_rfl) ?_
                      simp only [Act.put, List.setIfInBounds_toArray, List.set_cons_zero, List.set_cons_succ]
                      refine wpList_runTo rfl (some 74) rfl (.int .i64 (sz : Int)) w4 (by kernel_rfl) ?_
                      simp only [Act.put, List.setIfInBounds_toArray, List.set_cons_zero, List.set_cons_succ]
                      refine wpList_runTo rfl (some 75) rfl (.slice (some ⟨b, off + 10, none⟩) (sz - 10) (c - 10)) w4 (by go_simp) ?_
                      simp only [Act.put, List.setIfInBounds_toArray, List.set_cons_zero, List.set_cons_succ]
                      refine wpList_runTo rfl (some 76) rfl (.slice a5 m5 c5') w5 (exec_append _ _ 22 rfl (by kernel_rfl) (by kernel_rfl) HR5.out) ?_
                      simp only [Act.put, List.setIfInBounds_toArray, List.set_cons_zero, List.set_cons_succ]
                      refine wpList_runTo rfl (some 6) rfl (.slice a5 m5 c5') w5 (by kernel_rfl) ?_
                      simp only [Act.put, List.setIfInBounds_toArray, List.set_cons_zero, List.set_cons_succ]
                      refine wpList_nil ?_
                      refine hKc _ _ ?_
                      clear hKc HR5
                      go_upto_region 14 with fail
                      rename_i Kc hKc
                      refine wp_region_held (S := fun w' => w'.cell? ⟨b, off + 6, none⟩ = some (.int .u8 (x6 : Int)) ∧ w'.cell? ⟨b, off + 7, none⟩ = some (.int .u8 (x7 : Int)) ∧ w'.cell? ⟨b, off + 8, none⟩ = some (.int .u8 (x8 : Int)) ∧ w'.cell? ⟨b, off + 9, none⟩ = some (.int .u8 (x9 : Int))) (by kernel_rfl) ?_
                      change wpAnyH _ _ _ _ _ _ _ _ (World.drew _)
                      generalize w5.drew = w6 at *
                      refine takeR (i := 0) (v := .slice (some ⟨b, off, none⟩) n c) (some 77) rfl rfl (by kernel_rfl) (by kernel_rfl) (by kernel_rfl) (fun _ _ _ h => h) (Or.inl ⟨by kernel_rfl, fun w' hSw => by kernel_rfl⟩) hSS ?_
                      simp only [Act.put, List.setIfInBounds_toArray, List.set_cons_zero, List.set_cons_succ]
                      refine takeR (i := 1) (v := .pointer (some ⟨b, off + 6, none⟩)) (some 78) rfl rfl (by kernel_rfl) (by kernel_rfl) (by kernel_rfl) (fun _ _ _ h => h) (Or.inl ⟨by kernel_rfl, fun w' hSw => by clear hSw; go_simp⟩) hSS ?_
                      simp only [Act.put, List.setIfInBounds_toArray, List.set_cons_zero, List.set_cons_succ]
                      refine takeR (i := 2) (v := .int .u8 (x6 : Int)) (some 79) rfl rfl (by kernel_rfl) (by kernel_rfl) (by kernel_rfl) (fun _ _ _ h => h) (Or.inl ⟨by kernel_rfl, fun w' hSw => by have q0 := hSw.1; go_simp⟩) hSS ?_
                      simp only [Act.put, List.setIfInBounds_toArray, List.set_cons_zero, List.set_cons_succ]
                      refine takeR (i := 3) (v := .int .u32 (x6 : Int)) (some 80) rfl rfl (by kernel_rfl) (by kernel_rfl) (by kernel_rfl) (fun _ _ _ h => h) (Or.inl ⟨by kernel_rfl, fun w' hSw => by clear hSw; go_simp; exact wu32 (by omega) (by omega) (by omega)⟩) hSS ?_
                      simp only [Act.put, List.setIfInBounds_toArray, List.set_cons_zero, List.set_cons_succ]
                      refine takeR (i := 4) (v := .int .u32 ((x6 : Int) * 16777216)) (some 81) rfl rfl (by kernel_rfl) (by kernel_rfl) (by kernel_rfl) (fun _ _ _ h => h) (Or.inl ⟨by kernel_rfl, fun w' hSw => by clear hSw; go_simp; exact wu32 (by omega) (by omega) (by omega)⟩) hSS ?_
                      simp only [Act.put, List.setIfInBounds_toArray, List.set_cons_zero, List.set_cons_succ]
                      refine takeR (i := 5) (v := .slice (some ⟨b, off, none⟩) n c) (some 82) rfl rfl (by kernel_rfl) (by kernel_rfl) (by kernel_rfl) (fun _ _ _ h => h) (Or.inl ⟨by kernel_rfl, fun w' hSw => by kernel_rfl⟩) hSS ?_
                      simp only [Act.put, List.setIfInBounds_toArray, List.set_cons_zero, List.set_cons_succ]
                      refine takeR (i := 6) (v := .pointer (some ⟨b, off + 7, none⟩)) (some 83) rfl rfl (by kernel_rfl) (by kernel_rfl) (by kernel_rfl) (fun _ _ _ h => h) (Or.inl ⟨by kernel_rfl, fun w' hSw => by clear hSw; go_simp⟩) hSS ?_
                      simp only [Act.put, List.setIfInBounds_toArray, List.set_cons_zero, List.set_cons_succ]
                      refine takeR (i := 7) (v := .int .u8 (x7 : Int)) (some 84) rfl rfl (by kernel_rfl) (by kernel_rfl) (by kernel_rfl) (fun _ _ _ h => h) (Or.inl ⟨by kernel_rfl, fun w' hSw => by have q0 := hSw.2.1; go_simp⟩) hSS ?_
                      simp only [Act.put, List.setIfInBounds_toArray, List.set_cons_zero, List.set_cons_succ]
                      refine takeR (i := 8) (v := .int .u32 (x7 : Int)) (some 85) rfl rfl (by kernel_rfl) (by kernel_rfl) (by kernel_rfl) (fun _ _ _ h => h) (Or.inl ⟨by kernel_rfl, fun w' hSw => by clear hSw; go_simp; exact wu32 (by omega) (by omega) (by omega)⟩) hSS ?_
                      simp only [Act.put, List.setIfInBounds_toArray, List.set_cons_zero, List.set_cons_succ]
                      refine takeR (i := 9) (v := .int .u32 ((x7 : Int) * 65536)) (some 86) rfl rfl (by kernel_rfl) (by kernel_rfl) (by kernel_rfl) (fun _ _ _ h => h) (Or.inl ⟨by kernel_rfl, fun w' hSw => by clear hSw; go_simp; exact wu32 (by omega) (by omega) (by omega)⟩) hSS ?_
                      simp only [Act.put, List.setIfInBounds_toArray, List.set_cons_zero, List.set_cons_succ]
                      refine takeR (i := 10) (v := .int .u32 ((x6 : Int) * 16777216 + (x7 : Int) * 65536)) (some 87) rfl rfl (by kernel_rfl) (by kernel_rfl) (by kernel_rfl) (fun _ _ _ h => h) (Or.inl ⟨by kernel_rfl, fun w' hSw => by clear hSw; go_simp; exact wu32 (by omega) (by omega) (by omega)⟩) hSS ?_
                      simp only [Act.put, List.setIfInBounds_toArray, List.set_cons_zero, List.set_cons_succ]
                      refine takeR (i := 11) (v := .slice (some ⟨b, off, none⟩) n c) (some 88) rfl rfl (by kernel_rfl) (by kernel_rfl) (by kernel_rfl) (fun _ _ _ h => h) (Or.inl ⟨by kernel_rfl, fun w' hSw => by kernel_rfl⟩) hSS ?_
                      simp only [Act.put, List.setIfInBounds_toArray, List.set_cons_zero, List.set_cons_succ]
                      refine takeR (i := 12) (v := .pointer (some ⟨b, off + 8, none⟩)) (some 89) rfl rfl (by kernel_rfl) (by kernel_rfl) (by kernel_rfl) (fun _ _ _ h => h) (Or.inl ⟨by kernel_rfl, fun w' hSw => by clear hSw; go_simp⟩) hSS ?_
                      simp only [Act.put, List.setIfInBounds_toArray, List.set_cons_zero, List.set_cons_succ]
                      refine takeR (i := 13) (v := .int .u8 (x8 : Int)) (some 90) rfl rfl (by kernel_rfl) (by kernel_rfl) (by kernel_rfl) (fun _ _ _ h => h) (Or.inl ⟨by kernel_rfl, fun w' hSw => by have q0 := hSw.2.2.1; go_simp⟩) hSS ?_
                      simp only [Act.put, List.setIfInBounds_toArray, List.set_cons_zero, List.set_cons_succ]
                      refine takeR (i := 14) (v := .int .u32 (x8 : Int)) (some 91) rfl rfl (by kernel_rfl) (by kernel_rfl) (by kernel_rfl) (fun _ _ _ h => h) (Or.inl ⟨by kernel_rfl, fun w' hSw => by clear hSw; go_simp; exact wu32 (by omega) (by omega) (by omega)⟩) hSS ?_
                      simp only [Act.put, List.setIfInBounds_toArray, List.set_cons_zero, List.set_cons_succ]
                      refine takeR (i := 15) (v := .int .u32 ((x8 : Int) * 256)) (some 92) rfl rfl (by kernel_rfl) (by kernel_rfl) (by kernel_rfl) (fun _ _ _ h => h) (Or.inl ⟨by kernel_rfl, fun w' hSw => by clear hSw; go_simp; exact wu32 (by omega) (by omega) (by omega)⟩) hSS ?_
                      simp only [Act.put, List.setIfInBounds_toArray, List.set_cons_zero, List.set_cons_succ]
                      refine takeR (i := 16) (v := .int .u32 ((x6 : Int) * 16777216 + (x7 : Int) * 65536 + (x8 : Int) * 256)) (some 93) rfl rfl (by kernel_rfl) (by kernel_rfl) (by kernel_rfl) (fun _ _ _ h => h) (Or.inl ⟨by kernel_rfl, fun w' hSw => by clear hSw; go_simp; exact wu32 (by omega) (by omega) (by omega)⟩) hSS ?_
                      simp only [Act.put, List.setIfInBounds_toArray, List.set_cons_zero, List.set_cons_succ]
                      refine takeR (i := 17) (v := .slice (some ⟨b, off, none⟩) n c) (some 94) rfl rfl (by kernel_rfl) (by kernel_rfl) (by kernel_rfl) (fun _ _ _ h => h) (Or.inl ⟨by kernel_rfl, fun w' hSw => by kernel_rfl⟩) hSS ?_
                      simp only [Act.put, List.setIfInBounds_toArray, List.set_cons_zero, List.set_cons_succ]
                      refine takeR (i := 18) (v := .pointer (some ⟨b, off + 9, none⟩)) (some 95) rfl rfl (by kernel_rfl) (by kernel_rfl) (by kernel_rfl) (fun _ _ _ h => h) (Or.inl ⟨by kernel_rfl, fun w' hSw => by clear hSw; go_simp⟩) hSS ?_
                      simp only [Act.put, List.setIfInBounds_toArray, List.set_cons_zero, List.set_cons_succ]
                      refine takeR (i := 19) (v := .int .u8 (x9 : Int)) (some 96) rfl rfl (by kernel_rfl) (by kernel_rfl) (by kernel_rfl) (fun _ _ _ h => h) (Or.inl ⟨by kernel_rfl, fun w' hSw => by have q0 := hSw.2.2.2; go_simp⟩) hSS ?_
                      simp only [Act.put, List.setIfInBounds_toArray, List.set_cons_zero, List.set_cons_succ]
                      refine takeR (i := 20) (v := .int .u32 (x9 : Int)) (some 97) rfl rfl (by kernel_rfl) (by kernel_rfl) (by kernel_rfl) (fun _ _ _ h => h) (Or.inl ⟨by kernel_rfl, fun w' hSw => by clear hSw; go_simp; exact wu32 (by omega) (by omega) (by omega)⟩) hSS ?_
                      simp only [Act.put, List.setIfInBounds_toArray, List.set_cons_zero, List.set_cons_succ]
                      refine takeR (i := 21) (v := .int .u32 (G4 : Int)) (some 98) rfl rfl (by kernel_rfl) (by kernel_rfl) (by kernel_rfl) (fun _ _ _ h => h) (Or.inl ⟨by kernel_rfl, fun w' hSw => by clear hSw; go_simp; exact wu32 (by omega) (by omega) (by omega)⟩) hSS ?_
                      simp only [Act.put, List.setIfInBounds_toArray, List.set_cons_zero, List.set_cons_succ]
                      refine takeR (i := 22) (v := .int .u32 (G4 : Int)) (some 7) rfl rfl (by kernel_rfl) (by kernel_rfl) (by kernel_rfl) (fun _ _ _ h => h) (Or.inl ⟨by kernel_rfl, fun w' hSw => by kernel_rfl⟩) hSS ?_
                      simp only [Act.put, List.setIfInBounds_toArray, List.set_cons_zero, List.set_cons_succ]
                      refine wpAnyH_done (by kernel_rfl) ?_ _
                      refine hKc _ _ ?_
                      clear hKc hSS
                      by_cases hGC : G4 = CR
                      · have hN : Hid (TP = .whole sz) := by show TP = _; rw [HTP.out, if_pos hGC]
                        subst hGC
                        go_wp2_with (go_at_call 136; refine hcr.mono ?_; rintro e w7 ⟨rfl, rfl⟩)
                        go_ret2
                        exact ⟨true, sz, rfl, by rw [hN.out]; exact ⟨rfl, rfl⟩, HB6.out⟩
                      · have hN : Hid (TP = .wrong) := by show TP = _; rw [HTP.out, if_neg hGC]
                        have hq : ((CR : Int) == (G4 : Int)) = false := by simp; omega
                        have hq2 : ¬ (CR : Int) = (G4 : Int) := by omega
                        go_wp2_with (go_at_call 136; refine hcr.mono ?_; rintro e w7 ⟨rfl, rfl⟩)
                        go_ret2
                        exact ⟨false, sz, rfl, by rw [hN.out]; rfl, HB6.out⟩
                  · have h5' : ¬ (x5 : Int) = 1 := by omega
                    have hN : Hid (TP = .wrong) := HT.out.symm.trans (bin_w5 (by have := HS.out.2; omega) HE.out.1 HE.out.2 (by rw [HSZ.out.1]; exact hs0) (HSZ.out.1.trans HSZ.out.2.symm) (fun e => h5 (e5.symm.trans e)))
                    have q1 : ((sz : Int) == 0) = false := by simpa using hs0'
                    have q2 : ((x5 : Int) != 1) = true := by simpa using h5'
                    clear hszc hs0 e5 h5
                    go_wp2
                    go_ret2
                    exact TxA.no hN.out HB3.out
                · have g6' : ¬ (5 : Int) < (n : Int) := by omega
                  have hlt' : (n : Int) < (sz : Int) := by omega
                  have hN : Hid (∃ m, TP = .begun m) := by
                    obtain ⟨m, hm⟩ := bin_bs (l := l) (by have := HS.out.2; omega) HE.out.1 HE.out.2 (by rw [HSZ.out.1]; exact hs0) (HSZ.out.1.trans HSZ.out.2.symm) (fun q => by have := HS.out.2; omega) (by rw [HSZ.out.1]; have := HS.out.2; omega)
                    exact ⟨m, HT.out.symm.trans hm⟩
                  clear hszc hs0
                  go_wp2
                  go_ret2
                  exact TxA.some hN.out HB3.out
              · have hsn' : ¬ (sz : Int) = (n2 : Int) := by omega
                have hN : Hid (TP = .wrong) := HT.out.symm.trans (bin_ws (by have := HS.out.2; omega) HE.out.1 HE.out.2 (.inr (by rw [HSZ.out.1, HSZ.out.2]; exact hsn)))
                clear hszc hs0 hsn
                go_wp2
                go_ret2
                exact TxA.no hN.out HB3.out
        · have h1' : ¬ (x1 : Int) = 67 := by omega
          have hN : Hid (TP = .wrong) := HT.out.symm.trans (bin_w1 (by have := HS.out.2; omega) (e0.trans h0) (fun e => h1 (e1.symm.trans e)))
          clear e0 e1 h0 h1
          go_enter Tryz.func70, Tryz.ntmps70
          go_wp2
          go_ret2
          exact TxA.no hN.out (Below.refl _ _)
      · have g1' : ¬ (1 : Int) < (n : Int) := by omega
        have g5' : (n : Int) < 5 := by omega
        have hN : Hid (∃ m, TP = .begun m) := by
          obtain ⟨m, hm⟩ := bin_b5 (l := l) (by have := HS.out.2; omega) (fun _ => e0.trans h0) (fun q => by have := HS.out.2; omega)
          exact ⟨m, HT.out.symm.trans hm⟩
        clear e0 h0
        go_enter Tryz.func70, Tryz.ntmps70
        go_wp2
        go_ret2
        exact TxA.some hN.out (Below.refl _ _)
    · have h0' : ¬ (x0 : Int) = 79 := by omega
      have hN : Hid (TP = .wrong) := HT.out.symm.trans (bin_w0 (by have := HS.out.2; omega) (fun e => h0 (e0.symm.trans e)))
      clear e0 h0
      go_enter Tryz.func70, Tryz.ntmps70
      go_wp2
      go_ret2
      exact TxA.no hN.out (Below.refl _ _)
  · have g0' : ¬ (0 : Int) < (n : Int) := by omega
    have g1' : ¬ (1 : Int) < (n : Int) := by omega
    have g5' : (n : Int) < 5 := by omega
    have hN : Hid (∃ m, TP = .begun m) := by
      obtain ⟨m, hm⟩ := bin_b5 (l := l) (by have := HS.out.2; omega) (fun q => by have := HS.out.2; omega) (fun q => by have := HS.out.2; omega)
      exact ⟨m, HT.out.symm.trans hm⟩
    go_enter Tryz.func70, Tryz.ntmps70
    go_wp2
    go_ret2
    exact TxA.some hN.out (Below.refl _ _)
end Go.Proofs.YtkpoheknmcepnaaGreatDoor

namespace Go.Proofs.YtkpoheknmcepnaaGreatDoor
set_option linter.unusedVariables false
set_option linter.unusedSimpArgs false
open Go.RowKit Go.Great Go.Shelf

/-- The reference's framer: its kind, the stream, where it stands, junk in all and since the last frame. -/
def RFB (w : World) (p : Nat) (kd : Int) (vs : Value) (P K J : Nat) : Prop := w.heap[p]? = some (.cells #[.int .i64 kd, vs, .int .i64 (P : Int), .int .i64 (K : Int), .int .i64 (J : Int)] 99 (0, 0))
section
variable {w w' : World} {p : Nat} {kd : Int} {vs : Value} {P K J : Nat}
theorem RFB.at (h : RFB w p kd vs P K J) : w.cell? ⟨p, 0, none⟩ = some (.int .i64 kd) ∧ w.cell? ⟨p, 1, none⟩ = some vs ∧ w.cell? ⟨p, 2, none⟩ = some (.int .i64 (P : Int)) ∧ w.cell? ⟨p, 3, none⟩ = some (.int .i64 (K : Int)) ∧ w.cell? ⟨p, 4, none⟩ = some (.int .i64 (J : Int)) :=
  ⟨cell_at h rfl, cell_at h rfl, cell_at h rfl, cell_at h rfl, cell_at h rfl⟩
theorem RFB.frz (h : RFB w p kd vs P K J) (i : Nat) : w.frozen? ⟨p, i, none⟩ = false := frozen_of_row w p i _ _ h
theorem RFB.set1 (h : RFB w p kd vs P K J) (v : Value) : RFB (w.setCell ⟨p, 1, none⟩ v) p kd v P K J := by
  unfold RFB at h ⊢; rw [setCell_eq_setRow w p 1 _ _ _ v h, setRow_heap w p _ _ _ _ h]; rfl
theorem RFB.set2 (h : RFB w p kd vs P K J) (n : Nat) : RFB (w.setCell ⟨p, 2, none⟩ (.int .i64 (n : Int))) p kd vs n K J := by
  unfold RFB at h ⊢; rw [setCell_eq_setRow w p 2 _ _ _ _ h, setRow_heap w p _ _ _ _ h]; rfl
theorem RFB.set3 (h : RFB w p kd vs P K J) (n : Nat) : RFB (w.setCell ⟨p, 3, none⟩ (.int .i64 (n : Int))) p kd vs P n J := by
  unfold RFB at h ⊢; rw [setCell_eq_setRow w p 3 _ _ _ _ h, setRow_heap w p _ _ _ _ h]; rfl
theorem RFB.set4 (h : RFB w p kd vs P K J) (n : Nat) : RFB (w.setCell ⟨p, 4, none⟩ (.int .i64 (n : Int))) p kd vs P K n := by
  unfold RFB at h ⊢; rw [setCell_eq_setRow w p 4 _ _ _ _ h, setRow_heap w p _ _ _ _ h]; rfl
theorem RFB.lt (h : RFB w p kd vs P K J) : p < w.heap.size := (Array.getElem?_eq_some_iff.1 h).1
theorem RFB.fr {ex : Nat → Prop} (h : RFB w p kd vs P K J) (hf : Fr w w' ex) (hn : ¬ ex p) : RFB w' p kd vs P K J := (hf.block p h.lt hn).trans h
end
/-- What the reference's Feed has done so far. -/
structure RK (f : List UInt8 → Sight) (w wr : World) (p : Nat) (kd : Int) (vs vo : Value) (st : List UInt8) (P0 J0 K0 : Nat) (fs : List Fm) (P J K : Nat) : Prop where
  blk : RFB wr p kd vs P K J
  row : ByAt wr vs st
  found : FoundAt wr vo fs
  ple : P ≤ st.length
  eq : ∃ k2, K = K0 + k2 ∧ walkL f (st.drop P0) J0 = ⟨fsOf fs ++ (walkL f (st.drop P) J).fs, (walkL f (st.drop P) J).j, k2 + (walkL f (st.drop P) J).k, (walkL f (st.drop P) J).r⟩
  fr : Fr w wr (fun b => b = p)
  vnew : ∀ b, vo.ownBlock = some b → w.heap.size ≤ b
  news : ∀ x, x ∈ fs → ∀ b, x.v.ownBlock = some b → w.heap.size ≤ b
  cnt : fs.length ≤ P ∧ J ≤ P + J0 ∧ K ≤ P + K0
section
variable {f : List UInt8 → Sight} {w wr wx : World} {p : Nat} {kd : Int} {vs vo : Value} {st : List UInt8} {P0 J0 K0 : Nat} {fs : List Fm} {P J K : Nat}
theorem RK.ne (h : RK f w wr p kd vs vo st P0 J0 K0 fs P J K) : vs.ownBlock ≠ some p ∧ vo.ownBlock ≠ some p ∧ (∀ b, vs.ownBlock = some b → vo.ownBlock ≠ some b) ∧ ∀ x, x ∈ fs → x.v.ownBlock ≠ some p ∧ ∀ b, x.v.ownBlock = some b → vo.ownBlock ≠ some b := by
  refine ⟨RowAt.ne_type h.row h.blk (by decide), h.found.row.ne_type h.blk (by decide), fun b hb q => ?_, fun x hx => ⟨RowAt.ne_type (h.found.each x hx) h.blk (by decide), fun b hb q => ?_⟩⟩
  · obtain ⟨_, cur, hc⟩ := RowAt.lt h.row hb
    exact h.found.row.ne_type hc (by decide) q
  · obtain ⟨_, cur, hc⟩ := RowAt.lt (h.found.each x hx) hb
    exact h.found.row.ne_type hc (by decide) q
theorem RK.sm (h : RK f w wr p kd vs vo st P0 J0 K0 fs P J K) (hs : Fr wr wx (fun _ => False)) : RK f w wx p kd vs vo st P0 J0 K0 fs P J K :=
  ⟨h.blk.fr hs id, RowAt.fr h.row hs fun _ _ q => q, h.found.fr0 hs, h.ple, h.eq, h.fr.trans hs fun _ _ q => q.elim id False.elim, h.vnew, h.news, h.cnt⟩
/-- Cells of the framer's own are written. -/
theorem RK.wrote (h : RK f w wr p kd vs vo st P0 J0 K0 fs P J K) (hs : Fr wr wx (fun b => b = p)) {P' J' K' : Nat} (hB : RFB wx p kd vs P' K' J') (hp : P' ≤ st.length)
    (he : ∃ k2, K' = K0 + k2 ∧ walkL f (st.drop P0) J0 = ⟨fsOf fs ++ (walkL f (st.drop P') J').fs, (walkL f (st.drop P') J').j, k2 + (walkL f (st.drop P') J').k, (walkL f (st.drop P') J').r⟩) (hc : fs.length ≤ P' ∧ J' ≤ P' + J0 ∧ K' ≤ P' + K0) : RK f w wx p kd vs vo st P0 J0 K0 fs P' J' K' := by
  obtain ⟨n1, n2, n3, n4⟩ := h.ne
  exact ⟨hB, RowAt.fr h.row hs fun b hb e => n1 (e ▸ hb), ⟨h.found.row.fr hs fun b hb e => n2 (e ▸ hb), fun x hx => RowAt.fr (h.found.each x hx) hs fun b hb e => (n4 x hx).1 (e ▸ hb), h.found.sep⟩, hp, he, h.fr.trans hs fun _ _ q => q.elim id id, h.vnew, h.news, hc⟩
theorem RK.junk (hf : Steady f) (h : RK f w wr p kd vs vo st P0 J0 K0 fs P J K) (hw : f (st.drop P) = .wrong) :
    RK f w (((wr.setCell ⟨p, 2, none⟩ (.int .i64 ((P + 1 : Nat) : Int))).setCell ⟨p, 3, none⟩ (.int .i64 ((K + 1 : Nat) : Int))).setCell ⟨p, 4, none⟩ (.int .i64 ((J + 1 : Nat) : Int))) p kd vs vo st P0 J0 K0 fs (P + 1) (J + 1) (K + 1) ∧ P < st.length := by
  have hlt : P < st.length := by
    have := List.length_pos_iff.2 (hf.wrong hw).1
    rw [List.length_drop] at this; omega
  obtain ⟨k2, q1, q2⟩ := h.eq
  have hs : Fr wr (((wr.setCell ⟨p, 2, none⟩ (.int .i64 ((P + 1 : Nat) : Int))).setCell ⟨p, 3, none⟩ (.int .i64 ((K + 1 : Nat) : Int))).setCell ⟨p, 4, none⟩ (.int .i64 ((J + 1 : Nat) : Int))) (fun b => b = p) :=
    ((Fr.setCell _ _ _ (fun b => b = p) rfl).trans (Fr.setCell _ _ _ (fun b => b = p) rfl) (e3 := fun b => b = p) fun _ _ q => q.elim id id).trans (Fr.setCell _ _ _ (fun b => b = p) rfl) fun _ _ q => q.elim id id
  have hc := h.cnt
  refine ⟨h.wrote hs (((h.blk.set2 (P + 1)).set3 (K + 1)).set4 (J + 1)) (by omega) ⟨k2 + 1, by omega, ?_⟩ (by omega), hlt⟩
  rw [q2, walkL_wrong hf hw, List.drop_drop]
  simp only [Nat.add_assoc, Nat.add_comm 1]
theorem RK.whole (hf : Steady f) (h : RK f w wr p kd vs vo st P0 J0 K0 fs P J K) {n : Nat} (hw : f (st.drop P) = .whole n) {vf : Value} (hby : ByAt wx vf ((st.drop P).take n)) (hfr : Fr wr wx (fun _ => False)) (hnv : ∀ b, vf.ownBlock = some b → wr.heap.size ≤ b) (hl : st.length ≤ 1000000000) :
    ∃ v' w', (Builtin.append_ #[30, 30] 30 #[vo, .slice (some ⟨wx.heap.size, 0, none⟩) 1 1]).run Tryz.prog (wx.alloc (.cells #[vf, .int .i64 (J : Int)] 36)) = .ok v' w' ∧ RFB w' p kd vs P K J ∧
      RK f w ((w'.setCell ⟨p, 2, none⟩ (.int .i64 ((P + n : Nat) : Int))).setCell ⟨p, 4, none⟩ (.int .i64 ((0 : Nat) : Int))) p kd vs v' st P0 J0 K0 (fs ++ [⟨vf, J, (st.drop P).take n⟩]) (P + n) 0 K ∧ 0 < n ∧ P + n ≤ st.length ∧ ∃ ao cp, v' = .slice ao (fs.length + 1) cp := by
  obtain ⟨i, hi, hz, hsz, hby2⟩ := infoFm
  have hx := h.sm hfr
  obtain ⟨n1, n2, n3, n4⟩ := hx.ne
  obtain ⟨hn0, hnl, _⟩ := hf.whole hw
  rw [List.length_drop] at hnl
  have hcn := h.cnt
  have hpl := h.ple
  have hvf : vf.oneCell' = true := hby.one
  have hF7 : Fr wx (wx.alloc (.cells #[vf, .int .i64 (J : Int)] 36)) (fun _ => False) := Fr.alloc _ _ _
  have hb7 : (wx.alloc (.cells #[vf, .int .i64 (J : Int)] 36)).heap[wx.heap.size]? = some (.cells #[vf, .int .i64 (J : Int)] 36 (0, 0)) := heap_alloc_new wx _
  generalize wx.alloc (.cells #[vf, .int .i64 (J : Int)] 36) = w7 at *
  have h7 := hx.sm hF7
  obtain ⟨v', w', hr, hrow, hfa, hnw⟩ := run_append_row (P := Tryz.prog) w7 30 30 36 i _ 2 32 Tryz.underlying30 hi hz hsz hby2 (by rfl) vo fs.length (flatL fmV fs) h7.found.row ⟨wx.heap.size, 0, none⟩ 1 1 [vf, .int .i64 (J : Int)] rfl
    (fun k u hk => by rw [Addr.add_mid, cell_of_row _ _ _ _ _ _ hb7, Nat.zero_add]; simpa using hk) (fun u hu => by simp at hu; rcases hu with rfl | rfl; exact hvf; rfl) (.inl (by decide)) (by unfold maxLen; omega) (by omega)
  have hz0 := h.fr.size
  have hzx := hfr.size
  have hz7 := hF7.size
  have hb' : RFB w' p kd vs P K J := h7.blk.fr hfa n2
  have hby' : ByAt w' vf ((st.drop P).take n) := RowAt.fr (RowAt.fr hby hF7 fun _ _ q => q) hfa fun b hb q => by
    have h3 := hnv b hb
    have h4 := (h.found.row.lt q).1
    omega
  have hst : Fr w' ((w'.setCell ⟨p, 2, none⟩ (.int .i64 ((P + n : Nat) : Int))).setCell ⟨p, 4, none⟩ (.int .i64 ((0 : Nat) : Int))) (fun b => b = p) := (Fr.setCell _ _ _ (fun b => b = p) rfl).trans (Fr.setCell _ _ _ (fun b => b = p) rfl) fun _ _ q => q.elim id id
  obtain ⟨k2, q1, q2⟩ := h.eq
  have hrowF : RowAt w' 36 2 v' (fs ++ [(⟨vf, J, (st.drop P).take n⟩ : Fm)]).length (flatL fmV (fs ++ [⟨vf, J, (st.drop P).take n⟩])) := by rw [List.length_append, flatL_app, flatL_one]; exact hrow
  have heach : ∀ x, x ∈ fs ++ [(⟨vf, J, (st.drop P).take n⟩ : Fm)] → ByAt w' x.v x.l := fun x hx' => by
    rcases List.mem_append.1 hx' with q | q
    · exact RowAt.fr (h7.found.each x q) hfa fun b hb e => (n4 x q).2 b hb e
    · obtain rfl := List.mem_singleton.1 q
      exact hby'
  have hnv' : ∀ b, v'.ownBlock = some b → w.heap.size ≤ b := fun b hb => by
    rcases hnw with q | ⟨q, _⟩
    · rw [q] at hb; exact h.vnew b hb
    · rw [q] at hb; injection hb with hb; omega
  have hnf' : ∀ x, x ∈ fs ++ [(⟨vf, J, (st.drop P).take n⟩ : Fm)] → ∀ b, x.v.ownBlock = some b → w.heap.size ≤ b := fun x hx' b hb => by
    rcases List.mem_append.1 hx' with q | q
    · exact h.news x q b hb
    · obtain rfl := List.mem_singleton.1 q
      have := hnv b hb; omega
  refine ⟨v', w', hr, hb', ⟨(hb'.set2 (P + n)).set4 0, ?_, ⟨hrowF.fr hst fun b hb e => ?_, fun x hx' => RowAt.fr (heach x hx') hst fun b hb e => ?_, ?_⟩, by omega, ⟨k2, q1, ?_⟩, ?_, hnv', hnf', by rw [List.length_append]; simp; omega⟩, hn0, by omega, ?_⟩
  · exact RowAt.fr (RowAt.fr h7.row hfa fun b hb e => n3 b hb e) hst fun b hb e => by subst e; exact n1 hb
  · subst e; exact hrowF.ne_type hb' (by decide) hb
  · subst e; exact RowAt.ne_type (heach x hx') hb' (by decide) hb
  · refine List.pairwise_append.2 ⟨h.found.sep, List.pairwise_singleton _ _, fun x hx' y hy b hb e => ?_⟩
    obtain rfl := List.mem_singleton.1 hy
    have h3 := hnv b e
    have h4 := (RowAt.lt (h.found.each x hx') hb).1
    omega
  · rw [q2, walkL_whole hf hw, List.drop_drop]
    unfold fsOf
    simp only [List.map_append, List.map_cons, List.map_nil, List.append_assoc, List.singleton_append]
  · refine (h7.fr.trans hfa (e3 := fun b => b = p) fun b hb q => ?_).trans hst fun _ _ q => q.elim id id
    rcases q with q | q
    · exact q
    · have := h.vnew b q; omega
  · obtain ⟨ao, cp, e, _⟩ := hrow.form
    exact ⟨ao, cp, e⟩
end
end Go.Proofs.YtkpoheknmcepnaaGreatDoor

namespace Go.Proofs.YtkpoheknmcepnaaGreatDoor
set_option linter.unusedVariables false
set_option linter.unusedSimpArgs false
open Go.RowKit Go.Great Go.Shelf

theorem refNew_any (kd : Int) (hk : kd = 1 ∨ kd = 2) (w : World) : Calls Tryz.prog 16 #[.int .i64 kd] w fun e w' => e = .returned (.tuple #[.pointer (some ⟨w.heap.size, 0, none⟩), .int .i64 0]) ∧ w' = w.alloc (.cells #[.int .i64 kd, .slice none 0 0, .int .i64 0, .int .i64 0, .int .i64 0] 99) := by
  rcases hk with rfl | rfl
  · go_enter Tryz.func16, Tryz.ntmps16
    go_wp2
    go_ret2
    exact ⟨rfl, rfl⟩
  · go_enter Tryz.func16, Tryz.ntmps16
    go_wp2
    go_ret2
    exact ⟨rfl, rfl⟩
theorem refJunk_any {w : World} {p : Nat} {kd : Int} {vs : Value} {P K J : Nat} (h : RFB w p kd vs P K J) :
    Calls Tryz.prog 40 #[.pointer (some ⟨p, 0, none⟩)] w fun e w' => e = .returned (.int .i64 (K : Int)) ∧ w' = w := by
  obtain ⟨c0, c1, c2, c3, c4⟩ := h.at
  clear h
  go_enter Tryz.func40, Tryz.ntmps40
  go_wp2
  go_ret
  exact ⟨rfl, rfl⟩
theorem refWaits_any {w : World} {p n c : Nat} {a : Option Addr} {kd : Int} {P K J : Nat} (h : RFB w p kd (.slice a n c) P K J) (hp : P ≤ n) (hn : n ≤ 1000000000) :
    Calls Tryz.prog 39 #[.pointer (some ⟨p, 0, none⟩)] w fun e w' => e = .returned (.int .i64 ((n - P : Nat) : Int)) ∧ Below w.heap.size w w' := by
  obtain ⟨c0, c1, c2, c3, c4⟩ := h.at
  obtain ⟨d, hd⟩ : ∃ d, n - P = d := ⟨_, rfl⟩
  rw [hd]
  have hw : IntKind.i64.wrap ((n : Int) - (P : Int)) = (d : Int) := by rw [IntKind.wrap_i64]; omega
  have HB : Hid (Below w.heap.size w w.drew) := (Below.refl _ w).drew
  have HB0 : Hid (Below w.heap.size w w) := Below.refl _ w
  clear h hd
  go_enter Tryz.func39, Tryz.ntmps39
  go_wp2_with (go_quiet (fail))
  go_ret
  exact ⟨rfl, by first | exact HB0.out | exact HB.out | exact ((Fr.refl w (fun _ => False)).drewN _).below (Nat.le_refl _) fun _ _ q => q⟩
theorem wpList_skipTo {P : Program} {ops : Array Oper} {rest : List Oper} {op : Oper} {a : Act} {w : World} {Q : Exit → Act → World → Prop} (hg : op.guard = none) (hd : op.dst = none) (w' : World) (hrun : (execOp a.eval op).run P w = .ok .skip w') (h : wpList P ops Q rest a w') : wpList P ops Q (op :: rest) a w :=
  wpList_plain hg fun K hK => skipR hd hrun (hK _ _ h)
/-- The stream is made longer. -/
theorem By_more {w : World} {sa xa : Option Addr} {ns cs xl xc g : Nat} {st l : List UInt8} (h : ByAt w (.slice sa ns cs) st) (hn : st.length = ns) (hp : PcAt g w (.slice xa xl xc) l) (hx : l.length = xl) (hb : ns + xl ≤ 1000000000) :
    ∃ a1 c1 w1, (Builtin.append_ #[22, 22] 22 #[.slice sa ns cs, .slice xa xl xc]).run Tryz.prog w = .ok (.slice a1 (ns + xl) c1) w1 ∧ ByAt w1 (.slice a1 (ns + xl) c1) (st ++ l) ∧ Fr w w1 (fun b => (Value.slice sa ns cs).ownBlock = some b) ∧ newer w (.slice sa ns cs) (.slice a1 (ns + xl) c1) := by
  obtain ⟨i, hi, hz, hsz, hby⟩ := infoB
  obtain ⟨a', o, c', e, hlc, ha, hsrc⟩ := hp
  injection e with e1 e2 e3
  subst e1 e3
  by_cases h0 : 0 < l.length
  · obtain rfl := ha h0
    obtain ⟨a8, c8, w8, hr, hb8, hf, ho⟩ := By_app (c := xc) h hn hsrc hx (by omega) hb
    exact ⟨a8, c8, w8, hr, hb8, hf, ho⟩
  · obtain rfl : l = [] := List.length_eq_zero_iff.1 (by omega)
    obtain rfl : xl = 0 := hx.symm
    have hle : ns ≤ cs := by obtain ⟨_, _, e, q⟩ := RowAt.form h; injection e with _ e1 e2; omega
    exact ⟨sa, cs, w, run_append_zero w _ _ 5 i Tryz.underlying22 hi _ ns cs hle xa xc, by rw [List.append_nil]; exact h, Fr.refl _ _, .inl rfl⟩
def rfP (w : World) (p : Nat) : Nat := match w.cell? ⟨p, 2, none⟩ with | some (.int _ z) => z.toNat | _ => 0
theorem RFB.pos {w : World} {p : Nat} {kd : Int} {vs : Value} {P K J : Nat} (h : RFB w p kd vs P K J) : rfP w p = P := by
  unfold rfP; rw [h.at.2.2.1]; simp
/-- What the reference's Feed leaves. -/
structure RFE (f : List UInt8 → Sight) (w w' : World) (p : Nat) (kd : Int) (vs v : Value) (st : List UInt8) (P J K : Nat) : Prop where
  out : ∃ w1 vs' fs' P' J' K', Fr w w1 (fun b => b = p ∨ vs.ownBlock = some b) ∧ newer w vs vs' ∧ (∀ b, vs'.ownBlock = some b → b < w1.heap.size) ∧ RK f w1 w' p kd vs' v st P J K fs' P' J' K' ∧ ((∃ m, f (st.drop P') = .begun m) ∨ P' = st.length)
end Go.Proofs.YtkpoheknmcepnaaGreatDoor
