import Derived.Test.YtchkpggdndnpjabGreatDoorG01
import Derived.Test.YtchkpggdndnpjabGreatDoorG10
import Derived.Shelf.LaysM
import Derived.Shelf.Strconv.Itoa1
import Derived.Shelf.Strconv.Itoa2
import Derived.Shelf.Strings.Search2
import Derived.Shelf.Strings.Trim
import Derived.Test.YtchkpggdndnpjabGreatDoorG09
import Derived.Lib.IndexLaws

namespace Go.Proofs.YtchkpggdndnpjabGreatDoor
set_option linter.unusedVariables false
open Go.RowKit

/-- A fault that lies in a block; the value that tells it. -/
def fv (g : Nat) : Value := .iface 62 (.pointer (some ⟨g, 0, none⟩))
def FaultAt (w : World) (g : Nat) (e : Int) (a : Nat) : Prop := w.heap[g]? = some (.cells #[.int .i64 (a : Int), .int .i64 e] 65 (0, 0))
theorem FaultAt.lt {w : World} {g : Nat} {e : Int} {a : Nat} (h : FaultAt w g e a) : g < w.heap.size := by
  rcases Nat.lt_or_ge g w.heap.size with h' | h'
  · exact h'
  · unfold FaultAt at h; rw [Array.getElem?_eq_none h'] at h; cases h
theorem FaultAt.below {w w' : World} {g : Nat} {e : Int} {a B : Nat} (h : FaultAt w g e a) (hb : Below B w w') (hg : g < B) : FaultAt w' g e a := (hb.block g hg).trans h
theorem FaultAt.cell0 {w : World} {g : Nat} {e : Int} {a : Nat} (h : FaultAt w g e a) : w.cell? ⟨g, 0, none⟩ = some (.int .i64 (a : Int)) := by
  unfold FaultAt at h; simp [World.cell?, h]
theorem FaultAt.cell1 {w : World} {g : Nat} {e : Int} {a : Nat} (h : FaultAt w g e a) : w.cell? ⟨g, 1, none⟩ = some (.int .i64 e) := by
  unfold FaultAt at h; simp [World.cell?, h]
set_option maxRecDepth 100000 in
theorem fault_any (e a : Int) (n : Nat) (ha : a = (n : Int)) (w : World) :
    Calls Tryz.prog 208 #[.int .i64 e, .int .i64 a] w fun x w' => x = .returned (.iface 62 (.pointer (some ⟨w.heap.size, 0, none⟩))) ∧ FaultAt w' w.heap.size e n ∧ Below w.heap.size w w' := by
  subst ha
  go_enter Tryz.func208, Tryz.ntmps208
  go_wp2
  go_ret
  exact ⟨rfl, heap_alloc_new w _, (Below.refl _ w).alloc (Nat.le_refl _) _⟩

theorem numEnd_ge (l : List UInt8) (a : Nat) : a ≤ numEnd l a := by unfold numEnd; split <;> omega
theorem numEnd_le (l : List UInt8) (a : Nat) (h : a ≤ l.length) : numEnd l a ≤ l.length := by
  unfold numEnd
  split
  · rename_i e
    have := (List.getElem?_eq_some_iff.1 e).1; omega
  · have := cnt_le dig (l.drop a)
    simp at this; omega
theorem numEnd_four (l : List UInt8) (a : Nat) : numEnd l a ≤ a + 4 := by unfold numEnd; split <;> omega
theorem drop_data (s : ByteArray) (a : Nat) : (s.extract a s.size).data.toList = s.data.toList.drop a := by
  rw [Lib.extract_data, List.take_of_length_le]; simp
theorem size_data (s : ByteArray) : s.data.toList.length = s.size := (Lib.size_eq s).symm
theorem puN_le (l : List UInt8) (m : Int) (hm : 0 ≤ m) : puN l m ≤ m := by
  unfold puN; split
  · rename_i h; exact h.2
  · exact hm
theorem extract_le (s : ByteArray) (a b : Nat) : (s.extract a b).size ≤ s.size := by
  rw [Lib.size_eq, Lib.extract_data, Lib.size_eq]; simp; omega
set_option maxRecDepth 100000 in
set_option maxHeartbeats 400000 in
theorem numeralEnd_any (s : ByteArray) (a : Nat) (z : Int) (hz : z = (a : Int)) (w : World) (hs : s.size ≤ 1048576) (ha : a ≤ s.size) :
    Calls Tryz.prog 245 #[.string s, .int .i64 z] w fun e w' => e = .returned (.int .i64 (numEnd s.data.toList a : Int)) ∧ w' = w := by
  subst hz
  have hm : s.size ≤ maxLen := by unfold maxLen; omega
  have ha' : (a : Int) ≤ (s.size : Int) := by omega
  have h1 := stands_any s a (a : Int) rfl 48 48 rfl w hm (by unfold maxLen; omega)
  by_cases h : s.data.toList[a]? = some 48
  · have hE : Hid (numEnd s.data.toList a = a + 1) := by show numEnd _ _ = _; unfold numEnd; rw [if_pos h]
    generalize numEnd s.data.toList a = d at *
    rw [show isAt s.data.toList a 48 = true from decide_eq_true h] at h1
    clear h
    go_enter Tryz.func245, Tryz.ntmps245
    go_wp2_with (go_at_call 246; refine h1.mono ?_; rintro e w' ⟨rfl, rfl⟩)
    go_ret
    exact ⟨ret_int (by rw [hE.out]; omega), rfl⟩
  · rw [show isAt s.data.toList a 48 = false from decide_eq_false h] at h1
    have hE : Hid (numEnd s.data.toList a = a + min (cnt dig (s.data.toList.drop a)) 4) := by show numEnd _ _ = _; unfold numEnd; rw [if_neg h]
    generalize numEnd s.data.toList a = d at *
    have h2 := count_dig (s.extract a s.size) w (by have := extract_le s a s.size; omega)
    rw [drop_data] at h2
    have hc : cnt dig (s.data.toList.drop a) ≤ s.size := by have := cnt_le dig (s.data.toList.drop a); simp at this; omega
    clear h
    generalize cnt dig (s.data.toList.drop a) = n at *
    by_cases h4 : n ≤ 4
    · have h4' : (n : Int) ≤ 4 := by omega
      go_enter Tryz.func245, Tryz.ntmps245
      go_wp2_with (first | (go_at_call 246; refine h1.mono ?_; rintro e w' ⟨rfl, rfl⟩) | (go_at_call 179; refine h2.mono ?_; rintro e w' ⟨rfl, rfl⟩))
      go_ret
      exact ⟨ret_int (by rw [hE.out]; omega), rfl⟩
    · have h4' : 4 < (n : Int) := by omega
      go_enter Tryz.func245, Tryz.ntmps245
      go_wp2_with (first | (go_at_call 246; refine h1.mono ?_; rintro e w' ⟨rfl, rfl⟩) | (go_at_call 179; refine h2.mono ?_; rintro e w' ⟨rfl, rfl⟩))
      go_ret
      exact ⟨ret_int (by rw [hE.out]; omega), rfl⟩

/-- What findBody tells. -/
def BodyRet (l : List UInt8) (w : World) (x : Ending) (w' : World) : Prop :=
  Below w.heap.size w w' ∧ match bodyL l with
  | .ok b => x = .returned (.tuple #[.int .i64 (b : Int), .nilIface])
  | .error (e, a) => ∃ g, w.heap.size ≤ g ∧ x = .returned (.tuple #[.int .i64 0, .iface 62 (.pointer (some ⟨g, 0, none⟩))]) ∧ FaultAt w' g e a
theorem BodyRet.ok {l : List UInt8} {w w' : World} {x : Ending} {b : Nat} (h : bodyL l = .ok b) (hb : Below w.heap.size w w') (hx : x = .returned (.tuple #[.int .i64 (b : Int), .nilIface])) : BodyRet l w x w' := by
  refine ⟨hb, ?_⟩; rw [h]; exact hx
theorem BodyRet.bad {l : List UInt8} {w w' : World} {x : Ending} {e : Int} {a g : Nat} (h : bodyL l = .error (e, a)) (hb : Below w.heap.size w w') (hg : w.heap.size ≤ g) (hx : x = .returned (.tuple #[.int .i64 0, .iface 62 (.pointer (some ⟨g, 0, none⟩))])) (hf : FaultAt w' g e a) : BodyRet l w x w' := by
  refine ⟨hb, ?_⟩; rw [h]; exact ⟨g, hg, hx, hf⟩
def headB : ByteArray := ⟨#[56, 61, 70, 73, 88, 46, 52, 46, 52, 1, 57, 61]⟩
set_option maxRecDepth 100000 in
set_option maxHeartbeats 400000 in
theorem findBody_any (s : ByteArray) (w : World) (hs : s.size ≤ 1024) :
    Calls Tryz.prog 209 #[.string s] w fun x w' => BodyRet s.data.toList w x w' := by
  have hm : s.size ≤ maxLen := by unfold maxLen; omega
  have h1 := samePrefix_any s headB w hm (by decide)
  rw [show headB.data.toList = headL from rfl] at h1
  have hpl : pre s.data.toList headL ≤ 12 := pre_le _ _
  have hps : pre s.data.toList headL ≤ s.size := by have := pre_le' s.data.toList headL; simpa using this
  by_cases hA : pre s.data.toList headL < 12
  · have hB : Hid (bodyL s.data.toList = .error (40, pre s.data.toList headL)) := by show bodyL _ = _; unfold bodyL; rw [if_pos hA]
    generalize pre s.data.toList headL = k at *
    have hA' : (k : Int) < 12 := by omega
    go_enter Tryz.func209, Tryz.ntmps209
    go_wp2_with (go_at_call 244; fail)
    refine h1.mono ?_
    rintro e w1 ⟨rfl, q, rfl⟩
    go_wp2_with (go_at_call 208; fail)
    refine (fault_any 40 _ k rfl _).mono ?_
    rintro e w2 ⟨rfl, hf, hb⟩
    have HX : Hid (FaultAt w2 w.heap.size 40 k ∧ Below w.heap.size w w2) := ⟨hf, (below_drewN (Below.refl _ w) q).trans hb⟩
    clear hf hb
    go_wp2
    go_ret2
    exact .bad hB.out HX.out.2 (Nat.le_refl _) rfl HX.out.1
  · have h12 : 12 ≤ s.size := by omega
    have hk12 : pre s.data.toList headL = 12 := by omega
    rw [hk12] at h1
    have h2 := fun w => numeralEnd_any s 12 12 rfl w (by omega) h12
    have hn1 := numEnd_ge s.data.toList 12
    have hn2 := numEnd_le s.data.toList 12 (by rw [size_data]; exact h12)
    rw [size_data] at hn2
    have hn4 := numEnd_four s.data.toList 12
    by_cases hE : numEnd s.data.toList 12 = 12 ∨ s.data.toList[numEnd s.data.toList 12]? ≠ some 1
    · have hB : Hid (bodyL s.data.toList = .error (40, numEnd s.data.toList 12)) := by show bodyL _ = _; unfold bodyL; rw [if_neg hA, if_pos hE]
      clear hpl hps hA hk12
      by_cases h0 : numEnd s.data.toList 12 = 12
      · simp only [h0] at h2 hB
        clear hE hn1 hn2 hn4 h0
        go_enter Tryz.func209, Tryz.ntmps209
        go_wp2_with (go_at_call 244; fail)
        refine h1.mono ?_
        rintro e w1 ⟨rfl, q, rfl⟩
        go_wp2_with (go_at_call 245; fail)
        refine (h2 _).mono ?_
        rintro e w1 ⟨rfl, rfl⟩
        go_wp2_with (go_at_call 208; fail)
        refine (fault_any 40 _ 12 rfl _).mono ?_
        rintro e w2 ⟨rfl, hf, hb⟩
        have HX : Hid (FaultAt w2 w.heap.size 40 12 ∧ Below w.heap.size w w2) := ⟨hf, (below_drewN (Below.refl _ w) q).trans hb⟩
        clear hf hb
        go_wp2
        go_ret2
        exact .bad hB.out HX.out.2 (Nat.le_refl _) rfl HX.out.1
      · have hne : isAt s.data.toList (numEnd s.data.toList 12) 1 = false := by
          rcases hE with h | h
          · exact absurd h h0
          · exact decide_eq_false h
        have h3 := fun w => stands_any s (numEnd s.data.toList 12) (numEnd s.data.toList 12 : Int) rfl 1 1 rfl w hm (by unfold maxLen; omega)
        simp only [hne] at h3
        clear hE hne
        generalize numEnd s.data.toList 12 = n at *
        have h0' : ¬ (n : Int) = 12 := by omega
        have h0b : ((n : Int) == 12) = false := by simpa using h0'
        go_enter Tryz.func209, Tryz.ntmps209
        go_wp2_with (go_at_call 244; fail)
        refine h1.mono ?_
        rintro e w1 ⟨rfl, q, rfl⟩
        go_wp2_with (go_at_call 245; fail)
        refine (h2 _).mono ?_
        rintro e w1 ⟨rfl, rfl⟩
        go_wp2_with (go_at_call 246; fail)
        refine (h3 _).mono ?_
        rintro e w1 ⟨rfl, rfl⟩
        go_wp2_with (go_at_call 208; fail)
        refine (fault_any 40 _ n rfl _).mono ?_
        rintro e w2 ⟨rfl, hf, hb⟩
        have HX : Hid (FaultAt w2 w.heap.size 40 n ∧ Below w.heap.size w w2) := ⟨hf, (below_drewN (Below.refl _ w) q).trans hb⟩
        clear hf hb
        go_wp2
        go_ret2
        exact .bad hB.out HX.out.2 (Nat.le_refl _) rfl HX.out.1
    · have hE' : ¬ numEnd s.data.toList 12 = 12 ∧ s.data.toList[numEnd s.data.toList 12]? = some 1 := ⟨fun h => hE (.inl h), Classical.byContradiction fun h => hE (.inr h)⟩
      have hne : isAt s.data.toList (numEnd s.data.toList 12) 1 = true := decide_eq_true hE'.2
      have h3 := fun w => stands_any s (numEnd s.data.toList 12) (numEnd s.data.toList 12 : Int) rfl 1 1 rfl w hm (by unfold maxLen; omega)
      simp only [hne] at h3
      have hlt : numEnd s.data.toList 12 < s.size := by have := (List.getElem?_eq_some_iff.1 hE'.2).1; simpa using this
      have h4 := fun w => ParseUint_any (s.extract 12 (numEnd s.data.toList 12)) 9999 w (by have := extract_le s 12 (numEnd s.data.toList 12); omega) (by decide)
      simp only [Lib.extract_data] at h4
      have hp0 := pu_bd ((s.data.toList.drop 12).take (numEnd s.data.toList 12 - 12)) 9999 (by decide)
      have hp1 := puN_le ((s.data.toList.drop 12).take (numEnd s.data.toList 12 - 12)) 9999 (by decide)
      have hBe : bodyL s.data.toList = if (s.data.toList.length : Int) - ((numEnd s.data.toList 12 : Int) + 1) = puN ((s.data.toList.drop 12).take (numEnd s.data.toList 12 - 12)) 9999 + 7 then .ok (numEnd s.data.toList 12 + 1) else .error (43, 12) := by
        unfold bodyL; rw [if_neg hA, if_neg hE]
      rw [size_data] at hBe
      have h0 := hE'.1
      clear hpl hps hA hk12 hE hE' hne
      generalize puN ((s.data.toList.drop 12).take (numEnd s.data.toList 12 - 12)) 9999 = v at *
      generalize puE ((s.data.toList.drop 12).take (numEnd s.data.toList 12 - 12)) 9999 = ve at *
      generalize numEnd s.data.toList 12 = n at *
      have h0' : ¬ (n : Int) = 12 := by omega
      have h0b : ((n : Int) == 12) = false := by simpa using h0'
      have hlt' : (n : Int) < (s.size : Int) := by omega
      have hn12 : (12 : Int) ≤ (n : Int) := by omega
      have hnle : (n : Int) ≤ (s.size : Int) := by omega
      by_cases hL : (s.size : Int) - ((n : Int) + 1) = v + 7
      · have hB : Hid (bodyL s.data.toList = .ok (n + 1)) := by show bodyL _ = _; rw [hBe, if_pos hL]
        clear hBe
        go_enter Tryz.func209, Tryz.ntmps209
        go_wp2_with (go_at_call 244; fail)
        refine h1.mono ?_
        rintro e w1 ⟨rfl, q, rfl⟩
        go_wp2_with (go_at_call 245; fail)
        refine (h2 _).mono ?_
        rintro e w1 ⟨rfl, rfl⟩
        go_wp2_with (go_at_call 246; fail)
        refine (h3 _).mono ?_
        rintro e w1 ⟨rfl, rfl⟩
        go_wp2_with (go_at_call 247; fail)
        refine (h4 _).mono ?_
        rintro e w1 ⟨rfl, rfl⟩
        go_wp2
        go_ret2
        exact .ok hB.out (below_drewN (Below.refl _ w) q) rfl
      · have hB : Hid (bodyL s.data.toList = .error (43, 12)) := by show bodyL _ = _; rw [hBe, if_neg hL]
        clear hBe
        have hLb : ((s.size : Int) - ((n : Int) + 1) == v + 7) = false := by simpa using hL
        go_enter Tryz.func209, Tryz.ntmps209
        go_wp2_with (go_at_call 244; fail)
        refine h1.mono ?_
        rintro e w1 ⟨rfl, q, rfl⟩
        go_wp2_with (go_at_call 245; fail)
        refine (h2 _).mono ?_
        rintro e w1 ⟨rfl, rfl⟩
        go_wp2_with (go_at_call 246; fail)
        refine (h3 _).mono ?_
        rintro e w1 ⟨rfl, rfl⟩
        go_wp2_with (go_at_call 247; fail)
        refine (h4 _).mono ?_
        rintro e w1 ⟨rfl, rfl⟩
        go_wp2_with (go_at_call 208; fail)
        refine (fault_any 43 _ 12 rfl _).mono ?_
        rintro e w2 ⟨rfl, hf, hb⟩
        have HX : Hid (FaultAt w2 w.heap.size 43 12 ∧ Below w.heap.size w w2) := ⟨hf, (below_drewN (Below.refl _ w) q).trans hb⟩
        clear hf hb
        go_wp2
        go_ret2
        exact .bad hB.out HX.out.2 (Nat.le_refl _) rfl HX.out.1
end Go.Proofs.YtchkpggdndnpjabGreatDoor

namespace Go.Proofs.YtchkpggdndnpjabGreatDoor
set_option linter.unusedVariables false
open Go.RowKit

theorem frozen_alloc {w : World} {a : Addr} {v : Value} (h : w.cell? a = some v) (hf : w.frozen? a = false) (o : Obj) : (w.alloc o).frozen? a = false := by
  have hb := ((Below.refl _ w).alloc (Nat.le_refl _) o).block a.block (World.block_lt_of_cell? _ _ h)
  unfold World.frozen? at hf ⊢
  rw [hb]; exact hf
/-- What a numeral from least to most reads as. -/
def nrB (s : List UInt8) (x y : Int) : Bool := decide (puE s y = 0) && decide (x ≤ puN s y)
/-- A value is written, or nothing. -/
def Wr (b : Bool) (a : Addr) (v : Value) (w w' : World) : Prop := ∃ w1, Below w.heap.size w w1 ∧ w' = cond b (w1.setCell a v) w1
set_option maxRecDepth 100000 in
theorem numI_read (a : Addr) (x y z : Int) (s : ByteArray) (w : World) (hc : w.cell? a = some (.int .i64 z)) (hf : w.frozen? a = false) (hs : s.size ≤ maxLen) (hy : y ≤ 9223372036854775807) :
    Calls Tryz.prog 311 #[.agg #[.pointer (some a), .int .i64 x, .int .i64 y], .string s] w fun e w' => e = .returned (.bool (nrB s.data.toList x y)) ∧ Wr (nrB s.data.toList x y) a (.int .i64 (puN s.data.toList y)) w w' := by
  have h1 := fun w' => ParseUint_any s y w' hs hy
  have hcl := cell_alloc hc (.cells #[.pointer (some a), .int .i64 x, .int .i64 y] 150)
  have hfl := frozen_alloc hc hf (.cells #[.pointer (some a), .int .i64 x, .int .i64 y] 150)
  have HB : Hid (Below w.heap.size w (w.alloc (.cells #[.pointer (some a), .int .i64 x, .int .i64 y] 150))) := (Below.refl _ w).alloc (Nat.le_refl _) _
  obtain ⟨R, hR⟩ : ∃ R, R = nrB s.data.toList x y := ⟨_, rfl⟩
  rw [← hR]
  unfold nrB at hR
  generalize puN s.data.toList y = N at *
  generalize puE s.data.toList y = E at *
  clear hc hf hs
  by_cases hE : E = 0
  · subst hE
    by_cases hx : N < x
    · have hd : decide (N < x) = true := decide_eq_true hx
      have HR : Hid (R = false) := by show _ = _; rw [hR]; simp; omega
      clear hR
      go_enter Tryz.func311, Tryz.ntmps311
      go_wp2_with (go_at_call 247; refine (h1 _).mono ?_; rintro e w2 ⟨rfl, rfl⟩)
      go_ret
      exact ⟨ret_bool HR.out.symm, _, HB.out, by rw [HR.out]; rfl⟩
    · have hd : decide (N < x) = false := decide_eq_false hx
      have HR : Hid (R = true) := by show _ = _; rw [hR]; simp; omega
      clear hR
      go_enter Tryz.func311, Tryz.ntmps311
      go_wp2_with (go_at_call 247; refine (h1 _).mono ?_; rintro e w2 ⟨rfl, rfl⟩)
      go_ret
      exact ⟨ret_bool HR.out.symm, _, HB.out, by rw [HR.out]; rfl⟩
  · have hd : (E != 0) = true := by simpa using hE
    have HR : Hid (R = false) := by show _ = _; rw [hR]; simp [hE]
    clear hE hR
    go_enter Tryz.func311, Tryz.ntmps311
    go_wp2_with (go_at_call 247; refine (h1 _).mono ?_; rintro e w2 ⟨rfl, rfl⟩)
    go_ret
    exact ⟨ret_bool HR.out.symm, _, HB.out, by rw [HR.out]; rfl⟩
set_option maxRecDepth 100000 in
theorem numL_read (a : Addr) (x y z : Int) (s : ByteArray) (w : World) (hc : w.cell? a = some (.int .i64 z)) (hf : w.frozen? a = false) (hs : s.size ≤ maxLen) (hy : y ≤ 9223372036854775807) :
    Calls Tryz.prog 369 #[.agg #[.pointer (some a), .int .i64 x, .int .i64 y], .string s] w fun e w' => e = .returned (.bool (nrB s.data.toList x y)) ∧ Wr (nrB s.data.toList x y) a (.int .i64 (puN s.data.toList y)) w w' := by
  have h1 := fun w' => ParseUint_any s y w' hs hy
  have hcl := cell_alloc hc (.cells #[.pointer (some a), .int .i64 x, .int .i64 y] 164)
  have hfl := frozen_alloc hc hf (.cells #[.pointer (some a), .int .i64 x, .int .i64 y] 164)
  have HB : Hid (Below w.heap.size w (w.alloc (.cells #[.pointer (some a), .int .i64 x, .int .i64 y] 164))) := (Below.refl _ w).alloc (Nat.le_refl _) _
  obtain ⟨R, hR⟩ : ∃ R, R = nrB s.data.toList x y := ⟨_, rfl⟩
  rw [← hR]
  unfold nrB at hR
  generalize puN s.data.toList y = N at *
  generalize puE s.data.toList y = E at *
  clear hc hf hs
  by_cases hE : E = 0
  · subst hE
    by_cases hx : N < x
    · have hd : decide (N < x) = true := decide_eq_true hx
      have HR : Hid (R = false) := by show _ = _; rw [hR]; simp; omega
      clear hR
      go_enter Tryz.func369, Tryz.ntmps369
      go_wp2_with (go_at_call 247; refine (h1 _).mono ?_; rintro e w2 ⟨rfl, rfl⟩)
      go_ret
      exact ⟨ret_bool HR.out.symm, _, HB.out, by rw [HR.out]; rfl⟩
    · have hd : decide (N < x) = false := decide_eq_false hx
      have HR : Hid (R = true) := by show _ = _; rw [hR]; simp; omega
      clear hR
      go_enter Tryz.func369, Tryz.ntmps369
      go_wp2_with (go_at_call 247; refine (h1 _).mono ?_; rintro e w2 ⟨rfl, rfl⟩)
      go_ret
      exact ⟨ret_bool HR.out.symm, _, HB.out, by rw [HR.out]; rfl⟩
  · have hd : (E != 0) = true := by simpa using hE
    have HR : Hid (R = false) := by show _ = _; rw [hR]; simp [hE]
    clear hE hR
    go_enter Tryz.func369, Tryz.ntmps369
    go_wp2_with (go_at_call 247; refine (h1 _).mono ?_; rintro e w2 ⟨rfl, rfl⟩)
    go_ret
    exact ⟨ret_bool HR.out.symm, _, HB.out, by rw [HR.out]; rfl⟩
end Go.Proofs.YtchkpggdndnpjabGreatDoor

namespace Go.Proofs.YtchkpggdndnpjabGreatDoor
set_option linter.unusedVariables false
open Go.RowKit

set_option maxRecDepth 100000 in
theorem inst_write (a : Addr) (w : World)  :
    Calls Tryz.prog 335 #[.agg #[.pointer (some a)]] w fun e w' => e = .returned (.string ⟨#[54]⟩) ∧ Below w.heap.size w w' := by
  have HB : Hid (Below w.heap.size w (w.alloc (.cells #[.pointer (some a)] 160))) := (Below.refl _ w).alloc (Nat.le_refl _) _
  go_enter Tryz.func335, Tryz.ntmps335
  go_wp2
  go_ret
  exact ⟨rfl, HB.out⟩
set_option maxRecDepth 100000 in
theorem text_write (a : Addr) (s : ByteArray) (v : Value) (hv : v.cells = #[v]) (w : World) (hc : w.cell? a = some (.string s)) :
    Calls Tryz.prog 310 #[.agg #[.pointer (some a), v]] w fun e w' => e = .returned (.string s) ∧ Below w.heap.size w w' := by
  have HB : Hid (Below w.heap.size w (w.alloc (.cells #[.pointer (some a), v] 148))) := (Below.refl _ w).alloc (Nat.le_refl _) _
  have hcl := cell_alloc hc (.cells #[.pointer (some a), v] 148)
  clear hc
  go_enter Tryz.func310, Tryz.ntmps310
  go_wp2
  go_ret
  exact ⟨rfl, HB.out⟩
set_option maxRecDepth 100000 in
theorem inst_there (a : Addr) (z : Int) (w : World) (hc : w.cell? a = some (.int .i64 z)) :
    Calls Tryz.prog 334 #[.agg #[.pointer (some a)]] w fun e w' => e = .returned (.bool (z == 7)) ∧ Below w.heap.size w w' := by
  have HB : Hid (Below w.heap.size w (w.alloc (.cells #[.pointer (some a)] 160))) := (Below.refl _ w).alloc (Nat.le_refl _) _
  have hcl := cell_alloc hc (.cells #[.pointer (some a)] 160)
  clear hc
  go_enter Tryz.func334, Tryz.ntmps334
  go_wp2
  go_ret
  exact ⟨rfl, HB.out⟩
end Go.Proofs.YtchkpggdndnpjabGreatDoor

namespace Go.Proofs
open Go.Shelf
def Tryz.lays162_ren : Go.Shelf.Ren := ⟨fun | 162 => 346 | 232 => 349 | 227 => 350 | 234 => 351 | 236 => 352 | 228 => 354 | 271 => 355 | 151 => 356 | 120 => 361 | 197 => 362 | 152 => 363 | 260 => 366 | 137 => 367 | 119 => 368 | 224 => 359 | 225 => 358 | 217 => 357 | 266 => 364 | n => n, fun | 9 => 9 | 4 => 4 | 3 => 3 | 5 => 5 | 117 => 284 | 116 => 283 | 0 => 0 | 124 => 287 | 21 => 21 | 105 => 288 | 46 => 250 | 119 => 296 | 139 => 299 | 138 => 298 | n => n, fun | 3 => 6 | 4 => 7 | n => n⟩
theorem Tryz.lays162 : Go.Proofs.Lays.n162 Tryz.prog Tryz.lays162_ren := {
  mixed := by kernel_rfl
  f119 := Tryz.func368.trans (congrArg some (by kernel_rfl))
  f120 := Tryz.func361.trans (congrArg some (by kernel_rfl))
  f137 := Tryz.func367.trans (congrArg some (by kernel_rfl))
  f151 := Tryz.func356.trans (congrArg some (by kernel_rfl))
  f152 := Tryz.func363.trans (congrArg some (by kernel_rfl))
  f162 := Tryz.func346.trans (congrArg some (by kernel_rfl))
  f197 := Tryz.func362.trans (congrArg some (by kernel_rfl))
  f217 := Tryz.func357.trans (congrArg some (by kernel_rfl))
  f224 := Tryz.func359.trans (congrArg some (by kernel_rfl))
  f225 := Tryz.func358.trans (congrArg some (by kernel_rfl))
  f227 := Tryz.func350.trans (congrArg some (by kernel_rfl))
  f228 := Tryz.func354.trans (congrArg some (by kernel_rfl))
  f232 := Tryz.func349.trans (congrArg some (by kernel_rfl))
  f234 := Tryz.func351.trans (congrArg some (by kernel_rfl))
  f236 := Tryz.func352.trans (congrArg some (by kernel_rfl))
  f260 := Tryz.func366.trans (congrArg some (by kernel_rfl))
  f266 := Tryz.func364.trans (congrArg some (by kernel_rfl))
  f271 := Tryz.func355.trans (congrArg some (by kernel_rfl))
  t0 := Tryz.underlying0
  a0 := Tryz.isAgg0
  z0 := Tryz.sizeOf0
  v0 := Tryz.zeroValue0
  t3 := Tryz.underlying3
  a3 := Tryz.isAgg3
  z3 := Tryz.sizeOf3
  v3 := Tryz.zeroValue3
  t4 := Tryz.underlying4
  a4 := Tryz.isAgg4
  z4 := Tryz.sizeOf4
  v4 := Tryz.zeroValue4
  t5 := Tryz.underlying5
  a5 := Tryz.isAgg5
  z5 := Tryz.sizeOf5
  v5 := Tryz.zeroValue5
  t9 := Tryz.underlying9
  a9 := Tryz.isAgg9
  z9 := Tryz.sizeOf9
  v9 := Tryz.zeroValue9
  t21 := Tryz.underlying21
  a21 := Tryz.isAgg21
  z21 := Tryz.sizeOf21
  v21 := Tryz.zeroValue21
  t46 := Tryz.underlying250
  a46 := Tryz.isAgg250
  z46 := Tryz.sizeOf250
  v46 := Tryz.zeroValue250
  t105 := Tryz.underlying288
  a105 := Tryz.isAgg288
  z105 := Tryz.sizeOf288
  v105 := Tryz.zeroValue288
  t116 := Tryz.underlying283
  a116 := Tryz.isAgg283
  z116 := Tryz.sizeOf283
  t117 := Tryz.underlying284
  a117 := Tryz.isAgg284
  z117 := Tryz.sizeOf284
  v117 := Tryz.zeroValue284
  t119 := Tryz.underlying296
  a119 := Tryz.isAgg296
  z119 := Tryz.sizeOf296
  t124 := Tryz.underlying287
  a124 := Tryz.isAgg287
  z124 := Tryz.sizeOf287
  v124 := Tryz.zeroValue287
  t138 := Tryz.underlying298
  a138 := Tryz.isAgg298
  z138 := Tryz.sizeOf298
  v138 := Tryz.zeroValue298
  t139 := Tryz.underlying299
  a139 := Tryz.isAgg299
  z139 := Tryz.sizeOf299
  v139 := Tryz.zeroValue299
  g3 := by kernel_rfl
  g4 := by kernel_rfl }
open Go.RowKit in
theorem Tryz.strings_TrimRight_one (s : ByteArray) (c : UInt8) (hc : c.toNat < 128) (w : World) (hs : s.size ≤ 9223372036854775807) :
    Calls Tryz.prog 346 #[.string s, .string ⟨#[c]⟩] w fun e w' => e = .returned (.string ⟨(Lib.trimRightB s.data.toList c).toArray⟩) ∧ w' = w := Any.strings_TrimRight_one Tryz.lays162 s c hc w hs
def Tryz.lays283_ren : Go.Shelf.Ren := ⟨fun | 283 => 254 | n => n, fun | 3 => 3 | 9 => 9 | 4 => 4 | n => n, fun | n => n⟩
theorem Tryz.lays283 : Go.Proofs.Lays.n283 Tryz.prog Tryz.lays283_ren := {
  mixed := by kernel_rfl
  f283 := Tryz.func254.trans (congrArg some (by kernel_rfl))
  t3 := Tryz.underlying3
  a3 := Tryz.isAgg3
  z3 := Tryz.sizeOf3
  v3 := Tryz.zeroValue3
  t4 := Tryz.underlying4
  a4 := Tryz.isAgg4
  z4 := Tryz.sizeOf4
  v4 := Tryz.zeroValue4
  t9 := Tryz.underlying9
  a9 := Tryz.isAgg9
  z9 := Tryz.sizeOf9
  v9 := Tryz.zeroValue9 }
open Go.Lib in
theorem Tryz.internal_strconv_small (i : Nat) (h : i < 100) (w : World) :
    Calls Tryz.prog 254 #[.int .i64 i] w fun e w' => e = .returned (.string ⟨(Lib.decDigits i).toArray⟩) ∧ w' = w := Any.internal_strconv_small Tryz.lays283 i h w
def Tryz.laysM284_ren : Go.Shelf.Ren := ⟨fun | 284 => 255 | 129 => 270 | 317 => 269 | 318 => 271 | n => n, fun | 53 => 113 | 3 => 3 | 212 => 248 | 0 => 0 | 4 => 4 | 46 => 250 | 5 => 5 | 9 => 9 | n => n, fun | 17 => 1 | n => n⟩
theorem Tryz.laysM284 : Go.Proofs.LaysM.n284 Tryz.prog Tryz.laysM284_ren := {
  mixed := by kernel_rfl
  f129 := Tryz.func270.trans (congrArg some (by kernel_rfl))
  f284 := Tryz.func255.trans (congrArg some (by kernel_rfl))
  f317 := Tryz.func269.trans (congrArg some (by kernel_rfl))
  f318 := Tryz.func271.trans (congrArg some (by kernel_rfl))
  t0 := Tryz.underlying0
  a0 := Tryz.isAgg0
  z0 := Tryz.sizeOf0
  v0 := Tryz.zeroValue0
  t3 := Tryz.underlying3
  a3 := Tryz.isAgg3
  z3 := Tryz.sizeOf3
  v3 := Tryz.zeroValue3
  t4 := Tryz.underlying4
  a4 := Tryz.isAgg4
  z4 := Tryz.sizeOf4
  v4 := Tryz.zeroValue4
  t5 := Tryz.underlying5
  a5 := Tryz.isAgg5
  z5 := Tryz.sizeOf5
  v5 := Tryz.zeroValue5
  t9 := Tryz.underlying9
  a9 := Tryz.isAgg9
  z9 := Tryz.sizeOf9
  v9 := Tryz.zeroValue9
  t46 := Tryz.underlying250
  a46 := Tryz.isAgg250
  z46 := Tryz.sizeOf250
  v46 := Tryz.zeroValue250
  t53 := Tryz.underlying113
  a53 := Tryz.isAgg113
  z53 := Tryz.sizeOf113
  v53 := Tryz.zeroValue113
  t212 := Tryz.underlying248
  a212 := Tryz.isAgg248
  z212 := Tryz.sizeOf248
  v212 := Tryz.zeroValue248
  g17 := by kernel_rfl
  i0 := by kernel_rfl
  i3 := by kernel_rfl
  i4 := by kernel_rfl
  i5 := by kernel_rfl
  i9 := by kernel_rfl
  i46 := by kernel_rfl
  i53 := by kernel_rfl
  i212 := by kernel_rfl
  m17 := by kernel_rfl }
open Go.Lib in
theorem Tryz.internal_strconv_numDigits (u : Nat) (h1 : 1 ≤ u) (h2 : u < 18446744073709551616) (w : World) (htab : Lib.TabIs Tryz.prog w "internal/strconv.uint64pow10" .u64 Lib.pow10Tab) :
    Calls Tryz.prog 255 #[.int .u64 u] w fun e w' => e = .returned (.int .i64 (Lib.nDigits u)) ∧ w' = w := Any.internal_strconv_numDigits Tryz.laysM284 u h1 h2 w htab
def Tryz.lays285_ren : Go.Shelf.Ren := ⟨fun | 285 => 256 | n => n, fun | 37 => 25 | 53 => 113 | 3 => 3 | 4 => 4 | 51 => 73 | 9 => 9 | 5 => 5 | 0 => 0 | n => n, fun | n => n⟩
theorem Tryz.lays285 : Go.Proofs.Lays.n285 Tryz.prog Tryz.lays285_ren := {
  mixed := by kernel_rfl
  f285 := Tryz.func256.trans (congrArg some (by kernel_rfl))
  t0 := Tryz.underlying0
  a0 := Tryz.isAgg0
  z0 := Tryz.sizeOf0
  v0 := Tryz.zeroValue0
  t3 := Tryz.underlying3
  a3 := Tryz.isAgg3
  z3 := Tryz.sizeOf3
  v3 := Tryz.zeroValue3
  t4 := Tryz.underlying4
  a4 := Tryz.isAgg4
  z4 := Tryz.sizeOf4
  v4 := Tryz.zeroValue4
  t5 := Tryz.underlying5
  a5 := Tryz.isAgg5
  z5 := Tryz.sizeOf5
  v5 := Tryz.zeroValue5
  t9 := Tryz.underlying9
  a9 := Tryz.isAgg9
  z9 := Tryz.sizeOf9
  v9 := Tryz.zeroValue9
  t37 := Tryz.underlying25
  a37 := Tryz.isAgg25
  z37 := Tryz.sizeOf25
  v37 := Tryz.zeroValue25
  t51 := Tryz.underlying73
  a51 := Tryz.isAgg73
  z51 := Tryz.sizeOf73
  v51 := Tryz.zeroValue73
  t53 := Tryz.underlying113
  a53 := Tryz.isAgg113
  z53 := Tryz.sizeOf113
  v53 := Tryz.zeroValue113 }
open Go.RowKit Go.Sort Go.Lib in
theorem Tryz.internal_strconv_formatBase10 (blk off cap : Nat) (u : Nat) (d : Array UInt8) (w : World) (hH : Holds (fun (b : UInt8) => Value.int .u8 (b.toNat : Int)) w blk off d) (hu : u < 10 ^ d.size) (hu64 : u < 18446744073709551616) (hsz : d.size < 4611686018427387904) :
    Calls Tryz.prog 256 #[.slice (some ⟨blk, off, none⟩) d.size cap, .int .u64 u] w fun e w' =>
      e = .returned (.tuple #[]) ∧ ∃ (n v' : Nat) (dk : Array UInt8), w' = (putRow (fun (b : UInt8) => Value.int .u8 (b.toNat : Int)) w blk off dk).drewN n ∧ FmtInv d.size u 0 v' dk := Any.internal_strconv_formatBase10 Tryz.lays285 blk off cap u d w hH hu hu64 hsz
def Tryz.lays219_ren : Go.Shelf.Ren := ⟨fun | 219 => 353 | 217 => 357 | 225 => 358 | 224 => 359 | 267 => 360 | 266 => 364 | 314 => 365 | n => n, fun | 9 => 9 | 3 => 3 | 4 => 4 | 5 => 5 | 46 => 250 | 146 => 293 | 51 => 73 | n => n, fun | 1 => 5 | n => n⟩
theorem Tryz.lays219 : Go.Proofs.Lays.n219 Tryz.prog Tryz.lays219_ren := {
  mixed := by kernel_rfl
  f217 := Tryz.func357.trans (congrArg some (by kernel_rfl))
  f219 := Tryz.func353.trans (congrArg some (by kernel_rfl))
  f224 := Tryz.func359.trans (congrArg some (by kernel_rfl))
  f225 := Tryz.func358.trans (congrArg some (by kernel_rfl))
  f266 := Tryz.func364.trans (congrArg some (by kernel_rfl))
  f267 := Tryz.func360.trans (congrArg some (by kernel_rfl))
  f314 := Tryz.func365.trans (congrArg some (by kernel_rfl))
  t3 := Tryz.underlying3
  a3 := Tryz.isAgg3
  z3 := Tryz.sizeOf3
  v3 := Tryz.zeroValue3
  t4 := Tryz.underlying4
  a4 := Tryz.isAgg4
  z4 := Tryz.sizeOf4
  v4 := Tryz.zeroValue4
  t5 := Tryz.underlying5
  a5 := Tryz.isAgg5
  z5 := Tryz.sizeOf5
  v5 := Tryz.zeroValue5
  t9 := Tryz.underlying9
  a9 := Tryz.isAgg9
  z9 := Tryz.sizeOf9
  v9 := Tryz.zeroValue9
  t46 := Tryz.underlying250
  a46 := Tryz.isAgg250
  z46 := Tryz.sizeOf250
  v46 := Tryz.zeroValue250
  t51 := Tryz.underlying73
  a51 := Tryz.isAgg73
  z51 := Tryz.sizeOf73
  v51 := Tryz.zeroValue73
  t146 := Tryz.underlying293
  a146 := Tryz.isAgg293
  z146 := Tryz.sizeOf293
  v146 := Tryz.zeroValue293
  g1 := by kernel_rfl }
open Go.RowKit Go.Lib in
theorem Tryz.stringslite_Index_one (s : ByteArray) (c : UInt8) (w : World) :
    Calls Tryz.prog 353 #[.string s, .string ⟨#[c]⟩] w fun e w' => e = .returned (.int .i64 (Lib.indexByte s.data.toList c)) ∧ w' = w := Any.stringslite_Index_one Tryz.lays219 s c w
end Go.Proofs

namespace Go.Proofs.YtchkpggdndnpjabGreatDoor
set_option linter.unusedVariables false
open Go.RowKit

set_option maxRecDepth 100000 in
set_option maxHeartbeats 400000 in
theorem isPriceRest_any (s : ByteArray) (w : World) (hs : s.size ≤ maxLen) :
    Calls Tryz.prog 342 #[.string s] w fun e w' => e = .returned (.bool (restB s.data.toList)) ∧ w' = w := by
  by_cases h2 : s.toList = []
  · have e2 : s.toList.isEmpty = true := by simpa using h2
    have HB : Hid (restB s.data.toList = false) := by show restB _ = _; rw [← Lib.toList_data, h2]; rfl
    go_enter Tryz.func342, Tryz.ntmps342
    go_wp2_with fail
    go_ret
    exact ⟨ret_bool HB.out.symm, rfl⟩
  have e2 : s.toList.isEmpty = false := by simpa using h2
  by_cases h4 : (s.size : Int) ≤ 4
  · have HB : Hid (restB s.data.toList = digs s.data.toList) := by
      show restB _ = _
      have h5 : s.data.toList.length ≤ 4 := by rw [← Lib.size_eq]; omega
      have e3 : s.data.toList.isEmpty = false := by rw [← Lib.toList_data]; exact e2
      unfold restB; rw [e3, decide_eq_true h5]; rfl
    go_enter Tryz.func342, Tryz.ntmps342
    go_wp2_with (go_at_call 275; refine (areDigits_any _ _ hs).mono ?_; rintro e w' ⟨rfl, rfl⟩)
    go_ret
    refine ⟨ret_bool ?_, rfl⟩
    rw [HB.out]
    try simp
  · have HB : Hid (restB s.data.toList = false) := by
      show restB _ = _
      have h5 : ¬ s.data.toList.length ≤ 4 := by rw [← Lib.size_eq]; omega
      unfold restB; rw [decide_eq_false h5]; simp
    go_enter Tryz.func342, Tryz.ntmps342
    go_wp2_with fail
    go_ret
    refine ⟨ret_bool ?_, rfl⟩
    rw [HB.out]
    try simp

set_option maxRecDepth 100000 in
set_option maxHeartbeats 400000 in
theorem readPriceRest_any (s : ByteArray) (w : World) (hs : s.size ≤ maxLen) (hd : digs s.data.toList = true) :
    Calls Tryz.prog 343 #[.string s] w fun e w' => e = .returned (.int .i64 (restN s.data.toList 4)) ∧ w' = w := by
  unfold maxLen at hs
  have HD : Hid (digs s.data.toList = true) := hd
  clear hd
  go_enter Tryz.func343, Tryz.ntmps343
  go_wp2
  go_loop [3, 4, 5] (fun n _ i => ∃ k : Nat, k ≤ 4 ∧ i = .int .i64 k ∧ n = .int .i64 (restN s.data.toList k)) (fun _ _ i => 4 - (intOf i).toNat)
  case atStart => exact ⟨0, Nat.zero_le _, rfl, rfl⟩
  case round =>
    obtain ⟨k, hk, rfl, rfl⟩ := hrel
    have hv := restN_bd _ HD.out k hk
    obtain ⟨hv0, hv1⟩ := hv
    by_cases hlt : k < 4
    · have hlt' : (k : Int) < 4 := by omega
      by_cases hks : k < s.size
      · have hb := digs_at s k hks HD.out
        obtain ⟨hb1, hb2⟩ := hb
        have HS : Hid (restN s.data.toList (k + 1) = restN s.data.toList k * 10 + ((s[k].toNat : Int) - 48)) := restN_at s k hks
        generalize restN s.data.toList k = v at *
        go_wp2
        go_round
        case rel => exact ⟨k + 1, by omega, by go_num, by rw [HS.out]⟩
        case measure => simp [intOf]; omega
      · have HS : Hid (restN s.data.toList (k + 1) = restN s.data.toList k * 10) := restN_no s k hks
        generalize restN s.data.toList k = v at *
        go_wp2
        go_round
        case rel => exact ⟨k + 1, by omega, by go_num, by rw [HS.out]⟩
        case measure => simp [intOf]; omega
    · have ek : k = 4 := by omega
      subst ek
      go_wp2
      go_ret
      exact ⟨rfl, rfl⟩

/-- Where the point stands (below 0: nowhere). -/
def dotAt (s : ByteArray) : Int := Lib.indexByte s.data.toList 46

theorem dot_index (s : ByteArray) (w : World) : Calls Tryz.prog 353 #[.string s, .string ⟨#[46]⟩] w fun e w' => e = .returned (.int .i64 (dotAt s)) ∧ w' = w :=
  Tryz.stringslite_Index_one s 46 w
theorem dot_lt (s : ByteArray) (i : Nat) (h : dotAt s = i) : i < s.size := by
  have := (Lib.indexByte_some h).1
  rw [List.getElem?_eq_some_iff] at this
  obtain ⟨h1, _⟩ := this
  rw [Lib.size_eq]; exact h1
set_option maxRecDepth 100000 in
set_option maxHeartbeats 400000 in
theorem cutDot_no (s : ByteArray) (w : World) (h : dotAt s < 0) :
    Calls Tryz.prog 341 #[.string s, .string ⟨#[46]⟩] w fun e w' => e = .returned (.tuple #[.string s, .string ⟨#[]⟩, .bool false]) ∧ w' = w := by
  have inner : ∀ wx, Calls Tryz.prog 347 #[.string s, .string ⟨#[46]⟩] wx fun e w' => e = .returned (.tuple #[.string s, .string ⟨#[]⟩, .bool false]) ∧ w' = wx := fun wx => by
    go_enter Tryz.func347, Tryz.ntmps347
    go_wp2_with (go_at_call 353; refine (dot_index _ _).mono ?_; rintro e w' ⟨rfl, rfl⟩)
    go_ret3
    exact ⟨rfl, rfl⟩
  go_enter Tryz.func341, Tryz.ntmps341
  go_wp2_with (go_at_call 347; refine (inner _).mono ?_; rintro e w' ⟨rfl, rfl⟩)
  go_ret3
  exact ⟨rfl, rfl⟩
set_option maxRecDepth 100000 in
set_option maxHeartbeats 400000 in
theorem cutDot_yes (s : ByteArray) (w : World) (i : Nat) (h : dotAt s = i) (hs : s.size ≤ maxLen) :
    Calls Tryz.prog 341 #[.string s, .string ⟨#[46]⟩] w fun e w' => e = .returned (.tuple #[.string (s.extract 0 i), .string (s.extract (i + 1) s.size), .bool true]) ∧ ∃ k, w' = w.drewN k := by
  have hi := dot_lt s i h
  unfold maxLen at hs
  have inner : ∀ wx, Calls Tryz.prog 347 #[.string s, .string ⟨#[46]⟩] wx fun e w' => e = .returned (.tuple #[.string (s.extract 0 i), .string (s.extract (i + 1) s.size), .bool true]) ∧ ∃ k, w' = wx.drewN k := fun wx => by
    go_enter Tryz.func347, Tryz.ntmps347
    go_wp2_with (go_at_call 353; refine (dot_index _ _).mono ?_; rintro e w' ⟨rfl, rfl⟩)
    go_quiet (fail)
    go_wp2
    go_ret3
    exact ⟨rfl, _, rfl⟩
  go_enter Tryz.func341, Tryz.ntmps341
  go_wp2_with (go_at_call 347; refine (inner _).mono ?_; rintro e w' ⟨rfl, k, rfl⟩)
  go_ret3
  exact ⟨rfl, _, rfl⟩
end Go.Proofs.YtchkpggdndnpjabGreatDoor

namespace Go.Proofs.YtchkpggdndnpjabGreatDoor
set_option linter.unusedVariables false
open Go.RowKit

def prcN (wh r : List UInt8) : Int := if puE wh 100000 = 0 ∧ puN wh 100000 * 10000 + restN r 4 ≤ 1000000000 then puN wh 100000 * 10000 + restN r 4 else 0
def prcE (wh r : List UInt8) : Int := if puE wh 100000 = 0 then (if puN wh 100000 * 10000 + restN r 4 ≤ 1000000000 then 0 else 11) else puE wh 100000
def wholeL (s : ByteArray) : List UInt8 := s.data.toList.take (dotAt s).toNat
def restL (s : ByteArray) : List UInt8 := s.data.toList.drop ((dotAt s).toNat + 1)
/-- What ParsePrice tells. -/
def priceN (s : ByteArray) : Int := if dotAt s < 0 then prcN s.data.toList [] else if restB (restL s) = true then prcN (wholeL s) (restL s) else 0
def priceE (s : ByteArray) : Int := if dotAt s < 0 then prcE s.data.toList [] else if restB (restL s) = true then prcE (wholeL s) (restL s) else 10
theorem price_no {s : ByteArray} (h : dotAt s < 0) : priceN s = prcN s.data.toList [] ∧ priceE s = prcE s.data.toList [] := ⟨if_pos h, if_pos h⟩
theorem price_bad {s : ByteArray} (h : ¬ dotAt s < 0) (g : ¬ restB (restL s) = true) : priceN s = 0 ∧ priceE s = 10 := by
  unfold priceN priceE; rw [if_neg h, if_neg h, if_neg g, if_neg g]; exact ⟨rfl, rfl⟩
theorem price_dot {s : ByteArray} (h : ¬ dotAt s < 0) (g : restB (restL s) = true) : priceN s = prcN (wholeL s) (restL s) ∧ priceE s = prcE (wholeL s) (restL s) := by
  unfold priceN priceE; rw [if_neg h, if_neg h, if_pos g, if_pos g]; exact ⟨rfl, rfl⟩
theorem prc_err {wh r : List UInt8} (h : ¬ puE wh 100000 = 0) : prcN wh r = 0 ∧ prcE wh r = puE wh 100000 := by
  unfold prcN prcE; rw [if_neg (fun g => h g.1), if_neg h]; exact ⟨rfl, rfl⟩
theorem prc_ok {wh r : List UInt8} (h : puE wh 100000 = 0) (g : puN wh 100000 * 10000 + restN r 4 ≤ 1000000000) : prcN wh r = puN wh 100000 * 10000 + restN r 4 ∧ prcE wh r = 0 := by
  unfold prcN prcE; rw [if_pos ⟨h, g⟩, if_pos h, if_pos g]; exact ⟨rfl, rfl⟩
theorem prc_gt {wh r : List UInt8} (h : puE wh 100000 = 0) (g : ¬ puN wh 100000 * 10000 + restN r 4 ≤ 1000000000) : prcN wh r = 0 ∧ prcE wh r = 11 := by
  unfold prcN prcE; rw [if_neg (fun k => g k.2), if_pos h, if_neg g]; exact ⟨rfl, rfl⟩
theorem pu_le_most (l : List UInt8) (m : Int) (hm : 0 ≤ m) : puN l m ≤ m := by
  unfold puN; split
  · rename_i h; exact h.2
  · exact hm
theorem restN_nil : restN [] 4 = 0 := rfl
theorem restB_digs {l : List UInt8} (h : restB l = true) : digs l = true := by
  unfold restB at h; rw [Bool.and_eq_true] at h; exact h.2

theorem pre_data (s : ByteArray) (i : Nat) : (s.extract 0 i).data.toList = s.data.toList.take i := by
  rw [Lib.extract_data]; simp
theorem post_data (s : ByteArray) (i : Nat) : (s.extract (i + 1) s.size).data.toList = s.data.toList.drop (i + 1) := by
  rw [Lib.extract_data, List.take_of_length_le (by rw [List.length_drop, ← Lib.size_eq]; omega)]
theorem pre_size (s : ByteArray) (i : Nat) : (s.extract 0 i).size ≤ s.size := by
  have h : (s.extract 0 i).data.toList.length ≤ s.data.toList.length := by rw [pre_data]; simp; omega
  rw [← Lib.size_eq, ← Lib.size_eq] at h; exact h
theorem post_size (s : ByteArray) (i : Nat) : (s.extract (i + 1) s.size).size ≤ s.size := by
  have h : (s.extract (i + 1) s.size).data.toList.length ≤ s.data.toList.length := by rw [post_data]; simp
  rw [← Lib.size_eq, ← Lib.size_eq] at h; exact h
theorem ParseUint_pre (s : ByteArray) (i : Nat) (m : Int) (w : World) (hs : s.size ≤ maxLen) (hm : m ≤ 9223372036854775807) (l : List UInt8) (hl : l = s.data.toList.take i) :
    Calls Tryz.prog 247 #[.string (s.extract 0 i), .int .i64 m] w fun e w' => e = .returned (.tuple #[.int .i64 (puN l m), .int .i64 (puE l m)]) ∧ w' = w := by
  have h := ParseUint_any (s.extract 0 i) m w (Nat.le_trans (pre_size s i) hs) hm
  rw [pre_data, ← hl] at h; exact h
theorem isPriceRest_post (s : ByteArray) (i : Nat) (w : World) (hs : s.size ≤ maxLen) (l : List UInt8) (hl : l = s.data.toList.drop (i + 1)) :
    Calls Tryz.prog 342 #[.string (s.extract (i + 1) s.size)] w fun e w' => e = .returned (.bool (restB l)) ∧ w' = w := by
  have h := isPriceRest_any (s.extract (i + 1) s.size) w (Nat.le_trans (post_size s i) hs)
  rw [post_data, ← hl] at h; exact h
theorem readPriceRest_post (s : ByteArray) (i : Nat) (w : World) (hs : s.size ≤ maxLen) (l : List UInt8) (hl : l = s.data.toList.drop (i + 1)) (hd : digs l = true) :
    Calls Tryz.prog 343 #[.string (s.extract (i + 1) s.size)] w fun e w' => e = .returned (.int .i64 (restN l 4)) ∧ w' = w := by
  have h := readPriceRest_any (s.extract (i + 1) s.size) w (Nat.le_trans (post_size s i) hs) (by rw [post_data, ← hl]; exact hd)
  rw [post_data, ← hl] at h; exact h
theorem readPriceRest_nil (w : World) : Calls Tryz.prog 343 #[.string ⟨#[]⟩] w fun e w' => e = .returned (.int .i64 0) ∧ w' = w :=
  readPriceRest_any ⟨#[]⟩ w (by decide) rfl

set_option maxRecDepth 100000 in
set_option maxHeartbeats 400000 in
theorem ParsePrice_any (s : ByteArray) (w : World) (hs : s.size ≤ maxLen) :
    Calls Tryz.prog 339 #[.string s] w fun e w' => e = .returned (.tuple #[.int .i64 (priceN s), .int .i64 (priceE s)]) ∧ ∃ k, w' = w.drewN k := by
  by_cases hdot : dotAt s < 0
  · have HP : Hid (priceN s = prcN s.data.toList [] ∧ priceE s = prcE s.data.toList []) := price_no hdot
    have hb := pu_bd s.data.toList 100000 (by decide)
    obtain ⟨hb0, hb1⟩ := hb
    have hb2 := pu_le_most s.data.toList 100000 (by decide)
    by_cases hE : puE s.data.toList 100000 = 0
    · have HQ : Hid (prcN s.data.toList [] = puN s.data.toList 100000 * 10000 + 0 ∧ prcE s.data.toList [] = 0) := prc_ok (r := []) hE (by rw [restN_nil]; omega)
      go_enter Tryz.func339, Tryz.ntmps339
      go_wp2_with (first | (go_at_call 341; refine (cutDot_no _ _ hdot).mono ?_; rintro e w' ⟨rfl, rfl⟩) | (go_at_call 247; refine (ParseUint_any _ _ _ hs (by decide)).mono ?_; rintro e w' ⟨rfl, rfl⟩) | (go_at_call 343; refine (readPriceRest_nil _).mono ?_; rintro e w' ⟨rfl, rfl⟩))
      go_ret2
      exact ⟨ret2 (vint (by rw [HP.out.1, HQ.out.1]; omega)) (vint (by rw [HP.out.2, HQ.out.2])), 0, by rw [World.drewN_zero]⟩
    · have HQ : Hid (prcN s.data.toList [] = 0 ∧ prcE s.data.toList [] = puE s.data.toList 100000) := prc_err hE
      have hE' : (puE s.data.toList 100000 != 0) = true := by simpa using hE
      go_enter Tryz.func339, Tryz.ntmps339
      go_wp2_with (first | (go_at_call 341; refine (cutDot_no _ _ hdot).mono ?_; rintro e w' ⟨rfl, rfl⟩) | (go_at_call 247; refine (ParseUint_any _ _ _ hs (by decide)).mono ?_; rintro e w' ⟨rfl, rfl⟩))
      go_ret2
      exact ⟨ret2 (vint (by rw [HP.out.1, HQ.out.1])) (vint (by rw [HP.out.2, HQ.out.2])), 0, by rw [World.drewN_zero]⟩
  · obtain ⟨i, hi⟩ : ∃ i : Nat, dotAt s = i := ⟨(dotAt s).toNat, by omega⟩
    have hr : restL s = s.data.toList.drop (i + 1) := by unfold restL; rw [hi]; rfl
    have hw : wholeL s = s.data.toList.take i := by unfold wholeL; rw [hi]; rfl
    by_cases hg : restB (restL s) = true
    · have HP : Hid (priceN s = prcN (wholeL s) (restL s) ∧ priceE s = prcE (wholeL s) (restL s)) := price_dot hdot hg
      have hd := restB_digs hg
      have hrb := restN_bd _ hd 4 (by decide)
      obtain ⟨hr0, hr1⟩ := hrb
      have hb := pu_bd (wholeL s) 100000 (by decide)
      obtain ⟨hb0, hb1⟩ := hb
      have hb2 := pu_le_most (wholeL s) 100000 (by decide)
      have HI := hi; have HR : Hid (restL s = s.data.toList.drop (i + 1)) := hr; have HW : Hid (wholeL s = s.data.toList.take i) := hw
      clear hi hr hw hdot
      by_cases hE : puE (wholeL s) 100000 = 0
      · by_cases hm : puN (wholeL s) 100000 * 10000 + restN (restL s) 4 ≤ 1000000000
        · have HQ : Hid (prcN (wholeL s) (restL s) = puN (wholeL s) 100000 * 10000 + restN (restL s) 4 ∧ prcE (wholeL s) (restL s) = 0) := prc_ok hE hm
          go_enter Tryz.func339, Tryz.ntmps339
          go_wp2_with (first | (go_at_call 341; refine (cutDot_yes _ _ i HI hs).mono ?_; rintro e w' ⟨rfl, k, rfl⟩) | (go_at_call 342; refine (isPriceRest_post _ _ _ hs _ HR.out).mono ?_; rintro e w' ⟨rfl, rfl⟩) | (go_at_call 247; refine (ParseUint_pre _ _ _ _ hs (by decide) _ HW.out).mono ?_; rintro e w' ⟨rfl, rfl⟩) | (go_at_call 343; refine (readPriceRest_post _ _ _ hs _ HR.out hd).mono ?_; rintro e w' ⟨rfl, rfl⟩))
          go_ret2
          exact ⟨ret2 (vint (by rw [HP.out.1, HQ.out.1])) (vint (by rw [HP.out.2, HQ.out.2])), _, rfl⟩
        · have HQ : Hid (prcN (wholeL s) (restL s) = 0 ∧ prcE (wholeL s) (restL s) = 11) := prc_gt hE hm
          go_enter Tryz.func339, Tryz.ntmps339
          go_wp2_with (first | (go_at_call 341; refine (cutDot_yes _ _ i HI hs).mono ?_; rintro e w' ⟨rfl, k, rfl⟩) | (go_at_call 342; refine (isPriceRest_post _ _ _ hs _ HR.out).mono ?_; rintro e w' ⟨rfl, rfl⟩) | (go_at_call 247; refine (ParseUint_pre _ _ _ _ hs (by decide) _ HW.out).mono ?_; rintro e w' ⟨rfl, rfl⟩) | (go_at_call 343; refine (readPriceRest_post _ _ _ hs _ HR.out hd).mono ?_; rintro e w' ⟨rfl, rfl⟩))
          go_ret2
          exact ⟨ret2 (vint (by rw [HP.out.1, HQ.out.1])) (vint (by rw [HP.out.2, HQ.out.2])), _, rfl⟩
      · have HQ : Hid (prcN (wholeL s) (restL s) = 0 ∧ prcE (wholeL s) (restL s) = puE (wholeL s) 100000) := prc_err hE
        have hE' : (puE (wholeL s) 100000 != 0) = true := by simpa using hE
        go_enter Tryz.func339, Tryz.ntmps339
        go_wp2_with (first | (go_at_call 341; refine (cutDot_yes _ _ i HI hs).mono ?_; rintro e w' ⟨rfl, k, rfl⟩) | (go_at_call 342; refine (isPriceRest_post _ _ _ hs _ HR.out).mono ?_; rintro e w' ⟨rfl, rfl⟩) | (go_at_call 247; refine (ParseUint_pre _ _ _ _ hs (by decide) _ HW.out).mono ?_; rintro e w' ⟨rfl, rfl⟩))
        go_ret2
        exact ⟨ret2 (vint (by rw [HP.out.1, HQ.out.1])) (vint (by rw [HP.out.2, HQ.out.2])), _, rfl⟩
    · have HP : Hid (priceN s = 0 ∧ priceE s = 10) := price_bad hdot hg
      have hg' : restB (restL s) = false := by simpa using hg
      have HI := hi; have HR : Hid (restL s = s.data.toList.drop (i + 1)) := hr
      clear hi hr hw hdot hg
      go_enter Tryz.func339, Tryz.ntmps339
      go_wp2_with (first | (go_at_call 341; refine (cutDot_yes _ _ i HI hs).mono ?_; rintro e w' ⟨rfl, k, rfl⟩) | (go_at_call 342; refine (isPriceRest_post _ _ _ hs _ HR.out).mono ?_; rintro e w' ⟨rfl, rfl⟩))
      go_ret2
      exact ⟨ret2 (vint HP.out.1.symm) (vint HP.out.2.symm), _, rfl⟩
end Go.Proofs.YtchkpggdndnpjabGreatDoor

namespace Go.Proofs.YtchkpggdndnpjabGreatDoor
set_option linter.unusedVariables false
open Go.RowKit

def ynS (b : Bool) : ByteArray := cond b ⟨#[89]⟩ ⟨#[78]⟩
set_option maxRecDepth 100000 in
theorem flag_write (a : Addr) (b : Bool) (w : World) (hc : w.cell? a = some (.bool b)) :
    Calls Tryz.prog 316 #[.agg #[.pointer (some a)]] w fun e w' => e = .returned (.string (ynS b)) ∧ Below w.heap.size w w' := by
  have HB : Hid (Below w.heap.size w (w.alloc (.cells #[.pointer (some a)] 153))) := (Below.refl _ w).alloc (Nat.le_refl _) _
  have hcl := cell_alloc hc (.cells #[.pointer (some a)] 153)
  clear hc
  cases b with
  | true =>
    show Calls _ _ _ _ fun e w' => e = .returned (.string ⟨#[89]⟩) ∧ Below w.heap.size w w'
    go_enter Tryz.func316, Tryz.ntmps316
    go_wp2
    go_ret
    exact ⟨rfl, HB.out⟩
  | false =>
    show Calls _ _ _ _ fun e w' => e = .returned (.string ⟨#[78]⟩) ∧ Below w.heap.size w w'
    go_enter Tryz.func316, Tryz.ntmps316
    go_wp2
    go_ret
    exact ⟨rfl, HB.out⟩
def prB (s : ByteArray) : Bool := decide (priceE s = 0) && !decide (priceN s = 0)
set_option maxRecDepth 100000 in
theorem price_read (a : Addr) (z : Int) (s : ByteArray) (w : World) (hc : w.cell? a = some (.int .i64 z)) (hf : w.frozen? a = false) (hs : s.size ≤ maxLen) :
    Calls Tryz.prog 336 #[.agg #[.pointer (some a)], .string s] w fun e w' => e = .returned (.bool (prB s)) ∧ Wr (prB s) a (.int .i64 (priceN s)) w w' := by
  have h1 := fun w' => ParsePrice_any s w' hs
  have hcl := cell_alloc hc (.cells #[.pointer (some a)] 162)
  have hfl := frozen_alloc hc hf (.cells #[.pointer (some a)] 162)
  have HB : Hid (Below w.heap.size w (w.alloc (.cells #[.pointer (some a)] 162))) := (Below.refl _ w).alloc (Nat.le_refl _) _
  obtain ⟨R, hR⟩ : ∃ R, R = prB s := ⟨_, rfl⟩
  rw [← hR]
  unfold prB at hR
  generalize priceN s = N at *
  generalize priceE s = E at *
  clear hc hf hs
  by_cases hE : E = 0
  · subst hE
    by_cases hx : N = 0
    · subst hx
      have HR : Hid (R = false) := by show _ = _; rw [hR]; simp
      clear hR
      go_enter Tryz.func336, Tryz.ntmps336
      go_wp2_with (go_at_call 339; refine (h1 _).mono ?_; rintro e w2 ⟨rfl, q, rfl⟩)
      go_ret
      exact ⟨ret_bool HR.out.symm, _, below_drewN HB.out _, by rw [HR.out]; rfl⟩
    · have hd : (N == 0) = false := by simpa using hx
      have HR : Hid (R = true) := by show _ = _; rw [hR]; simp [hx]
      clear hR hx
      go_enter Tryz.func336, Tryz.ntmps336
      go_wp2_with (go_at_call 339; refine (h1 _).mono ?_; rintro e w2 ⟨rfl, q, rfl⟩)
      go_ret
      exact ⟨ret_bool HR.out.symm, _, below_drewN HB.out _, by rw [HR.out]; rfl⟩
  · have hd : (E != 0) = true := by simpa using hE
    have HR : Hid (R = false) := by show _ = _; rw [hR]; simp [hE]
    clear hE hR
    go_enter Tryz.func336, Tryz.ntmps336
    go_wp2_with (go_at_call 339; refine (h1 _).mono ?_; rintro e w2 ⟨rfl, q, rfl⟩)
    go_ret
    exact ⟨ret_bool HR.out.symm, _, below_drewN HB.out _, by rw [HR.out]; rfl⟩
end Go.Proofs.YtchkpggdndnpjabGreatDoor
