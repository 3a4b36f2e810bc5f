import Derived.Test.YtchkpggdndnpjaaGreatDoorG01
import Derived.Test.YtchkpggdndnpjaaGreatDoorG15

namespace Go.Proofs.YtchkpggdndnpjaaGreatDoor
set_option linter.unusedVariables false
open Go.RowKit

/-- A fault that lies in a block; the value that tells it. -/
def fv (g : Nat) : Value := .iface 56 (.pointer (some ⟨g, 0, none⟩))
def FaultAt (w : World) (g : Nat) (e : Int) (a : Nat) : Prop := w.heap[g]? = some (.cells #[.int .i64 (a : Int), .int .i64 e] 61 (0, 0))
theorem FaultAt.lt {w : World} {g : Nat} {e : Int} {a : Nat} (h : FaultAt w g e a) : g < w.heap.size := by
  rcases Nat.lt_or_ge g w.heap.size with h' | h'
  · exact h'
  · unfold FaultAt at h; rw [Array.getElem?_eq_none h'] at h; cases h
theorem FaultAt.below {w w' : World} {g : Nat} {e : Int} {a B : Nat} (h : FaultAt w g e a) (hb : Below B w w') (hg : g < B) : FaultAt w' g e a := (hb.block g hg).trans h
theorem FaultAt.cell0 {w : World} {g : Nat} {e : Int} {a : Nat} (h : FaultAt w g e a) : w.cell? ⟨g, 0, none⟩ = some (.int .i64 (a : Int)) := by
  unfold FaultAt at h; simp [World.cell?, h]
theorem FaultAt.cell1 {w : World} {g : Nat} {e : Int} {a : Nat} (h : FaultAt w g e a) : w.cell? ⟨g, 1, none⟩ = some (.int .i64 e) := by
  unfold FaultAt at h; simp [World.cell?, h]
set_option maxRecDepth 100000 in
theorem fault_any (e a : Int) (n : Nat) (ha : a = (n : Int)) (w : World) :
    Calls Tryz.prog 28 #[.int .i64 e, .int .i64 a] w fun x w' => x = .returned (.iface 56 (.pointer (some ⟨w.heap.size, 0, none⟩))) ∧ FaultAt w' w.heap.size e n ∧ Below w.heap.size w w' := by
  subst ha
  go_enter Tryz.func28, Tryz.ntmps28
  go_wp2
  go_ret
  exact ⟨rfl, heap_alloc_new w _, (Below.refl _ w).alloc (Nat.le_refl _) _⟩

theorem numEnd_ge (l : List UInt8) (a : Nat) : a ≤ numEnd l a := by unfold numEnd; split <;> omega
theorem numEnd_le (l : List UInt8) (a : Nat) (h : a ≤ l.length) : numEnd l a ≤ l.length := by
  unfold numEnd
  split
  · rename_i e
    have := (List.getElem?_eq_some_iff.1 e).1; omega
  · have := cnt_le dig (l.drop a)
    simp at this; omega
theorem numEnd_four (l : List UInt8) (a : Nat) : numEnd l a ≤ a + 4 := by unfold numEnd; split <;> omega
theorem drop_data (s : ByteArray) (a : Nat) : (s.extract a s.size).data.toList = s.data.toList.drop a := by
  rw [Lib.extract_data, List.take_of_length_le]; simp
theorem size_data (s : ByteArray) : s.data.toList.length = s.size := (Lib.size_eq s).symm
theorem puN_le (l : List UInt8) (m : Int) (hm : 0 ≤ m) : puN l m ≤ m := by
  unfold puN; split
  · rename_i h; exact h.2
  · exact hm
theorem extract_le (s : ByteArray) (a b : Nat) : (s.extract a b).size ≤ s.size := by
  rw [Lib.size_eq, Lib.extract_data, Lib.size_eq]; simp; omega
set_option maxRecDepth 100000 in
set_option maxHeartbeats 400000 in
theorem numeralEnd_any (s : ByteArray) (a : Nat) (z : Int) (hz : z = (a : Int)) (w : World) (hs : s.size ≤ 1048576) (ha : a ≤ s.size) :
    Calls Tryz.prog 109 #[.string s, .int .i64 z] w fun e w' => e = .returned (.int .i64 (numEnd s.data.toList a : Int)) ∧ w' = w := by
  subst hz
  have hm : s.size ≤ maxLen := by unfold maxLen; omega
  have ha' : (a : Int) ≤ (s.size : Int) := by omega
  have h1 := stands_any s a (a : Int) rfl 48 48 rfl w hm (by unfold maxLen; omega)
  by_cases h : s.data.toList[a]? = some 48
  · have hE : Hid (numEnd s.data.toList a = a + 1) := by show numEnd _ _ = _; unfold numEnd; rw [if_pos h]
    generalize numEnd s.data.toList a = d at *
    rw [show isAt s.data.toList a 48 = true from decide_eq_true h] at h1
    clear h
    go_enter Tryz.func109, Tryz.ntmps109
    go_wp2_with (go_at_call 110; refine h1.mono ?_; rintro e w' ⟨rfl, rfl⟩)
    go_ret
    exact ⟨ret_int (by rw [hE.out]; omega), rfl⟩
  · rw [show isAt s.data.toList a 48 = false from decide_eq_false h] at h1
    have hE : Hid (numEnd s.data.toList a = a + min (cnt dig (s.data.toList.drop a)) 4) := by show numEnd _ _ = _; unfold numEnd; rw [if_neg h]
    generalize numEnd s.data.toList a = d at *
    have h2 := count_dig (s.extract a s.size) w (by have := extract_le s a s.size; omega)
    rw [drop_data] at h2
    have hc : cnt dig (s.data.toList.drop a) ≤ s.size := by have := cnt_le dig (s.data.toList.drop a); simp at this; omega
    clear h
    generalize cnt dig (s.data.toList.drop a) = n at *
    by_cases h4 : n ≤ 4
    · have h4' : (n : Int) ≤ 4 := by omega
      go_enter Tryz.func109, Tryz.ntmps109
      go_wp2_with (first | (go_at_call 110; refine h1.mono ?_; rintro e w' ⟨rfl, rfl⟩) | (go_at_call 112; refine h2.mono ?_; rintro e w' ⟨rfl, rfl⟩))
      go_ret
      exact ⟨ret_int (by rw [hE.out]; omega), rfl⟩
    · have h4' : 4 < (n : Int) := by omega
      go_enter Tryz.func109, Tryz.ntmps109
      go_wp2_with (first | (go_at_call 110; refine h1.mono ?_; rintro e w' ⟨rfl, rfl⟩) | (go_at_call 112; refine h2.mono ?_; rintro e w' ⟨rfl, rfl⟩))
      go_ret
      exact ⟨ret_int (by rw [hE.out]; omega), rfl⟩

/-- What findBody tells. -/
def BodyRet (l : List UInt8) (w : World) (x : Ending) (w' : World) : Prop :=
  Below w.heap.size w w' ∧ match bodyL l with
  | .ok b => x = .returned (.tuple #[.int .i64 (b : Int), .nilIface])
  | .error (e, a) => ∃ g, w.heap.size ≤ g ∧ x = .returned (.tuple #[.int .i64 0, .iface 56 (.pointer (some ⟨g, 0, none⟩))]) ∧ FaultAt w' g e a
theorem BodyRet.ok {l : List UInt8} {w w' : World} {x : Ending} {b : Nat} (h : bodyL l = .ok b) (hb : Below w.heap.size w w') (hx : x = .returned (.tuple #[.int .i64 (b : Int), .nilIface])) : BodyRet l w x w' := by
  refine ⟨hb, ?_⟩; rw [h]; exact hx
theorem BodyRet.bad {l : List UInt8} {w w' : World} {x : Ending} {e : Int} {a g : Nat} (h : bodyL l = .error (e, a)) (hb : Below w.heap.size w w') (hg : w.heap.size ≤ g) (hx : x = .returned (.tuple #[.int .i64 0, .iface 56 (.pointer (some ⟨g, 0, none⟩))])) (hf : FaultAt w' g e a) : BodyRet l w x w' := by
  refine ⟨hb, ?_⟩; rw [h]; exact ⟨g, hg, hx, hf⟩
def headB : ByteArray := ⟨#[56, 61, 70, 73, 88, 46, 52, 46, 52, 1, 57, 61]⟩
set_option maxRecDepth 100000 in
set_option maxHeartbeats 400000 in
theorem findBody_any (s : ByteArray) (w : World) (hs : s.size ≤ 1024) :
    Calls Tryz.prog 29 #[.string s] w fun x w' => BodyRet s.data.toList w x w' := by
  have hm : s.size ≤ maxLen := by unfold maxLen; omega
  have h1 := samePrefix_any s headB w hm (by decide)
  rw [show headB.data.toList = headL from rfl] at h1
  have hpl : pre s.data.toList headL ≤ 12 := pre_le _ _
  have hps : pre s.data.toList headL ≤ s.size := by have := pre_le' s.data.toList headL; simpa using this
  by_cases hA : pre s.data.toList headL < 12
  · have hB : Hid (bodyL s.data.toList = .error (40, pre s.data.toList headL)) := by show bodyL _ = _; unfold bodyL; rw [if_pos hA]
    generalize pre s.data.toList headL = k at *
    have hA' : (k : Int) < 12 := by omega
    go_enter Tryz.func29, Tryz.ntmps29
    go_wp2_with (go_at_call 108; fail)
    refine h1.mono ?_
    rintro e w1 ⟨rfl, q, rfl⟩
    go_wp2_with (go_at_call 28; fail)
    refine (fault_any 40 _ k rfl _).mono ?_
    rintro e w2 ⟨rfl, hf, hb⟩
    have HX : Hid (FaultAt w2 w.heap.size 40 k ∧ Below w.heap.size w w2) := ⟨hf, (below_drewN (Below.refl _ w) q).trans hb⟩
    clear hf hb
    go_wp2
    go_ret2
    exact .bad hB.out HX.out.2 (Nat.le_refl _) rfl HX.out.1
  · have h12 : 12 ≤ s.size := by omega
    have hk12 : pre s.data.toList headL = 12 := by omega
    rw [hk12] at h1
    have h2 := fun w => numeralEnd_any s 12 12 rfl w (by omega) h12
    have hn1 := numEnd_ge s.data.toList 12
    have hn2 := numEnd_le s.data.toList 12 (by rw [size_data]; exact h12)
    rw [size_data] at hn2
    have hn4 := numEnd_four s.data.toList 12
    by_cases hE : numEnd s.data.toList 12 = 12 ∨ s.data.toList[numEnd s.data.toList 12]? ≠ some 1
    · have hB : Hid (bodyL s.data.toList = .error (40, numEnd s.data.toList 12)) := by show bodyL _ = _; unfold bodyL; rw [if_neg hA, if_pos hE]
      clear hpl hps hA hk12
      by_cases h0 : numEnd s.data.toList 12 = 12
      · simp only [h0] at h2 hB
        clear hE hn1 hn2 hn4 h0
        go_enter Tryz.func29, Tryz.ntmps29
        go_wp2_with (go_at_call 108; fail)
        refine h1.mono ?_
        rintro e w1 ⟨rfl, q, rfl⟩
        go_wp2_with (go_at_call 109; fail)
        refine (h2 _).mono ?_
        rintro e w1 ⟨rfl, rfl⟩
        go_wp2_with (go_at_call 28; fail)
        refine (fault_any 40 _ 12 rfl _).mono ?_
        rintro e w2 ⟨rfl, hf, hb⟩
        have HX : Hid (FaultAt w2 w.heap.size 40 12 ∧ Below w.heap.size w w2) := ⟨hf, (below_drewN (Below.refl _ w) q).trans hb⟩
        clear hf hb
        go_wp2
        go_ret2
        exact .bad hB.out HX.out.2 (Nat.le_refl _) rfl HX.out.1
      · have hne : isAt s.data.toList (numEnd s.data.toList 12) 1 = false := by
          rcases hE with h | h
          · exact absurd h h0
          · exact decide_eq_false h
        have h3 := fun w => stands_any s (numEnd s.data.toList 12) (numEnd s.data.toList 12 : Int) rfl 1 1 rfl w hm (by unfold maxLen; omega)
        simp only [hne] at h3
        clear hE hne
        generalize numEnd s.data.toList 12 = n at *
        have h0' : ¬ (n : Int) = 12 := by omega
        have h0b : ((n : Int) == 12) = false := by simpa using h0'
        go_enter Tryz.func29, Tryz.ntmps29
        go_wp2_with (go_at_call 108; fail)
        refine h1.mono ?_
        rintro e w1 ⟨rfl, q, rfl⟩
        go_wp2_with (go_at_call 109; fail)
        refine (h2 _).mono ?_
        rintro e w1 ⟨rfl, rfl⟩
        go_wp2_with (go_at_call 110; fail)
        refine (h3 _).mono ?_
        rintro e w1 ⟨rfl, rfl⟩
        go_wp2_with (go_at_call 28; fail)
        refine (fault_any 40 _ n rfl _).mono ?_
        rintro e w2 ⟨rfl, hf, hb⟩
        have HX : Hid (FaultAt w2 w.heap.size 40 n ∧ Below w.heap.size w w2) := ⟨hf, (below_drewN (Below.refl _ w) q).trans hb⟩
        clear hf hb
        go_wp2
        go_ret2
        exact .bad hB.out HX.out.2 (Nat.le_refl _) rfl HX.out.1
    · have hE' : ¬ numEnd s.data.toList 12 = 12 ∧ s.data.toList[numEnd s.data.toList 12]? = some 1 := ⟨fun h => hE (.inl h), Classical.byContradiction fun h => hE (.inr h)⟩
      have hne : isAt s.data.toList (numEnd s.data.toList 12) 1 = true := decide_eq_true hE'.2
      have h3 := fun w => stands_any s (numEnd s.data.toList 12) (numEnd s.data.toList 12 : Int) rfl 1 1 rfl w hm (by unfold maxLen; omega)
      simp only [hne] at h3
      have hlt : numEnd s.data.toList 12 < s.size := by have := (List.getElem?_eq_some_iff.1 hE'.2).1; simpa using this
      have h4 := fun w => ParseUint_any (s.extract 12 (numEnd s.data.toList 12)) 9999 w (by have := extract_le s 12 (numEnd s.data.toList 12); omega) (by decide)
      simp only [Lib.extract_data] at h4
      have hp0 := pu_bd ((s.data.toList.drop 12).take (numEnd s.data.toList 12 - 12)) 9999 (by decide)
      have hp1 := puN_le ((s.data.toList.drop 12).take (numEnd s.data.toList 12 - 12)) 9999 (by decide)
      have hBe : bodyL s.data.toList = if (s.data.toList.length : Int) - ((numEnd s.data.toList 12 : Int) + 1) = puN ((s.data.toList.drop 12).take (numEnd s.data.toList 12 - 12)) 9999 + 7 then .ok (numEnd s.data.toList 12 + 1) else .error (43, 12) := by
        unfold bodyL; rw [if_neg hA, if_neg hE]
      rw [size_data] at hBe
      have h0 := hE'.1
      clear hpl hps hA hk12 hE hE' hne
      generalize puN ((s.data.toList.drop 12).take (numEnd s.data.toList 12 - 12)) 9999 = v at *
      generalize puE ((s.data.toList.drop 12).take (numEnd s.data.toList 12 - 12)) 9999 = ve at *
      generalize numEnd s.data.toList 12 = n at *
      have h0' : ¬ (n : Int) = 12 := by omega
      have h0b : ((n : Int) == 12) = false := by simpa using h0'
      have hlt' : (n : Int) < (s.size : Int) := by omega
      have hn12 : (12 : Int) ≤ (n : Int) := by omega
      have hnle : (n : Int) ≤ (s.size : Int) := by omega
      by_cases hL : (s.size : Int) - ((n : Int) + 1) = v + 7
      · have hB : Hid (bodyL s.data.toList = .ok (n + 1)) := by show bodyL _ = _; rw [hBe, if_pos hL]
        clear hBe
        go_enter Tryz.func29, Tryz.ntmps29
        go_wp2_with (go_at_call 108; fail)
        refine h1.mono ?_
        rintro e w1 ⟨rfl, q, rfl⟩
        go_wp2_with (go_at_call 109; fail)
        refine (h2 _).mono ?_
        rintro e w1 ⟨rfl, rfl⟩
        go_wp2_with (go_at_call 110; fail)
        refine (h3 _).mono ?_
        rintro e w1 ⟨rfl, rfl⟩
        go_wp2_with (go_at_call 111; fail)
        refine (h4 _).mono ?_
        rintro e w1 ⟨rfl, rfl⟩
        go_wp2
        go_ret2
        exact .ok hB.out (below_drewN (Below.refl _ w) q) rfl
      · have hB : Hid (bodyL s.data.toList = .error (43, 12)) := by show bodyL _ = _; rw [hBe, if_neg hL]
        clear hBe
        have hLb : ((s.size : Int) - ((n : Int) + 1) == v + 7) = false := by simpa using hL
        go_enter Tryz.func29, Tryz.ntmps29
        go_wp2_with (go_at_call 108; fail)
        refine h1.mono ?_
        rintro e w1 ⟨rfl, q, rfl⟩
        go_wp2_with (go_at_call 109; fail)
        refine (h2 _).mono ?_
        rintro e w1 ⟨rfl, rfl⟩
        go_wp2_with (go_at_call 110; fail)
        refine (h3 _).mono ?_
        rintro e w1 ⟨rfl, rfl⟩
        go_wp2_with (go_at_call 111; fail)
        refine (h4 _).mono ?_
        rintro e w1 ⟨rfl, rfl⟩
        go_wp2_with (go_at_call 28; fail)
        refine (fault_any 43 _ 12 rfl _).mono ?_
        rintro e w2 ⟨rfl, hf, hb⟩
        have HX : Hid (FaultAt w2 w.heap.size 43 12 ∧ Below w.heap.size w w2) := ⟨hf, (below_drewN (Below.refl _ w) q).trans hb⟩
        clear hf hb
        go_wp2
        go_ret2
        exact .bad hB.out HX.out.2 (Nat.le_refl _) rfl HX.out.1
end Go.Proofs.YtchkpggdndnpjaaGreatDoor

namespace Go.Proofs.YtchkpggdndnpjaaGreatDoor
set_option linter.unusedVariables false
open Go.RowKit

theorem frozen_alloc {w : World} {a : Addr} {v : Value} (h : w.cell? a = some v) (hf : w.frozen? a = false) (o : Obj) : (w.alloc o).frozen? a = false := by
  have hb := ((Below.refl _ w).alloc (Nat.le_refl _) o).block a.block (World.block_lt_of_cell? _ _ h)
  unfold World.frozen? at hf ⊢
  rw [hb]; exact hf
/-- What a numeral from least to most reads as. -/
def nrB (s : List UInt8) (x y : Int) : Bool := decide (puE s y = 0) && decide (x ≤ puN s y)
/-- A value is written, or nothing. -/
def Wr (b : Bool) (a : Addr) (v : Value) (w w' : World) : Prop := ∃ w1, Below w.heap.size w w1 ∧ w' = cond b (w1.setCell a v) w1
set_option maxRecDepth 100000 in
theorem numI_read (a : Addr) (x y z : Int) (s : ByteArray) (w : World) (hc : w.cell? a = some (.int .i64 z)) (hf : w.frozen? a = false) (hs : s.size ≤ maxLen) (hy : y ≤ 9223372036854775807) :
    Calls Tryz.prog 251 #[.agg #[.pointer (some a), .int .i64 x, .int .i64 y], .string s] w fun e w' => e = .returned (.bool (nrB s.data.toList x y)) ∧ Wr (nrB s.data.toList x y) a (.int .i64 (puN s.data.toList y)) w w' := by
  have h1 := fun w' => ParseUint_any s y w' hs hy
  have hcl := cell_alloc hc (.cells #[.pointer (some a), .int .i64 x, .int .i64 y] 166)
  have hfl := frozen_alloc hc hf (.cells #[.pointer (some a), .int .i64 x, .int .i64 y] 166)
  have HB : Hid (Below w.heap.size w (w.alloc (.cells #[.pointer (some a), .int .i64 x, .int .i64 y] 166))) := (Below.refl _ w).alloc (Nat.le_refl _) _
  obtain ⟨R, hR⟩ : ∃ R, R = nrB s.data.toList x y := ⟨_, rfl⟩
  rw [← hR]
  unfold nrB at hR
  generalize puN s.data.toList y = N at *
  generalize puE s.data.toList y = E at *
  clear hc hf hs
  by_cases hE : E = 0
  · subst hE
    by_cases hx : N < x
    · have hd : decide (N < x) = true := decide_eq_true hx
      have HR : Hid (R = false) := by show _ = _; rw [hR]; simp; omega
      clear hR
      go_enter Tryz.func251, Tryz.ntmps251
      go_wp2_with (go_at_call 111; refine (h1 _).mono ?_; rintro e w2 ⟨rfl, rfl⟩)
      go_ret
      exact ⟨ret_bool HR.out.symm, _, HB.out, by rw [HR.out]; rfl⟩
    · have hd : decide (N < x) = false := decide_eq_false hx
      have HR : Hid (R = true) := by show _ = _; rw [hR]; simp; omega
      clear hR
      go_enter Tryz.func251, Tryz.ntmps251
      go_wp2_with (go_at_call 111; refine (h1 _).mono ?_; rintro e w2 ⟨rfl, rfl⟩)
      go_ret
      exact ⟨ret_bool HR.out.symm, _, HB.out, by rw [HR.out]; rfl⟩
  · have hd : (E != 0) = true := by simpa using hE
    have HR : Hid (R = false) := by show _ = _; rw [hR]; simp [hE]
    clear hE hR
    go_enter Tryz.func251, Tryz.ntmps251
    go_wp2_with (go_at_call 111; refine (h1 _).mono ?_; rintro e w2 ⟨rfl, rfl⟩)
    go_ret
    exact ⟨ret_bool HR.out.symm, _, HB.out, by rw [HR.out]; rfl⟩
set_option maxRecDepth 100000 in
theorem numL_read (a : Addr) (x y z : Int) (s : ByteArray) (w : World) (hc : w.cell? a = some (.int .i64 z)) (hf : w.frozen? a = false) (hs : s.size ≤ maxLen) (hy : y ≤ 9223372036854775807) :
    Calls Tryz.prog 309 #[.agg #[.pointer (some a), .int .i64 x, .int .i64 y], .string s] w fun e w' => e = .returned (.bool (nrB s.data.toList x y)) ∧ Wr (nrB s.data.toList x y) a (.int .i64 (puN s.data.toList y)) w w' := by
  have h1 := fun w' => ParseUint_any s y w' hs hy
  have hcl := cell_alloc hc (.cells #[.pointer (some a), .int .i64 x, .int .i64 y] 180)
  have hfl := frozen_alloc hc hf (.cells #[.pointer (some a), .int .i64 x, .int .i64 y] 180)
  have HB : Hid (Below w.heap.size w (w.alloc (.cells #[.pointer (some a), .int .i64 x, .int .i64 y] 180))) := (Below.refl _ w).alloc (Nat.le_refl _) _
  obtain ⟨R, hR⟩ : ∃ R, R = nrB s.data.toList x y := ⟨_, rfl⟩
  rw [← hR]
  unfold nrB at hR
  generalize puN s.data.toList y = N at *
  generalize puE s.data.toList y = E at *
  clear hc hf hs
  by_cases hE : E = 0
  · subst hE
    by_cases hx : N < x
    · have hd : decide (N < x) = true := decide_eq_true hx
      have HR : Hid (R = false) := by show _ = _; rw [hR]; simp; omega
      clear hR
      go_enter Tryz.func309, Tryz.ntmps309
      go_wp2_with (go_at_call 111; refine (h1 _).mono ?_; rintro e w2 ⟨rfl, rfl⟩)
      go_ret
      exact ⟨ret_bool HR.out.symm, _, HB.out, by rw [HR.out]; rfl⟩
    · have hd : decide (N < x) = false := decide_eq_false hx
      have HR : Hid (R = true) := by show _ = _; rw [hR]; simp; omega
      clear hR
      go_enter Tryz.func309, Tryz.ntmps309
      go_wp2_with (go_at_call 111; refine (h1 _).mono ?_; rintro e w2 ⟨rfl, rfl⟩)
      go_ret
      exact ⟨ret_bool HR.out.symm, _, HB.out, by rw [HR.out]; rfl⟩
  · have hd : (E != 0) = true := by simpa using hE
    have HR : Hid (R = false) := by show _ = _; rw [hR]; simp [hE]
    clear hE hR
    go_enter Tryz.func309, Tryz.ntmps309
    go_wp2_with (go_at_call 111; refine (h1 _).mono ?_; rintro e w2 ⟨rfl, rfl⟩)
    go_ret
    exact ⟨ret_bool HR.out.symm, _, HB.out, by rw [HR.out]; rfl⟩
end Go.Proofs.YtchkpggdndnpjaaGreatDoor
