import Derived.Test.YtchkpggdndnpjaaGreatDoorG31
import Derived.Test.YtchkpggdndnpjaaGreatDoorG15
import Derived.Test.YtchkpggdndnpjaaGreatDoorG24
import Derived.Test.YtchkpggdndnpjaaGreatDoorG28
import Derived.Deep.AppendLies
import Derived.Deep.RegionLaw

namespace Go.Proofs.YtchkpggdndnpjaaGreatDoor
set_option linter.unusedVariables false
open Go.RowKit

/-- A field that a kind has: its tag, whether it must be there, its row. -/
abbrev Slt := Int × Bool × Nat
def slotF (z : Int) (r : Nat) : Option Slt := if hasR z (xNum.getD r 0) = 0 then none else some (tagR z (xNum.getD r 0), hasR z (xNum.getD r 0) == 2, r)
def slU (z : Int) (k : Nat) : List Slt := (List.range k).filterMap (slotF z)
def slts (z : Int) : List Slt := slU z 45
theorem slU_yes {z : Int} {k : Nat} (h : ¬ hasR z (xNum.getD k 0) = 0) : slU z (k + 1) = slU z k ++ [(tagR z (xNum.getD k 0), hasR z (xNum.getD k 0) == 2, k)] := by
  unfold slU
  rw [List.range_succ, List.filterMap_append]
  have : slotF z k = some (tagR z (xNum.getD k 0), hasR z (xNum.getD k 0) == 2, k) := by rw [slotF, if_neg h]
  simp [this]
theorem slU_no {z : Int} {k : Nat} (h : hasR z (xNum.getD k 0) = 0) : slU z (k + 1) = slU z k := by
  unfold slU
  rw [List.range_succ, List.filterMap_append]
  have : slotF z k = none := by rw [slotF, if_pos h]
  simp [this]
theorem slU_len (z : Int) : ∀ k, (slU z k).length ≤ k
  | 0 => by simp [slU]
  | k + 1 => by
    have := slU_len z k
    by_cases h : hasR z (xNum.getD k 0) = 0
    · rw [slU_no h]; omega
    · rw [slU_yes h]; simp; omega
theorem slts_row {z : Int} {t : Slt} (h : t ∈ slts z) : t.2.2 < 45 := by
  unfold slts slU at h
  obtain ⟨r, hr, e⟩ := List.mem_filterMap.1 h
  unfold slotF at e
  split at e
  · cases e
  · cases e; exact List.mem_range.1 hr
def slC (t : Slt) : List Value := [.int .i64 t.1, .bool t.2.1, .func (.func (xFn.getD t.2.2 0)) #[] #[]]
def scs (l : List Slt) : List Value := l.flatMap slC
theorem scs_app (a b : List Slt) : scs (a ++ b) = scs a ++ scs b := by simp [scs]
theorem scs_length (l : List Slt) : (scs l).length = l.length * 3 := by
  induction l with
  | nil => rfl
  | cons a l ih => show (slC a ++ scs l).length = _; rw [List.length_append, ih]; simp [slC]; omega
theorem scs_at : ∀ (l : List Slt) (j : Nat) (t : Slt), l[j]? = some t → (scs l)[j * 3]? = some (.int .i64 t.1) ∧ (scs l)[j * 3 + 1]? = some (.bool t.2.1) ∧ (scs l)[j * 3 + 2]? = some (.func (.func (xFn.getD t.2.2 0)) #[] #[])
  | [], j, t, h => by simp at h
  | a :: l, 0, t, h => by
    simp at h
    subst h
    exact ⟨rfl, rfl, rfl⟩
  | a :: l, j + 1, t, h => by
    have := scs_at l j t (by simpa using h)
    rw [show (j + 1) * 3 = j * 3 + 3 by omega]
    exact this
theorem infoSl : (Tryz.prog.info? 76).map (fun i => (i.zero, i.size, i.bytes)) = some (some (.agg #[.int .i64 0, .bool false, .nilFunc]), 3, 24) := by kernel_rfl
def OwnSl (w : World) (B : Nat) (v : Value) (l : List Slt) : Prop := w.ownsRow B 76 3 v l.length (scs l)
/-- The list of slots as it lies in memory, to be read alone. -/
def SltAt (w : World) (v : Value) (l : List Slt) : Prop := ∃ ao cap, v = .slice ao l.length cap ∧ l.length ≤ cap ∧ (l = [] ∨ ∃ b off, ao = some ⟨b, off, none⟩ ∧ ∀ j t, l[j]? = some t → w.cell? ⟨b, off + j * 3, none⟩ = some (.int .i64 t.1) ∧ w.cell? ⟨b, off + j * 3 + 1, none⟩ = some (.bool t.2.1) ∧ w.cell? ⟨b, off + j * 3 + 2, none⟩ = some (.func (.func (xFn.getD t.2.2 0)) #[] #[]))
theorem SltAt.below {w w' : World} {v : Value} {l : List Slt} (h : SltAt w v l) (hb : Below w.heap.size w w') : SltAt w' v l := by
  obtain ⟨ao, cap, e, h1, h2⟩ := h
  refine ⟨ao, cap, e, h1, h2.imp id ?_⟩
  rintro ⟨b, off, e2, h3⟩
  refine ⟨b, off, e2, fun j t hj => ?_⟩
  obtain ⟨c1, c2, c3⟩ := h3 j t hj
  have hbl := World.block_lt_of_cell? _ _ c1
  exact ⟨(hb.cell (p := ⟨b, off + j * 3, none⟩) hbl).trans c1, (hb.cell (p := ⟨b, off + j * 3 + 1, none⟩) hbl).trans c2, (hb.cell (p := ⟨b, off + j * 3 + 2, none⟩) hbl).trans c3⟩
theorem SltAt.of {w : World} {B : Nat} {v : Value} {l : List Slt} (h : OwnSl w B v l) : SltAt w v l := by
  obtain ⟨h1, h2⟩ := h
  rcases h2 with ⟨rfl, h0⟩ | ⟨g, cap, cur, rfl, r1, r2, r3, r4, r5, r6⟩
  · have : l = [] := List.length_eq_zero_iff.1 h0
    subst this
    exact ⟨none, 0, rfl, Nat.le_refl _, .inl rfl⟩
  · refine ⟨_, cap, rfl, r3, .inr ⟨g, 0, rfl, fun j t ht => ?_⟩⟩
    have hj : j < l.length := (List.getElem?_eq_some_iff.1 ht).1
    obtain ⟨e1, e2, e3⟩ := scs_at l j t ht
    rw [← r6, List.getElem?_take, if_pos (by omega)] at e1 e2 e3
    rw [Nat.zero_add]
    refine ⟨?_, ?_, ?_⟩
    · rw [cell_of_row w g _ cur _ _ r2]; simpa using e1
    · rw [cell_of_row w g _ cur _ _ r2]; simpa using e2
    · rw [cell_of_row w g _ cur _ _ r2]; simpa using e3
structure LY (w wr : World) (z : Int) (k : Nat) (v : Value) : Prop where
  own : OwnSl wr w.heap.size v (slU z k)
  below : Below w.heap.size w wr
theorem LY.low {w wr w' : World} {z : Int} {k : Nat} {v : Value} (h : LY w wr z k v) (hb : Below wr.heap.size wr w') : LY w w' z k v :=
  ⟨ownsRow_below h.own hb, h.below.trans (hb.mono h.below.size)⟩
set_option maxRecDepth 100000 in
set_option maxHeartbeats 1000000 in
theorem layout_any (z : Int) (w : World) :
    Calls Tryz.prog 27 #[.int .i64 z] w fun e w' => ∃ v, e = .returned v ∧ OwnSl w' w.heap.size v (slts z) ∧ Below w.heap.size w w' := by
  obtain ⟨i0, hi, hz0, hz1, hz2⟩ := info_parts infoSl
  go_enter Tryz.func27, Tryz.ntmps27
  go_wp2_with (go_at_call 105; fail)
  refine (xrows_any _).mono ?_
  rintro e w2 ⟨rfl, hb2⟩
  have HL0 : Hid (LY w w2 z 0 (.slice none 0 0)) := ⟨World.ownsRow_nil _ _ _ 3, hb2⟩
  clear hb2
  generalize hRC : xrowsCs.toArray = RC
  go_wp2
  go_loopw [3, 8] (fun v i wr => ∃ (k : Nat) (ao : Option Addr) (cv : Nat), k ≤ 45 ∧ i = .int .i64 k ∧ v = .slice ao (slU z k).length cv ∧ Hid (LY w wr z k (.slice ao (slU z k).length cv))) (fun _ i _ => 45 - (intOf i).toNat)
  case atStart => exact ⟨0, none, 0, by omega, rfl, rfl, HL0⟩
  case round =>
    obtain ⟨k, ao, cv, hk, rfl, rfl, HS⟩ := hrel
    clear HL0
    by_cases hlt : k < 45
    · have hlt' : (k : Int) < 45 := by omega
      have hx := xindex_at k hlt
      rw [hRC] at hx
      clear hRC
      have HA := fun w' => fhas_any z (xNum.getD k 0) w'
      have HT := fun w' => tagOf_any z (xNum.getD k 0) w'
      have HY : Hid (¬ hasR z (xNum.getD k 0) = 0 → slU z (k + 1) = slU z k ++ [(tagR z (xNum.getD k 0), hasR z (xNum.getD k 0) == 2, k)]) := slU_yes
      have HN : Hid (hasR z (xNum.getD k 0) = 0 → slU z (k + 1) = slU z k) := slU_no
      have hLn := slU_len z k
      generalize hFn : xFn.getD k 0 = F at *
      generalize xNum.getD k 0 = N at *
      generalize hasR z N = H at *
      generalize tagR z N = T at *
      go_wp2_with (go_at_call 106; fail)
      generalize hW : wr.alloc _ = W1
      have hb1 : Below wr.heap.size wr W1 := by rw [← hW]; exact (Below.refl _ wr).alloc (Nat.le_refl _) _
      have r0 : W1.cell? ⟨wr.heap.size, 0, none⟩ = some (.int .i64 N) := by rw [← hW]; exact World.cell?_alloc_new ..
      have r1 : W1.cell? ⟨wr.heap.size, 1, none⟩ = some (.func (.func F) #[] #[]) := by rw [← hW]; exact World.cell?_alloc_new ..
      clear hW
      refine (HA _).mono ?_
      rintro e w3 ⟨rfl, hb3⟩
      have hlt3 := World.block_lt_of_cell? _ _ r0
      have s0 : w3.cell? ⟨wr.heap.size, 0, none⟩ = some (.int .i64 N) := by rw [hb3.cell (p := ⟨wr.heap.size, 0, none⟩) hlt3]; exact r0
      have s1 : w3.cell? ⟨wr.heap.size, 1, none⟩ = some (.func (.func F) #[] #[]) := by rw [hb3.cell (p := ⟨wr.heap.size, 1, none⟩) hlt3]; exact r1
      have HS3 : Hid (LY w w3 z k (.slice ao (slU z k).length cv)) := (HS.out.low hb1).low hb3
      clear r0 r1 hb1 hb3 HS HA hlt3
      by_cases hp : H = 0
      · subst hp
        have HN3 : Hid (slU z (k + 1) = slU z k) := HN.out rfl
        go_wp2
        exact ⟨⟨k + 1, ao, cv, by omega, by go_num, by rw [HN3.out], by have h := HS3.out; refine ⟨?_, h.below⟩; rw [HN3.out]; exact h.own⟩, by simp [intOf]; omega⟩
      · have hpd : (H == 0) = false := by simpa using hp
        have hpn : (H != 0) = true := by simpa using hp
        have HY3 : Hid (slU z (k + 1) = slU z k ++ [(T, H == 2, k)]) := HY.out hp
        clear hp HY HN
        go_upto_region 7 with fail
        have hbs := HS3.out.below.size
        have HROW : Hid ((w3.alloc (.cells #[.int .i64 T, .bool (H == 2), .func (.func F) #[] #[]] 76)).drew.ownsRow w.heap.size 76 3 (.slice ao (slU z k).length cv) (slU z k).length (scs (slU z k))) := (HS3.out.own.alloc _).drew
        have HNEW : Hid (∀ j u, ([.int .i64 T, .bool (H == 2), .func (.func F) #[] #[]] : List Value)[j]? = some u → (w3.alloc (.cells #[.int .i64 T, .bool (H == 2), .func (.func F) #[] #[]] 76)).drew.cell? ((⟨w3.heap.size, 0, none⟩ : Addr).add j) = some u) := by
          have h := World.news_of_block (heap_alloc_new w3 (.cells #[.int .i64 T, .bool (H == 2), .func (.func F) #[] #[]] 76))
          intro j u hj
          have h2 := h j u (by simpa using hj)
          simpa using h2
        have HAPP : Hid (∀ v w6, w6.ownsRow w.heap.size 76 3 v ((slU z k).length + 1) (scs (slU z k) ++ [.int .i64 T, .bool (H == 2), .func (.func F) #[] #[]]) → (w3.alloc (.cells #[.int .i64 T, .bool (H == 2), .func (.func F) #[] #[]] 76)).drew.grownBy w6 (Value.slice ao (slU z k).length cv).ownBlock → LY w w6 z (k + 1) v) := fun v w6 h1 h2 => by
          refine ⟨?_, below_grownBy ((HS3.out.below.trans (((Below.refl _ w3).alloc (Nat.le_refl _) _).mono hbs)).drew) h2 (Nat.le_refl _) (fun q hq => (HS3.out.own.lt q hq).1)⟩
          unfold OwnSl
          rw [HY3.out, scs_app, List.length_append]
          subst hFn
          exact h1
        have HLE : Hid ((slU z (k + 1)).length = (slU z k).length + 1) := by show _ = _; rw [HY3.out]; simp
        generalize (slU z k).length = n at *
        generalize scs (slU z k) = xs at *
        go_region_law (first
          | (refine step_append_lies _ (by rfl) _ _ _ (by rfl) w.heap.size 76 i0 _ 3 24 Tryz.underlying72 hi hz0 hz1 hz2 rfl (by omega) (.slice ao n cv) n xs (by rfl) HROW.out ⟨w3.heap.size, 0, none⟩ 1 1 [.int .i64 T, (.bool (H == 2)), .func (.func F) #[] #[]] (by rfl) (by rfl) HNEW.out (by simp [Value.oneCell']) (by omega) (by unfold maxLen; omega) (by omega) (by simp; omega) (w3.heap.size + 1) (by simp) ?_; intro g2 cap w6 hown1 hgrow hat hlt1; have x0 := HAPP.out _ _ hown1 hgrow)
          | (rw [if_pos (by kernel_rfl)]; refine callR (d := some 21) rfl 107 #[.int .i64 z, .int .i64 N] (by kernel_rfl) (HT _) ?_; rintro e w5 ⟨rfl, rfl⟩; refine ⟨_, rfl, ?_⟩))
        all_goals
          have HX : Hid (LY w w6 z (k + 1) (.slice (some ⟨g2, 0, none⟩) (n + 1) cap)) := x0
          clear x0 hown1 hgrow hat hlt1
          go_wp2
          exact ⟨⟨k + 1, some ⟨g2, 0, none⟩, cap, by omega, by go_num, by rw [HLE.out], by rw [HLE.out]; exact HX⟩, by simp [intOf]; omega⟩
    · obtain rfl : k = 45 := by omega
      clear hRC
      have HE : Hid (OwnSl wr w.heap.size (.slice ao (slts z).length cv) (slts z) ∧ Below w.heap.size w wr) := ⟨HS.out.own, HS.out.below⟩
      clear HS
      change Hid _ at HE
      generalize hvv : Value.slice ao (slU z 45).length cv = v at *
      go_wp2
      go_ret
      exact ⟨_, rfl, by subst hvv; exact HE.out.1, HE.out.2⟩
end Go.Proofs.YtchkpggdndnpjaaGreatDoor
