import Derived.Test.YtchkpggdndnpjabGreatDoorG23
import Derived.Test.YtchkpggdndnpjabGreatDoorG10
import Derived.Test.YtchkpggdndnpjabGreatDoorG18
import Derived.Test.YtchkpggdndnpjabGreatDoorG21
import Derived.Deep.AppendLies
import Derived.Deep.RegionLaw
import Derived.Test.YtchkpggdndnpjabGreatDoorG20
import Derived.Test.YtchkpggdndnpjabGreatDoorG22
import Derived.Test.YtchkpggdndnpjabGreatDoorG11
import Derived.Test.YtchkpggdndnpjabGreatDoorG19

namespace Go.Proofs.YtchkpggdndnpjabGreatDoor
set_option linter.unusedVariables false
open Go.RowKit

/-- A field that a kind has: its tag, whether it must be there, its row. -/
abbrev Slt := Int × Bool × Nat
def slotF (z : Int) (r : Nat) : Option Slt := if hasR z (xNum.getD r 0) = 0 then none else some (tagR z (xNum.getD r 0), hasR z (xNum.getD r 0) == 2, r)
def slU (z : Int) (k : Nat) : List Slt := (List.range k).filterMap (slotF z)
def slts (z : Int) : List Slt := slU z 45
theorem slU_yes {z : Int} {k : Nat} (h : ¬ hasR z (xNum.getD k 0) = 0) : slU z (k + 1) = slU z k ++ [(tagR z (xNum.getD k 0), hasR z (xNum.getD k 0) == 2, k)] := by
  unfold slU
  rw [List.range_succ, List.filterMap_append]
  have : slotF z k = some (tagR z (xNum.getD k 0), hasR z (xNum.getD k 0) == 2, k) := by rw [slotF, if_neg h]
  simp [this]
theorem slU_no {z : Int} {k : Nat} (h : hasR z (xNum.getD k 0) = 0) : slU z (k + 1) = slU z k := by
  unfold slU
  rw [List.range_succ, List.filterMap_append]
  have : slotF z k = none := by rw [slotF, if_pos h]
  simp [this]
theorem slU_len (z : Int) : ∀ k, (slU z k).length ≤ k
  | 0 => by simp [slU]
  | k + 1 => by
    have := slU_len z k
    by_cases h : hasR z (xNum.getD k 0) = 0
    · rw [slU_no h]; omega
    · rw [slU_yes h]; simp; omega
theorem slts_row {z : Int} {t : Slt} (h : t ∈ slts z) : t.2.2 < 45 := by
  unfold slts slU at h
  obtain ⟨r, hr, e⟩ := List.mem_filterMap.1 h
  unfold slotF at e
  split at e
  · cases e
  · cases e; exact List.mem_range.1 hr
def slC (t : Slt) : List Value := [.int .i64 t.1, .bool t.2.1, .func (.func (xFn.getD t.2.2 0)) #[] #[]]
def scs (l : List Slt) : List Value := l.flatMap slC
theorem scs_app (a b : List Slt) : scs (a ++ b) = scs a ++ scs b := by simp [scs]
theorem scs_length (l : List Slt) : (scs l).length = l.length * 3 := by
  induction l with
  | nil => rfl
  | cons a l ih => show (slC a ++ scs l).length = _; rw [List.length_append, ih]; simp [slC]; omega
theorem scs_at : ∀ (l : List Slt) (j : Nat) (t : Slt), l[j]? = some t → (scs l)[j * 3]? = some (.int .i64 t.1) ∧ (scs l)[j * 3 + 1]? = some (.bool t.2.1) ∧ (scs l)[j * 3 + 2]? = some (.func (.func (xFn.getD t.2.2 0)) #[] #[])
  | [], j, t, h => by simp at h
  | a :: l, 0, t, h => by
    simp at h
    subst h
    exact ⟨rfl, rfl, rfl⟩
  | a :: l, j + 1, t, h => by
    have := scs_at l j t (by simpa using h)
    rw [show (j + 1) * 3 = j * 3 + 3 by omega]
    exact this
theorem infoSl : (Tryz.prog.info? 46).map (fun i => (i.zero, i.size, i.bytes)) = some (some (.agg #[.int .i64 0, .bool false, .nilFunc]), 3, 24) := by kernel_rfl
def OwnSl (w : World) (B : Nat) (v : Value) (l : List Slt) : Prop := w.ownsRow B 46 3 v l.length (scs l)
/-- The list of slots as it lies in memory, to be read alone. -/
def SltAt (w : World) (v : Value) (l : List Slt) : Prop := ∃ ao cap, v = .slice ao l.length cap ∧ l.length ≤ cap ∧ (l = [] ∨ ∃ b off, ao = some ⟨b, off, none⟩ ∧ ∀ j t, l[j]? = some t → w.cell? ⟨b, off + j * 3, none⟩ = some (.int .i64 t.1) ∧ w.cell? ⟨b, off + j * 3 + 1, none⟩ = some (.bool t.2.1) ∧ w.cell? ⟨b, off + j * 3 + 2, none⟩ = some (.func (.func (xFn.getD t.2.2 0)) #[] #[]))
theorem SltAt.below {w w' : World} {v : Value} {l : List Slt} (h : SltAt w v l) (hb : Below w.heap.size w w') : SltAt w' v l := by
  obtain ⟨ao, cap, e, h1, h2⟩ := h
  refine ⟨ao, cap, e, h1, h2.imp id ?_⟩
  rintro ⟨b, off, e2, h3⟩
  refine ⟨b, off, e2, fun j t hj => ?_⟩
  obtain ⟨c1, c2, c3⟩ := h3 j t hj
  have hbl := World.block_lt_of_cell? _ _ c1
  exact ⟨(hb.cell (p := ⟨b, off + j * 3, none⟩) hbl).trans c1, (hb.cell (p := ⟨b, off + j * 3 + 1, none⟩) hbl).trans c2, (hb.cell (p := ⟨b, off + j * 3 + 2, none⟩) hbl).trans c3⟩
theorem SltAt.of {w : World} {B : Nat} {v : Value} {l : List Slt} (h : OwnSl w B v l) : SltAt w v l := by
  obtain ⟨h1, h2⟩ := h
  rcases h2 with ⟨rfl, h0⟩ | ⟨g, cap, cur, rfl, r1, r2, r3, r4, r5, r6⟩
  · have : l = [] := List.length_eq_zero_iff.1 h0
    subst this
    exact ⟨none, 0, rfl, Nat.le_refl _, .inl rfl⟩
  · refine ⟨_, cap, rfl, r3, .inr ⟨g, 0, rfl, fun j t ht => ?_⟩⟩
    have hj : j < l.length := (List.getElem?_eq_some_iff.1 ht).1
    obtain ⟨e1, e2, e3⟩ := scs_at l j t ht
    rw [← r6, List.getElem?_take, if_pos (by omega)] at e1 e2 e3
    rw [Nat.zero_add]
    refine ⟨?_, ?_, ?_⟩
    · rw [cell_of_row w g _ cur _ _ r2]; simpa using e1
    · rw [cell_of_row w g _ cur _ _ r2]; simpa using e2
    · rw [cell_of_row w g _ cur _ _ r2]; simpa using e3
structure LY (w wr : World) (z : Int) (k : Nat) (v : Value) : Prop where
  own : OwnSl wr w.heap.size v (slU z k)
  below : Below w.heap.size w wr
theorem LY.low {w wr w' : World} {z : Int} {k : Nat} {v : Value} (h : LY w wr z k v) (hb : Below wr.heap.size wr w') : LY w w' z k v :=
  ⟨ownsRow_below h.own hb, h.below.trans (hb.mono h.below.size)⟩
set_option maxRecDepth 100000 in
set_option maxHeartbeats 1000000 in
theorem layout_any (z : Int) (w : World) :
    Calls Tryz.prog 14 #[.int .i64 z] w fun e w' => ∃ v, e = .returned v ∧ OwnSl w' w.heap.size v (slts z) ∧ Below w.heap.size w w' := by
  obtain ⟨i0, hi, hz0, hz1, hz2⟩ := info_parts infoSl
  go_enter Tryz.func14, Tryz.ntmps14
  go_wp2_with (go_at_call 35; fail)
  refine (xrows_any _).mono ?_
  rintro e w2 ⟨rfl, hb2⟩
  have HL0 : Hid (LY w w2 z 0 (.slice none 0 0)) := ⟨World.ownsRow_nil _ _ _ 3, hb2⟩
  clear hb2
  generalize hRC : xrowsCs.toArray = RC
  go_wp2
  go_loopw [3, 8] (fun v i wr => ∃ (k : Nat) (ao : Option Addr) (cv : Nat), k ≤ 45 ∧ i = .int .i64 k ∧ v = .slice ao (slU z k).length cv ∧ Hid (LY w wr z k (.slice ao (slU z k).length cv))) (fun _ i _ => 45 - (intOf i).toNat)
  case atStart => exact ⟨0, none, 0, by omega, rfl, rfl, HL0⟩
  case round =>
    obtain ⟨k, ao, cv, hk, rfl, rfl, HS⟩ := hrel
    clear HL0
    by_cases hlt : k < 45
    · have hlt' : (k : Int) < 45 := by omega
      have hx := xindex_at k hlt
      rw [hRC] at hx
      clear hRC
      have HA := fun w' => fhas_any z (xNum.getD k 0) w'
      have HT := fun w' => tagOf_any z (xNum.getD k 0) w'
      have HY : Hid (¬ hasR z (xNum.getD k 0) = 0 → slU z (k + 1) = slU z k ++ [(tagR z (xNum.getD k 0), hasR z (xNum.getD k 0) == 2, k)]) := slU_yes
      have HN : Hid (hasR z (xNum.getD k 0) = 0 → slU z (k + 1) = slU z k) := slU_no
      have hLn := slU_len z k
      generalize hFn : xFn.getD k 0 = F at *
      generalize xNum.getD k 0 = N at *
      generalize hasR z N = H at *
      generalize tagR z N = T at *
      go_wp2_with (go_at_call 36; fail)
      generalize hW : wr.alloc _ = W1
      have hb1 : Below wr.heap.size wr W1 := by rw [← hW]; exact (Below.refl _ wr).alloc (Nat.le_refl _) _
      have r0 : W1.cell? ⟨wr.heap.size, 0, none⟩ = some (.int .i64 N) := by rw [← hW]; exact World.cell?_alloc_new ..
      have r1 : W1.cell? ⟨wr.heap.size, 1, none⟩ = some (.func (.func F) #[] #[]) := by rw [← hW]; exact World.cell?_alloc_new ..
      clear hW
      refine (HA _).mono ?_
      rintro e w3 ⟨rfl, hb3⟩
      have hlt3 := World.block_lt_of_cell? _ _ r0
      have s0 : w3.cell? ⟨wr.heap.size, 0, none⟩ = some (.int .i64 N) := by rw [hb3.cell (p := ⟨wr.heap.size, 0, none⟩) hlt3]; exact r0
      have s1 : w3.cell? ⟨wr.heap.size, 1, none⟩ = some (.func (.func F) #[] #[]) := by rw [hb3.cell (p := ⟨wr.heap.size, 1, none⟩) hlt3]; exact r1
      have HS3 : Hid (LY w w3 z k (.slice ao (slU z k).length cv)) := (HS.out.low hb1).low hb3
      clear r0 r1 hb1 hb3 HS HA hlt3
      by_cases hp : H = 0
      · subst hp
        have HN3 : Hid (slU z (k + 1) = slU z k) := HN.out rfl
        go_wp2
        exact ⟨⟨k + 1, ao, cv, by omega, by go_num, by rw [HN3.out], by have h := HS3.out; refine ⟨?_, h.below⟩; rw [HN3.out]; exact h.own⟩, by simp [intOf]; omega⟩
      · have hpd : (H == 0) = false := by simpa using hp
        have hpn : (H != 0) = true := by simpa using hp
        have HY3 : Hid (slU z (k + 1) = slU z k ++ [(T, H == 2, k)]) := HY.out hp
        clear hp HY HN
        go_upto_region 7 with fail
        have hbs := HS3.out.below.size
        have HROW : Hid ((w3.alloc (.cells #[.int .i64 T, .bool (H == 2), .func (.func F) #[] #[]] 46)).drew.ownsRow w.heap.size 46 3 (.slice ao (slU z k).length cv) (slU z k).length (scs (slU z k))) := (HS3.out.own.alloc _).drew
        have HNEW : Hid (∀ j u, ([.int .i64 T, .bool (H == 2), .func (.func F) #[] #[]] : List Value)[j]? = some u → (w3.alloc (.cells #[.int .i64 T, .bool (H == 2), .func (.func F) #[] #[]] 46)).drew.cell? ((⟨w3.heap.size, 0, none⟩ : Addr).add j) = some u) := by
          have h := World.news_of_block (heap_alloc_new w3 (.cells #[.int .i64 T, .bool (H == 2), .func (.func F) #[] #[]] 46))
          intro j u hj
          have h2 := h j u (by simpa using hj)
          simpa using h2
        have HAPP : Hid (∀ v w6, w6.ownsRow w.heap.size 46 3 v ((slU z k).length + 1) (scs (slU z k) ++ [.int .i64 T, .bool (H == 2), .func (.func F) #[] #[]]) → (w3.alloc (.cells #[.int .i64 T, .bool (H == 2), .func (.func F) #[] #[]] 46)).drew.grownBy w6 (Value.slice ao (slU z k).length cv).ownBlock → LY w w6 z (k + 1) v) := fun v w6 h1 h2 => by
          refine ⟨?_, below_grownBy ((HS3.out.below.trans (((Below.refl _ w3).alloc (Nat.le_refl _) _).mono hbs)).drew) h2 (Nat.le_refl _) (fun q hq => (HS3.out.own.lt q hq).1)⟩
          unfold OwnSl
          rw [HY3.out, scs_app, List.length_append]
          subst hFn
          exact h1
        have HLE : Hid ((slU z (k + 1)).length = (slU z k).length + 1) := by show _ = _; rw [HY3.out]; simp
        generalize (slU z k).length = n at *
        generalize scs (slU z k) = xs at *
        go_region_law (first
          | (refine step_append_lies _ (by rfl) _ _ _ (by rfl) w.heap.size 46 i0 _ 3 24 Tryz.underlying42 hi hz0 hz1 hz2 rfl (by omega) (.slice ao n cv) n xs (by rfl) HROW.out ⟨w3.heap.size, 0, none⟩ 1 1 [.int .i64 T, (.bool (H == 2)), .func (.func F) #[] #[]] (by rfl) (by rfl) HNEW.out (by simp [Value.oneCell']) (by omega) (by unfold maxLen; omega) (by omega) (by simp; omega) (w3.heap.size + 1) (by simp) ?_; intro g2 cap w6 hown1 hgrow hat hlt1; have x0 := HAPP.out _ _ hown1 hgrow)
          | (rw [if_pos (by kernel_rfl)]; refine callR (d := some 21) rfl 37 #[.int .i64 z, .int .i64 N] (by kernel_rfl) (HT _) ?_; rintro e w5 ⟨rfl, rfl⟩; refine ⟨_, rfl, ?_⟩))
        all_goals
          have HX : Hid (LY w w6 z (k + 1) (.slice (some ⟨g2, 0, none⟩) (n + 1) cap)) := x0
          clear x0 hown1 hgrow hat hlt1
          go_wp2
          exact ⟨⟨k + 1, some ⟨g2, 0, none⟩, cap, by omega, by go_num, by rw [HLE.out], by rw [HLE.out]; exact HX⟩, by simp [intOf]; omega⟩
    · obtain rfl : k = 45 := by omega
      clear hRC
      have HE : Hid (OwnSl wr w.heap.size (.slice ao (slts z).length cv) (slts z) ∧ Below w.heap.size w wr) := ⟨HS.out.own, HS.out.below⟩
      clear HS
      change Hid _ at HE
      generalize hvv : Value.slice ao (slU z 45).length cv = v at *
      go_wp2
      go_ret
      exact ⟨_, rfl, by subst hvv; exact HE.out.1, HE.out.2⟩
end Go.Proofs.YtchkpggdndnpjabGreatDoor

namespace Go.Proofs.YtchkpggdndnpjabGreatDoor
set_option linter.unusedVariables false
open Go.RowKit Go.Great

theorem OwnM.low {w w' : World} {g : Nat} {M : Msg} (h : OwnM w g M) (hb : Below w.heap.size w w') : OwnM w' g M := h.below hb h.lt
theorem own_block {w : World} {B e s n : Nat} {v : Value} {xs : List Value} {g : Nat} (h : w.ownsRow B e s v n xs) (hg : v.ownBlock = some g) : ∃ cs, w.heap[g]? = some (.cells cs e (0, 0)) := by
  obtain ⟨h1, h2⟩ := h
  rcases h2 with ⟨rfl, h0⟩ | ⟨g', cap, cur, rfl, r1, r2, r3⟩
  · cases hg
  · cases hg; exact ⟨_, r2⟩
theorem own_apart {w : World} {B1 e1 s1 n1 B2 e2 s2 n2 : Nat} {v1 v2 : Value} {x1 x2 : List Value} (h1 : w.ownsRow B1 e1 s1 v1 n1 x1) (h2 : w.ownsRow B2 e2 s2 v2 n2 x2) (hne : e1 ≠ e2) {g : Nat} (hg : v1.ownBlock = some g) : v2.ownBlock ≠ some g := fun e => by
  obtain ⟨c1, q1⟩ := own_block h1 hg
  obtain ⟨c2, q2⟩ := own_block h2 e
  rw [q1] at q2
  exact hne (by injection q2 with q2; injection q2)
theorem own_off {w : World} {B e s n g : Nat} {v : Value} {xs : List Value} {M : Msg} (h : w.ownsRow B e s v n xs) (hM : OwnM w g M) (hne : e ≠ 23) : v.ownBlock ≠ some g := fun e2 => by
  obtain ⟨c1, q1⟩ := own_block h e2
  rw [hM] at q1
  exact hne (by injection q1 with q1; injection q1 with _ q; exact q.symm)
theorem own_kept {w w' : World} {base size n : Nat} {e : TypeId} {v : Value} {xs : List Value} (h : w.ownsRow base e size v n xs) (hk : ∀ g, v.ownBlock = some g → w'.heap[g]? = w.heap[g]?) : w'.ownsRow base e size v n xs := ownsRow_of_block h hk
theorem ownsForm {w : World} {B e s n : Nat} {v : Value} {xs : List Value} (h : w.ownsRow B e s v n xs) : ∃ ao cv, v = .slice ao n cv := by
  obtain ⟨h1, h2⟩ := h
  rcases h2 with ⟨rfl, h0⟩ | ⟨g, cap, cur, rfl, r1⟩
  · exact ⟨none, 0, by rw [h0]⟩
  · exact ⟨_, _, rfl⟩
/-- A field as it is written. -/
def fldF (M : Msg) (t : Slt) : Option Fld := cond (t.2.1 || thB t.2.2 M) (some (t.1, (wrS t.2.2 M).data.toList)) none
def encU (M : Msg) (l : List Slt) (j : Nat) : List Fld := (l.take j).filterMap (fldF M)
def encF (M : Msg) : List Fld := (slts (M.z 0)).filterMap (fldF M)
theorem encU_yes {M : Msg} {l : List Slt} {j : Nat} {t : Slt} (h : l[j]? = some t) (hb : (t.2.1 || thB t.2.2 M) = true) : encU M l (j + 1) = encU M l j ++ [(t.1, (wrS t.2.2 M).data.toList)] := by
  unfold encU
  rw [List.take_add_one, h, List.filterMap_append]
  simp [fldF, hb]
theorem encU_no {M : Msg} {l : List Slt} {j : Nat} {t : Slt} (h : l[j]? = some t) (hb : (t.2.1 || thB t.2.2 M) = false) : encU M l (j + 1) = encU M l j := by
  unfold encU
  rw [List.take_add_one, h, List.filterMap_append]
  simp [fldF, hb]
theorem encU_len (M : Msg) (l : List Slt) (j : Nat) : (encU M l j).length ≤ j := by
  refine Nat.le_trans (List.length_filterMap_le _ _) ?_
  rw [List.length_take]; omega
structure EI (w wr : World) (g : Nat) (M : Msg) (sv : Value) (l : List Slt) (vl : Value) (fs : List Fld) : Prop where
  msg : OwnM wr g M
  own : OwnF wr w.heap.size vl fs
  slt : OwnSl wr w.heap.size sv l
  below : Below w.heap.size w wr
theorem EI.low {w wr w' : World} {g : Nat} {M : Msg} {sv vl : Value} {l : List Slt} {fs : List Fld} (h : EI w wr g M sv l vl fs) (hb : Below wr.heap.size wr w') : EI w w' g M sv l vl fs :=
  ⟨h.msg.low hb, h.own.below hb, ownsRow_below h.slt hb, h.below.trans (hb.mono h.below.size)⟩
theorem EI.app {w wr w' : World} {g : Nat} {M : Msg} {sv vl v : Value} {l : List Slt} {fs fs' : List Fld} (h : EI w wr g M sv l vl fs) (hg : wr.grownBy w' vl.ownBlock) (ho : OwnF w' w.heap.size v fs') : EI w w' g M sv l v fs' := by
  refine ⟨(hg.block _ h.msg.lt (fun e => own_off h.own h.msg (by decide) e.symm)).trans h.msg, ho, own_kept h.slt fun q hq => hg.block _ (h.slt.lt q hq).2 (fun e => own_apart h.slt h.own (by decide) hq e.symm), below_grownBy h.below hg (Nat.le_refl _) (fun q hq => (h.own.lt q hq).1)⟩
set_option maxRecDepth 100000 in
set_option maxHeartbeats 1000000 in
theorem Encode_no (M : Msg) (w : World) (hM : Mon w) (hz : M.ok) (hv : valE M ≠ 0) :
    Calls Tryz.prog 7 #[.agg M.cs] w fun e w' => e = .returned (.tuple #[.slice none 0 0, .int .i64 (valE M)]) ∧ Below w.heap.size w w' := by
  have HM : Hid (2 < w.heap.size ∧ Mon w ∧ M.ok) := ⟨hM.lt, hM, hz⟩
  have HO1 : Hid (OwnM (w.alloc (.cells M.cs 23)) w.heap.size M ∧ Below w.heap.size w (w.alloc (.cells M.cs 23))) := ⟨heap_alloc_new w _, (Below.refl _ w).alloc (Nat.le_refl _) _⟩
  clear hM hz
  generalize hE : valE M = E at *
  have HE : Hid (valE M = E) := hE
  clear hE
  go_enter Tryz.func7, Tryz.ntmps7
  go_upto_region 1 with fail
  generalize w.alloc (.cells M.cs 23) = w1 at *
  generalize hcs : M.cs = CS at *
  refine wp_region_lit ?_
  refine wpList_loadM HO1.out.1 (.tmp 1) rfl rfl rfl ?_
  simp only [Act.put, List.setIfInBounds_toArray, List.set_cons_zero, List.set_cons_succ]
  rw [hcs]
  go_wp2_with (go_at_call 13; fail)
  have hvc := Valid_any M w1 (HM.out.2.1.below HO1.out.2 HM.out.1) HM.out.2.2
  rw [hcs, HE.out] at hvc
  refine hvc.mono ?_
  clear hvc
  rintro e w2 ⟨rfl, hb2⟩
  have HB2 : Hid (Below w.heap.size w w2) := HO1.out.2.trans (hb2.mono HO1.out.2.size)
  clear hb2
  have hvb : (E != 0) = true := by simpa using hv
  generalize valN M = N at *
  go_wp2
  go_ret2
  exact ⟨rfl, HB2.out⟩
end Go.Proofs.YtchkpggdndnpjabGreatDoor

namespace Go.Proofs.YtchkpggdndnpjabGreatDoor
set_option linter.unusedVariables false
open Go.RowKit

def tgB (t : Int) (f : Fld) : Bool := decide (f.1 = t)
/-- The place of the first field with a tag; the number of fields, if there is none. -/
def plN (fs : List Fld) (t : Int) : Nat := match ix (tgB t) fs with | some i => i | none => fs.length
theorem ix_lt (p : Fld → Bool) : ∀ (fs : List Fld) (i : Nat), ix p fs = some i → ∃ f, fs[i]? = some f ∧ p f = true
  | [], i, h => by simp [ix] at h
  | f :: fs, i, h => by
    unfold ix at h
    cases hp : p f with
    | true => rw [hp] at h; simp at h; subst h; exact ⟨f, rfl, hp⟩
    | false =>
      rw [hp] at h
      simp at h
      obtain ⟨j, hj, rfl⟩ := h
      obtain ⟨g, hg, hpg⟩ := ix_lt p fs j hj
      exact ⟨g, by simpa using hg, hpg⟩
theorem plN_le (fs : List Fld) (t : Int) : plN fs t ≤ fs.length := by
  unfold plN
  cases h : ix (tgB t) fs with
  | none => exact Nat.le_refl _
  | some i =>
    obtain ⟨f, hf, -⟩ := ix_lt _ _ _ h
    exact Nat.le_of_lt (List.getElem?_eq_some_iff.1 hf).1
theorem cfPlace (x c : Value) (w : World) : Sem.run Tryz.prog (callFunc 251 #[x, c]) w = .ok (.enter 251 #[x, c]) w := by kernel_rfl
set_option maxRecDepth 100000 in
theorem place1_any (t : Int) (B : Nat) (g : Fld) (w : World) (hB : w.cell? ⟨B, 0, none⟩ = some (.int .i64 t)) :
    Calls Tryz.prog 251 #[.agg #[.int .i64 g.1, .string (bs g.2)], .pointer (some ⟨B, 0, none⟩)] w fun e w' => e = .returned (.bool (tgB t g)) ∧ Below w.heap.size w w' := by
  have HB : Hid (Below w.heap.size w (w.alloc (.cells #[.int .i64 g.1, .string (bs g.2)] 52))) := (Below.refl _ w).alloc (Nat.le_refl _) _
  have hcl := cell_alloc hB (.cells #[.int .i64 g.1, .string (bs g.2)] 52)
  have HR : Hid (tgB t g = (g.1 == t)) := by show _ = _; unfold tgB; by_cases h : g.1 = t <;> simp [h]
  generalize tgB t g = R at *
  generalize g.1 = x at *
  clear hB
  go_enter Tryz.func251, Tryz.ntmps251
  go_wp2
  go_ret
  exact ⟨ret_bool HR.out.symm, HB.out⟩
set_option maxRecDepth 100000 in
theorem placeOf_any (v : Value) (fs : List Fld) (t : Int) (w : World) (hs : SrcF w v fs) (hn : fs.length ≤ 1048576) :
    Calls Tryz.prog 214 #[v, .int .i64 t] w fun e w' => e = .returned (.int .i64 (plN fs t : Nat)) ∧ Below w.heap.size w w' := by
  have hB : (w.alloc (.cells #[.int .i64 t] 3)).cell? ⟨w.heap.size, 0, none⟩ = some (.int .i64 t) := cell_of_row _ _ 0 _ _ _ (heap_alloc_new w _)
  have hb0 : Below w.heap.size w (w.alloc (.cells #[.int .i64 t] 3)) := (Below.refl _ w).alloc (Nat.le_refl _) _
  have h1 := IndexFunc_any 251 (.pointer (some ⟨w.heap.size, 0, none⟩)) (tgB t) v fs (w.alloc (.cells #[.int .i64 t] 3)) (fun x w' => cfPlace x _ w')
    (fun g hg w' hb => place1_any t w.heap.size g w' (by rw [hb.cell (p := ⟨w.heap.size, 0, none⟩) (by simp)]; exact hB)) (by omega) (hs.below hb0)
  have hmf : ∀ (fn : Fn) (first cap : Array Value) (w : World), (Instr.makeFunc fn first cap).run Tryz.prog w = .ok (.func fn first cap) w := fun _ _ _ _ => rfl
  have HB0 : Hid (Below w.heap.size w (w.alloc (.cells #[.int .i64 t] 3))) := hb0
  obtain ⟨ao, cap, rfl, hc, _⟩ := hs
  have hpl := plN_le fs t
  clear hb0 hB
  unfold plN at hpl ⊢
  unfold ixI at h1
  cases hix : ix (tgB t) fs with
  | none =>
    rw [hix] at h1
    clear hix hpl
    dsimp only at h1 ⊢
    go_enter Tryz.func214, Tryz.ntmps214
    go_wp2_with (go_at_call 228; fail)
    refine h1.mono ?_
    rintro e w2 ⟨rfl, hb2⟩
    have HB2 : Hid (Below w.heap.size w w2) := HB0.out.trans (hb2.mono HB0.out.size)
    clear hb2 h1
    go_wp2
    go_ret
    exact ⟨rfl, HB2.out⟩
  | some i =>
    rw [hix] at h1 hpl
    clear hix
    dsimp only at h1 hpl ⊢
    have hi0 : ¬ (i : Int) < 0 := by omega
    go_enter Tryz.func214, Tryz.ntmps214
    go_wp2_with (go_at_call 228; fail)
    refine h1.mono ?_
    rintro e w2 ⟨rfl, hb2⟩
    have HB2 : Hid (Below w.heap.size w w2) := HB0.out.trans (hb2.mono HB0.out.size)
    clear hb2 h1
    go_wp2
    go_ret
    exact ⟨rfl, HB2.out⟩
/-- A fault of a frame whose fields could be told: what is wrong, where, the tag. -/
def WrongAt (w : World) (B h : Nat) (e : Int) (a : Nat) (t : Int) : Prop := ∃ f, B ≤ h ∧ B ≤ f ∧ w.heap[h]? = some (.cells #[.int .i64 t, .pointer (some ⟨f, 0, none⟩)] 107 (0, 0)) ∧ FaultAt w f e a
def ErrAt (w : World) (B : Nat) (v : Value) (x : Option (Int × Nat × Int)) : Prop := match x with
  | none => v = .nilIface
  | some (e, a, t) => ∃ h, v = .iface 103 (.pointer (some ⟨h, 0, none⟩)) ∧ WrongAt w B h e a t
theorem ErrAt.below {w w' : World} {B C : Nat} {v : Value} {x : Option (Int × Nat × Int)} (h : ErrAt w C v x) (hb : Below w.heap.size w w') (hB : B ≤ C) : ErrAt w' B v x := by
  cases x with
  | none => exact h
  | some x =>
    obtain ⟨e, a, t⟩ := x
    obtain ⟨h1, rfl, f, q1, q2, q3, q4⟩ := h
    exact ⟨h1, rfl, f, Nat.le_trans hB q1, Nat.le_trans hB q2, (hb.block _ (Array.getElem?_eq_some_iff.1 q3).1).trans q3, (hb.block _ (Array.getElem?_eq_some_iff.1 q4).1).trans q4⟩
set_option maxRecDepth 100000 in
theorem ffault_any (e : Int) (a : Nat) (t : Int) (w : World) :
    Calls Tryz.prog 212 #[.int .i64 e, .int .i64 a, .int .i64 t] w fun x w' => ∃ v, x = .returned v ∧ ErrAt w' w.heap.size v (some (e, a, t)) ∧ Below w.heap.size w w' := by
  have h1 : Below w.heap.size w (w.alloc (.cells #[.int .i64 (a : Int), .int .i64 e] 65)) := (Below.refl _ w).alloc (Nat.le_refl _) _
  have h2 : Below (w.heap.size + 1) (w.alloc (.cells #[.int .i64 (a : Int), .int .i64 e] 65)) ((w.alloc (.cells #[.int .i64 (a : Int), .int .i64 e] 65)).alloc (.cells #[.int .i64 t, .pointer (some ⟨w.heap.size, 0, none⟩)] 107)) := (Below.refl _ _).alloc (by simp) _
  have HR : Hid (ErrAt ((w.alloc (.cells #[.int .i64 (a : Int), .int .i64 e] 65)).alloc (.cells #[.int .i64 t, .pointer (some ⟨w.heap.size, 0, none⟩)] 107)) w.heap.size (.iface 103 (.pointer (some ⟨w.heap.size + 1, 0, none⟩))) (some (e, a, t)) ∧ Below w.heap.size w ((w.alloc (.cells #[.int .i64 (a : Int), .int .i64 e] 65)).alloc (.cells #[.int .i64 t, .pointer (some ⟨w.heap.size, 0, none⟩)] 107))) := by
    refine ⟨⟨_, rfl, w.heap.size, by omega, Nat.le_refl _, ?_, ?_⟩, h1.trans (h2.mono (Nat.le_succ _))⟩
    · have := heap_alloc_new (w.alloc (.cells #[.int .i64 (a : Int), .int .i64 e] 65)) (.cells #[.int .i64 t, .pointer (some ⟨w.heap.size, 0, none⟩)] 107)
      simpa using this
    · exact (h2.block _ (Nat.lt_succ_self _)).trans (heap_alloc_new w _)
  clear h1 h2
  go_enter Tryz.func212, Tryz.ntmps212
  go_wp2
  go_ret
  exact ⟨_, rfl, HR.out⟩
def ktN (s : ByteArray) : Int := idS_ (xWords.getD 0 []) s + 1
theorem ktN_bd (s : ByteArray) : 0 ≤ ktN s ∧ ktN s ≤ 17 := by
  have := idS_bd (xWords.getD 0 []) s (by decide)
  unfold ktN
  omega
set_option maxRecDepth 100000 in
theorem kindOfType_any (s : ByteArray) (w : World) :
    Calls Tryz.prog 213 #[.string s] w fun e w' => e = .returned (.int .i64 (ktN s)) ∧ Below w.heap.size w w' := by
  have HT := types_any
  have hI := Index_any w.heap.size 17 (xWords.getD 0 []) s (w.alloc (wordsO (xWords.getD 0 []))) rfl (by decide) (fun j t hj => wd_alloc w 0 j t hj)
  have HB : Hid (Below w.heap.size w (w.alloc (wordsO (xWords.getD 0 [])))) := (Below.refl _ w).alloc (Nat.le_refl _) _
  have hbd := idS_bd (xWords.getD 0 []) s (by decide)
  unfold ktN
  generalize idS_ (xWords.getD 0 []) s = I at *
  generalize wordsO (xWords.getD 0 []) = O at *
  have hw : IntKind.i64.wrap (I + 1) = I + 1 := by rw [IntKind.wrap_i64]; omega
  have hw2 : wrap64 (I + 1) = I + 1 := by unfold wrap64; omega
  clear hbd
  go_enter Tryz.func213, Tryz.ntmps213
  go_wp2_with (first | (go_at_call 127; refine (HT _).mono ?_; rintro e w2 ⟨rfl, rfl⟩) | (go_at_call 250; refine hI.mono ?_; rintro e w3 ⟨rfl, rfl⟩))
  go_ret
  exact ⟨rfl, HB.out⟩
end Go.Proofs.YtchkpggdndnpjabGreatDoor

namespace Go.Proofs.YtchkpggdndnpjabGreatDoor
set_option linter.unusedVariables false
open Go.RowKit

def rkK (fs : List Fld) : Int := match fs with | [] => 0 | f :: _ => if f.1 = 35 then ktN (bs f.2) else 0
def rkE (fs : List Fld) : Option (Int × Nat × Int) := match fs with | [] => some (50, 0, 35) | f :: _ => if f.1 = 35 then (if ktN (bs f.2) = 0 then some (30, 0, 35) else none) else some (50, 0, 35)
set_option maxRecDepth 100000 in
set_option maxHeartbeats 800000 in
theorem readKind_any (v : Value) (fs : List Fld) (w : World) (hs : SrcF w v fs) :
    Calls Tryz.prog 62 #[v] w fun x w' => ∃ ev, x = .returned (.tuple #[.int .i64 (rkK fs), ev]) ∧ ErrAt w' w.heap.size ev (rkE fs) ∧ Below w.heap.size w w' := by
  obtain ⟨ao, cap, rfl, hc, hcase⟩ := hs
  have HF50 : Hid (Calls Tryz.prog 212 #[.int .i64 50, .int .i64 0, .int .i64 35] w fun x w' => ∃ v, x = .returned v ∧ ErrAt w' w.heap.size v (some (50, 0, 35)) ∧ Below w.heap.size w w') := ffault_any 50 0 35 w
  cases fs with
  | nil =>
    show Calls _ _ #[.slice ao 0 cap] w fun x w' => ∃ ev, x = .returned (.tuple #[.int .i64 0, ev]) ∧ ErrAt w' w.heap.size ev (some (50, 0, 35)) ∧ Below w.heap.size w w'
    go_enter Tryz.func62, Tryz.ntmps62
    go_wp2_with (go_at_call 212; fail)
    refine HF50.out.mono ?_
    rintro e w2 ⟨ev, rfl, he, hb⟩
    have HR : Hid (ErrAt w2 w.heap.size ev (some (50, 0, 35)) ∧ Below w.heap.size w w2) := ⟨he, hb⟩
    clear he hb
    go_wp2
    go_ret2
    exact ⟨_, rfl, HR.out⟩
  | cons f fs =>
    obtain hnil | ⟨b, off, rfl, hcel⟩ := hcase
    · cases hnil
    obtain ⟨c0, c1⟩ := hcel 0 f rfl
    clear hcel
    have c0' : w.cell? ⟨b, off, none⟩ = some (.int .i64 f.1) := c0
    have c1' : w.cell? ⟨b, off + 1, none⟩ = some (.string (bs f.2)) := c1
    clear c0 c1
    have hl0 : ((fs.length : Int) + 1 == 0) = false := by simp; omega
    have hl1 : (((fs.length + 1 : Nat) : Int) == 0) = false := by simp; omega
    have hl2 : ¬ (fs.length + 1 = 0) := by omega
    have hl3 : (0 : Int) < (fs.length : Int) + 1 := by omega
    by_cases h35 : f.1 = 35
    · rw [show rkK (f :: fs) = ktN (bs f.2) by simp [rkK, h35]]
      rw [h35] at c0'
      have HK : Hid (Calls Tryz.prog 213 #[.string (bs f.2)] w fun e w' => e = .returned (.int .i64 (ktN (bs f.2))) ∧ Below w.heap.size w w') := kindOfType_any (bs f.2) w
      by_cases hk : ktN (bs f.2) = 0
      · rw [show rkE (f :: fs) = some (30, 0, 35) by simp [rkE, h35, hk]]
        rw [hk] at HK ⊢
        clear h35 hk HF50
        have HF30 : Hid (∀ w2, Calls Tryz.prog 212 #[.int .i64 30, .int .i64 0, .int .i64 35] w2 fun x w' => ∃ v, x = .returned v ∧ ErrAt w' w2.heap.size v (some (30, 0, 35)) ∧ Below w2.heap.size w2 w') := fun w2 => ffault_any 30 0 35 w2
        generalize bs f.2 = s at *
        show Calls _ _ #[.slice (some ⟨b, off, none⟩) (fs.length + 1) cap] w _
        go_enter Tryz.func62, Tryz.ntmps62
        go_wp2_with (go_at_call 213; fail)
        refine HK.out.mono ?_
        rintro e w2 ⟨rfl, hb2⟩
        have HB2 : Hid (Below w.heap.size w w2) := hb2
        clear hb2
        go_wp2_with (go_at_call 212; fail)
        refine (HF30.out _).mono ?_
        rintro e w3 ⟨ev, rfl, he, hb⟩
        have HR : Hid (ErrAt w3 w.heap.size ev (some (30, 0, 35)) ∧ Below w.heap.size w w3) := ⟨he.below (Below.refl _ _) HB2.out.size, HB2.out.trans (hb.mono HB2.out.size)⟩
        clear he hb
        go_wp2
        go_ret2
        exact ⟨_, rfl, HR.out⟩
      · rw [show rkE (f :: fs) = none by simp [rkE, h35, hk]]
        have hkb : (ktN (bs f.2) == 0) = false := by simpa using hk
        clear h35 hk HF50
        generalize ktN (bs f.2) = K at *
        generalize bs f.2 = s at *
        show Calls _ _ #[.slice (some ⟨b, off, none⟩) (fs.length + 1) cap] w _
        go_enter Tryz.func62, Tryz.ntmps62
        go_wp2_with (go_at_call 213; fail)
        refine HK.out.mono ?_
        rintro e w2 ⟨rfl, hb2⟩
        have HB2 : Hid (Below w.heap.size w w2) := hb2
        clear hb2
        go_wp2
        go_ret2
        exact ⟨_, rfl, rfl, HB2.out⟩
    · rw [show rkK (f :: fs) = 0 by simp [rkK, h35], show rkE (f :: fs) = some (50, 0, 35) by simp [rkE, h35]]
      have hb35 := bne_no h35
      have hb36 := beq_no h35
      clear h35
      generalize bs f.2 = s at *
      generalize f.1 = t at *
      show Calls _ _ #[.slice (some ⟨b, off, none⟩) (fs.length + 1) cap] w _
      go_enter Tryz.func62, Tryz.ntmps62
      go_wp2_with (go_at_call 212; fail)
      refine HF50.out.mono ?_
      rintro e w2 ⟨ev, rfl, he, hb⟩
      have HR : Hid (ErrAt w2 w.heap.size ev (some (50, 0, 35)) ∧ Below w.heap.size w w2) := ⟨he, hb⟩
      clear he hb
      go_wp2
      go_ret2
      exact ⟨_, rfl, HR.out⟩
/-- The first slot with a tag. -/
def sx (t : Int) : List Slt → Option Nat
  | [] => none
  | s :: l => if s.1 = t then some 0 else (sx t l).map (· + 1)
def sxI (t : Int) (l : List Slt) : Int := match sx t l with | some i => (i : Int) | none => -1
theorem sx_none (t : Int) : ∀ l : List Slt, (∀ s ∈ l, ¬ s.1 = t) → sx t l = none
  | [], _ => rfl
  | s :: l, h => by
    unfold sx
    rw [if_neg (h s (by simp)), sx_none t l (fun g hg => h g (by simp [hg]))]; rfl
theorem sx_some (t : Int) : ∀ (l : List Slt) (k : Nat) (s : Slt), l[k]? = some s → (∀ j g, j < k → l[j]? = some g → ¬ g.1 = t) → s.1 = t → sx t l = some k
  | [], k, s, h, _, _ => by simp at h
  | g :: l, 0, s, h, _, hp => by
    simp at h; subst h
    unfold sx; rw [if_pos hp]
  | g :: l, k + 1, s, h, h1, hp => by
    unfold sx
    rw [if_neg (h1 0 g (by omega) rfl), sx_some t l k s (by simpa using h) (fun j g' hj hg => h1 (j + 1) g' (by omega) (by simpa using hg)) hp]; rfl
theorem sx_at (t : Int) : ∀ (l : List Slt) (i : Nat), sx t l = some i → ∃ s, l[i]? = some s ∧ s.1 = t
  | [], i, h => by simp [sx] at h
  | s :: l, i, h => by
    unfold sx at h
    split at h
    · rename_i hp; simp at h; subst h; exact ⟨s, rfl, hp⟩
    · simp at h
      obtain ⟨j, hj, rfl⟩ := h
      obtain ⟨g, hg, hpg⟩ := sx_at t l j hj
      exact ⟨g, by simpa using hg, hpg⟩
theorem cfEach (x c : Value) (w : World) : Sem.run Tryz.prog (callFunc 216 #[x, c]) w = .ok (.enter 216 #[x, c]) w := by kernel_rfl
set_option maxRecDepth 100000 in
theorem each1_any (t x : Int) (m : Bool) (fv : Value) (hv : fv.cells = #[fv]) (B : Nat) (w : World) (hB : w.cell? ⟨B, 0, none⟩ = some (.int .i64 t)) :
    Calls Tryz.prog 216 #[.agg #[.int .i64 x, .bool m, fv], .pointer (some ⟨B, 0, none⟩)] w fun e w' => e = .returned (.bool (x == t)) ∧ Below w.heap.size w w' := by
  have HB : Hid (Below w.heap.size w (w.alloc (.cells #[.int .i64 x, .bool m, fv] 46))) := (Below.refl _ w).alloc (Nat.le_refl _) _
  have hcl := cell_alloc hB (.cells #[.int .i64 x, .bool m, fv] 46)
  clear hB
  go_enter Tryz.func216, Tryz.ntmps216
  go_wp2
  go_ret
  exact ⟨rfl, HB.out⟩
set_option maxRecDepth 100000 in
set_option maxHeartbeats 800000 in
theorem IndexSlot_any (t : Int) (B : Nat) (v : Value) (l : List Slt) (w : World) (hB : w.cell? ⟨B, 0, none⟩ = some (.int .i64 t)) (hn : l.length ≤ 45) (hs : SltAt w v l) :
    Calls Tryz.prog 215 #[v, .func (.func 216) #[] #[.pointer (some ⟨B, 0, none⟩)]] w fun e w' => e = .returned (.int .i64 (sxI t l)) ∧ Below w.heap.size w w' := by
  have HF : Hid (∀ (s : Slt) w', Below w.heap.size w w' → Calls Tryz.prog 216 #[.agg #[.int .i64 s.1, .bool s.2.1, .func (.func (xFn.getD s.2.2 0)) #[] #[]], .pointer (some ⟨B, 0, none⟩)] w' fun e w2 => e = .returned (.bool (s.1 == t)) ∧ Below w'.heap.size w' w2) := fun s w' hb => each1_any t s.1 s.2.1 _ rfl B w' (by rw [hb.cell (p := ⟨B, 0, none⟩) (World.block_lt_of_cell? _ _ hB)]; exact hB)
  have HS : Hid (SltAt w v l) := hs
  obtain ⟨ao, cap, rfl, hc, _⟩ := hs
  generalize hI : sxI t l = I
  have HI : Hid (sxI t l = I) := hI
  clear hI hB
  have hcf := cfEach
  go_enter Tryz.func215, Tryz.ntmps215
  go_wp2
  go_loopw [5, 8] (fun _ i wr => ∃ k : Nat, k ≤ l.length ∧ i = .int .i64 k ∧ (∀ j g, j < k → l[j]? = some g → ¬ g.1 = t) ∧ Below w.heap.size w wr) (fun _ i _ => l.length - (intOf i).toNat)
  case atStart => exact ⟨0, Nat.zero_le _, rfl, fun j g hj => by omega, Below.refl _ _⟩
  case round =>
    obtain ⟨k, hk, rfl, hp, hb⟩ := hrel
    have HA : Hid ((∀ j g, j < k → l[j]? = some g → ¬ g.1 = t) ∧ Below w.heap.size w wr) := ⟨hp, hb⟩
    clear hp hb
    by_cases hlt : k < l.length
    · have hlt' : (k : Int) < (l.length : Int) := by omega
      have hfk : l[k]? = some l[k] := List.getElem?_eq_getElem hlt
      obtain ⟨ao', cap', e1, _, h0 | ⟨b, off, e2, hcell⟩⟩ := HS.out.below HA.out.2
      · rw [h0] at hlt; simp at hlt
      injection e1 with e1 _ e3
      subst e1 e2 e3
      obtain ⟨c0, c1, c2⟩ := hcell k _ hfk
      have hcall := HF.out l[k] wr HA.out.2
      clear hcell
      by_cases hpk : l[k].1 = t
      · have HX : Hid (I = (k : Int)) := by
          show I = _
          rw [← HI.out]; unfold sxI; rw [sx_some t l k _ hfk HA.out.1 hpk]
        rw [show (l[k].1 == t) = true by simpa using hpk] at hcall
        clear hpk hfk
        generalize l[k] = g at *
        obtain ⟨x, m, r⟩ := g
        dsimp only at c0 c1 c2 hcall
        generalize xFn.getD r 0 = F at *
        go_wp2_with (go_at_call 216; fail)
        refine hcall.mono ?_
        rintro e w2 ⟨rfl, hb2⟩
        have HB2 : Hid (Below w.heap.size w w2) := HA.out.2.trans (hb2.mono HA.out.2.size)
        clear hb2 hcall
        go_wp2
        go_ret
        exact ⟨ret_int HX.out.symm, HB2.out⟩
      · have HX : Hid (∀ j g, j < k + 1 → l[j]? = some g → ¬ g.1 = t) := fun j g hj hg => by
          by_cases e : j < k
          · exact HA.out.1 j g e hg
          · obtain rfl : j = k := by omega
            rw [hfk] at hg; injection hg with hg; rw [← hg]; exact hpk
        rw [show (l[k].1 == t) = false by simpa using hpk] at hcall
        clear hpk hfk
        generalize l[k] = g at *
        obtain ⟨x, m, r⟩ := g
        dsimp only at c0 c1 c2 hcall
        generalize xFn.getD r 0 = F at *
        go_wp2_with (go_at_call 216; fail)
        refine hcall.mono ?_
        rintro e w2 ⟨rfl, hb2⟩
        have HB2 : Hid (Below w.heap.size w w2) := HA.out.2.trans (hb2.mono HA.out.2.size)
        clear hb2 hcall
        go_wp2
        go_roundw
        case rel => exact ⟨k + 1, by omega, by go_num, HX.out, HB2.out⟩
        case measure => simp [intOf]; omega
    · have HX : Hid (I = -1) := by
        show I = _
        rw [← HI.out]; unfold sxI
        rw [sx_none t l (fun g hg => by
          obtain ⟨j, hj, e⟩ := List.getElem_of_mem hg
          exact HA.out.1 j g (by omega) (by rw [List.getElem?_eq_getElem hj, e]))]
      go_wp2
      go_ret
      exact ⟨ret_int HX.out.symm, HA.out.2⟩
end Go.Proofs.YtchkpggdndnpjabGreatDoor
