/-
  The law's owner: looks.
-/
import Derived.Test.YtfgfjkchcnpakaaDoorFLent
import Derived.Test.YtfgfjkchcnpakaaDoorFFour
import Derived.Deep.RegionHeld
namespace Go.Proofs.YtfgfjkchcnpakaaDoor
set_option linter.unusedVariables false
open Go.RowKit

/-- Lists that were filled with their marks, and the owner that knows them. -/
def OwnrAt (w : World) (p : Nat) (E : List (Value × Nat)) : Prop :=
  ∃ ao c, w.cell? ⟨p, 0, none⟩ = some (.slice ao E.length c) ∧ E.length ≤ c ∧ ∀ (i : Nat) (v : Value) (n : Nat), E[i]? = some (v, n) → n ≤ 1048576 ∧ ∃ g, ao = some ⟨g, 0, none⟩ ∧ w.cell? ⟨g, i * 2, none⟩ = some v ∧ w.cell? ⟨g, i * 2 + 1, none⟩ = some (.int .i64 (n : Int)) ∧ ∃ len, len ≤ 5864062014700 ∧ SrcF w v (List.replicate len (mk (n : Int)))
theorem OwnrAt.below {w w' : World} {p : Nat} {E : List (Value × Nat)} (h : OwnrAt w p E) (hb : Below w.heap.size w w') : OwnrAt w' p E := by
  obtain ⟨ao, c, h0, h1, h2⟩ := h
  refine ⟨ao, c, by rw [hb.cell (p := ⟨p, 0, none⟩) (World.block_lt_of_cell? _ _ h0)]; exact h0, h1, fun i v n hi => ?_⟩
  obtain ⟨hn, g, e, c0, c1, len, hl, hs⟩ := h2 i v n hi
  exact ⟨hn, g, e, by rw [hb.cell (p := ⟨g, _, none⟩) (World.block_lt_of_cell? _ _ c0)]; exact c0, by rw [hb.cell (p := ⟨g, _, none⟩) (World.block_lt_of_cell? _ _ c1)]; exact c1, len, hl, hs.below hb⟩
set_option maxRecDepth 100000 in
set_option maxHeartbeats 4000000 in
theorem looks_any (p : Nat) (E : List (Value × Nat)) (w : World) (h : OwnrAt w p E) (hE : E.length ≤ 1048576) :
    Calls Tryd.prog 21 #[.pointer (some ⟨p, 0, none⟩)] w fun e w' => e = .returned (.bool true) ∧ Below w.heap.size w w' := by
  have HO : Hid (OwnrAt w p E) := h
  obtain ⟨ao, c, _, hc, _⟩ := h
  clear hc
  go_enter Tryd.func21, Tryd.ntmps21
  go_wp2
  go_loopw [3, 4] (fun i _ wr => ∃ k : Nat, k ≤ E.length ∧ i = .int .i64 (k : Int) ∧ Below w.heap.size w wr) (fun i _ _ => E.length - (intOf i).toNat)
  case atStart => exact ⟨0, Nat.zero_le _, rfl, Below.refl _ _⟩
  case round =>
    obtain ⟨k, hk, rfl, hb⟩ := hrel
    have HB : Hid (Below w.heap.size w wr) := hb
    obtain ⟨ao1, c1, d0, hc1, hents⟩ := HO.out.below hb
    have HEN : Hid _ := hents
    clear hb hents
    by_cases hlt : k < E.length
    · have hlt' : (k : Int) < (E.length : Int) := by omega
      obtain ⟨⟨v, n⟩, hEk⟩ : ∃ e, E[k]? = some e := ⟨_, List.getElem?_eq_getElem hlt⟩
      obtain ⟨hn, g, ea, e0, e1, len, hlen, hs⟩ := HEN.out k v n hEk
      subst ea
      obtain ⟨av, cv, rfl, hcv, _⟩ := hs
      rw [List.length_replicate] at *
      go_wp2
      go_loopw [4] (fun j wr2 => ∃ m : Nat, m ≤ len ∧ j = .int .i64 (m : Int) ∧ Below w.heap.size w wr2) (fun j _ => len - (intOf j).toNat)
      case atStart => exact ⟨0, Nat.zero_le _, rfl, HB.out⟩
      case round =>
        obtain ⟨m, hm, rfl, hb2⟩ := hrel
        clear d0 e0 e1 hc1 HEN
        obtain ⟨ao2, c2, d0, hc2, hents⟩ := HO.out.below hb2
        obtain ⟨_, g2, ea, e0, e1, len2, hlen2, hs2⟩ := hents k _ n hEk
        subst ea
        have HB2 : Hid (Below w.heap.size w wr) := hb2
        clear hents hb2
        obtain ⟨av', cv', ev, hcv', hrow⟩ := hs2
        rw [List.length_replicate] at ev
        injection ev with ev1 ev2 ev3
        subst ev1 ev2 ev3
        by_cases hlt2 : m < len
        · have hlt2' : (m : Int) < (len : Int) := by omega
          rcases hrow with h0 | ⟨b, off, e2, hrow⟩
          · have := congrArg List.length h0
            simp at this; omega
          subst e2
          obtain ⟨f0, f1⟩ := hrow m (mk (n : Int)) (by rw [List.getElem?_replicate, if_pos hlt2])
          clear hrow
          have hf0 : wr.cell? ⟨b, off + m * 2, none⟩ = some (.int .i64 (-(n : Int))) := f0
          have hf1 : wr.cell? ⟨b, off + m * 2 + 1, none⟩ = some (.string ⟨#[109, 105, 110, 101]⟩) := f1
          have HKP : Hid (∀ w', Below wr.heap.size wr w' → w'.cell? ⟨p, 0, none⟩ = some (.slice (some ⟨g2, 0, none⟩) E.length c2) ∧ w'.cell? ⟨g2, k * 2, none⟩ = some (.slice (some ⟨b, off, none⟩) len cv) ∧ w'.cell? ⟨g2, k * 2 + 1, none⟩ = some (.int .i64 (n : Int)) ∧ w'.cell? ⟨b, off + m * 2, none⟩ = some (.int .i64 (-(n : Int))) ∧ w'.cell? ⟨b, off + m * 2 + 1, none⟩ = some (.string ⟨#[109, 105, 110, 101]⟩)) := fun w' hb =>
            ⟨by rw [hb.cell (p := ⟨p, 0, none⟩) (World.block_lt_of_cell? _ _ d0)]; exact d0, by rw [hb.cell (p := ⟨g2, _, none⟩) (World.block_lt_of_cell? _ _ e0)]; exact e0, by rw [hb.cell (p := ⟨g2, _, none⟩) (World.block_lt_of_cell? _ _ e1)]; exact e1, by rw [hb.cell (p := ⟨b, _, none⟩) (World.block_lt_of_cell? _ _ hf0)]; exact hf0, by rw [hb.cell (p := ⟨b, _, none⟩) (World.block_lt_of_cell? _ _ hf1)]; exact hf1⟩
          have h1 := fun w' => mark_any (n : Int) w' (by omega) (by omega)
          clear f0 f1
          have hsame : ((-(n : Int)) == (-(n : Int))) = true := by simp
          go_upto_region 7 with fail
          have hB1 : Below wr.heap.size wr wr.drew := (Below.refl _ wr).drew
          go_region_held (fun w' => Below wr.heap.size wr w' ∧ w'.cell? ⟨p, 0, none⟩ = some (.slice (some ⟨g2, 0, none⟩) E.length c2) ∧ w'.cell? ⟨g2, k * 2, none⟩ = some (.slice (some ⟨b, off, none⟩) len cv) ∧ w'.cell? ⟨g2, k * 2 + 1, none⟩ = some (.int .i64 (n : Int)) ∧ w'.cell? ⟨b, off + m * 2, none⟩ = some (.int .i64 (-(n : Int))) ∧ w'.cell? ⟨b, off + m * 2 + 1, none⟩ = some (.string ⟨#[109, 105, 110, 101]⟩)) (first | exact ⟨hB3, HKP.out _ hB3⟩ | exact ⟨hB1, HKP.out _ hB1⟩) (first | (go_at_call 45; refine (h1 _).mono ?_; rintro e w3 ⟨rfl, hb3⟩; have hB3 : Below wr.heap.size wr w3 := hB1.trans (hb3.mono hB1.size); clear hb3))
          all_goals (have HB3 : Hid (Below w.heap.size w w3) := HB2.out.trans (hB3.mono HB2.out.size))
          all_goals clear hB3 hB1 d0 e0 e1 hf0 hf1 HKP h1
          all_goals go_wp2
          all_goals exact ⟨⟨m + 1, by omega, by go_num, HB3.out⟩, by simp [intOf]; omega⟩
        · obtain rfl : m = len := by omega
          go_wp2
          go_roundw
          case rel => exact ⟨k + 1, by omega, by go_num, HB2.out⟩
          case measure => simp [intOf]; omega
    · go_wp2
      go_ret
      exact ⟨rfl, HB.out⟩
end Go.Proofs.YtfgfjkchcnpakaaDoor
