/-
  The law's outs: looks.
-/
import Derived.Test.YtfgfjkchcnpakaaDoorFOuts2
import Derived.Deep.RegionHeld3
namespace Go.Proofs.YtfgfjkchcnpakaaDoor
set_option linter.unusedVariables false
open Go.RowKit

/-- An entry that reads as its owner wrote it. -/
def EntO (w : World) (p r : Value) (n : Int) : Prop := -2000 ≤ n ∧ n ≤ 0 ∧ (∃ l, l ≤ 5864062014700 ∧ SrcZ w p l n) ∧ ∃ m, m ≤ 2000 ∧ SrcQ w r m n
def OutAt (w : World) (q : Nat) (E : List (Value × Value × Int)) : Prop :=
  ∃ ao c, w.cell? ⟨q, 0, none⟩ = some (.slice ao E.length c) ∧ E.length ≤ c ∧ ∀ (i : Nat) (p r : Value) (n : Int), E[i]? = some (p, r, n) → EntO w p r n ∧ ∃ g, ao = some ⟨g, 0, none⟩ ∧ w.cell? ⟨g, i * 3, none⟩ = some p ∧ w.cell? ⟨g, i * 3 + 1, none⟩ = some r ∧ w.cell? ⟨g, i * 3 + 2, none⟩ = some (.int .i64 n)
theorem SrcZ.lt {w : World} {v : Value} {l : Nat} {n : Int} (h : SrcZ w v l n) : l = 0 ∨ ∀ k, v.ownBlock = some k → k < w.heap.size := by
  obtain ⟨ao, c, rfl, _, h | ⟨b, rfl, h⟩⟩ := h
  · exact .inl h
  · by_cases h0 : l = 0
    · exact .inl h0
    · right
      intro k hk
      have e : b = k := by simpa [Value.ownBlock] using hk
      subst e
      exact World.block_lt_of_cell? _ _ (h 0 (by omega))
theorem SrcZ.below {w w' : World} {v : Value} {l : Nat} {n : Int} (h : SrcZ w v l n) (hb : Below w.heap.size w w') : SrcZ w' v l n := by
  rcases h.lt with h0 | hl
  · obtain ⟨ao, c, e, hc, _⟩ := h
    exact ⟨ao, c, e, hc, .inl h0⟩
  · exact h.of_block (fun k hk => hb.block k (hl k hk))
theorem SrcQ.below {w w' : World} {v : Value} {l : Nat} {n : Int} (h : SrcQ w v l n) (hb : Below w.heap.size w w') : SrcQ w' v l n := by
  obtain ⟨ao, c, rfl, hc, h | ⟨b, rfl, h⟩⟩ := h
  · exact ⟨ao, c, rfl, hc, .inl h⟩
  · refine ⟨_, c, rfl, hc, .inr ⟨b, rfl, fun j hj => ?_⟩⟩
    obtain ⟨g, h1, h2⟩ := h j hj
    exact ⟨g, by rw [hb.cell (p := ⟨b, j, none⟩) (World.block_lt_of_cell? _ _ h1)]; exact h1, (hb.block g (lt_of_heap h2)).trans h2⟩
theorem EntO.below {w w' : World} {p r : Value} {n : Int} (h : EntO w p r n) (hb : Below w.heap.size w w') : EntO w' p r n := by
  obtain ⟨h1, h2, ⟨l, h3, h4⟩, m, h5, h6⟩ := h
  exact ⟨h1, h2, ⟨l, h3, h4.below hb⟩, m, h5, h6.below hb⟩
theorem OutAt.below {w w' : World} {q : Nat} {E : List (Value × Value × Int)} (h : OutAt w q E) (hb : Below w.heap.size w w') : OutAt w' q E := by
  obtain ⟨ao, c, h0, h1, h2⟩ := h
  refine ⟨ao, c, by rw [hb.cell (p := ⟨q, 0, none⟩) (World.block_lt_of_cell? _ _ h0)]; exact h0, h1, fun i p r n hi => ?_⟩
  obtain ⟨he, g, e, c0, c1, c2⟩ := h2 i p r n hi
  exact ⟨he.below hb, g, e, by rw [hb.cell (p := ⟨g, _, none⟩) (World.block_lt_of_cell? _ _ c0)]; exact c0, by rw [hb.cell (p := ⟨g, _, none⟩) (World.block_lt_of_cell? _ _ c1)]; exact c1, by rw [hb.cell (p := ⟨g, _, none⟩) (World.block_lt_of_cell? _ _ c2)]; exact c2⟩
set_option maxRecDepth 100000 in
set_option maxHeartbeats 4000000 in
theorem olooks_any (q : Nat) (E : List (Value × Value × Int)) (w : World) (h : OutAt w q E) (hE : E.length ≤ 1000) :
    Calls Tryd.prog 22 #[.pointer (some ⟨q, 0, none⟩)] w fun e w' => e = .returned (.bool true) ∧ Below w.heap.size w w' := by
  have HO : Hid (OutAt w q E) := h
  clear h
  go_enter Tryd.func22, Tryd.ntmps22
  go_wp2
  go_loopw [3] (fun i wr => ∃ k : Nat, k ≤ E.length ∧ i = .int .i64 (k : Int) ∧ Below w.heap.size w wr) (fun i _ => E.length - (intOf i).toNat)
  case atStart => exact ⟨0, Nat.zero_le _, rfl, Below.refl _ _⟩
  case round =>
    obtain ⟨k, hk, rfl, hb⟩ := hrel
    have HB : Hid (Below w.heap.size w wr) := hb
    obtain ⟨ao1, c1, d0, hc1, hents⟩ := HO.out.below hb
    have HEN : Hid _ := hents
    clear hb hents
    by_cases hlt : k < E.length
    · have hlt' : (k : Int) < (E.length : Int) := by omega
      obtain ⟨⟨p, r, n⟩, hEk⟩ : ∃ e, E[k]? = some e := ⟨_, List.getElem?_eq_getElem hlt⟩
      obtain ⟨⟨hn0, hn1, ⟨lp, hlp, hz⟩, mr, hmr, hu⟩, g, ea, e0, e1, e2⟩ := HEN.out k p r n hEk
      subst ea
      obtain ⟨ap, cp, rfl, hcp, _⟩ := hz
      obtain ⟨ar, cr, rfl, hcr, _⟩ := hu
      have HE : Hid (SrcZ wr (.slice ap lp cp) lp n ∧ SrcQ wr (.slice ar mr cr) mr n) := by
        obtain ⟨⟨_, _, ⟨lp2, _, hz2⟩, mr2, _, hu2⟩, _⟩ := HEN.out k _ _ n hEk
        obtain ⟨_, _, e4, _⟩ := id hz2
        obtain ⟨_, _, e5, _⟩ := id hu2
        injection e4 with _ e4 _
        injection e5 with _ e5 _
        subst e4 e5
        exact ⟨hz2, hu2⟩
      clear HEN
      have HX : Hid (Below wr.heap.size wr (wr.alloc (.cells #[.slice ap lp cp, .slice ar mr cr, .int .i64 n] 91))) := (Below.refl _ wr).alloc (Nat.le_refl _) _
      go_wp2
      clear d0 e0 e1 e2
      have HXC : Hid (∀ w', Below (wr.alloc (.cells #[.slice ap lp cp, .slice ar mr cr, .int .i64 n] 91)).heap.size (wr.alloc (.cells #[.slice ap lp cp, .slice ar mr cr, .int .i64 n] 91)) w' → (w'.cell? ⟨wr.heap.size, 0, none⟩ = some (.slice ap lp cp) ∧ w'.cell? ⟨wr.heap.size, 1, none⟩ = some (.slice ar mr cr) ∧ w'.cell? ⟨wr.heap.size, 2, none⟩ = some (.int .i64 n)) ∧ SrcZ w' (.slice ap lp cp) lp n ∧ SrcQ w' (.slice ar mr cr) mr n ∧ Below w.heap.size w w') := fun w' hb => by
        have t := heap_alloc_new wr (.cells #[.slice ap lp cp, .slice ar mr cr, .int .i64 n] 91)
        have t2 := (hb.block wr.heap.size (by simp)).trans t
        exact ⟨⟨by rw [cell_of_row w' _ _ _ _ _ t2]; rfl, by rw [cell_of_row w' _ _ _ _ _ t2]; rfl, by rw [cell_of_row w' _ _ _ _ _ t2]; rfl⟩, (HE.out.1.below HX.out).below hb, (HE.out.2.below HX.out).below hb, (HB.out.trans (HX.out.mono HB.out.size)).trans (hb.mono (by have := HB.out.size; simp; omega))⟩
      generalize hwx : wr.alloc (.cells #[.slice ap lp cp, .slice ar mr cr, .int .i64 n] 91) = wx at *
      generalize wr.heap.size = X at *
      clear hwx HX HE
      have hnn : (n != n) = false := by simp
      go_loopw [5] (fun i w2 => ∃ j : Nat, j ≤ lp ∧ i = .int .i64 (j : Int) ∧ Below wx.heap.size wx w2) (fun i _ => lp - (intOf i).toNat)
      case atStart => exact ⟨0, Nat.zero_le _, rfl, Below.refl _ _⟩
      case round =>
        obtain ⟨j, hj, rfl, hb2⟩ := hrel
        obtain ⟨⟨x0, x1, x2⟩, hz, hu, hbw⟩ := HXC.out _ hb2
        by_cases hlt2 : j < lp
        · have hlt2' : (j : Int) < (lp : Int) := by omega
          obtain ⟨ao', c', e1, _, h0 | ⟨b, e2, hcl⟩⟩ := hz
          · omega
          injection e1 with e1 _ e9
          subst e9
          rw [e2] at e1
          subst e1
          have hcj := hcl j hlt2
          have HB2 : Hid (Below wx.heap.size wx wr) := hb2
          clear hcl hu hbw hb2 e2
          go_wp2
          go_quiet (fail)
          go_wp2
          go_roundw
          case rel => exact ⟨j + 1, by omega, by go_num, below_drewN HB2.out _⟩
          case measure => simp [intOf]; omega
        · have hjl : lp = j := by omega
          subst hjl
          have HB2 : Hid (Below wx.heap.size wx wr) := hb2
          clear hz hu hbw hb2
          go_wp2
          clear x0 x1 x2
          go_loopw [6] (fun i w3 => ∃ j : Nat, j ≤ mr ∧ i = .int .i64 (j : Int) ∧ Below wx.heap.size wx w3) (fun i _ => mr - (intOf i).toNat)
          case atStart => exact ⟨0, Nat.zero_le _, rfl, HB2.out⟩
          case round =>
            clear HB2
            obtain ⟨j, hj3, rfl, hb3⟩ := hrel
            obtain ⟨⟨x0, x1, x2⟩, hz, hu, hbw⟩ := HXC.out _ hb3
            by_cases hlt3 : j < mr
            · have hlt3' : (j : Int) < (mr : Int) := by omega
              obtain ⟨ao', c', e1, _, h0 | ⟨b, e2, hcl⟩⟩ := hu
              · omega
              injection e1 with e1 _ e9
              subst e9
              rw [e2] at e1
              subst e1
              obtain ⟨gg, hcj, hblk⟩ := hcl j hlt3
              have HKP : Hid (∀ w', Below wr.heap.size wr w' → w'.cell? ⟨X, 1, none⟩ = some (.slice (some ⟨b, 0, none⟩) mr cr) ∧ w'.cell? ⟨X, 2, none⟩ = some (.int .i64 n) ∧ w'.cell? ⟨b, j, none⟩ = some (.slice (some ⟨gg, 0, none⟩) 1 1) ∧ w'.cell? ⟨gg, 0, none⟩ = some (.int .i64 (-n)) ∧ w'.cell? ⟨gg, 1, none⟩ = some (.string ⟨#[109, 105, 110, 101]⟩)) := fun w' hb => by
                have t := (hb.block gg (lt_of_heap hblk)).trans hblk
                exact ⟨by rw [hb.cell (p := ⟨X, _, none⟩) (World.block_lt_of_cell? _ _ x1)]; exact x1, by rw [hb.cell (p := ⟨X, _, none⟩) (World.block_lt_of_cell? _ _ x2)]; exact x2, by rw [hb.cell (p := ⟨b, _, none⟩) (World.block_lt_of_cell? _ _ hcj)]; exact hcj, by rw [cell_of_row w' _ _ _ _ _ t]; rfl, by rw [cell_of_row w' _ _ _ _ _ t]; rfl⟩
              have HB3 : Hid (Below wx.heap.size wx wr) := hb3
              have h1 := fun w' => mark_any n w' (by omega) (by omega)
              have hsame : ((-n) == (-n)) = true := by simp
              have hB1 : Below wr.heap.size wr wr.drew := (Below.refl _ wr).drew
              clear hcl hbw hb3 e2 hblk hz
              go_upto_region 13 with fail
              go_region_held3 (fun w' => w'.cell? ⟨X, 1, none⟩ = some (.slice (some ⟨b, 0, none⟩) mr cr) ∧ w'.cell? ⟨X, 2, none⟩ = some (.int .i64 n) ∧ w'.cell? ⟨b, j, none⟩ = some (.slice (some ⟨gg, 0, none⟩) 1 1) ∧ w'.cell? ⟨gg, 0, none⟩ = some (.int .i64 (-n)) ∧ w'.cell? ⟨gg, 1, none⟩ = some (.string ⟨#[109, 105, 110, 101]⟩)) (first | exact HKP.out _ hB3 | exact HKP.out _ hB1) (first | (go_at_call 45; refine (h1 _).mono ?_; rintro e w3 ⟨rfl, hb3⟩; have hB3 : Below wr.heap.size wr w3 := hB1.trans (hb3.mono hB1.size); clear hb3))
              all_goals (have HB4 : Hid (Below wx.heap.size wx w3) := HB3.out.trans (hB3.mono HB3.out.size))
              all_goals clear hB3 hB1 x0 x1 x2 hcj HKP h1
              all_goals go_wp2
              all_goals go_roundw
              all_goals first | exact ⟨j + 1, by omega, by go_num, HB4.out⟩ | (simp [intOf]; omega)
            · have hjm : mr = j := by omega
              subst hjm
              have HBW : Hid (Below w.heap.size w wr) := hbw
              clear hz hu hbw hb3
              go_wp2
              go_roundw
              case rel => exact ⟨k + 1, by omega, by go_num, HBW.out⟩
              case measure => simp [intOf]; omega
    · go_wp2
      go_ret
      exact ⟨rfl, HB.out⟩
end Go.Proofs.YtfgfjkchcnpakaaDoor
