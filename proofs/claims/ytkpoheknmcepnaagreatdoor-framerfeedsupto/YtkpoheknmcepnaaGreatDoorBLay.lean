/-
  bin: the layout of a kind.
-/
import Derived.Test.YtkpoheknmcepnaaGreatDoorBForms
import Derived.Test.YtkpoheknmcepnaaGreatDoorBPl
import Derived.Deep.DeepCutAuto
import Derived.Deep.AppendLies
namespace Go.Proofs.YtkpoheknmcepnaaGreatDoor
set_option linter.unusedVariables false
open Go.RowKit Go.Great

/-- The places, as they lie in memory. -/
def plC (B : Nat) : List Nat → Nat → List Value
  | [], _ => []
  | j :: l, a => .int .i64 (tNum.getD j 0) :: fIf j B :: .int .i64 (a : Nat) :: plC B l (a + wd j)
theorem plC_app (B : Nat) : ∀ (l m : List Nat) (a : Nat), plC B (l ++ m) a = plC B l a ++ plC B m (a + wS l)
  | [], m, a => by simp [plC, wS]
  | j :: l, m, a => by
    show _ :: _ :: _ :: plC B (l ++ m) (a + wd j) = _
    rw [plC_app B l m]
    simp [plC, wS, Nat.add_assoc]
theorem plC_len (B : Nat) : ∀ (l : List Nat) (a : Nat), (plC B l a).length = l.length * 3
  | [], _ => rfl
  | j :: l, a => by show (plC B l (a + wd j)).length + 3 = (l.length + 1) * 3; rw [plC_len B l]; omega
theorem plC_at (B : Nat) : ∀ (l : List Nat) (a i j : Nat), l[i]? = some j → (plC B l a)[i * 3]? = some (.int .i64 (tNum.getD j 0)) ∧ (plC B l a)[i * 3 + 1]? = some (fIf j B) ∧ (plC B l a)[i * 3 + 2]? = some (.int .i64 ((a + wS (l.take i) : Nat) : Int))
  | [], a, i, j, h => by simp at h
  | x :: l, a, 0, j, h => by
    simp at h; subst h
    exact ⟨rfl, rfl, by simp [plC, wS]⟩
  | x :: l, a, i + 1, j, h => by
    obtain ⟨h1, h2, h3⟩ := plC_at B l (a + wd x) i j (by simpa using h)
    rw [show (i + 1) * 3 = i * 3 + 3 by omega]
    refine ⟨h1, h2, ?_⟩
    rw [List.take_succ_cons]
    show (plC B l (a + wd x))[i * 3 + 2]? = _
    rw [h3]
    simp [wS, Nat.add_assoc]
theorem plC_one (B : Nat) : ∀ (l : List Nat) (a : Nat), ∀ u ∈ plC B l a, u.oneCell' = true
  | [], _, u, h => by cases h
  | j :: l, a, u, h => by
    simp only [plC, List.mem_cons] at h
    rcases h with rfl | rfl | rfl | h
    · rfl
    · rfl
    · rfl
    · exact plC_one B l _ u h
theorem infoP : (Tryz.prog.info? 85).map (fun i => (i.zero, i.size, i.bytes)) = some (some (.agg #[.int .i64 0, .nilIface, .int .i64 0]), 3, 32) := by kernel_rfl
theorem lay_set0 {w : World} {L : Nat} {a b c v : Value} {t : TypeId} (h : w.heap[L]? = some (.cells #[a, b, c] t (0, 0))) : (w.setCell ⟨L, 0, none⟩ v).heap[L]? = some (.cells #[v, b, c] t (0, 0)) := by
  rw [setCell_eq_setRow w L 0 _ _ _ v h]; exact setRow_heap w L _ _ t (0, 0) h
theorem lay_set1 {w : World} {L : Nat} {a b c v : Value} {t : TypeId} (h : w.heap[L]? = some (.cells #[a, b, c] t (0, 0))) : (w.setCell ⟨L, 1, none⟩ v).heap[L]? = some (.cells #[a, v, c] t (0, 0)) := by
  rw [setCell_eq_setRow w L 1 _ _ _ v h]; exact setRow_heap w L _ _ t (0, 0) h
theorem lay_set2 {w : World} {L : Nat} {a b c v : Value} {t : TypeId} (h : w.heap[L]? = some (.cells #[a, b, c] t (0, 0))) : (w.setCell ⟨L, 2, none⟩ v).heap[L]? = some (.cells #[a, b, v] t (0, 0)) := by
  rw [setCell_eq_setRow w L 2 _ _ _ v h]; exact setRow_heap w L _ _ t (0, 0) h
theorem lay_cell {w : World} {L : Nat} {cs : Array Value} {t : TypeId} (h : w.heap[L]? = some (.cells cs t (0, 0))) {k : Nat} {v : Value} (hk : cs[k]? = some v) : w.cell? ⟨L, k, none⟩ = some v := by
  rw [cell_of_row w L _ cs _ _ h]; exact hk
theorem own_keep {w w' : World} {base size n : Nat} {e : TypeId} {v : Value} {xs : List Value} (h : w.ownsRow base e size v n xs) (hk : ∀ g, v.ownBlock = some g → w'.heap[g]? = w.heap[g]?) : w'.ownsRow base e size v n xs := by
  obtain ⟨h1, h2⟩ := h
  refine ⟨h1, ?_⟩
  rcases h2 with h | ⟨g, cap, cur, rfl, r1, r2, r3, r4, r5, r6⟩
  · exact .inl h
  · exact .inr ⟨g, cap, cur, rfl, r1, (hk g rfl).trans r2, r3, r4, r5, r6⟩
theorem own_ty {w : World} {base size n : Nat} {e t : TypeId} {v : Value} {xs : List Value} {L : Nat} {cs : Array Value} (h : w.ownsRow base e size v n xs) (hL : w.heap[L]? = some (.cells cs t (0, 0))) (ht : t ≠ e) : v.ownBlock ≠ some L := by
  obtain ⟨h1, h2⟩ := h
  rcases h2 with ⟨rfl, _⟩ | ⟨g, cap, cur, rfl, r1, r2, r3, r4, r5, r6⟩
  · intro e; cases e
  · intro e
    have : g = L := by simpa [Value.ownBlock] using e
    subst this
    rw [hL] at r2
    injection r2 with r2
    injection r2 with _ r2
    exact ht r2
theorem own_form3 {w : World} {B e s n : Nat} {v : Value} {xs : List Value} (h : w.ownsRow B e s v n xs) : ∃ ao cv, v = .slice ao n cv := by
  rcases h.2 with ⟨h1, h2⟩ | ⟨g, cap, _, h1, _⟩
  · exact ⟨none, 0, by rw [h1, h2]⟩
  · exact ⟨_, _, h1⟩
theorem own_low {w w' : World} {base size n B : Nat} {e : TypeId} {v : Value} {xs : List Value} (h : w.ownsRow base e size v n xs) (hb : Below B w w') (hB : w.heap.size ≤ B) : w'.ownsRow base e size v n xs :=
  own_keep h fun g hg => hb.block g (Nat.lt_of_lt_of_le (h.lt g hg).2 hB)
/-- What there is when k rows have been seen. -/
structure LS (w wr : World) (B : Nat) (z : Int) (k : Nat) (ao : Option Addr) (cv : Nat) : Prop where
  lay : wr.heap[w.heap.size + 1]? = some (.cells #[.slice ao (jsU z k).length cv, .int .i64 ((10 + wS (jsU z k) : Nat) : Int), .int .i64 0] 75 (0, 0))
  own : wr.ownsRow w.heap.size 85 3 (.slice ao (jsU z k).length cv) (jsU z k).length (plC B (jsU z k) 10)
  below : Below w.heap.size w wr
  res : wr.heap[w.heap.size]? = some (.cells #[.slice none 0 0, .int .i64 0, .int .i64 0] 75 (0, 0))
theorem LS.low {w wr w' : World} {B : Nat} {z : Int} {k : Nat} {ao : Option Addr} {cv : Nat} (h : LS w wr B z k ao cv) (hb : Below wr.heap.size wr w') : LS w w' B z k ao cv :=
  ⟨(hb.block _ (Array.getElem?_eq_some_iff.1 h.lay).1).trans h.lay, own_low h.own hb (Nat.le_refl _), h.below.trans (hb.mono h.below.size), (hb.block _ (Array.getElem?_eq_some_iff.1 h.res).1).trans h.res⟩
/-- Where the places lie. -/
def PlAt (w : World) (base : Nat) (v : Value) (B : Nat) (l : List Nat) : Prop := ∃ ao cap, v = .slice ao l.length cap ∧ l.length ≤ cap ∧ (l = [] ∨ ∃ g, ao = some ⟨g, 0, none⟩ ∧ base ≤ g ∧ ∀ m u, (plC B l 10)[m]? = some u → w.cell? ⟨g, m, none⟩ = some u)
theorem PlAt.of {w : World} {base B : Nat} {v : Value} {l : List Nat} (h : w.ownsRow base 85 3 v l.length (plC B l 10)) : PlAt w base v B l := by
  have hlt := h.lt
  obtain ⟨h1, h2⟩ := h
  rcases h2 with ⟨rfl, h0⟩ | ⟨g, cap, cur, rfl, r1, r2, r3, r4, r5, r6⟩
  · exact ⟨none, 0, by rw [h0], by omega, .inl (List.length_eq_zero_iff.1 h0)⟩
  · refine ⟨_, cap, rfl, r3, .inr ⟨g, rfl, (hlt g rfl).1, fun m u hu => ?_⟩⟩
    have hm : m < (plC B l 10).length := (List.getElem?_eq_some_iff.1 hu).1
    rw [plC_len] at hm
    rw [← r6, List.getElem?_take, if_pos (by omega)] at hu
    rw [cell_of_row w g _ cur _ _ r2]; simpa using hu
theorem PlAt.keep {w w' : World} {base B : Nat} {v : Value} {l : List Nat} (h : PlAt w base v B l) (hk : ∀ g, base ≤ g → g < w.heap.size → w'.heap[g]? = w.heap[g]?) : PlAt w' base v B l := by
  obtain ⟨ao, cap, h1, h2, h3⟩ := h
  refine ⟨ao, cap, h1, h2, ?_⟩
  rcases h3 with h3 | ⟨g, h4, h5, h6⟩
  · exact .inl h3
  · refine .inr ⟨g, h4, h5, fun m u hu => ?_⟩
    have hc := h6 m u hu
    have hg := World.block_lt_of_cell? _ _ hc
    unfold World.cell? at hc ⊢
    dsimp only at hc ⊢
    rw [hk g h5 hg]; exact hc
def layE (z : Int) : Nat := if js z = [] then 0 else 10 + wS (js z)
theorem jsU_len (z : Int) : ∀ k, (jsU z k).length ≤ k
  | 0 => by simp [jsU]
  | k + 1 => by
    have := jsU_len z k
    unfold jsU
    split <;> simp <;> omega
theorem wSU_le (z : Int) : ∀ k, wS (jsU z k) ≤ k * 60
  | 0 => by simp [jsU, wS]
  | k + 1 => by
    have := wSU_le z k
    have h60 := wd_le (k + 1)
    unfold jsU
    split
    · rw [wS_app]; simp [wS]; omega
    · simp; omega
set_option maxRecDepth 100000 in
set_option maxHeartbeats 1000000 in
theorem layoutOf_any (z : Int) (B : Nat) (w : World) (hc : w.cell? ⟨B, 0, none⟩ = some (.int .i64 z)) :
    Calls Tryz.prog 24 #[.pointer (some ⟨B, 0, none⟩)] w fun e w' => ∃ v, e = .returned (.agg #[v, .int .i64 (layE z : Int), .int .i64 (sizeN z : Int)]) ∧ PlAt w' w.heap.size v B (js z) ∧ Below w.heap.size w w' := by
  obtain ⟨i0, hi, hz0, hz1, hz2⟩ := info_parts infoP
  have hBlt := World.block_lt_of_cell? _ _ hc
  go_enter Tryz.func24, Tryz.ntmps24
  go_wp2_with (go_at_call 60; fail)
  refine (brows_any B _).mono ?_
  rintro e w2 ⟨rfl, hb2⟩
  have HL0 : Hid (LS w w2 B z 0 none 0) := by
    have hb0 : Below w.heap.size w ((w.alloc (Obj.cells #[Value.slice none 0 0, Value.int IntKind.i64 0, Value.int IntKind.i64 0] 75)).alloc (Obj.cells #[Value.slice none 0 0, Value.int IntKind.i64 10, Value.int IntKind.i64 0] 75)) := ((Below.refl _ w).alloc (Nat.le_refl _) _).alloc (by simp) _
    refine ⟨?_, World.ownsRow_nil _ _ _ 3, hb0.trans (hb2.mono (by simp; omega)), ?_⟩
    rotate_left
    · rw [hb2.block w.heap.size (by simp; omega)]
      have := (((Below.refl _ (w.alloc (Obj.cells #[Value.slice none 0 0, Value.int IntKind.i64 0, Value.int IntKind.i64 0] 75))).alloc (Nat.le_refl _) (Obj.cells #[Value.slice none 0 0, Value.int IntKind.i64 10, Value.int IntKind.i64 0] 75)).block w.heap.size (by simp)).trans (heap_alloc_new w _)
      exact this
    rw [hb2.block (w.heap.size + 1) (by simp)]
    have := heap_alloc_new (w.alloc (Obj.cells #[Value.slice none 0 0, Value.int IntKind.i64 0, Value.int IntKind.i64 0] 75)) (Obj.cells #[Value.slice none 0 0, Value.int IntKind.i64 10, Value.int IntKind.i64 0] 75)
    simpa [jsU, wS] using this
  clear hb2
  generalize hRC : (bRows B).toArray = RC
  go_wp2
  go_loopw [5, 10] (fun x5 i wr => ∃ (k : Nat) (ao : Option Addr) (cv : Nat), k ≤ 41 ∧ i = .int .i64 k ∧ Hid (LS w wr B z k ao cv)) (fun _ i _ => 41 - (intOf i).toNat)
  case atStart => exact ⟨0, none, 0, by omega, rfl, HL0⟩
  case round =>
    obtain ⟨k, ao, cv, hk, rfl, HS⟩ := hrel
    clear HL0
    by_cases hlt : k < 41
    · have hlt' : (k : Int) < 41 := by omega
      have hx := bindex_at k hlt B
      rw [hRC] at hx
      clear hRC
      have hz : wr.cell? ⟨B, 0, none⟩ = some (.int .i64 z) := by rw [HS.out.below.cell (p := ⟨B, 0, none⟩) hBlt]; exact hc
      have hBr : Hid (B < wr.heap.size) := Nat.lt_of_lt_of_le hBlt HS.out.below.size
      have hLr : Hid (w.heap.size + 1 < wr.heap.size) := (Array.getElem?_eq_some_iff.1 HS.out.lay).1
      have HA := fun w' => Has_any z (tNum.getD (k + 1) 0) w'
      have HSz : Hid (∀ w', Calls Tryz.prog (fSz (k + 1)) #[fVal (k + 1) B] w' fun e w2 => e = .returned (.int .i64 (wd (k + 1) : Nat)) ∧ Below w'.heap.size w' w2) := fun w' => size_any (k + 1) (by omega) B w'
      have hcf := cfSz (k + 1) (by omega)
      have hmt := mSz (k + 1) (by omega) B
      have HJ : Hid (jsU z (k + 1) = jsU z k ++ if hasB z (k + 1) then [k + 1] else []) := rfl
      have HH : Hid (hasB z (k + 1) = decide (0 < hasN z (tNum.getD (k + 1) 0))) := rfl
      have HP : Hid (∀ a, plC B [k + 1] a = [.int .i64 (tNum.getD (k + 1) 0), .iface (fTy (k + 1)) (fVal (k + 1) B), .int .i64 (a : Nat)]) := fun a => rfl
      have HW : Hid (wS [k + 1] = wd (k + 1)) := rfl
      have hwd := wd_le (k + 1)
      have hbx : (bRow B (k + 1)).toArray = #[.int .i64 (tNum.getD (k + 1) 0), .iface (fTy (k + 1)) (fVal (k + 1) B)] := rfl
      rw [hbx] at hx
      clear hbx
      generalize tNum.getD (k + 1) 0 = N at *
      generalize fTy (k + 1) = T at *
      generalize fVal (k + 1) B = V at *
      generalize fSz (k + 1) = F at *
      generalize wd (k + 1) = W at *
      generalize hasN z N = H at *
      go_upto_region 5 with fail
      generalize hW : wr.alloc _ = W1
      have hb1 : Below wr.heap.size wr W1 := by rw [← hW]; exact (Below.refl _ wr).alloc (Nat.le_refl _) _
      have r0 : W1.cell? ⟨wr.heap.size, 0, none⟩ = some (.int .i64 N) := by rw [← hW]; exact World.cell?_alloc_new ..
      have r1 : W1.cell? ⟨wr.heap.size, 1, none⟩ = some (.iface T V) := by rw [← hW]; exact World.cell?_alloc_new ..
      have HS1 : Hid (LS w W1 B z k ao cv ∧ wr.heap.size < W1.heap.size) := ⟨HS.out.low hb1, World.block_lt_of_cell? _ _ r0⟩
      have HK : Hid (∀ w', Below W1.heap.size W1 w' → w'.cell? ⟨B, 0, none⟩ = some (.int .i64 z) ∧ w'.cell? ⟨wr.heap.size, 0, none⟩ = some (.int .i64 N) ∧ w'.cell? ⟨wr.heap.size, 1, none⟩ = some (.iface T V)) := fun w' hb => by
        rw [hb.cell (p := ⟨B, 0, none⟩) (Nat.lt_of_lt_of_le hBr.out hb1.size), hb.cell (p := ⟨wr.heap.size, 0, none⟩) HS1.out.2, hb.cell (p := ⟨wr.heap.size, 1, none⟩) HS1.out.2, hb1.cell (p := ⟨B, 0, none⟩) hBr.out]
        exact ⟨hz, r0, r1⟩
      have hB1 : Below W1.heap.size W1 W1.drew := below_drewN (Below.refl _ _) 1
      clear hW hz r0 r1 hb1
      by_cases hp : 0 < H
      · have hpd : decide (0 < H) = true := decide_eq_true hp
        have HJ1 : Hid (jsU z (k + 1) = jsU z k ++ [k + 1]) := by show _ = _; rw [HJ.out, HH.out, hpd, if_pos rfl]
        clear HJ HH hpd
        go_region_held3 (fun w' => w'.cell? ⟨B, 0, none⟩ = some (.int .i64 z) ∧ w'.cell? ⟨wr.heap.size, 0, none⟩ = some (.int .i64 N) ∧ w'.cell? ⟨wr.heap.size, 1, none⟩ = some (.iface T V)) (first | exact HK.out _ hB3 | exact HK.out _ hB1) (first | (go_at_call 61; refine (HA _).mono ?_; rintro e w3 ⟨rfl, hb3⟩; have hB3 : Below W1.heap.size W1 w3 := hB1.trans (hb3.mono hB1.size); clear hb3))
        obtain ⟨_, r0, r1⟩ := HK.out _ hB3
        have HS3 : Hid (LS w w3 B z k ao cv) := HS1.out.1.low hB3
        have l0 := lay_cell (k := 0) HS3.out.lay rfl
        have l1 := lay_cell (k := 1) HS3.out.lay rfl
        have hjl := jsU_len z k
        have hws := wSU_le z k
        have HX : Hid (∀ w5 v', (w3.alloc (.cells #[.int .i64 N, .iface T V, .int .i64 ((10 + wS (jsU z k) : Nat) : Int)] 85)).grownBy w5 (Value.slice ao (jsU z k).length cv).ownBlock → w5.ownsRow w.heap.size 85 3 v' ((jsU z k).length + 1) (plC B (jsU z k) 10 ++ [.int .i64 N, .iface T V, .int .i64 ((10 + wS (jsU z k) : Nat) : Int)]) →
            w5.heap[w.heap.size + 1]? = some (.cells #[.slice ao (jsU z k).length cv, .int .i64 ((10 + wS (jsU z k) : Nat) : Int), .int .i64 0] 75 (0, 0)) ∧ w5.cell? ⟨wr.heap.size, 1, none⟩ = some (.iface T V) ∧ Below w.heap.size w w5 ∧ w5.ownsRow w.heap.size 85 3 v' ((jsU z k).length + 1) (plC B (jsU z (k + 1)) 10) ∧ w5.heap[w.heap.size]? = some (.cells #[.slice none 0 0, .int .i64 0, .int .i64 0] 75 (0, 0))) := fun w5 v' hg ho => by
          have hne := own_ty HS3.out.own HS3.out.lay (by decide)
          have hne2 : (Value.slice ao (jsU z k).length cv).ownBlock ≠ some wr.heap.size := fun e => by
            have := (HS.out.own.lt _ e).2
            omega
          have hl3 : w.heap.size + 1 < w3.heap.size := (Array.getElem?_eq_some_iff.1 HS3.out.lay).1
          have hr3 : wr.heap.size < w3.heap.size := Nat.lt_of_lt_of_le HS1.out.2 hB3.size
          have hb4 : Below w3.heap.size w3 (w3.alloc (.cells #[.int .i64 N, .iface T V, .int .i64 ((10 + wS (jsU z k) : Nat) : Int)] 85)) := (Below.refl _ w3).alloc (Nat.le_refl _) _
          refine ⟨((hg.block _ (Nat.lt_of_lt_of_le hl3 hb4.size) hne.symm).trans (hb4.block _ hl3)).trans HS3.out.lay, ?_, below_grownBy (HS3.out.below.trans (hb4.mono HS3.out.below.size)) hg (Nat.le_refl _) (fun q hq => (HS3.out.own.lt q hq).1), ?_, ((hg.block _ (Nat.lt_of_lt_of_le (Array.getElem?_eq_some_iff.1 HS3.out.res).1 hb4.size) (own_ty HS3.out.own HS3.out.res (by decide)).symm).trans (hb4.block _ (Array.getElem?_eq_some_iff.1 HS3.out.res).1)).trans HS3.out.res⟩
          · have e : w5.heap[wr.heap.size]? = w3.heap[wr.heap.size]? := (hg.block _ (Nat.lt_of_lt_of_le hr3 hb4.size) hne2.symm).trans (hb4.block _ hr3)
            unfold World.cell? at r1 ⊢
            dsimp only at r1 ⊢
            rw [e]; exact r1
          · rw [HJ1.out, plC_app, HP.out]; exact ho
        have HO3 : Hid (w3.ownsRow w.heap.size 85 3 (.slice ao (jsU z k).length cv) (jsU z k).length (plC B (jsU z k) 10)) := HS3.out.own
        have HJL : Hid ((jsU z (k + 1)).length = (jsU z k).length + 1) := by show _ = _; rw [HJ1.out]; simp
        have HJW : Hid (10 + wS (jsU z (k + 1)) = 10 + wS (jsU z k) + W) := by show _ = _; rw [HJ1.out, wS_app, HW.out]; omega
        generalize (jsU z k).length = n at *
        generalize 10 + wS (jsU z k) = e1 at *
        generalize plC B (jsU z k) 10 = xs at *
        go_upto_region 7 with (at_builtin; refine wpList_append_own _ rfl _ _ 73 rfl w.heap.size 85 i0 (.agg #[.int .i64 0, .nilIface, .int .i64 0]) 3 32 Tryz.underlying73 hi hz0 hz1 hz2 rfl (by decide) _ n xs rfl (HO3.out.alloc _) ⟨w3.heap.size, 0, none⟩ 1 1 [.int .i64 N, .iface T V, .int .i64 (e1 : Nat)] rfl rfl (World.news_of_block (cs := #[.int .i64 N, .iface T V, .int .i64 (e1 : Nat)]) (t := 85) (fr := (0, 0)) (heap_alloc_new w3 _)) (fun u hu => by simp at hu; rcases hu with rfl | rfl | rfl <;> rfl) (by unfold maxLen; omega) (by omega) (by have := HS3.out.below.size; simp; omega) ?_; intro v5 w5 hown5 hgrow5 hnil5; obtain ⟨a5, c5, rfl⟩ := own_form3 hown5; have HQ : Hid _ := HX.out w5 _ hgrow5 hown5; have s0 := lay_cell (k := 0) HQ.out.1 rfl; have f0 := frozen_of_row w5 (w.heap.size + 1) 0 _ _ HQ.out.1; clear hown5 hgrow5 hnil5)
        generalize hW6 : w5.setCell _ _ = W6
        have HQ6 : Hid (W6.heap[w.heap.size + 1]? = some (.cells #[.slice a5 (n + 1) c5, .int .i64 (e1 : Int), .int .i64 0] 75 (0, 0)) ∧ W6.cell? ⟨wr.heap.size, 1, none⟩ = some (.iface T V) ∧ Below w.heap.size w W6 ∧ W6.ownsRow w.heap.size 85 3 (.slice a5 (n + 1) c5) (n + 1) (plC B (jsU z (k + 1)) 10) ∧ W6.heap[w.heap.size]? = some (.cells #[.slice none 0 0, .int .i64 0, .int .i64 0] 75 (0, 0))) := by
          rw [← hW6]
          refine ⟨lay_set0 HQ.out.1, ?_, HQ.out.2.2.1.setCell (by show w.heap.size ≤ w.heap.size + 1; omega) _, own_keep HQ.out.2.2.2.1 fun g hg => ?_, (Below.heap_setCell _ _ _ _ (by show w.heap.size ≠ w.heap.size + 1; omega)).trans HQ.out.2.2.2.2⟩
          · rw [World.cell?_setCell_far _ _ _ _ (by have := hLr.out; show w.heap.size + 1 ≠ wr.heap.size; omega)]; exact HQ.out.2.1
          · have hne := own_ty HQ.out.2.2.2.1 HQ.out.1 (by decide)
            exact Below.heap_setCell _ _ _ _ (fun e => hne (by rw [hg]; exact congrArg some e))
        clear hW6 s0 f0 HQ HX HO3 l0 l1 r0 r1 HS3
        have hl6 : wr.heap.size < W6.heap.size := World.block_lt_of_cell? _ _ HQ6.out.2.1
        have hL6 : w.heap.size + 1 < W6.heap.size := (Array.getElem?_eq_some_iff.1 HQ6.out.1).1
        have HK6 : Hid (∀ w', Below W6.heap.size W6 w' → w'.cell? ⟨w.heap.size + 1, 1, none⟩ = some (.int .i64 (e1 : Int)) ∧ w'.cell? ⟨wr.heap.size, 1, none⟩ = some (.iface T V) ∧ w'.frozen? ⟨w.heap.size + 1, 1, none⟩ = false ∧ w'.heap[w.heap.size + 1]? = some (.cells #[.slice a5 (n + 1) c5, .int .i64 (e1 : Int), .int .i64 0] 75 (0, 0))) := fun w' hb => by
          have e := (hb.block _ hL6).trans HQ6.out.1
          refine ⟨lay_cell (k := 1) e rfl, ?_, frozen_of_row w' (w.heap.size + 1) 1 _ _ e, e⟩
          rw [hb.cell (p := ⟨wr.heap.size, 1, none⟩) hl6]; exact HQ6.out.2.1
        have hB6 : Below W6.heap.size W6 W6.drew := below_drewN (Below.refl _ _) 1
        obtain ⟨d1, d2, d3, _⟩ := HK6.out _ hB6
        have HKS : Hid (∀ w' X, Below W6.heap.size W6 w' → (w'.setCell ⟨w.heap.size + 1, 1, none⟩ X).cell? ⟨wr.heap.size, 1, none⟩ = some (.iface T V)) := fun w' X hb => by
          rw [World.cell?_setCell_far _ _ _ _ (by have := hLr.out; show w.heap.size + 1 ≠ wr.heap.size; omega)]; exact (HK6.out w' hb).2.1
        have hx0 : IntKind.i64.wrap ((e1 : Int) + (W : Int)) = (e1 : Int) + (W : Int) := by rw [IntKind.wrap_i64]; have := HJW.out; have := wSU_le z (k + 1); omega
        have HN : Hid (∀ w7, Below W6.heap.size W6 w7 → LS w (w7.setCell ⟨w.heap.size + 1, 1, none⟩ (.int .i64 ((e1 : Int) + (W : Int)))) B z (k + 1) a5 c5) := fun w7 hb => by
          have q4 := (HK6.out _ hb).2.2.2
          have ho7 := own_low HQ6.out.2.2.2.1 hb (Nat.le_refl _)
          have hr7 := (hb.block _ (Array.getElem?_eq_some_iff.1 HQ6.out.2.2.2.2).1).trans HQ6.out.2.2.2.2
          refine ⟨?_, ?_, (HQ6.out.2.2.1.trans (hb.mono (by omega))).setCell (by show w.heap.size ≤ w.heap.size + 1; omega) _, (Below.heap_setCell _ _ _ _ (by show w.heap.size ≠ w.heap.size + 1; omega)).trans hr7⟩
          · rw [HJL.out, HJW.out]
            exact lay_set1 q4
          · rw [HJL.out]
            refine own_keep ho7 fun g hg => ?_
            have hne := own_ty ho7 q4 (by decide)
            exact Below.heap_setCell _ _ _ _ (fun e => hne (by rw [hg]; exact congrArg some e))
        clear HJL HJW HP HW hws hjl
        go_region_with (refine (HSz.out _).mono ?_; rintro e w7 ⟨rfl, hb7⟩; have hB7 : Below W6.heap.size W6 w7 := hB6.trans (hb7.mono hB6.size); clear hb7; obtain ⟨q1, q2, q3, q4⟩ := HK6.out _ hB7)
        all_goals go_wp2
        all_goals exact ⟨⟨k + 1, a5, c5, by omega, by go_num, HN.out _ hB7⟩, by simp [intOf]; omega⟩
      · have hpd : decide (0 < H) = false := decide_eq_false hp
        have HJ1 : Hid (jsU z (k + 1) = jsU z k) := by show _ = _; rw [HJ.out, HH.out, hpd]; simp
        have hp2 : H ≤ 0 := by omega
        clear HJ HH
        go_region_held3 (fun w' => w'.cell? ⟨B, 0, none⟩ = some (.int .i64 z) ∧ w'.cell? ⟨wr.heap.size, 0, none⟩ = some (.int .i64 N) ∧ w'.cell? ⟨wr.heap.size, 1, none⟩ = some (.iface T V)) (first | exact HK.out _ hB3 | exact HK.out _ hB1) (first | (go_at_call 61; refine (HA _).mono ?_; rintro e w3 ⟨rfl, hb3⟩; have hB3 : Below W1.heap.size W1 w3 := hB1.trans (hb3.mono hB1.size); clear hb3))
        have HN : Hid (LS w w3 B z (k + 1) ao cv) := by
          have h := HS1.out.1.low hB3
          obtain ⟨h1, h2, h3, h4⟩ := h
          refine ⟨?_, ?_, h3, h4⟩
          · rw [HJ1.out]; exact h1
          · rw [HJ1.out]; exact h2
        go_wp2
        exact ⟨⟨k + 1, ao, cv, by omega, by go_num, HN⟩, by simp [intOf]; omega⟩
    · obtain rfl : k = 41 := by omega
      clear hRC
      have l0 : wr.cell? ⟨w.heap.size + 1, 0, none⟩ = some (.slice ao (js z).length cv) := lay_cell (k := 0) HS.out.lay rfl
      have l1 : wr.cell? ⟨w.heap.size + 1, 1, none⟩ = some (.int .i64 ((10 + wS (js z) : Nat) : Int)) := lay_cell (k := 1) HS.out.lay rfl
      have l2 : wr.cell? ⟨w.heap.size + 1, 2, none⟩ = some (.int .i64 0) := lay_cell (k := 2) HS.out.lay rfl
      have f2 : wr.frozen? ⟨w.heap.size + 1, 2, none⟩ = false := frozen_of_row wr (w.heap.size + 1) 2 _ _ HS.out.lay
      have hjl : (js z).length ≤ 41 := jsU_len z 41
      have hws : wS (js z) ≤ 41 * 60 := wSU_le z 41
      by_cases hj : js z = []
      · have HO : Hid (∀ w', Below w.heap.size w w' → ∃ v, Ending.returned (Value.agg #[.slice none 0 0, .int .i64 0, .int .i64 0]) = .returned (.agg #[v, .int .i64 (layE z : Int), .int .i64 (sizeN z : Int)]) ∧ PlAt w' w.heap.size v B (js z) ∧ Below w.heap.size w w') := fun w' hb => by
          refine ⟨.slice none 0 0, ?_, ?_, hb⟩
          · simp [layE, sizeN, hj]
          · rw [hj]; exact ⟨none, 0, rfl, Nat.le_refl _, .inl rfl⟩
        rw [hj] at l0 l1
        simp only [List.length_nil] at l0
        go_upto_region 10 with fail
        rename_i K hK
        refine wp_region_lit ?_
        refine wpList_build rfl _ _ rfl (by kernel_rfl) ?_
        refine wpList_store_row rfl 75 (.tmp 2) (.tmp 42) rfl w.heap.size #[.slice none 0 0, .int .i64 0, .int .i64 0] (by kernel_rfl) (by kernel_rfl) 75 _ HS.out.res (by kernel_rfl) rfl (by kernel_rfl) ?_
        refine wpList_nil ?_
        refine hK _ _ ?_
        apply wp_ret
        simp only [Exit.then]
        exact bodyPost_ret (results_cell_row (fn := Tryz.f24) (p := 2) (ty := 75) rfl _ _ w.heap.size 75 #[.slice none 0 0, .int .i64 0, .int .i64 0] (0, 0) _ (by kernel_rfl) (setRow_heap _ _ _ _ _ _ HS.out.res) Tryz.underlying75 rfl (by kernel_rfl)) (by kernel_rfl) (HO.out _ (below_setRow HS.out.below (Nat.le_refl _) _))
      · have hn0 : ¬ (js z).length = 0 := fun e => hj (List.length_eq_zero_iff.1 e)
        have hn1 : ¬ ((js z).length : Int) = 0 := by omega
        have hS0 : sizeN z = 10 + (wS (js z) + 7) / 8 * 8 := by unfold sizeN; rw [if_neg hj]
        have hE0 : layE z = 10 + wS (js z) := by unfold layE; rw [if_neg hj]
        have HO0 := HS.out.own
        have HY : Hid (∀ w', w'.heap[w.heap.size]? = some (.cells #[.slice ao (js z).length cv, .int .i64 ((10 + wS (js z) : Nat) : Int), .int .i64 ((10 + (wS (js z) + 7) / 8 * 8 : Nat) : Int)] 75 (0, 0)) → Below w.heap.size w w' → (∀ g, w.heap.size + 1 < g → w'.heap[g]? = wr.heap[g]?) →
            ∃ v, Ending.returned (Value.agg #[.slice ao (js z).length cv, .int .i64 ((10 + wS (js z) : Nat) : Int), .int .i64 ((10 + (wS (js z) + 7) / 8 * 8 : Nat) : Int)]) = .returned (.agg #[v, .int .i64 (layE z : Int), .int .i64 (sizeN z : Int)]) ∧ PlAt w' w.heap.size v B (js z) ∧ Below w.heap.size w w') := fun w' h1 h2 h3 => by
          refine ⟨.slice ao (js z).length cv, by rw [hS0, hE0], PlAt.of (own_keep HO0 fun g hg => h3 g ?_), h2⟩
          have a1 := (HO0.lt g hg).1
          have a2 : g ≠ w.heap.size := fun e => own_ty HO0 HS.out.res (by decide) (hg.trans (congrArg some e))
          have a3 : g ≠ w.heap.size + 1 := fun e => own_ty HO0 HS.out.lay (by decide) (hg.trans (congrArg some e))
          omega
        have HLAY : Hid (wr.heap[w.heap.size + 1]? = some (.cells #[.slice ao (js z).length cv, .int .i64 ((10 + wS (js z) : Nat) : Int), .int .i64 0] 75 (0, 0))) := HS.out.lay
        clear hS0 hE0 HO0 hj hc hi hz0 hz1 hz2 hlt hk
        generalize (js z).length = n at *
        generalize wS (js z) = W at *
        have hq1 : IntKind.i64.wrap (10 + (W : Int) - 10) = (W : Int) := by rw [IntKind.wrap_i64]; omega
        have hq2 : IntKind.i64.wrap ((W : Int) + 8) = (W : Int) + 8 := by rw [IntKind.wrap_i64]; omega
        have hq3 : IntKind.i64.wrap ((W : Int) + 8 - 1) = (W : Int) + 7 := by rw [IntKind.wrap_i64]; omega
        have hlay : wr.heap[w.heap.size + 1]? = some (.cells #[.slice ao n cv, .int .i64 ((10 + W : Nat) : Int), .int .i64 0] 75 (0, 0)) := HLAY.out
        have h9 := lay_set2 (v := .int .i64 ((10 + (W + 7) / 8 * 8 : Nat) : Int)) hlay
        have h9r : (wr.setCell ⟨w.heap.size + 1, 2, none⟩ (.int .i64 ((10 + (W + 7) / 8 * 8 : Nat) : Int))).heap[w.heap.size]? = some (.cells #[.slice none 0 0, .int .i64 0, .int .i64 0] 75 (0, 0)) := (Below.heap_setCell _ _ _ _ (by show w.heap.size ≠ w.heap.size + 1; omega)).trans HS.out.res
        have h9b : Below w.heap.size w (wr.setCell ⟨w.heap.size + 1, 2, none⟩ (.int .i64 ((10 + (W + 7) / 8 * 8 : Nat) : Int))) := HS.out.below.setCell (by show w.heap.size ≤ w.heap.size + 1; omega) _
        have h9o : ∀ g, w.heap.size + 1 < g → (wr.setCell ⟨w.heap.size + 1, 2, none⟩ (.int .i64 ((10 + (W + 7) / 8 * 8 : Nat) : Int))).heap[g]? = wr.heap[g]? := fun g hg => Below.heap_setCell _ _ _ _ (by show g ≠ w.heap.size + 1; omega)
        have HZ : Hid (((10 + (W + 7) / 8 * 8 : Nat) : Int) = 10 + ((W : Int) + 7) / 8 * 8) := by show _ = _; omega
        have H9 : Hid ((wr.setCell ⟨w.heap.size + 1, 2, none⟩ (.int .i64 ((10 + (W + 7) / 8 * 8 : Nat) : Int))).heap[w.heap.size + 1]? = some (.cells #[.slice ao n cv, .int .i64 ((10 + W : Nat) : Int), .int .i64 ((10 + (W + 7) / 8 * 8 : Nat) : Int)] 75 (0, 0)) ∧ (wr.setCell ⟨w.heap.size + 1, 2, none⟩ (.int .i64 ((10 + (W + 7) / 8 * 8 : Nat) : Int))).heap[w.heap.size]? = some (.cells #[.slice none 0 0, .int .i64 0, .int .i64 0] 75 (0, 0)) ∧ Below w.heap.size w (wr.setCell ⟨w.heap.size + 1, 2, none⟩ (.int .i64 ((10 + (W + 7) / 8 * 8 : Nat) : Int))) ∧ ∀ g, w.heap.size + 1 < g → (wr.setCell ⟨w.heap.size + 1, 2, none⟩ (.int .i64 ((10 + (W + 7) / 8 * 8 : Nat) : Int))).heap[g]? = wr.heap[g]?) := ⟨h9, h9r, h9b, h9o⟩
        clear hlay h9 h9r h9b h9o
        go_upto_region 13 with fail
        rename_i K hK
        rw [HZ.out] at H9
        generalize wr.setCell _ _ = W9 at *
        refine wp_region_lit ?_
        refine wpList_load_row rfl 75 (.tmp 3) rfl (w.heap.size + 1) (by kernel_rfl) 75 _ (0, 0) _ H9.out.1 Tryz.underlying75 rfl (by kernel_rfl) ?_
        refine wpList_store_row rfl 75 (.tmp 2) (.tmp 53) rfl w.heap.size #[.slice ao n cv, .int .i64 ((10 + W : Nat) : Int), .int .i64 (10 + ((W : Int) + 7) / 8 * 8)] (by kernel_rfl) (by kernel_rfl) 75 _ H9.out.2.1 (by kernel_rfl) rfl (by kernel_rfl) ?_
        refine wpList_nil ?_
        refine hK _ _ ?_
        apply wp_ret
        refine bodyPost_ret (results_cell_row (fn := Tryz.f24) (p := 2) (ty := 75) rfl _ _ w.heap.size 75 #[.slice ao n cv, .int .i64 ((10 + W : Nat) : Int), .int .i64 (10 + ((W : Int) + 7) / 8 * 8)] (0, 0) _ (by kernel_rfl) (setRow_heap _ _ _ _ _ _ H9.out.2.1) Tryz.underlying75 rfl (by kernel_rfl)) (by kernel_rfl) ?_
        rw [← HZ.out]
        exact HY.out _ (setRow_heap _ _ _ _ _ _ H9.out.2.1) (below_setRow H9.out.2.2.1 (Nat.le_refl _) _) fun g hg => (setRow_other _ _ _ _ (by omega)).trans (H9.out.2.2.2 g hg)
end Go.Proofs.YtkpoheknmcepnaaGreatDoor
