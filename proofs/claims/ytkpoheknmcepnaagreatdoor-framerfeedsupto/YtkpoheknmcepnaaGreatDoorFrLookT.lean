/-
  framer: printSum, lookText.
-/
import Derived.Test.YtkpoheknmcepnaaGreatDoorFrB
import Derived.Test.YtkpoheknmcepnaaGreatDoorFFmt
import Derived.Test.YtkpoheknmcepnaaGreatDoorFPlain
import Derived.Test.YtkpoheknmcepnaaGreatDoorBNum
import Derived.Deep.RegionWith
namespace Go.Proofs.YtkpoheknmcepnaaGreatDoor
set_option linter.unusedVariables false
set_option linter.unusedSimpArgs false
open Go.RowKit Go.Great

/-- The table of the powers of ten lies there. -/
def Pow (w : World) : Prop := Lib.TabIs Tryz.prog w "internal/strconv.uint64pow10" .u64 Lib.pow10Tab
theorem Pow.below {w w' : World} (h : Pow w) (hb : Below w.heap.size w w') : Pow w' := tabIs_below h hb
theorem bs_tail (l : List UInt8) : (bs l).extract 1 (bs l).size = bs l.tail := by
  have h := tail_data (bs l)
  rw [bs_list] at h
  rw [← h]; rfl
theorem print_thousand {n : Nat} (h : n < 256) : Lib.itoa ((1000 : Int) + (n : Int)) = 49 :: three n := by
  rw [show (1000 : Int) + (n : Int) = ((1000 + n : Nat) : Int) by omega, Lib.itoa_nonneg, dec_thousand h]
set_option maxRecDepth 100000 in
theorem printSum_any (n : Nat) (hn : n < 256) (w : World) (hp : Pow w) :
    Calls Tryz.prog 48 #[.int .i64 (n : Int)] w fun e w' => e = .returned (.string (bs (three n))) ∧ Below w.heap.size w w' := by
  have h1 := Print_any ((1000 : Int) + (n : Int)) (by omega) (by omega) w hp
  rw [print_thousand hn] at h1
  have h2 : (⟨(49 :: three n).toArray⟩ : ByteArray) = bs (49 :: three n) := rfl
  rw [h2] at h1
  have h3 := bs_tail (49 :: three n)
  have h4 : (bs (49 :: three n)).size = 4 := rfl
  rw [h4] at h3
  rw [show (49 :: three n : List UInt8).tail = three n from rfl] at h3
  generalize bs (49 :: three n) = B at *
  generalize bs (three n) = C at *
  go_enter Tryz.func48, Tryz.ntmps48
  go_wp2_with (go_at_call 32; refine h1.mono ?_; rintro e w' ⟨rfl, hb⟩)
  go_ret
  refine ⟨?_, hb⟩
  first | exact rfl | exact ret_str h3 | (rw [← h3]; rfl)
/-- The sum that num.Sum tells. -/
def frD (l : List UInt8) (j : Nat) : Nat := (l.getD j 0).toNat
theorem frRow_list (l : List UInt8) : ∀ k, k ≤ l.length → sumRow 0 (frD l) k = sumL (l.take k)
  | 0, _ => rfl
  | k + 1, h => by
    have e : l.take (k + 1) = l.take k ++ [l[k]] := List.take_succ_eq_append_getElem (by omega)
    rw [e, sumL_snoc, ← frRow_list l k (by omega)]
    show (sumRow 0 (frD l) k + frD l k) % 256 = _
    rw [show frD l k = l[k].toNat by unfold frD; rw [List.getD_eq_getElem?_getD, List.getElem?_eq_getElem (by omega)]; rfl]
theorem frSum_one (B : Nat) (b off k cap : Nat) (l : List UInt8) (w : World) (hk : k ≤ l.length) (hl : l.length ≤ 1048576)
    (hB : w.cell? ⟨B, 0, none⟩ = some (.slice (some ⟨b, off, none⟩) k cap)) (h : LSrc w (some ⟨b, off, none⟩) l) :
    Calls Tryz.prog 34 #[.slice (some ⟨B, 0, none⟩) 1 1] w fun e w' => e = .returned (.int .i64 (sumL (l.take k) : Int)) ∧ w' = w := by
  have hcell : ∀ j (hj : j < l.length), w.cell? ⟨b, off + j, none⟩ = some (.int .u8 (l[j].toNat : Int)) := fun j hj => by
    rcases h with h | ⟨b', off', e, hr⟩
    · subst h; cases hj
    · injection e with e
      injection e with e1 e2 _
      subst e1 e2
      exact hr j hj
  have h1 := Sum_any B 0 1 1 (fun _ => k) (fun _ => frD l) w (by decide) ⟨fun i hi => by
    obtain rfl : i = 0 := by omega
    refine ⟨some ⟨b, off, none⟩, cap, hB, by unfold maxLen; omega, .inr ⟨b, off, rfl, fun j hj => ⟨?_, ?_⟩⟩⟩
    · rw [hcell j (by omega)]
      show _ = some (Value.int .u8 ((frD l j : Nat) : Int))
      unfold frD
      rw [List.getD_eq_getElem?_getD, List.getElem?_eq_getElem (by omega)]; rfl
    · unfold frD; exact UInt8.toNat_lt _⟩
  have e : sumRows (fun _ => k) (fun _ => frD l) 1 = sumL (l.take k) := by
    show sumRow 0 (frD l) k = _
    exact frRow_list l k hk
  rw [e] at h1
  exact h1
/-- What stands at the end of a frame of text. -/
def prT (b : List UInt8) : List UInt8 := three (sumL b) ++ [1]
theorem prT_len (b : List UInt8) : (prT b).length = 4 := rfl
theorem prT_ne (b : List UInt8) : prT b ≠ [] := fun e => by have := prT_len b; rw [e] at this; cases this
def textS (b : List UInt8) : Sight := (textP lenV prT headT lastT b).sight
theorem textS_steady : Steady textS := text_steady prT_ne
theorem text_eq (l : List UInt8) : textP lenV prT headT lastT l = match lenP l with
    | .begun n => .begun n
    | .wrong => .wrong
    | .whole x => match forL lastT (x.2 + x.1) l with
      | .begun n => .begun n
      | .wrong => .wrong
      | .whole k => forL (prT (l.take (x.2 + x.1))) k l := by
  unfold textP lenP Part.then endL
  cases forL headT 0 l with
  | begun n => rfl
  | wrong => rfl
  | whole i =>
    simp only
    cases roomL (i + 1) l with
    | begun n => rfl
    | wrong => rfl
    | whole y =>
      simp only
      cases lenL lenV i l with
      | begun n => rfl
      | wrong => rfl
      | whole x =>
        simp only
        cases forL lastT (x.2 + x.1) l <;> rfl
theorem Part.sg_sight (p : Part Nat) : p.sight.sg = p.sg ∧ p.sight.sz = p.sz := by cases p <;> exact ⟨rfl, rfl⟩
theorem lenP_whole {l : List UInt8} {x : Nat × Nat} (h : lenP l = .whole x) : x.1 ≤ 1000 ∧ x.2 ≤ l.length := by
  unfold lenP Part.then at h
  cases h1 : forL headT 0 l with
  | begun n => simp only [h1] at h; exact absurd h (by simp)
  | wrong => simp only [h1] at h; exact absurd h (by simp)
  | whole i =>
    simp only [h1] at h
    cases h2 : roomL (i + 1) l with
    | begun n => simp only [h2] at h; exact absurd h (by simp)
    | wrong => simp only [h2] at h; exact absurd h (by simp)
    | whole y =>
      simp only [h2] at h
      unfold lenL at h
      cases hd : lenV (digsAt i l) with
      | none => simp only [hd] at h; exact absurd h (by simp)
      | some v =>
        simp only [hd] at h
        cases hf : forL [1] (i + (digsAt i l).length) l with
        | begun n => simp only [hf] at h; exact absurd h (by simp)
        | wrong => simp only [hf] at h; exact absurd h (by simp)
        | whole k =>
          simp only [hf] at h
          injection h with h
          subst h
          exact ⟨(lenV_some hd).2, (forL_whole hf).2.1 (by simp)⟩
set_option maxRecDepth 100000 in
set_option maxHeartbeats 2000000 in
theorem lookText_any (W0 : World) (hp : Pow W0) : LookOK W0 19 textS := by
  intro g o n c l w hbel hs hn hnc hn1
  subst hn
  have hsg := Part.sg_sight (textP lenV prT headT lastT l)
  unfold textS
  rw [hsg.1, hsg.2]
  clear hsg
  have hlen := lookLength_any (some ⟨g, o, none⟩) l c w hs (by omega) hnc
  have HS : Hid (LSrc w (some ⟨g, o, none⟩) l ∧ Below W0.heap.size W0 w) := ⟨hs, hbel⟩
  have hPw : Pow w := by
    have := tabIs_below hp hbel
    exact this
  have HP : Hid (Pow w) := hPw
  have hte := text_eq l
  cases hle : lenP l with
  | begun m =>
    rw [hle] at hlen hte
    simp only at hte
    rw [hte]
    have hl2 : Calls Tryz.prog 46 #[.slice (some ⟨g, o, none⟩) l.length c] w fun e w' => ∃ v : Int, e = .returned (.tuple #[.int .i64 v, .int .i64 0, .int .i64 (m : Int)]) ∧ ∃ q, w' = w.drewN q := hlen.mono fun e w' ⟨v, e1, _, e2⟩ => ⟨v, e1, e2⟩
    clear hlen hte hle hs hPw hbel
    generalize l.length = n at *
    show Calls Tryz.prog _ _ _ fun e w' => e = .returned (.tuple #[.int .i64 0, .int .i64 (m : Int)]) ∧ Sm w w'
    go_enter Tryz.func19, Tryz.ntmps19
    go_wp2_with (go_at_call 46; refine hl2.mono ?_; rintro e w1 ⟨v, rfl, q, rfl⟩)
    go_ret2
    exact ⟨rfl, (Sm.refl w).drewN q⟩
  | wrong =>
    rw [hle] at hlen hte
    simp only at hte
    rw [hte]
    have hl2 : Calls Tryz.prog 46 #[.slice (some ⟨g, o, none⟩) l.length c] w fun e w' => ∃ v : Int, e = .returned (.tuple #[.int .i64 v, .int .i64 2, .int .i64 0]) ∧ ∃ q, w' = w.drewN q := hlen.mono fun e w' ⟨v, e1, _, e2⟩ => ⟨v, e1, e2⟩
    clear hlen hte hle hs hPw hbel
    generalize l.length = n at *
    show Calls Tryz.prog _ _ _ fun e w' => e = .returned (.tuple #[.int .i64 2, .int .i64 0]) ∧ Sm w w'
    go_enter Tryz.func19, Tryz.ntmps19
    go_wp2_with (go_at_call 46; refine hl2.mono ?_; rintro e w1 ⟨v, rfl, q, rfl⟩)
    go_ret2
    exact ⟨rfl, (Sm.refl w).drewN q⟩
  | whole x =>
    rw [hle] at hlen hte
    simp only at hte
    have hx := lenP_whole hle
    obtain ⟨x1, x2⟩ := x
    simp only at hx hte
    have hl2 : Calls Tryz.prog 46 #[.slice (some ⟨g, o, none⟩) l.length c] w fun e w' => e = .returned (.tuple #[.int .i64 (x1 : Int), .int .i64 1, .int .i64 (x2 : Int)]) ∧ ∃ q, w' = w.drewN q := hlen.mono fun e w' ⟨v, e1, e3, e2⟩ => ⟨by rw [e1, e3 x1 x2 rfl]; rfl, e2⟩
    have hfor := fun q => lookFor_any ⟨#[49, 48, 61]⟩ (some ⟨g, o, none⟩) l c (x2 + x1) ((x2 : Int) + (x1 : Int)) (by omega) (w.drewN q) (hs.drewN q) (by decide) (by omega) (by omega)
    have hlast : (⟨#[49, 48, 61]⟩ : ByteArray).data.toList = lastT := rfl
    rw [hlast] at hfor
    have hew : IntKind.i64.wrap ((x2 : Int) + (x1 : Int)) = (x2 : Int) + (x1 : Int) := by rw [IntKind.wrap_i64]; omega
    cases hf : forL lastT (x2 + x1) l with
    | begun m =>
      rw [hf] at hfor hte
      rw [hte]
      have hfor2 : ∀ q, Calls Tryz.prog 47 #[.string ⟨#[49, 48, 61]⟩, .slice (some ⟨g, o, none⟩) l.length c, .int .i64 ((x2 : Int) + (x1 : Int))] (w.drewN q) fun e w' => e = .returned (.tuple #[.int .i64 0, .int .i64 (m : Int)]) ∧ ∃ q', w' = (w.drewN q).drewN q' := hfor
      clear hfor hlen hte hle hs hPw hbel hlast hf
      generalize l.length = n at *
      show Calls Tryz.prog _ _ _ fun e w' => e = .returned (.tuple #[.int .i64 0, .int .i64 (m : Int)]) ∧ Sm w w'
      go_enter Tryz.func19, Tryz.ntmps19
      go_wp2_with (go_at_call 46; refine hl2.mono ?_; rintro e w1 ⟨rfl, q, rfl⟩; clear hl2)
      go_wp2_with (go_at_call 47; refine (hfor2 _).mono ?_; rintro e w1 ⟨rfl, q', rfl⟩)
      go_ret2
      exact ⟨rfl, (Sm.refl w).drewN _⟩
    | wrong =>
      rw [hf] at hfor hte
      rw [hte]
      have hfor2 : ∀ q, Calls Tryz.prog 47 #[.string ⟨#[49, 48, 61]⟩, .slice (some ⟨g, o, none⟩) l.length c, .int .i64 ((x2 : Int) + (x1 : Int))] (w.drewN q) fun e w' => e = .returned (.tuple #[.int .i64 2, .int .i64 0]) ∧ ∃ q', w' = (w.drewN q).drewN q' := hfor
      clear hfor hlen hte hle hs hPw hbel hlast hf
      generalize l.length = n at *
      show Calls Tryz.prog _ _ _ fun e w' => e = .returned (.tuple #[.int .i64 2, .int .i64 0]) ∧ Sm w w'
      go_enter Tryz.func19, Tryz.ntmps19
      go_wp2_with (go_at_call 46; refine hl2.mono ?_; rintro e w1 ⟨rfl, q, rfl⟩; clear hl2)
      go_wp2_with (go_at_call 47; refine (hfor2 _).mono ?_; rintro e w1 ⟨rfl, q', rfl⟩)
      go_ret2
      exact ⟨rfl, (Sm.refl w).drewN _⟩
    | whole k =>
      rw [hf] at hfor hte
      rw [hte]
      have hk := forL_whole hf
      have hkl := hk.2.1 (by decide)
      have hk1 := hk.1
      have hfor2 : ∀ q, Calls Tryz.prog 47 #[.string ⟨#[49, 48, 61]⟩, .slice (some ⟨g, o, none⟩) l.length c, .int .i64 ((x2 : Int) + (x1 : Int))] (w.drewN q) fun e w' => e = .returned (.tuple #[.int .i64 1, .int .i64 (k : Int)]) ∧ ∃ q', w' = (w.drewN q).drewN q' := hfor
      have e3 : lastT.length = 3 := rfl
      have HR : Hid (∀ w1, Below w.heap.size w w1 → Calls Tryz.prog 47 #[.string ⟨(prT (l.take (x2 + x1))).toArray⟩, .slice (some ⟨g, o, none⟩) l.length c, .int .i64 (k : Int)] w1 fun e w' => e = .returned (.tuple #[.int .i64 (forL (prT (l.take (x2 + x1))) k l).sg, .int .i64 ((forL (prT (l.take (x2 + x1))) k l).sz : Int)]) ∧ ∃ q', w' = w1.drewN q') := fun w1 hw1 =>
        lookFor_any ⟨(prT (l.take (x2 + x1))).toArray⟩ (some ⟨g, o, none⟩) l c k (k : Int) rfl w1 (by
          rcases hs with h | ⟨b', o', e, hr⟩
          · exact .inl h
          · exact .inr ⟨b', o', e, fun j hj => by rw [hw1.cell (p := ⟨b', o' + j, none⟩) (World.block_lt_of_cell? _ _ (hr j hj))]; exact hr j hj⟩) (by rw [show (⟨(prT (l.take (x2 + x1))).toArray⟩ : ByteArray).size = (prT (l.take (x2 + x1))).length by show (prT _).toArray.size = _; simp, prT_len]; decide) (by omega) (by omega)
      have HKK : Hid (k = x2 + x1 + 3 ∧ k ≤ l.length) := ⟨by omega, hkl⟩
      have hxl : x2 + x1 ≤ l.length := by omega
      clear hfor hlen hte hle hPw hbel hlast hf hk hk1 hkl e3
      obtain ⟨SMv, hSM⟩ : ∃ SMv, sumL (l.take (x2 + x1)) = SMv := ⟨_, rfl⟩
      have hpr : prT (l.take (x2 + x1)) = three SMv ++ [1] := by unfold prT; rw [hSM]
      have hSlt : SMv < 256 := by rw [← hSM]; exact sumL_lt _
      rw [hpr] at HR ⊢
      generalize (forL (three SMv ++ [1]) k l).sg = r1 at *
      generalize (forL (three SMv ++ [1]) k l).sz = r2 at *
      go_enter Tryz.func19, Tryz.ntmps19
      go_wp2_with (go_at_call 46; refine hl2.mono ?_; rintro e w1 ⟨rfl, q, rfl⟩; clear hl2)
      go_wp2_with (go_at_call 47; refine (hfor2 _).mono ?_; rintro e w1 ⟨rfl, q', rfl⟩; clear hfor2)
      have hfd : Fr w (w.drewN (q + q')) (fun _ => False) := (Fr.refl w _).drewN _
      have hfa : Fr w ((w.drewN (q + q')).alloc (.cells #[.slice (some ⟨g, o, none⟩) (x2 + x1) c] 22)) (fun _ => False) := hfd.trans (Fr.alloc _ _ _) fun _ _ q => by rcases q with q | q <;> exact q
      have hsum := frSum_one w.heap.size g o (x2 + x1) c l ((w.drewN (q + q')).alloc (.cells #[.slice (some ⟨g, o, none⟩) (x2 + x1) c] 22)) hxl (by omega) (cell_at (heap_alloc_new (w.drewN (q + q')) _) rfl) (HS.out.1.fr hfa id)
      rw [hSM] at hsum
      have HB2 : Hid (Below w.heap.size w ((w.drewN (q + q')).alloc (.cells #[.slice (some ⟨g, o, none⟩) (x2 + x1) c] 22))) := hfa.below (Nat.le_refl _) fun _ _ q => q
      clear hfd hfa
      generalize (w.drewN (q + q')).alloc (.cells #[.slice (some ⟨g, o, none⟩) (x2 + x1) c] 22) = w2 at *
      refine hsum.mono ?_
      rintro e w3 ⟨rfl, ew⟩
      replace ew := ew.symm
      subst ew
      have hps := printSum_any SMv hSlt w2 (HP.out.below HB2.out)
      clear hsum hSM hpr
      go_wp2_with (go_at_call 48; fail)
      refine hps.mono ?_
      rintro e w4 ⟨rfl, hb4⟩
      have hlf := HR.out w4 (HB2.out.trans (hb4.mono HB2.out.size))
      have HB4 : Hid (Below w.heap.size w w4) := HB2.out.trans (hb4.mono HB2.out.size)
      have hb3z : (bs (three SMv)).size = 3 := rfl
      have hcat : bs (three SMv) ++ (⟨#[1]⟩ : ByteArray) = ⟨(three SMv ++ [1]).toArray⟩ := rfl
      generalize (⟨(three SMv ++ [1]).toArray⟩ : ByteArray) = B2 at *
      generalize bs (three SMv) = B1 at *
      clear hps hb4 HR
      go_wp2_with (go_at_call 47; fail)
      refine hlf.mono ?_
      rintro e w5 ⟨rfl, q5, rfl⟩
      go_wp2
      go_ret2
      exact ⟨rfl, (Sm.of_below HB4.out).drewN q5⟩
end Go.Proofs.YtkpoheknmcepnaaGreatDoor
