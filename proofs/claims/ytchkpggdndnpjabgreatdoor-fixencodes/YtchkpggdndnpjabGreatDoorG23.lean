import Derived.Test.YtchkpggdndnpjabGreatDoorG11
import Derived.Test.YtchkpggdndnpjabGreatDoorG22
import Derived.Test.YtchkpggdndnpjabGreatDoorG09
import Derived.Deep.RegionHeld3
import Derived.Test.YtchkpggdndnpjabGreatDoorG08

namespace Go.Proofs.YtchkpggdndnpjabGreatDoor
set_option linter.unusedVariables false
open Go.RowKit

def thK : List Nat := [312, 370, 315, 309, 318, 337, 373, 376, 306, 331, 334, 379]
def wrK : List Nat := [313, 371, 316, 310, 319, 338, 374, 377, 307, 332, 335, 380]
def rdK : List Nat := [311, 369, 314, 308, 317, 336, 372, 375, 305, 330, 333, 378]
def xkd (r : Nat) : Nat := xKd.getD r 0
def xce (r : Nat) : Nat := xCe.getD r 0
def xlo (r : Nat) : Int := xLo.getD r 0
def xhi (r : Nat) : Int := xHi.getD r 0
def xwd (r : Nat) : List ByteArray := xWords.getD r []
def thF (r : Nat) : Nat := thK.getD (xkd r) 0
def wrF (r : Nat) : Nat := wrK.getD (xkd r) 0
def rdFn (r : Nat) : Nat := rdK.getD (xkd r) 0
def xty (r : Nat) : Nat := xTy.getD r 0
/-- Whether a field is there. -/
def thB (r : Nat) (M : Msg) : Bool := match xkd r with
  | 2 => M.b (xce r)
  | 3 => !((M.s (xce r)).size == 0)
  | 9 => true
  | 10 => M.z (xce r) == 7
  | 11 => true
  | _ => M.z (xce r) != 0
/-- A field as a value. -/
def wrS (r : Nat) (M : Msg) : ByteArray := match xkd r with
  | 2 => ynS (M.b (xce r))
  | 3 => M.s (xce r)
  | 4 => strOfNums (stampI (M.z (xce r)).toNat)
  | 5 => ppB (M.z (xce r))
  | 7 => onS (M.z (xce r))
  | 8 => (xwd r).getD (M.z (xce r) - xlo r).toNat ⟨#[]⟩
  | 9 => ⟨#[48]⟩
  | 10 => ⟨#[54]⟩
  | 11 => scS (M.s (xce r))
  | _ => ⟨(Lib.itoa (M.z (xce r))).toArray⟩
/-- What may be written as row r. -/
def wrOk (r : Nat) (M : Msg) : Prop := match xkd r with
  | 4 => 0 ≤ M.z (xce r) ∧ M.z (xce r) ≤ 253402300799999
  | 8 => xlo r ≤ M.z (xce r) ∧ M.z (xce r) - xlo r < (xwd r).length
  | _ => True
def mayS (r : Nat) (s : ByteArray) : Bool := match r with
  | 10 => tiS s
  | 19 => txS s
  | 20 => idS s
  | 21 => idS s
  | 23 => syS s
  | _ => nmS s
/-- Whether a value can be read as row r. -/
def rdBo (r : Nat) (s : ByteArray) : Bool := match xkd r with
  | 2 => ynB s
  | 3 => mayS r s
  | 4 => stmB s (xlo r)
  | 5 => prB s
  | 6 => dtB s
  | 7 => onB s
  | 8 => decide (0 ≤ idS_ (xwd r) s)
  | 9 => eqB s ⟨#[48]⟩
  | 10 => eqB s ⟨#[54]⟩
  | 11 => eqB s ⟨#[49]⟩ || eqB s ⟨#[55]⟩
  | _ => nrB s.data.toList (xlo r) (xhi r)
/-- What a value, read as row r, makes of a message. -/
def ruM (r : Nat) (s : ByteArray) (M : Msg) : Msg := match xkd r with
  | 2 => M.setB (xce r) (eqB s ⟨#[89]⟩)
  | 3 => M.setS (xce r) s
  | 4 => M.setZ (xce r) (psV s)
  | 5 => M.setZ (xce r) (priceN s)
  | 6 => M.setZ (xce r) (puN s.data.toList 99991231)
  | 7 => M.setZ (xce r) (onV s)
  | 8 => M.setZ (xce r) (xlo r + idS_ (xwd r) s)
  | 9 => M
  | 10 => cond (M.z (xce r) == 1) (M.setZ (xce r) 7) M
  | 11 => M
  | _ => M.setZ (xce r) (puN s.data.toList (xhi r))
def RdP (r : Nat) (s : ByteArray) (g : Nat) (M : Msg) (w w' : World) : Prop := OwnM w' g (cond (rdBo r s) (ruM r s M) M) ∧ (∀ B, B ≤ g → Below B w w') ∧ w.heap.size ≤ w'.heap.size ∧ ∀ k, k < w.heap.size → k ≠ g → w'.heap[k]? = w.heap[k]?
theorem Wr.msg {b : Bool} {g c : Nat} {v : Value} {M M' : Msg} {w w' : World} (hM : OwnM w g M) (h : Wr b ⟨g, c, none⟩ v w w') (e : M.cs.setIfInBounds c v = M'.cs) : OwnM w' g (cond b M' M) ∧ (∀ B, B ≤ g → Below B w w') ∧ w.heap.size ≤ w'.heap.size ∧ ∀ k, k < w.heap.size → k ≠ g → w'.heap[k]? = w.heap[k]? := by
  obtain ⟨w1, hb, rfl⟩ := h
  have h1 := hM.below hb hM.lt
  cases b
  · exact ⟨h1, fun B hB => hb.mono (Nat.le_of_lt (Nat.lt_of_le_of_lt hB hM.lt)), hb.size, fun k hk _ => hb.block k hk⟩
  · exact ⟨h1.store e, fun B hB => (hb.mono (Nat.le_of_lt (Nat.lt_of_le_of_lt hB hM.lt))).trans (h1.stays hB), Nat.le_trans hb.size (h1.stays (B := 0) (Nat.zero_le _)).size, fun k hk hne => (Below.heap_setCell _ _ _ _ hne).trans (hb.block k hk)⟩
theorem Wr.keep {g : Nat} {M : Msg} {b : Bool} {w w' : World} (hM : OwnM w g M) (hb : Below w.heap.size w w') : OwnM w' g (cond b M M) ∧ (∀ B, B ≤ g → Below B w w') ∧ w.heap.size ≤ w'.heap.size ∧ ∀ k, k < w.heap.size → k ≠ g → w'.heap[k]? = w.heap[k]? := by
  cases b <;> exact ⟨hM.below hb hM.lt, fun B hB => hb.mono (Nat.le_of_lt (Nat.lt_of_le_of_lt hB hM.lt)), hb.size, fun k hk _ => hb.block k hk⟩

theorem cond_and {α : Type} (a b : Bool) (x y : α) : cond (a && b) x y = cond a (cond b x y) y := by cases a <;> cases b <;> rfl
theorem getD_at {l : List ByteArray} {n : Nat} (h : n < l.length) : l[n]? = some (l.getD n ⟨#[]⟩) := by simp [List.getD, h]
theorem hlt {x z : Int} {n : Nat} (h1 : x ≤ z) (h2 : z - x < (n : Int)) : (z - x).toNat < n := by omega
set_option maxRecDepth 100000 in
theorem there_at (r : Nat) (hr : r < 45) (g b : Nat) (M : Msg) (w : World) (hM : OwnM w g M) :
    Calls Tryz.prog (thF r) #[xVal r g b] w fun e w' => e = .returned (.bool (thB r M)) ∧ Below w.heap.size w w' := by
  rcases cases45 hr with rfl | rfl | rfl | rfl | rfl | rfl | rfl | rfl | rfl | rfl | rfl | rfl | rfl | rfl | rfl | rfl | rfl | rfl | rfl | rfl | rfl | rfl | rfl | rfl | rfl | rfl | rfl | rfl | rfl | rfl | rfl | rfl | rfl | rfl | rfl | rfl | rfl | rfl | rfl | rfl | rfl | rfl | rfl | rfl | rfl
  · exact code_there ⟨g, 0, none⟩ 1 (M.z 0) (.slice (some ⟨b, 0, none⟩) 17 17) rfl w (hM.cell 0 (by decide))
  · exact text_there ⟨g, 1, none⟩ (M.s 1) (.func (.func 75) #[] #[]) rfl w (hM.cell 1 (by decide))
  · exact text_there ⟨g, 2, none⟩ (M.s 2) (.func (.func 75) #[] #[]) rfl w (hM.cell 2 (by decide))
  · exact numI_there ⟨g, 3, none⟩ 1 999999999 (M.z 3) w (hM.cell 3 (by decide))
  · exact flag_there ⟨g, 4, none⟩ (M.b 4) w (hM.cell 4 (by decide))
  · exact stamp_there ⟨g, 5, none⟩ 0 (M.z 5) w (hM.cell 5 (by decide))
  · exact stamp_there ⟨g, 6, none⟩ 1 (M.z 6) w (hM.cell 6 (by decide))
  · exact enc_there w
  · exact numI_there ⟨g, 7, none⟩ 1 3600 (M.z 7) w (hM.cell 7 (by decide))
  · exact flag_there ⟨g, 8, none⟩ (M.b 8) w (hM.cell 8 (by decide))
  · exact text_there ⟨g, 9, none⟩ (M.s 9) (.func (.func 138) #[] #[]) rfl w (hM.cell 9 (by decide))
  · exact numI_there ⟨g, 10, none⟩ 1 999999999 (M.z 10) w (hM.cell 10 (by decide))
  · exact numI_there ⟨g, 11, none⟩ 0 999999999 (M.z 11) w (hM.cell 11 (by decide))
  · exact numI_there ⟨g, 12, none⟩ 1 999999999 (M.z 12) w (hM.cell 12 (by decide))
  · exact flag_there ⟨g, 13, none⟩ (M.b 13) w (hM.cell 13 (by decide))
  · exact numI_there ⟨g, 14, none⟩ 1 999999999 (M.z 14) w (hM.cell 14 (by decide))
  · exact code_there ⟨g, 15, none⟩ 1 (M.z 15) (.slice (some ⟨b, 0, none⟩) 17 17) rfl w (hM.cell 15 (by decide))
  · exact numI_there ⟨g, 16, none⟩ 1 9999 (M.z 16) w (hM.cell 16 (by decide))
  · exact numI_there ⟨g, 17, none⟩ 0 999 (M.z 17) w (hM.cell 17 (by decide))
  · exact text_there ⟨g, 18, none⟩ (M.s 18) (.func (.func 96) #[] #[]) rfl w (hM.cell 18 (by decide))
  · exact text_there ⟨g, 19, none⟩ (M.s 19) (.func (.func 98) #[] #[]) rfl w (hM.cell 19 (by decide))
  · exact text_there ⟨g, 20, none⟩ (M.s 20) (.func (.func 98) #[] #[]) rfl w (hM.cell 20 (by decide))
  · exact text_there ⟨g, 21, none⟩ (M.s 21) (.func (.func 75) #[] #[]) rfl w (hM.cell 21 (by decide))
  · exact text_there ⟨g, 22, none⟩ (M.s 22) (.func (.func 102) #[] #[]) rfl w (hM.cell 22 (by decide))
  · exact code_there ⟨g, 23, none⟩ 1 (M.z 23) (.slice (some ⟨b, 0, none⟩) 2 2) rfl w (hM.cell 23 (by decide))
  · exact code_there ⟨g, 24, none⟩ 1 (M.z 24) (.slice (some ⟨b, 0, none⟩) 4 4) rfl w (hM.cell 24 (by decide))
  · exact code_there ⟨g, 25, none⟩ 1 (M.z 25) (.slice (some ⟨b, 0, none⟩) 7 7) rfl w (hM.cell 25 (by decide))
  · exact inst_there ⟨g, 25, none⟩ (M.z 25) w (hM.cell 25 (by decide))
  · exact price_there ⟨g, 26, none⟩ (M.z 26) w (hM.cell 26 (by decide))
  · exact price_there ⟨g, 27, none⟩ (M.z 27) w (hM.cell 27 (by decide))
  · exact numL_there ⟨g, 28, none⟩ 1 1000000 (M.z 28) w (hM.cell 28 (by decide))
  · exact numL_there ⟨g, 29, none⟩ 1 1000000 (M.z 29) w (hM.cell 29 (by decide))
  · exact numL_there ⟨g, 30, none⟩ 1 1000000 (M.z 30) w (hM.cell 30 (by decide))
  · exact date_there ⟨g, 31, none⟩ (M.z 31) w (hM.cell 31 (by decide))
  · exact ordn_there ⟨g, 32, none⟩ (M.z 32) w (hM.cell 32 (by decide))
  · exact numI_there ⟨g, 33, none⟩ 1 999999999 (M.z 33) w (hM.cell 33 (by decide))
  · exact code_there ⟨g, 34, none⟩ 1 (M.z 34) (.slice (some ⟨b, 0, none⟩) 8 8) rfl w (hM.cell 34 (by decide))
  · exact code_there ⟨g, 35, none⟩ 1 (M.z 35) (.slice (some ⟨b, 0, none⟩) 6 6) rfl w (hM.cell 35 (by decide))
  · exact price_there ⟨g, 36, none⟩ (M.z 36) w (hM.cell 36 (by decide))
  · exact numL_there ⟨g, 37, none⟩ 1 1000000 (M.z 37) w (hM.cell 37 (by decide))
  · exact numL_there ⟨g, 38, none⟩ 0 1000000 (M.z 38) w (hM.cell 38 (by decide))
  · exact numL_there ⟨g, 39, none⟩ 0 1000000 (M.z 39) w (hM.cell 39 (by decide))
  · exact code_there ⟨g, 40, none⟩ 0 (M.z 40) (.slice (some ⟨b, 0, none⟩) 6 6) rfl w (hM.cell 40 (by decide))
  · exact numI_there ⟨g, 41, none⟩ 0 999999999 (M.z 41) w (hM.cell 41 (by decide))
  · exact scope_there ⟨g, 22, none⟩ w
set_option maxRecDepth 100000 in
theorem write_at (r : Nat) (hr : r < 45) (g b : Nat) (M : Msg) (w : World) (hM : OwnM w g M) (hz : M.ok) (hmon : Mon w) (hp : Pow w) (hwd : WdAt w r b) (hok : wrOk r M) :
    Calls Tryz.prog (wrF r) #[xVal r g b] w fun e w' => e = .returned (.string (wrS r M)) ∧ Below w.heap.size w w' := by
  rcases cases45 hr with rfl | rfl | rfl | rfl | rfl | rfl | rfl | rfl | rfl | rfl | rfl | rfl | rfl | rfl | rfl | rfl | rfl | rfl | rfl | rfl | rfl | rfl | rfl | rfl | rfl | rfl | rfl | rfl | rfl | rfl | rfl | rfl | rfl | rfl | rfl | rfl | rfl | rfl | rfl | rfl | rfl | rfl | rfl | rfl | rfl
  · exact code_write ⟨g, 0, none⟩ 1 (M.z 0) b ((M.z 0) - 1).toNat 17 _ w (Int.toNat_of_nonneg (Int.sub_nonneg.2 hok.1)).symm (by decide) (hlt hok.1 hok.2) (by decide) (hM.cell 0 (by decide)) (hwd _ _ (getD_at (hlt hok.1 hok.2)))
  · exact text_write ⟨g, 1, none⟩ (M.s 1) (.func (.func 75) #[] #[]) rfl w (hM.cell 1 (by decide))
  · exact text_write ⟨g, 2, none⟩ (M.s 2) (.func (.func 75) #[] #[]) rfl w (hM.cell 2 (by decide))
  · exact numI_write ⟨g, 3, none⟩ 1 999999999 (M.z 3) (hz 3).1 (hz 3).2 w (hM.cell 3 (by decide)) hp
  · exact flag_write ⟨g, 4, none⟩ (M.b 4) w (hM.cell 4 (by decide))
  · exact (fun (hok : 0 ≤ (M.z 5) ∧ (M.z 5) ≤ 253402300799999) => stamp_write ⟨g, 5, none⟩ 0 (M.z 5).toNat w (by rw [Int.toNat_of_nonneg hok.1]; exact hM.cell 5 (by decide)) (by have := hok.1; have := hok.2; omega) hmon) hok
  · exact (fun (hok : 0 ≤ (M.z 6) ∧ (M.z 6) ≤ 253402300799999) => stamp_write ⟨g, 6, none⟩ 1 (M.z 6).toNat w (by rw [Int.toNat_of_nonneg hok.1]; exact hM.cell 6 (by decide)) (by have := hok.1; have := hok.2; omega) hmon) hok
  · exact enc_write w
  · exact numI_write ⟨g, 7, none⟩ 1 3600 (M.z 7) (hz 7).1 (hz 7).2 w (hM.cell 7 (by decide)) hp
  · exact flag_write ⟨g, 8, none⟩ (M.b 8) w (hM.cell 8 (by decide))
  · exact text_write ⟨g, 9, none⟩ (M.s 9) (.func (.func 138) #[] #[]) rfl w (hM.cell 9 (by decide))
  · exact numI_write ⟨g, 10, none⟩ 1 999999999 (M.z 10) (hz 10).1 (hz 10).2 w (hM.cell 10 (by decide)) hp
  · exact numI_write ⟨g, 11, none⟩ 0 999999999 (M.z 11) (hz 11).1 (hz 11).2 w (hM.cell 11 (by decide)) hp
  · exact numI_write ⟨g, 12, none⟩ 1 999999999 (M.z 12) (hz 12).1 (hz 12).2 w (hM.cell 12 (by decide)) hp
  · exact flag_write ⟨g, 13, none⟩ (M.b 13) w (hM.cell 13 (by decide))
  · exact numI_write ⟨g, 14, none⟩ 1 999999999 (M.z 14) (hz 14).1 (hz 14).2 w (hM.cell 14 (by decide)) hp
  · exact code_write ⟨g, 15, none⟩ 1 (M.z 15) b ((M.z 15) - 1).toNat 17 _ w (Int.toNat_of_nonneg (Int.sub_nonneg.2 hok.1)).symm (by decide) (hlt hok.1 hok.2) (by decide) (hM.cell 15 (by decide)) (hwd _ _ (getD_at (hlt hok.1 hok.2)))
  · exact numI_write ⟨g, 16, none⟩ 1 9999 (M.z 16) (hz 16).1 (hz 16).2 w (hM.cell 16 (by decide)) hp
  · exact numI_write ⟨g, 17, none⟩ 0 999 (M.z 17) (hz 17).1 (hz 17).2 w (hM.cell 17 (by decide)) hp
  · exact text_write ⟨g, 18, none⟩ (M.s 18) (.func (.func 96) #[] #[]) rfl w (hM.cell 18 (by decide))
  · exact text_write ⟨g, 19, none⟩ (M.s 19) (.func (.func 98) #[] #[]) rfl w (hM.cell 19 (by decide))
  · exact text_write ⟨g, 20, none⟩ (M.s 20) (.func (.func 98) #[] #[]) rfl w (hM.cell 20 (by decide))
  · exact text_write ⟨g, 21, none⟩ (M.s 21) (.func (.func 75) #[] #[]) rfl w (hM.cell 21 (by decide))
  · exact text_write ⟨g, 22, none⟩ (M.s 22) (.func (.func 102) #[] #[]) rfl w (hM.cell 22 (by decide))
  · exact code_write ⟨g, 23, none⟩ 1 (M.z 23) b ((M.z 23) - 1).toNat 2 _ w (Int.toNat_of_nonneg (Int.sub_nonneg.2 hok.1)).symm (by decide) (hlt hok.1 hok.2) (by decide) (hM.cell 23 (by decide)) (hwd _ _ (getD_at (hlt hok.1 hok.2)))
  · exact code_write ⟨g, 24, none⟩ 1 (M.z 24) b ((M.z 24) - 1).toNat 4 _ w (Int.toNat_of_nonneg (Int.sub_nonneg.2 hok.1)).symm (by decide) (hlt hok.1 hok.2) (by decide) (hM.cell 24 (by decide)) (hwd _ _ (getD_at (hlt hok.1 hok.2)))
  · exact code_write ⟨g, 25, none⟩ 1 (M.z 25) b ((M.z 25) - 1).toNat 7 _ w (Int.toNat_of_nonneg (Int.sub_nonneg.2 hok.1)).symm (by decide) (hlt hok.1 hok.2) (by decide) (hM.cell 25 (by decide)) (hwd _ _ (getD_at (hlt hok.1 hok.2)))
  · exact inst_write ⟨g, 25, none⟩ w
  · exact price_write ⟨g, 26, none⟩ (M.z 26) (hz 26).1 (hz 26).2 w (hM.cell 26 (by decide)) hp
  · exact price_write ⟨g, 27, none⟩ (M.z 27) (hz 27).1 (hz 27).2 w (hM.cell 27 (by decide)) hp
  · exact numL_write ⟨g, 28, none⟩ 1 1000000 (M.z 28) (hz 28).1 (hz 28).2 w (hM.cell 28 (by decide)) hp
  · exact numL_write ⟨g, 29, none⟩ 1 1000000 (M.z 29) (hz 29).1 (hz 29).2 w (hM.cell 29 (by decide)) hp
  · exact numL_write ⟨g, 30, none⟩ 1 1000000 (M.z 30) (hz 30).1 (hz 30).2 w (hM.cell 30 (by decide)) hp
  · exact date_write ⟨g, 31, none⟩ (M.z 31) (hz 31).1 (hz 31).2 w (hM.cell 31 (by decide)) hp
  · exact ordn_write ⟨g, 32, none⟩ (M.z 32) (hz 32).1 (hz 32).2 w (hM.cell 32 (by decide)) hp
  · exact numI_write ⟨g, 33, none⟩ 1 999999999 (M.z 33) (hz 33).1 (hz 33).2 w (hM.cell 33 (by decide)) hp
  · exact code_write ⟨g, 34, none⟩ 1 (M.z 34) b ((M.z 34) - 1).toNat 8 _ w (Int.toNat_of_nonneg (Int.sub_nonneg.2 hok.1)).symm (by decide) (hlt hok.1 hok.2) (by decide) (hM.cell 34 (by decide)) (hwd _ _ (getD_at (hlt hok.1 hok.2)))
  · exact code_write ⟨g, 35, none⟩ 1 (M.z 35) b ((M.z 35) - 1).toNat 6 _ w (Int.toNat_of_nonneg (Int.sub_nonneg.2 hok.1)).symm (by decide) (hlt hok.1 hok.2) (by decide) (hM.cell 35 (by decide)) (hwd _ _ (getD_at (hlt hok.1 hok.2)))
  · exact price_write ⟨g, 36, none⟩ (M.z 36) (hz 36).1 (hz 36).2 w (hM.cell 36 (by decide)) hp
  · exact numL_write ⟨g, 37, none⟩ 1 1000000 (M.z 37) (hz 37).1 (hz 37).2 w (hM.cell 37 (by decide)) hp
  · exact numL_write ⟨g, 38, none⟩ 0 1000000 (M.z 38) (hz 38).1 (hz 38).2 w (hM.cell 38 (by decide)) hp
  · exact numL_write ⟨g, 39, none⟩ 0 1000000 (M.z 39) (hz 39).1 (hz 39).2 w (hM.cell 39 (by decide)) hp
  · exact code_write ⟨g, 40, none⟩ 0 (M.z 40) b ((M.z 40) - 0).toNat 6 _ w (Int.toNat_of_nonneg (Int.sub_nonneg.2 hok.1)).symm (by decide) (hlt hok.1 hok.2) (by decide) (hM.cell 40 (by decide)) (hwd _ _ (getD_at (hlt hok.1 hok.2)))
  · exact numI_write ⟨g, 41, none⟩ 0 999999999 (M.z 41) (hz 41).1 (hz 41).2 w (hM.cell 41 (by decide)) hp
  · exact scope_write ⟨g, 22, none⟩ (M.s 22) w (hM.cell 22 (by decide))
set_option maxRecDepth 100000 in
theorem read_at (r : Nat) (hr : r < 45) (g b : Nat) (M : Msg) (s : ByteArray) (w : World) (hM : OwnM w g M) (hmon : Mon w) (hs : s.size ≤ maxLen) (hwd : WdAt w r b) :
    Calls Tryz.prog (rdFn r) #[xVal r g b, .string s] w fun e w' => e = .returned (.bool (rdBo r s)) ∧ RdP r s g M w w' := by
  rcases cases45 hr with rfl | rfl | rfl | rfl | rfl | rfl | rfl | rfl | rfl | rfl | rfl | rfl | rfl | rfl | rfl | rfl | rfl | rfl | rfl | rfl | rfl | rfl | rfl | rfl | rfl | rfl | rfl | rfl | rfl | rfl | rfl | rfl | rfl | rfl | rfl | rfl | rfl | rfl | rfl | rfl | rfl | rfl | rfl | rfl | rfl
  · exact (code_read ⟨g, 0, none⟩ 1 (M.z 0) b 17 (xwd 0) s w (by decide) rfl (by decide) (hM.cell 0 (by decide)) (hM.frozen 0) hwd).mono (fun e w' h => ⟨h.1, Wr.msg hM h.2 (cs_setZ M 0 _ (by decide) (by decide) (by decide))⟩)
  · exact (text_read ⟨g, 1, none⟩ 75 (nmS s) (M.s 1) s w (hM.cell 1 (by decide)) (hM.frozen 1) (fun x w' => by kernel_rfl) (fun w' => IsName_any s w')).mono (fun e w' h => ⟨h.1, Wr.msg hM h.2 (cs_setS M 1 _ (by decide) (by decide))⟩)
  · exact (text_read ⟨g, 2, none⟩ 75 (nmS s) (M.s 2) s w (hM.cell 2 (by decide)) (hM.frozen 2) (fun x w' => by kernel_rfl) (fun w' => IsName_any s w')).mono (fun e w' h => ⟨h.1, Wr.msg hM h.2 (cs_setS M 2 _ (by decide) (by decide))⟩)
  · exact (numI_read ⟨g, 3, none⟩ 1 999999999 (M.z 3) s w (hM.cell 3 (by decide)) (hM.frozen 3) hs (by decide)).mono (fun e w' h => ⟨h.1, Wr.msg hM h.2 (cs_setZ M 3 _ (by decide) (by decide) (by decide))⟩)
  · exact (flag_read ⟨g, 4, none⟩ (M.b 4) s w (hM.cell 4 (by decide)) (hM.frozen 4)).mono (fun e w' h => ⟨h.1, Wr.msg hM h.2 (cs_setB M 4 _ (by decide) (by decide) (by decide))⟩)
  · exact (stamp_read ⟨g, 5, none⟩ 0 (M.z 5) s w (hM.cell 5 (by decide)) (hM.frozen 5) hmon).mono (fun e w' h => ⟨h.1, Wr.msg hM h.2 (cs_setZ M 5 _ (by decide) (by decide) (by decide))⟩)
  · exact (stamp_read ⟨g, 6, none⟩ 1 (M.z 6) s w (hM.cell 6 (by decide)) (hM.frozen 6) hmon).mono (fun e w' h => ⟨h.1, Wr.msg hM h.2 (cs_setZ M 6 _ (by decide) (by decide) (by decide))⟩)
  · exact (enc_read s w).mono (fun e w' h => ⟨h.1, Wr.keep hM h.2⟩)
  · exact (numI_read ⟨g, 7, none⟩ 1 3600 (M.z 7) s w (hM.cell 7 (by decide)) (hM.frozen 7) hs (by decide)).mono (fun e w' h => ⟨h.1, Wr.msg hM h.2 (cs_setZ M 7 _ (by decide) (by decide) (by decide))⟩)
  · exact (flag_read ⟨g, 8, none⟩ (M.b 8) s w (hM.cell 8 (by decide)) (hM.frozen 8)).mono (fun e w' h => ⟨h.1, Wr.msg hM h.2 (cs_setB M 8 _ (by decide) (by decide) (by decide))⟩)
  · exact (text_read ⟨g, 9, none⟩ 138 (tiS s) (M.s 9) s w (hM.cell 9 (by decide)) (hM.frozen 9) (fun x w' => by kernel_rfl) (fun w' => fisTestID_any s w')).mono (fun e w' h => ⟨h.1, Wr.msg hM h.2 (cs_setS M 9 _ (by decide) (by decide))⟩)
  · exact (numI_read ⟨g, 10, none⟩ 1 999999999 (M.z 10) s w (hM.cell 10 (by decide)) (hM.frozen 10) hs (by decide)).mono (fun e w' h => ⟨h.1, Wr.msg hM h.2 (cs_setZ M 10 _ (by decide) (by decide) (by decide))⟩)
  · exact (numI_read ⟨g, 11, none⟩ 0 999999999 (M.z 11) s w (hM.cell 11 (by decide)) (hM.frozen 11) hs (by decide)).mono (fun e w' h => ⟨h.1, Wr.msg hM h.2 (cs_setZ M 11 _ (by decide) (by decide) (by decide))⟩)
  · exact (numI_read ⟨g, 12, none⟩ 1 999999999 (M.z 12) s w (hM.cell 12 (by decide)) (hM.frozen 12) hs (by decide)).mono (fun e w' h => ⟨h.1, Wr.msg hM h.2 (cs_setZ M 12 _ (by decide) (by decide) (by decide))⟩)
  · exact (flag_read ⟨g, 13, none⟩ (M.b 13) s w (hM.cell 13 (by decide)) (hM.frozen 13)).mono (fun e w' h => ⟨h.1, Wr.msg hM h.2 (cs_setB M 13 _ (by decide) (by decide) (by decide))⟩)
  · exact (numI_read ⟨g, 14, none⟩ 1 999999999 (M.z 14) s w (hM.cell 14 (by decide)) (hM.frozen 14) hs (by decide)).mono (fun e w' h => ⟨h.1, Wr.msg hM h.2 (cs_setZ M 14 _ (by decide) (by decide) (by decide))⟩)
  · exact (code_read ⟨g, 15, none⟩ 1 (M.z 15) b 17 (xwd 16) s w (by decide) rfl (by decide) (hM.cell 15 (by decide)) (hM.frozen 15) hwd).mono (fun e w' h => ⟨h.1, Wr.msg hM h.2 (cs_setZ M 15 _ (by decide) (by decide) (by decide))⟩)
  · exact (numI_read ⟨g, 16, none⟩ 1 9999 (M.z 16) s w (hM.cell 16 (by decide)) (hM.frozen 16) hs (by decide)).mono (fun e w' h => ⟨h.1, Wr.msg hM h.2 (cs_setZ M 16 _ (by decide) (by decide) (by decide))⟩)
  · exact (numI_read ⟨g, 17, none⟩ 0 999 (M.z 17) s w (hM.cell 17 (by decide)) (hM.frozen 17) hs (by decide)).mono (fun e w' h => ⟨h.1, Wr.msg hM h.2 (cs_setZ M 17 _ (by decide) (by decide) (by decide))⟩)
  · exact (text_read ⟨g, 18, none⟩ 96 (txS s) (M.s 18) s w (hM.cell 18 (by decide)) (hM.frozen 18) (fun x w' => by kernel_rfl) (fun w' => IsText_any s w')).mono (fun e w' h => ⟨h.1, Wr.msg hM h.2 (cs_setS M 18 _ (by decide) (by decide))⟩)
  · exact (text_read ⟨g, 19, none⟩ 98 (idS s) (M.s 19) s w (hM.cell 19 (by decide)) (hM.frozen 19) (fun x w' => by kernel_rfl) (fun w' => IsID_any s w')).mono (fun e w' h => ⟨h.1, Wr.msg hM h.2 (cs_setS M 19 _ (by decide) (by decide))⟩)
  · exact (text_read ⟨g, 20, none⟩ 98 (idS s) (M.s 20) s w (hM.cell 20 (by decide)) (hM.frozen 20) (fun x w' => by kernel_rfl) (fun w' => IsID_any s w')).mono (fun e w' h => ⟨h.1, Wr.msg hM h.2 (cs_setS M 20 _ (by decide) (by decide))⟩)
  · exact (text_read ⟨g, 21, none⟩ 75 (nmS s) (M.s 21) s w (hM.cell 21 (by decide)) (hM.frozen 21) (fun x w' => by kernel_rfl) (fun w' => IsName_any s w')).mono (fun e w' h => ⟨h.1, Wr.msg hM h.2 (cs_setS M 21 _ (by decide) (by decide))⟩)
  · exact (text_read ⟨g, 22, none⟩ 102 (syS s) (M.s 22) s w (hM.cell 22 (by decide)) (hM.frozen 22) (fun x w' => by kernel_rfl) (fun w' => IsSymbol_any s w')).mono (fun e w' h => ⟨h.1, Wr.msg hM h.2 (cs_setS M 22 _ (by decide) (by decide))⟩)
  · exact (code_read ⟨g, 23, none⟩ 1 (M.z 23) b 2 (xwd 24) s w (by decide) rfl (by decide) (hM.cell 23 (by decide)) (hM.frozen 23) hwd).mono (fun e w' h => ⟨h.1, Wr.msg hM h.2 (cs_setZ M 23 _ (by decide) (by decide) (by decide))⟩)
  · exact (code_read ⟨g, 24, none⟩ 1 (M.z 24) b 4 (xwd 25) s w (by decide) rfl (by decide) (hM.cell 24 (by decide)) (hM.frozen 24) hwd).mono (fun e w' h => ⟨h.1, Wr.msg hM h.2 (cs_setZ M 24 _ (by decide) (by decide) (by decide))⟩)
  · exact (code_read ⟨g, 25, none⟩ 1 (M.z 25) b 7 (xwd 26) s w (by decide) rfl (by decide) (hM.cell 25 (by decide)) (hM.frozen 25) hwd).mono (fun e w' h => ⟨h.1, Wr.msg hM h.2 (cs_setZ M 25 _ (by decide) (by decide) (by decide))⟩)
  · exact (inst_read ⟨g, 25, none⟩ (M.z 25) s w (hM.cell 25 (by decide)) (hM.frozen 25)).mono (fun e w' h => ⟨h.1, by have := Wr.msg hM h.2 (cs_setZ M 25 7 (by decide) (by decide) (by decide)); rw [cond_and] at this; exact this⟩)
  · exact (price_read ⟨g, 26, none⟩ (M.z 26) s w (hM.cell 26 (by decide)) (hM.frozen 26) hs).mono (fun e w' h => ⟨h.1, Wr.msg hM h.2 (cs_setZ M 26 _ (by decide) (by decide) (by decide))⟩)
  · exact (price_read ⟨g, 27, none⟩ (M.z 27) s w (hM.cell 27 (by decide)) (hM.frozen 27) hs).mono (fun e w' h => ⟨h.1, Wr.msg hM h.2 (cs_setZ M 27 _ (by decide) (by decide) (by decide))⟩)
  · exact (numL_read ⟨g, 28, none⟩ 1 1000000 (M.z 28) s w (hM.cell 28 (by decide)) (hM.frozen 28) hs (by decide)).mono (fun e w' h => ⟨h.1, Wr.msg hM h.2 (cs_setZ M 28 _ (by decide) (by decide) (by decide))⟩)
  · exact (numL_read ⟨g, 29, none⟩ 1 1000000 (M.z 29) s w (hM.cell 29 (by decide)) (hM.frozen 29) hs (by decide)).mono (fun e w' h => ⟨h.1, Wr.msg hM h.2 (cs_setZ M 29 _ (by decide) (by decide) (by decide))⟩)
  · exact (numL_read ⟨g, 30, none⟩ 1 1000000 (M.z 30) s w (hM.cell 30 (by decide)) (hM.frozen 30) hs (by decide)).mono (fun e w' h => ⟨h.1, Wr.msg hM h.2 (cs_setZ M 30 _ (by decide) (by decide) (by decide))⟩)
  · exact (date_read ⟨g, 31, none⟩ (M.z 31) s w (hM.cell 31 (by decide)) (hM.frozen 31) hs hmon).mono (fun e w' h => ⟨h.1, Wr.msg hM h.2 (cs_setZ M 31 _ (by decide) (by decide) (by decide))⟩)
  · exact (ordn_read ⟨g, 32, none⟩ (M.z 32) s w (hM.cell 32 (by decide)) (hM.frozen 32) hs).mono (fun e w' h => ⟨h.1, Wr.msg hM h.2 (cs_setZ M 32 _ (by decide) (by decide) (by decide))⟩)
  · exact (numI_read ⟨g, 33, none⟩ 1 999999999 (M.z 33) s w (hM.cell 33 (by decide)) (hM.frozen 33) hs (by decide)).mono (fun e w' h => ⟨h.1, Wr.msg hM h.2 (cs_setZ M 33 _ (by decide) (by decide) (by decide))⟩)
  · exact (code_read ⟨g, 34, none⟩ 1 (M.z 34) b 8 (xwd 36) s w (by decide) rfl (by decide) (hM.cell 34 (by decide)) (hM.frozen 34) hwd).mono (fun e w' h => ⟨h.1, Wr.msg hM h.2 (cs_setZ M 34 _ (by decide) (by decide) (by decide))⟩)
  · exact (code_read ⟨g, 35, none⟩ 1 (M.z 35) b 6 (xwd 37) s w (by decide) rfl (by decide) (hM.cell 35 (by decide)) (hM.frozen 35) hwd).mono (fun e w' h => ⟨h.1, Wr.msg hM h.2 (cs_setZ M 35 _ (by decide) (by decide) (by decide))⟩)
  · exact (price_read ⟨g, 36, none⟩ (M.z 36) s w (hM.cell 36 (by decide)) (hM.frozen 36) hs).mono (fun e w' h => ⟨h.1, Wr.msg hM h.2 (cs_setZ M 36 _ (by decide) (by decide) (by decide))⟩)
  · exact (numL_read ⟨g, 37, none⟩ 1 1000000 (M.z 37) s w (hM.cell 37 (by decide)) (hM.frozen 37) hs (by decide)).mono (fun e w' h => ⟨h.1, Wr.msg hM h.2 (cs_setZ M 37 _ (by decide) (by decide) (by decide))⟩)
  · exact (numL_read ⟨g, 38, none⟩ 0 1000000 (M.z 38) s w (hM.cell 38 (by decide)) (hM.frozen 38) hs (by decide)).mono (fun e w' h => ⟨h.1, Wr.msg hM h.2 (cs_setZ M 38 _ (by decide) (by decide) (by decide))⟩)
  · exact (numL_read ⟨g, 39, none⟩ 0 1000000 (M.z 39) s w (hM.cell 39 (by decide)) (hM.frozen 39) hs (by decide)).mono (fun e w' h => ⟨h.1, Wr.msg hM h.2 (cs_setZ M 39 _ (by decide) (by decide) (by decide))⟩)
  · exact (code_read ⟨g, 40, none⟩ 0 (M.z 40) b 6 (xwd 42) s w (by decide) rfl (by decide) (hM.cell 40 (by decide)) (hM.frozen 40) hwd).mono (fun e w' h => ⟨h.1, Wr.msg hM h.2 (cs_setZ M 40 _ (by decide) (by decide) (by decide))⟩)
  · exact (numI_read ⟨g, 41, none⟩ 0 999999999 (M.z 41) s w (hM.cell 41 (by decide)) (hM.frozen 41) hs (by decide)).mono (fun e w' h => ⟨h.1, Wr.msg hM h.2 (cs_setZ M 41 _ (by decide) (by decide) (by decide))⟩)
  · exact (scope_read ⟨g, 22, none⟩ s w).mono (fun e w' h => ⟨h.1, Wr.keep hM h.2⟩)
set_option maxRecDepth 100000 in
theorem form_at (r : Nat) (hr : r < 45) (g : Nat) (w : World) :
    Calls Tryz.prog (xFn.getD r 0) #[.pointer (some ⟨g, 0, none⟩)] w fun e w' => ∃ b, e = .returned (.iface (xty r) (xVal r g b)) ∧ Below w.heap.size w w' ∧ WdAt w' r b := by
  rcases cases45 hr with rfl | rfl | rfl | rfl | rfl | rfl | rfl | rfl | rfl | rfl | rfl | rfl | rfl | rfl | rfl | rfl | rfl | rfl | rfl | rfl | rfl | rfl | rfl | rfl | rfl | rfl | rfl | rfl | rfl | rfl | rfl | rfl | rfl | rfl | rfl | rfl | rfl | rfl | rfl | rfl | rfl | rfl | rfl | rfl | rfl
  · exact (clo_0 g w).mono (fun e w' h => ⟨_, h⟩)
  · exact (clo_1 g w).mono (fun e w' h => ⟨_, h⟩)
  · exact (clo_2 g w).mono (fun e w' h => ⟨_, h⟩)
  · exact (clo_3 g w).mono (fun e w' h => ⟨_, h⟩)
  · exact (clo_4 g w).mono (fun e w' h => ⟨_, h⟩)
  · exact (clo_5 g w).mono (fun e w' h => ⟨_, h⟩)
  · exact (clo_6 g w).mono (fun e w' h => ⟨_, h⟩)
  · exact (clo_7 g w).mono (fun e w' h => ⟨_, h⟩)
  · exact (clo_8 g w).mono (fun e w' h => ⟨_, h⟩)
  · exact (clo_9 g w).mono (fun e w' h => ⟨_, h⟩)
  · exact (clo_10 g w).mono (fun e w' h => ⟨_, h⟩)
  · exact (clo_11 g w).mono (fun e w' h => ⟨_, h⟩)
  · exact (clo_12 g w).mono (fun e w' h => ⟨_, h⟩)
  · exact (clo_13 g w).mono (fun e w' h => ⟨_, h⟩)
  · exact (clo_14 g w).mono (fun e w' h => ⟨_, h⟩)
  · exact (clo_15 g w).mono (fun e w' h => ⟨_, h⟩)
  · exact (clo_16 g w).mono (fun e w' h => ⟨_, h⟩)
  · exact (clo_17 g w).mono (fun e w' h => ⟨_, h⟩)
  · exact (clo_18 g w).mono (fun e w' h => ⟨_, h⟩)
  · exact (clo_19 g w).mono (fun e w' h => ⟨_, h⟩)
  · exact (clo_20 g w).mono (fun e w' h => ⟨_, h⟩)
  · exact (clo_21 g w).mono (fun e w' h => ⟨_, h⟩)
  · exact (clo_22 g w).mono (fun e w' h => ⟨_, h⟩)
  · exact (clo_23 g w).mono (fun e w' h => ⟨_, h⟩)
  · exact (clo_24 g w).mono (fun e w' h => ⟨_, h⟩)
  · exact (clo_25 g w).mono (fun e w' h => ⟨_, h⟩)
  · exact (clo_26 g w).mono (fun e w' h => ⟨_, h⟩)
  · exact (clo_27 g w).mono (fun e w' h => ⟨_, h⟩)
  · exact (clo_28 g w).mono (fun e w' h => ⟨_, h⟩)
  · exact (clo_29 g w).mono (fun e w' h => ⟨_, h⟩)
  · exact (clo_30 g w).mono (fun e w' h => ⟨_, h⟩)
  · exact (clo_31 g w).mono (fun e w' h => ⟨_, h⟩)
  · exact (clo_32 g w).mono (fun e w' h => ⟨_, h⟩)
  · exact (clo_33 g w).mono (fun e w' h => ⟨_, h⟩)
  · exact (clo_34 g w).mono (fun e w' h => ⟨_, h⟩)
  · exact (clo_35 g w).mono (fun e w' h => ⟨_, h⟩)
  · exact (clo_36 g w).mono (fun e w' h => ⟨_, h⟩)
  · exact (clo_37 g w).mono (fun e w' h => ⟨_, h⟩)
  · exact (clo_38 g w).mono (fun e w' h => ⟨_, h⟩)
  · exact (clo_39 g w).mono (fun e w' h => ⟨_, h⟩)
  · exact (clo_40 g w).mono (fun e w' h => ⟨_, h⟩)
  · exact (clo_41 g w).mono (fun e w' h => ⟨_, h⟩)
  · exact (clo_42 g w).mono (fun e w' h => ⟨_, h⟩)
  · exact (clo_43 g w).mono (fun e w' h => ⟨_, h⟩)
  · exact (clo_44 g w).mono (fun e w' h => ⟨_, h⟩)
set_option maxRecDepth 100000 in
theorem mth_there (r : Nat) (hr : r < 45) (g b : Nat) (w : World) : (method 412 (xty r) (xVal r g b) "outcry/fix.there").run Tryz.prog w = .ok (thF r, xVal r g b) w := by
  rcases cases45 hr with rfl | rfl | rfl | rfl | rfl | rfl | rfl | rfl | rfl | rfl | rfl | rfl | rfl | rfl | rfl | rfl | rfl | rfl | rfl | rfl | rfl | rfl | rfl | rfl | rfl | rfl | rfl | rfl | rfl | rfl | rfl | rfl | rfl | rfl | rfl | rfl | rfl | rfl | rfl | rfl | rfl | rfl | rfl | rfl | rfl <;> kernel_rfl
set_option maxRecDepth 100000 in
theorem cf_there (r : Nat) (hr : r < 45) (a : Array Value) (w : World) : Sem.run Tryz.prog (callFunc (thF r) a) w = .ok (.enter (thF r) a) w := by
  rcases cases45 hr with rfl | rfl | rfl | rfl | rfl | rfl | rfl | rfl | rfl | rfl | rfl | rfl | rfl | rfl | rfl | rfl | rfl | rfl | rfl | rfl | rfl | rfl | rfl | rfl | rfl | rfl | rfl | rfl | rfl | rfl | rfl | rfl | rfl | rfl | rfl | rfl | rfl | rfl | rfl | rfl | rfl | rfl | rfl | rfl | rfl <;> kernel_rfl
set_option maxRecDepth 100000 in
theorem mth_write (r : Nat) (hr : r < 45) (g b : Nat) (w : World) : (method 412 (xty r) (xVal r g b) "outcry/fix.write").run Tryz.prog w = .ok (wrF r, xVal r g b) w := by
  rcases cases45 hr with rfl | rfl | rfl | rfl | rfl | rfl | rfl | rfl | rfl | rfl | rfl | rfl | rfl | rfl | rfl | rfl | rfl | rfl | rfl | rfl | rfl | rfl | rfl | rfl | rfl | rfl | rfl | rfl | rfl | rfl | rfl | rfl | rfl | rfl | rfl | rfl | rfl | rfl | rfl | rfl | rfl | rfl | rfl | rfl | rfl <;> kernel_rfl
set_option maxRecDepth 100000 in
theorem cf_write (r : Nat) (hr : r < 45) (a : Array Value) (w : World) : Sem.run Tryz.prog (callFunc (wrF r) a) w = .ok (.enter (wrF r) a) w := by
  rcases cases45 hr with rfl | rfl | rfl | rfl | rfl | rfl | rfl | rfl | rfl | rfl | rfl | rfl | rfl | rfl | rfl | rfl | rfl | rfl | rfl | rfl | rfl | rfl | rfl | rfl | rfl | rfl | rfl | rfl | rfl | rfl | rfl | rfl | rfl | rfl | rfl | rfl | rfl | rfl | rfl | rfl | rfl | rfl | rfl | rfl | rfl <;> kernel_rfl
set_option maxRecDepth 100000 in
theorem mth_read (r : Nat) (hr : r < 45) (g b : Nat) (w : World) : (method 412 (xty r) (xVal r g b) "outcry/fix.read").run Tryz.prog w = .ok (rdFn r, xVal r g b) w := by
  rcases cases45 hr with rfl | rfl | rfl | rfl | rfl | rfl | rfl | rfl | rfl | rfl | rfl | rfl | rfl | rfl | rfl | rfl | rfl | rfl | rfl | rfl | rfl | rfl | rfl | rfl | rfl | rfl | rfl | rfl | rfl | rfl | rfl | rfl | rfl | rfl | rfl | rfl | rfl | rfl | rfl | rfl | rfl | rfl | rfl | rfl | rfl <;> kernel_rfl
set_option maxRecDepth 100000 in
theorem cf_read (r : Nat) (hr : r < 45) (a : Array Value) (w : World) : Sem.run Tryz.prog (callFunc (rdFn r) a) w = .ok (.enter (rdFn r) a) w := by
  rcases cases45 hr with rfl | rfl | rfl | rfl | rfl | rfl | rfl | rfl | rfl | rfl | rfl | rfl | rfl | rfl | rfl | rfl | rfl | rfl | rfl | rfl | rfl | rfl | rfl | rfl | rfl | rfl | rfl | rfl | rfl | rfl | rfl | rfl | rfl | rfl | rfl | rfl | rfl | rfl | rfl | rfl | rfl | rfl | rfl | rfl | rfl <;> kernel_rfl
end Go.Proofs.YtchkpggdndnpjabGreatDoor

namespace Go.Proofs.YtchkpggdndnpjabGreatDoor
set_option linter.unusedVariables false
open Go.RowKit Go.Great

theorem takeR {P : Program} {md : Region.Mode} {ops : Array Oper} {Q : Exit → Act → World → Prop} {S : World → Prop} {i : Nat} {oi : Oper} {v : Value} {fuel : Nat} {listed : Array Bool} {a : Act} {w : World} (d : Option Tmp) (hi : ops[i]? = some oi) (hd : oi.dst = d)
    (hs : Region.noSelect ops = true) (hf : Region.free md ops listed i = true) (hr : (Region.ready md ops listed).contains i = true)
    (hQ : ∀ c a w, Q (.panic c) (a.put d v) w → Q (.panic c) a w) (hy : YieldsIf P ops S oi v a) (hS : S w)
    (h : wpAnyH P md ops Q S fuel (listed.setIfInBounds i true) (a.put d v) w) : wpAnyH P md ops Q S (fuel + 1) listed a w := by
  subst hd
  exact wpAnyH_take hi hs hf hr hQ hy hS h
theorem callR {P : Program} {op : Oper} {a : Act} {w : World} {K : Act → World → Prop} {Q : Exit → Act → World → Prop} {d : Option Tmp} (hd : op.dst = d)
    (f : FuncId) (args : Array Value) (hrun : (execOp a.eval op).run P w = .ok (.enter f args) w) {R : Ending → World → Prop} (hc : Calls P f args w R)
    (h : ∀ e w', R e w' → ∃ v, e = .returned v ∧ K (a.put d v) w') : op.wp P a w K Q := by
  subst hd
  unfold Oper.wp
  rw [hrun, Oper.upon_enter]
  refine hc.mono fun e w'' hh => ?_
  obtain ⟨v, rfl, hw⟩ := h _ _ hh
  exact hw
theorem valR {P : Program} {op : Oper} {a : Act} {w w' : World} {K : Act → World → Prop} {Q : Exit → Act → World → Prop} {d : Option Tmp} (hd : op.dst = d) (v : Value)
    (hrun : (execOp a.eval op).run P w = .ok (.value v) w') (h : K (a.put d v) w') : op.wp P a w K Q := by
  subst hd
  unfold Oper.wp
  rw [hrun, Oper.upon_value]
  exact h
theorem skipR {P : Program} {op : Oper} {a : Act} {w w' : World} {K : Act → World → Prop} {Q : Exit → Act → World → Prop} {d : Option Tmp} (hd : op.dst = d)
    (hrun : (execOp a.eval op).run P w = .ok .skip w') (h : K (a.put d undef) w') : op.wp P a w K Q := by
  subst hd
  unfold Oper.wp
  rw [hrun]
  exact h
theorem exec_fv {op : Oper} {a : Act} {w : World} {lk : FuncId} {v : Value} {ty : TypeId} (t x : Operand) (ho : op.op = .call { callee := .value t, args := #[x], argTypes := #[ty] }) (ht : a.eval t = .func (.func lk) #[] #[]) (hx : a.eval x = v)
    (hcf : ∀ args w, (callFunc lk args).run Tryz.prog w = .ok (.enter lk args) w) : (execOp a.eval op).run Tryz.prog w = .ok (.enter lk #[v]) w := by
  unfold execOp
  simp only [ho, resolve, invoke, Sem.run_bind, Sem.run_pure, Result.andThen_ok, List.map_toArray, List.map_cons, List.map_nil, ht, hx, Deferred.ofValue, Array.empty_append, Array.append_empty]
  exact hcf #[v] w
end Go.Proofs.YtchkpggdndnpjabGreatDoor

namespace Go.Proofs.YtchkpggdndnpjabGreatDoor
set_option linter.unusedVariables false
open Go.RowKit

theorem exec_inv {op : Oper} {a : Act} {w : World} {F : FuncId} {V : Value} {T : TypeId} {nm : String} (t : Operand) (ho : op.op = .call { callee := .invoke t nm, args := #[], argTypes := #[] }) (ht : a.eval t = .iface T V)
    (hc : ∀ w, (callMethod (.iface T V) nm #[]).run Tryz.prog w = .ok (.enter F #[V]) w) : (execOp a.eval op).run Tryz.prog w = .ok (.enter F #[V]) w := by
  unfold execOp
  simp only [ho, resolve, Sem.run_bind, Sem.run_pure, Result.andThen_ok, ht, Array.map_empty, Array.append_empty]
  exact hc w
theorem exec_inv1 {op : Oper} {a : Act} {w : World} {F : FuncId} {V x : Value} {T ty : TypeId} {nm : String} (t u : Operand) (ho : op.op = .call { callee := .invoke t nm, args := #[u], argTypes := #[ty] }) (ht : a.eval t = .iface T V) (hu : a.eval u = x)
    (hc : ∀ w, (callMethod (.iface T V) nm #[x]).run Tryz.prog w = .ok (.enter F #[V, x]) w) : (execOp a.eval op).run Tryz.prog w = .ok (.enter F #[V, x]) w := by
  unfold execOp
  simp only [ho, resolve, Sem.run_bind, Sem.run_pure, Result.andThen_ok, ht, List.map_toArray, List.map_cons, List.map_nil, hu]
  exact hc w
set_option maxRecDepth 100000 in
theorem cm_there (r : Nat) (hr : r < 45) (g b : Nat) (w : World) : (callMethod (.iface (xty r) (xVal r g b)) "outcry/fix.there" #[]).run Tryz.prog w = .ok (.enter (thF r) #[xVal r g b]) w := by
  rcases cases45 hr with rfl | rfl | rfl | rfl | rfl | rfl | rfl | rfl | rfl | rfl | rfl | rfl | rfl | rfl | rfl | rfl | rfl | rfl | rfl | rfl | rfl | rfl | rfl | rfl | rfl | rfl | rfl | rfl | rfl | rfl | rfl | rfl | rfl | rfl | rfl | rfl | rfl | rfl | rfl | rfl | rfl | rfl | rfl | rfl | rfl <;> kernel_rfl
set_option maxRecDepth 100000 in
theorem cm_write (r : Nat) (hr : r < 45) (g b : Nat) (w : World) : (callMethod (.iface (xty r) (xVal r g b)) "outcry/fix.write" #[]).run Tryz.prog w = .ok (.enter (wrF r) #[xVal r g b]) w := by
  rcases cases45 hr with rfl | rfl | rfl | rfl | rfl | rfl | rfl | rfl | rfl | rfl | rfl | rfl | rfl | rfl | rfl | rfl | rfl | rfl | rfl | rfl | rfl | rfl | rfl | rfl | rfl | rfl | rfl | rfl | rfl | rfl | rfl | rfl | rfl | rfl | rfl | rfl | rfl | rfl | rfl | rfl | rfl | rfl | rfl | rfl | rfl <;> kernel_rfl
set_option maxRecDepth 100000 in
theorem cm_read (r : Nat) (hr : r < 45) (g b : Nat) (x : Value) (w : World) : (callMethod (.iface (xty r) (xVal r g b)) "outcry/fix.read" #[x]).run Tryz.prog w = .ok (.enter (rdFn r) #[xVal r g b, x]) w := by
  rcases cases45 hr with rfl | rfl | rfl | rfl | rfl | rfl | rfl | rfl | rfl | rfl | rfl | rfl | rfl | rfl | rfl | rfl | rfl | rfl | rfl | rfl | rfl | rfl | rfl | rfl | rfl | rfl | rfl | rfl | rfl | rfl | rfl | rfl | rfl | rfl | rfl | rfl | rfl | rfl | rfl | rfl | rfl | rfl | rfl | rfl | rfl <;> kernel_rfl
set_option maxRecDepth 100000 in
theorem na_read (r : Nat) (hr : r < 45) (g b : Nat) (w : World) : (nilAhead (Tryz.prog.types.size + Made.depth) (xty r) (xVal r g b) "outcry/fix.read").run Tryz.prog w = .ok (some false) w := by
  rcases cases45 hr with rfl | rfl | rfl | rfl | rfl | rfl | rfl | rfl | rfl | rfl | rfl | rfl | rfl | rfl | rfl | rfl | rfl | rfl | rfl | rfl | rfl | rfl | rfl | rfl | rfl | rfl | rfl | rfl | rfl | rfl | rfl | rfl | rfl | rfl | rfl | rfl | rfl | rfl | rfl | rfl | rfl | rfl | rfl | rfl | rfl <;> kernel_rfl
set_option maxRecDepth 100000 in
theorem exec_nc {op : Oper} {a : Act} {w : World} (r : Nat) (hr : r < 45) (g b : Nat) (t : Operand) (ho : op.op = .nilCheck t) (ht : a.eval t = .func (.method "outcry/fix.read") #[.iface (xty r) (xVal r g b)] #[]) :
    (execOp a.eval op).run Tryz.prog w = .ok (.value (.func (.method "outcry/fix.read") #[.iface (xty r) (xVal r g b)] #[])) w := by
  unfold execOp
  simp only [ho, ht]
  clear ho ht
  rcases cases45 hr with rfl | rfl | rfl | rfl | rfl | rfl | rfl | rfl | rfl | rfl | rfl | rfl | rfl | rfl | rfl | rfl | rfl | rfl | rfl | rfl | rfl | rfl | rfl | rfl | rfl | rfl | rfl | rfl | rfl | rfl | rfl | rfl | rfl | rfl | rfl | rfl | rfl | rfl | rfl | rfl | rfl | rfl | rfl | rfl | rfl <;> kernel_rfl
theorem wd_lt {w : World} {r b : Nat} (hr : r < 45) (hk : xkd r = 8) (h : WdAt w r b) : b < w.heap.size := by
  have hne : ∃ s, (xWords.getD r [])[0]? = some s := by
    rcases cases45 hr with rfl | rfl | rfl | rfl | rfl | rfl | rfl | rfl | rfl | rfl | rfl | rfl | rfl | rfl | rfl | rfl | rfl | rfl | rfl | rfl | rfl | rfl | rfl | rfl | rfl | rfl | rfl | rfl | rfl | rfl | rfl | rfl | rfl | rfl | rfl | rfl | rfl | rfl | rfl | rfl | rfl | rfl | rfl | rfl | rfl <;> first | exact ⟨_, rfl⟩ | exact absurd hk (by decide)
  obtain ⟨s, hs⟩ := hne
  exact World.block_lt_of_cell? _ _ (h 0 s hs)
end Go.Proofs.YtchkpggdndnpjabGreatDoor

namespace Go.Proofs.YtchkpggdndnpjabGreatDoor
set_option linter.unusedVariables false
open Go.RowKit

theorem beq_no {a b : Int} (h : ¬ a = b) : (a == b) = false := by simpa using h
theorem bne_no {a b : Int} (h : ¬ a = b) : (a != b) = true := by simpa using h
def hdB (n : Int) : Bool := decide (n = 49) || decide (n = 56) || decide (n = 34) || decide (n = 43) || decide (n = 52) || decide (n = 122)
def hiN (b : Bool) (m : Int) : Int := cond b m 0
set_option maxRecDepth 100000 in
theorem hasIf_any (b : Bool) (m : Int) (w : World) : Calls Tryz.prog 173 #[.bool b, .int .i64 m] w fun e w' => e = .returned (.int .i64 (hiN b m)) ∧ w' = w := by
  cases b
  · show Calls _ _ _ _ fun e w' => e = .returned (.int .i64 0) ∧ w' = w
    go_enter Tryz.func173, Tryz.ntmps173
    go_wp2
    go_ret
    exact ⟨rfl, rfl⟩
  · show Calls _ _ _ _ fun e w' => e = .returned (.int .i64 m) ∧ w' = w
    go_enter Tryz.func173, Tryz.ntmps173
    go_wp2
    go_ret
    exact ⟨rfl, rfl⟩
set_option maxRecDepth 100000 in
theorem isHead_any (n : Int) (w : World) : Calls Tryz.prog 174 #[.int .i64 n] w fun e w' => e = .returned (.bool (hdB n)) ∧ w' = w := by
  by_cases h1 : n = 49
  · subst h1
    go_enter Tryz.func174, Tryz.ntmps174
    go_wp2
    go_ret
    exact ⟨rfl, rfl⟩
  by_cases h2 : n = 56
  · subst h2
    go_enter Tryz.func174, Tryz.ntmps174
    go_wp2
    go_ret
    exact ⟨rfl, rfl⟩
  by_cases h3 : n = 34
  · subst h3
    go_enter Tryz.func174, Tryz.ntmps174
    go_wp2
    go_ret
    exact ⟨rfl, rfl⟩
  by_cases h4 : n = 43
  · subst h4
    go_enter Tryz.func174, Tryz.ntmps174
    go_wp2
    go_ret
    exact ⟨rfl, rfl⟩
  by_cases h5 : n = 52
  · subst h5
    go_enter Tryz.func174, Tryz.ntmps174
    go_wp2
    go_ret
    exact ⟨rfl, rfl⟩
  by_cases h6 : n = 122
  · subst h6
    go_enter Tryz.func174, Tryz.ntmps174
    go_wp2
    go_ret
    exact ⟨rfl, rfl⟩
  rw [show hdB n = false by simp [hdB, h1, h2, h3, h4, h5, h6]]
  have b1 := beq_no h1
  have b2 := beq_no h2
  have b3 := beq_no h3
  have b4 := beq_no h4
  have b5 := beq_no h5
  have b6 := beq_no h6
  clear h1 h2 h3 h4 h5 h6
  go_enter Tryz.func174, Tryz.ntmps174
  go_wp2
  go_ret
  exact ⟨rfl, rfl⟩
/-- Which fields a kind has, by their numbers. -/
def hasR (k n : Int) : Int := if k = 0 then hiN (hdB n) 1 else if n = 98 then hiN (k == 7) 2 else if n = 18 then hiN (k == 8 || k == 13) 1 else if n = 530 then hiN (k == 11 || k == 15) 2 else hasN k n
set_option maxRecDepth 100000 in
set_option maxHeartbeats 800000 in
theorem fhas_any (k n : Int) (w : World) : Calls Tryz.prog 36 #[.int .i64 k, .int .i64 n] w fun e w' => e = .returned (.int .i64 (hasR k n)) ∧ Below w.heap.size w w' := by
  have hI := fun (b : Bool) m w => hasIf_any b m w
  by_cases h0 : k = 0
  · subst h0
    have hH := isHead_any n
    rw [show hasR 0 n = hiN (hdB n) 1 by simp [hasR]]
    generalize hdB n = b at *
    go_enter Tryz.func36, Tryz.ntmps36
    go_wp2_with (first | (go_at_call 174; refine (hH _).mono ?_; rintro e w2 ⟨rfl, rfl⟩) | (go_at_call 173; refine (hI _ _ _).mono ?_; rintro e w2 ⟨rfl, rfl⟩))
    go_ret
    exact ⟨rfl, Below.refl _ _⟩
  have b0 := beq_no h0
  by_cases h1 : n = 98
  · subst h1
    rw [show hasR k 98 = hiN (k == 7) 2 by simp [hasR, h0]]
    clear h0
    go_enter Tryz.func36, Tryz.ntmps36
    go_wp2_with (go_at_call 173; refine (hI _ _ _).mono ?_; rintro e w2 ⟨rfl, rfl⟩)
    go_ret
    exact ⟨rfl, Below.refl _ _⟩
  have b1 := beq_no h1
  by_cases h2 : n = 18
  · subst h2
    rw [show hasR k 18 = hiN (k == 8 || k == 13) 1 by simp [hasR, h0]]
    clear h0 h1
    by_cases h3 : k = 8
    · subst h3
      go_enter Tryz.func36, Tryz.ntmps36
      go_wp2_with (go_at_call 173; refine (hI _ _ _).mono ?_; rintro e w2 ⟨rfl, rfl⟩)
      go_ret
      exact ⟨rfl, Below.refl _ _⟩
    · have b3 := beq_no h3
      rw [b3, Bool.false_or]
      clear h3
      go_enter Tryz.func36, Tryz.ntmps36
      go_wp2_with (go_at_call 173; refine (hI _ _ _).mono ?_; rintro e w2 ⟨rfl, rfl⟩)
      go_ret
      exact ⟨rfl, Below.refl _ _⟩
  have b2 := beq_no h2
  by_cases h4 : n = 530
  · subst h4
    rw [show hasR k 530 = hiN (k == 11 || k == 15) 2 by simp [hasR, h0]]
    clear h0 h1 h2
    by_cases h3 : k = 11
    · subst h3
      go_enter Tryz.func36, Tryz.ntmps36
      go_wp2_with (go_at_call 173; refine (hI _ _ _).mono ?_; rintro e w2 ⟨rfl, rfl⟩)
      go_ret
      exact ⟨rfl, Below.refl _ _⟩
    · have b3 := beq_no h3
      rw [b3, Bool.false_or]
      clear h3
      go_enter Tryz.func36, Tryz.ntmps36
      go_wp2_with (go_at_call 173; refine (hI _ _ _).mono ?_; rintro e w2 ⟨rfl, rfl⟩)
      go_ret
      exact ⟨rfl, Below.refl _ _⟩
  have b4 := beq_no h4
  rw [show hasR k n = hasN k n by simp [hasR, h0, h1, h2, h4]]
  have hN := Has_any k n w
  generalize hasN k n = R at *
  clear h0 h1 h2 h4
  go_enter Tryz.func36, Tryz.ntmps36
  go_wp2_with (go_at_call 175; refine hN.mono ?_; rintro e w2 ⟨rfl, hb2⟩)
  go_ret
  exact ⟨rfl, hb2⟩
/-- The tag of a number. -/
def tagR (k n : Int) : Int := if n = 373 then (if k = 16 then 380 else if k = 14 then 102 else if k = 13 then 103 else if k = 15 then 532 else 373) else n
set_option maxRecDepth 100000 in
theorem tagOf_any (k n : Int) (w : World) : Calls Tryz.prog 37 #[.int .i64 k, .int .i64 n] w fun e w' => e = .returned (.int .i64 (tagR k n)) ∧ w' = w := by
  by_cases h1 : n = 373
  · subst h1
    by_cases h2 : k = 16
    · subst h2
      go_enter Tryz.func37, Tryz.ntmps37
      go_wp2
      go_ret
      exact ⟨rfl, rfl⟩
    by_cases h3 : k = 14
    · subst h3
      go_enter Tryz.func37, Tryz.ntmps37
      go_wp2
      go_ret
      exact ⟨rfl, rfl⟩
    by_cases h4 : k = 13
    · subst h4
      go_enter Tryz.func37, Tryz.ntmps37
      go_wp2
      go_ret
      exact ⟨rfl, rfl⟩
    by_cases h5 : k = 15
    · subst h5
      go_enter Tryz.func37, Tryz.ntmps37
      go_wp2
      go_ret
      exact ⟨rfl, rfl⟩
    rw [show tagR k 373 = 373 by simp [tagR, h2, h3, h4, h5]]
    have b2 := beq_no h2
    have b3 := beq_no h3
    have b4 := beq_no h4
    have b5 := beq_no h5
    clear h2 h3 h4 h5
    go_enter Tryz.func37, Tryz.ntmps37
    go_wp2
    go_ret
    exact ⟨rfl, rfl⟩
  · rw [show tagR k n = n by simp [tagR, h1]]
    have b1 := bne_no h1
    clear h1
    go_enter Tryz.func37, Tryz.ntmps37
    go_wp2
    go_ret
    exact ⟨rfl, rfl⟩
end Go.Proofs.YtchkpggdndnpjabGreatDoor
