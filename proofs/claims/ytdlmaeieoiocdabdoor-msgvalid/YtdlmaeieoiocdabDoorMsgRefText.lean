/-
  The reference of msg: names, IDs, symbols, texts.
-/
import Derived.Test.YtdlmaeieoiocdabDoorMsgText
import Derived.Deep.DeepCutAuto
namespace Go.Proofs.YtdlmaeieoiocdabDoor
set_option linter.unusedVariables false
set_option linter.unusedSimpArgs false
open Go.RowKit

def othTo (oth : ByteArray) (c k : Nat) : Bool := (oth.data.toList.take k).any fun d => d.toNat == c
def othHas (oth : ByteArray) (c : Nat) : Bool := oth.data.toList.any fun d => d.toNat == c
theorem othTo_succ (s : ByteArray) (c k : Nat) (h : k < s.size) : othTo s c (k + 1) = (othTo s c k || s[k].toNat == c) := by
  unfold othTo; rw [take_snoc s k h]; simp
theorem othTo_all (s : ByteArray) (c : Nat) : othTo s c s.size = othHas s c := by
  unfold othTo othHas; rw [List.take_of_length_le (by simp)]
def refOk (oth : ByteArray) (c : Nat) : Bool := isNm c || othHas oth c
def refOf (s : ByteArray) (least most : Int) (oth : ByteArray) : Bool := allB (refOk oth) s && (decide (least ≤ (s.size : Int)) && decide ((s.size : Int) ≤ most))
set_option maxRecDepth 100000 in
set_option maxHeartbeats 2000000 in
theorem of_any (s oth : ByteArray) (least most : Int) (w : World) (hs : s.size ≤ 9223372036854775807) (ho : oth.size ≤ 100) :
    Calls Tryd.prog 87 #[.string s, .int .i64 least, .int .i64 most, .string oth] w fun e w' => e = .returned (.bool (refOf s least most oth)) ∧ w' = w := by
  go_enter Tryd.func87, Tryd.ntmps87
  go_wp2
  go_loopw [9, 10, 11, 12] (fun i x10 x11 x12 wr => ∃ k : Nat, k ≤ s.size ∧ i = .int .i64 k ∧ Hid (allTo (refOk oth) s k = true) ∧ wr = w) (fun i _ _ _ _ => s.size - (intOf i).toNat)
  case atStart => exact ⟨0, by omega, rfl, by show allTo _ _ _ = _; simp [allTo], rfl⟩
  case round =>
    obtain ⟨k, hk, rfl, ha, rfl⟩ := hrel
    by_cases hlt : k < s.size
    · have hlt' : (k : Int) < (s.size : Int) := by omega
      have HF : Hid (refOk oth s[k].toNat = false → allB (refOk oth) s = false) := fun hp => allB_false hlt hp
      have HT : Hid (refOk oth s[k].toNat = true → allTo (refOk oth) s (k + 1) = true) := fun hp => by rw [allTo_succ _ _ _ hlt, hp, ha.out]; rfl
      clear ha
      go_upto_region 5 with fail
      have hc0 : (0 : Int) ≤ (s[k].toNat : Int) := by omega
      generalize s[k].toNat = c at *
      go_cut [11] from 13 to 51 (fun b wx => b = .bool (isNm c) ∧ wx = wr)
      case first =>
        clear HF HT
        by_cases h1 : 65 ≤ c
        · have h1' : (65 : Int) ≤ (c : Int) := by omega
          by_cases h2 : c ≤ 90
          · have h2' : (c : Int) ≤ 90 := by omega
            have EN : Hid (isNm c = true) := by show isNm c = true; simp [isNm, isCap, h1, h2]
            go_wp2_with fail
            go_meet
            exact ⟨by rw [EN.out]; try simp, rfl⟩
          · have h2' : ¬ (c : Int) ≤ 90 := by omega
            have h3' : (48 : Int) ≤ (c : Int) := by omega
            have h4' : ¬ (c : Int) ≤ 57 := by omega
            have EN : Hid (isNm c = false) := by show isNm c = false; simp [isNm, isCap]; omega
            go_wp2_with fail
            go_meet
            exact ⟨by rw [EN.out]; try simp, rfl⟩
        · have h1' : ¬ (65 : Int) ≤ (c : Int) := by omega
          by_cases h3 : 48 ≤ c
          · have h3' : (48 : Int) ≤ (c : Int) := by omega
            by_cases h4 : c ≤ 57
            · have h4' : (c : Int) ≤ 57 := by omega
              have EN : Hid (isNm c = true) := by show isNm c = true; simp [isNm, h3, h4]
              go_wp2_with fail
              go_meet
              exact ⟨by rw [EN.out]; try simp, rfl⟩
            · have h4' : ¬ (c : Int) ≤ 57 := by omega
              have EN : Hid (isNm c = false) := by show isNm c = false; simp [isNm, isCap]; omega
              go_wp2_with fail
              go_meet
              exact ⟨by rw [EN.out]; try simp, rfl⟩
          · have h3' : ¬ (48 : Int) ≤ (c : Int) := by omega
            have EN : Hid (isNm c = false) := by show isNm c = false; simp [isNm, isCap]; omega
            go_wp2_with fail
            go_meet
            exact ⟨by rw [EN.out]; try simp, rfl⟩
      case rest =>
        obtain ⟨rfl, rfl⟩ := hcut
        have HE : Hid (refOk oth c = (isNm c || othTo oth c oth.size)) := by show refOk oth c = _; rw [othTo_all]; rfl
        go_wp2
        go_loopw [11, 12] (fun b i wr => ∃ j : Nat, j ≤ oth.size ∧ i = .int .i64 j ∧ b = .bool (isNm c || othTo oth c j) ∧ wr = wc) (fun _ i _ => oth.size - (intOf i).toNat)
        case atStart => exact ⟨0, by omega, rfl, by simp [othTo], rfl⟩
        case round =>
          obtain ⟨j, hj, rfl, rfl, rfl⟩ := hrel
          by_cases hlj : j < oth.size
          · have hlj' : (j : Int) < (oth.size : Int) := by omega
            have e1 := othTo_succ oth c j hlj
            cases hb : (isNm c || othTo oth c j)
            · have e2 : (isNm c || othTo oth c (j + 1)) = ((oth[j].toNat : Int) == (c : Int)) := by
                rw [e1, ← Bool.or_assoc, hb, Bool.false_or]
                generalize oth[j].toNat = d
                rw [Bool.eq_iff_iff]
                simp only [beq_iff_eq]
                omega
              have E2 : Hid ((isNm c || othTo oth c (j + 1)) = ((oth[j].toNat : Int) == (c : Int))) := e2
              clear e1 e2 hb
              go_wp2
              go_roundw
              case rel => exact ⟨j + 1, by omega, by go_num, congrArg Value.bool E2.out.symm, by first | rfl | trivial⟩
              case measure => simp [intOf]; omega
            · have E2 : Hid ((isNm c || othTo oth c (j + 1)) = true) := by show (_ || _) = true; rw [e1, ← Bool.or_assoc, hb, Bool.true_or]
              clear e1 hb
              go_wp2
              go_roundw
              case rel => exact ⟨j + 1, by omega, by go_num, congrArg Value.bool E2.out.symm, by first | rfl | trivial⟩
              case measure => simp [intOf]; omega
          · obtain rfl : j = oth.size := by omega
            cases hb : (isNm c || othTo oth c oth.size)
            · have HF2 : Hid (allB (refOk oth) s = false) := HF.out (HE.out.trans hb)
              clear HF HT HE hb
              go_wp2
              go_ret
              exact ⟨ret_bool (by simp [refOf, HF2.out]), rfl⟩
            · have HT2 : Hid (allTo (refOk oth) s (k + 1) = true) := HT.out (HE.out.trans hb)
              clear HF HT HE hb
              go_wp2
              go_roundw
              case rel => exact ⟨k + 1, by omega, by go_num, HT2, by first | rfl | trivial⟩
              case measure => simp [intOf]; omega
    · obtain rfl : k = s.size := by omega
      have HA : Hid (allB (refOk oth) s = true) := by show allB _ _ = _; rw [← allTo_all]; exact ha.out
      clear ha
      by_cases h1 : least ≤ (s.size : Int)
      · go_wp2
        go_ret
        exact ⟨ret_bool (by simp [refOf, HA.out, h1]), by first | rfl | trivial⟩
      · go_wp2
        go_ret
        exact ⟨ret_bool (by simp [refOf, HA.out]; intro h; omega), by first | rfl | trivial⟩

theorem allB_congr {p q : Nat → Bool} (h : ∀ c, c < 256 → p c = q c) (s : ByteArray) : allB p s = allB q s := by
  unfold allB
  have : (fun c : UInt8 => p c.toNat) = fun c : UInt8 => q c.toNat := by
    funext c; exact h _ (UInt8.toNat_lt c)
  rw [this]
def idOth : ByteArray := ⟨#[97, 98, 99, 100, 101, 102, 103, 104, 105, 106, 107, 108, 109, 110, 111, 112, 113, 114, 115, 116, 117, 118, 119, 120, 121, 122, 46, 95, 45]⟩
set_option maxRecDepth 100000 in
theorem refOk_id : ∀ c, c < 256 → refOk idOth c = isIdb c := by decide
theorem refOk_nm (c : Nat) : refOk ⟨#[]⟩ c = isNm c := by unfold refOk othHas; simp
theorem refNm (s : ByteArray) : refOf s 1 12 ⟨#[]⟩ = nmS s := by
  unfold refOf nmS
  rw [allB_congr (fun c _ => refOk_nm c), Bool.and_comm]
  rw [show decide ((1 : Int) ≤ (s.size : Int)) = decide (1 ≤ s.size) by rw [Bool.eq_iff_iff]; simp; omega, show decide ((s.size : Int) ≤ 12) = decide (s.size ≤ 12) by rw [Bool.eq_iff_iff]; simp; omega]
theorem refId (s : ByteArray) : refOf s 1 20 idOth = idS s := by
  unfold refOf idS
  rw [allB_congr refOk_id, Bool.and_comm]
  rw [show decide ((1 : Int) ≤ (s.size : Int)) = decide (1 ≤ s.size) by rw [Bool.eq_iff_iff]; simp; omega, show decide ((s.size : Int) ≤ 20) = decide (s.size ≤ 20) by rw [Bool.eq_iff_iff]; simp; omega]
theorem all0 {p : Nat → Bool} {s : ByteArray} (h : allB p s = true) (h1 : 1 ≤ s.size) : p (byte0 s) = true := by
  rw [byte0_eq s h1]
  unfold allB at h
  rw [List.all_eq_true] at h
  exact h s[0] (by simp [ByteArray.getElem_eq_getElem_data])
theorem refSy (s : ByteArray) : (refOf s 1 8 ⟨#[]⟩ && decide (65 ≤ byte0 s)) = syS s := by
  unfold refOf syS
  rw [allB_congr (fun c _ => refOk_nm c)]
  rw [show decide ((1 : Int) ≤ (s.size : Int)) = decide (1 ≤ s.size) by rw [Bool.eq_iff_iff]; simp; omega, show decide ((s.size : Int) ≤ 8) = decide (s.size ≤ 8) by rw [Bool.eq_iff_iff]; simp; omega]
  by_cases h1 : 1 ≤ s.size
  · cases ha : allB isNm s
    · simp
    · have := all0 ha h1
      have e : decide (65 ≤ byte0 s) = isCap (byte0 s) := by
        rw [Bool.eq_iff_iff]
        unfold isNm at this
        simp [isCap] at this ⊢
        omega
      rw [e]
      simp
  · simp [h1]
set_option maxRecDepth 100000 in
set_option maxHeartbeats 400000 in
theorem refIsName (s : ByteArray) (w : World) (hs : s.size ≤ 9223372036854775807) :
    Calls Tryd.prog 76 #[.string s] w fun e w' => e = .returned (.bool (nmS s)) ∧ w' = w := by
  have hc := of_any s ⟨#[]⟩ 1 12 w hs (by decide)
  rw [refNm] at hc
  go_enter Tryd.func76, Tryd.ntmps76
  go_wp2_with (go_at_call 87; refine hc.mono ?_; rintro e w ⟨rfl, rfl⟩)
  go_ret
  exact ⟨rfl, rfl⟩
set_option maxRecDepth 100000 in
set_option maxHeartbeats 400000 in
theorem refIsID (s : ByteArray) (w : World) (hs : s.size ≤ 9223372036854775807) :
    Calls Tryd.prog 77 #[.string s] w fun e w' => e = .returned (.bool (idS s)) ∧ w' = w := by
  have hc := of_any s idOth 1 20 w hs (by decide)
  rw [refId] at hc
  go_enter Tryd.func77, Tryd.ntmps77
  go_wp2_with (go_at_call 87; refine hc.mono ?_; rintro e w ⟨rfl, rfl⟩)
  go_ret
  exact ⟨rfl, rfl⟩
set_option maxRecDepth 100000 in
set_option maxHeartbeats 400000 in
theorem refIsSymbol (s : ByteArray) (w : World) (hs : s.size ≤ 9223372036854775807) :
    Calls Tryd.prog 78 #[.string s] w fun e w' => e = .returned (.bool (syS s)) ∧ w' = w := by
  have hc := of_any s ⟨#[]⟩ 1 8 w hs (by decide)
  rw [← refSy]
  cases hp : refOf s 1 8 ⟨#[]⟩
  · rw [hp] at hc
    clear hp
    go_enter Tryd.func78, Tryd.ntmps78
    go_wp2_with (go_at_call 87; refine hc.mono ?_; rintro e w ⟨rfl, rfl⟩)
    go_ret
    exact ⟨rfl, rfl⟩
  · rw [hp] at hc
    have h0 : 0 < s.size := by
      unfold refOf at hp
      simp at hp
      omega
    have h0' : (0 : Int) < (s.size : Int) := by omega
    have E : Hid ((true && decide (65 ≤ byte0 s)) = decide ((65 : Int) ≤ (s[0].toNat : Int))) := by
      show (true && decide (65 ≤ byte0 s)) = decide ((65 : Int) ≤ (s[0].toNat : Int))
      rw [byte0_eq s h0, Bool.eq_iff_iff]
      simp
      omega
    clear hp
    go_enter Tryd.func78, Tryd.ntmps78
    go_wp2_with (go_at_call 87; refine hc.mono ?_; rintro e w ⟨rfl, rfl⟩)
    go_ret
    exact ⟨by rw [E.out]; try simp, rfl⟩
set_option maxRecDepth 100000 in
set_option maxHeartbeats 400000 in
theorem refIsText (s : ByteArray) (w : World) (hs : s.size ≤ 9223372036854775807) :
    Calls Tryd.prog 79 #[.string s] w fun e w' => e = .returned (.bool (txS s)) ∧ w' = w := by
  go_enter Tryd.func79, Tryd.ntmps79
  go_wp2
  go_loopw [3] (fun i wr => ∃ k : Nat, k ≤ s.size ∧ i = .int .i64 k ∧ Hid (allTo isTxt s k = true) ∧ wr = w) (fun i _ => s.size - (intOf i).toNat)
  case atStart => exact ⟨0, by omega, rfl, by show allTo _ _ _ = _; simp [allTo], rfl⟩
  case round =>
    obtain ⟨k, hk, rfl, ha, rfl⟩ := hrel
    by_cases hlt : k < s.size
    · have hlt' : (k : Int) < (s.size : Int) := by omega
      have HF : Hid (isTxt s[k].toNat = false → txS s = false) := fun hp => by
        have := allB_false hlt hp
        simp [txS, this]
      have HT : Hid (isTxt s[k].toNat = true → allTo isTxt s (k + 1) = true) := fun hp => by rw [allTo_succ _ _ _ hlt, hp, ha.out]; rfl
      clear ha
      by_cases h1 : s[k].toNat < 32
      · have h1' : (s[k].toNat : Int) < 32 := by omega
        have HR : Hid (txS s = false) := HF.out (by simp [isTxt]; omega)
        clear HF HT
        go_wp2
        go_ret
        exact ⟨ret_bool HR.out.symm, by first | rfl | trivial⟩
      · have h1' : ¬ (s[k].toNat : Int) < 32 := by omega
        by_cases h2 : 126 < s[k].toNat
        · have h2' : (126 : Int) < (s[k].toNat : Int) := by omega
          have HR : Hid (txS s = false) := HF.out (by simp [isTxt]; omega)
          clear HF HT
          go_wp2
          go_ret
          exact ⟨ret_bool HR.out.symm, by first | rfl | trivial⟩
        · have h2' : ¬ (126 : Int) < (s[k].toNat : Int) := by omega
          by_cases h3 : s[k].toNat = 124
          · have h3' : (s[k].toNat : Int) = 124 := by omega
            have h3b : ((s[k].toNat : Int) == 124) = true := by simp [h3]
            have HR : Hid (txS s = false) := HF.out (by rw [h3]; decide)
            clear HF HT
            go_wp2
            go_ret
            exact ⟨ret_bool HR.out.symm, by first | rfl | trivial⟩
          · have h3' : ¬ (s[k].toNat : Int) = 124 := by omega
            have h3b : ((s[k].toNat : Int) == 124) = false := by simp; omega
            have HR : Hid (allTo isTxt s (k + 1) = true) := HT.out (by simp [isTxt, h3]; omega)
            clear HF HT
            go_wp2
            go_roundw
            case rel => exact ⟨k + 1, by omega, by go_num, HR, by first | rfl | trivial⟩
            case measure => simp [intOf]; omega
    · obtain rfl : k = s.size := by omega
      have HA : Hid (txS s = decide ((s.size : Int) ≤ 60)) := by
        have h := ha.out
        rw [allTo_all] at h
        show txS s = _
        unfold txS
        rw [h, Bool.and_true, Bool.eq_iff_iff]
        simp
        omega
      clear ha
      go_wp2
      go_ret
      exact ⟨ret_bool HA.out.symm, by first | rfl | trivial⟩

end Go.Proofs.YtdlmaeieoiocdabDoor
