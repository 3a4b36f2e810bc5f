/-
  The reference of fields: digit, begins, body.
-/
import Derived.Test.YtfgfjkchcnpakaaDoorFRefNum
import Derived.Test.YtfgfjkchcnpakaaDoorFRefJoin
import Derived.Test.YtfgfjkchcnpakaaDoorFMath
namespace Go.Proofs.YtfgfjkchcnpakaaDoor
set_option linter.unusedVariables false
open Go.RowKit

set_option maxRecDepth 100000 in
theorem refDigit_any (c : UInt8) (w : World) : Calls Tryd.prog 56 #[.int .u8 (c.toNat : Int)] w fun e w' => e = .returned (.bool (dig c)) ∧ w' = w := by
  have hE : Hid (dig c = (decide (48 ≤ (c.toNat : Int)) && decide ((c.toNat : Int) ≤ 57))) := rfl
  generalize dig c = d at *
  by_cases h : 48 ≤ (c.toNat : Int)
  · go_enter Tryd.func56, Tryd.ntmps56
    go_wp2
    go_ret
    exact ⟨ret_bool (by rw [hE.out]; simp [h]), rfl⟩
  · go_enter Tryd.func56, Tryd.ntmps56
    go_wp2
    go_ret
    exact ⟨ret_bool (by rw [hE.out]; simp; omega), rfl⟩
set_option maxRecDepth 100000 in
set_option maxHeartbeats 400000 in
theorem refBegins_any (s t : ByteArray) (w : World) (hs : s.size ≤ maxLen) (ht : t.size ≤ maxLen) :
    Calls Tryd.prog 55 #[.string s, .string t] w fun e w' => e = .returned (.tuple #[.int .i64 (pre s.data.toList t.data.toList : Int), .bool (decide (t.size ≤ pre s.data.toList t.data.toList))]) ∧ ∃ q, w' = w.drewN q := by
  unfold maxLen at hs ht
  go_enter Tryd.func55, Tryd.ntmps55
  go_wp2
  go_loopw [6] (fun i wr => ∃ k q : Nat, k ≤ t.size ∧ i = .int .i64 k ∧ (∀ j, j < k → s.data.toList[j]? = t.data.toList[j]? ∧ s.data.toList[j]? ≠ none) ∧ wr = w.drewN q) (fun i _ => t.size - (intOf i).toNat)
  case atStart => exact ⟨0, 0, Nat.zero_le _, rfl, fun j hj => by omega, rfl⟩
  case round =>
    obtain ⟨k, q, hk, rfl, hd, hw⟩ := hrel
    have HW : Hid (wr = w.drewN q) := hw
    have HD : Hid (∀ j, j < k → s.data.toList[j]? = t.data.toList[j]? ∧ s.data.toList[j]? ≠ none) := hd
    clear hd hw
    by_cases hl2 : k < t.size
    · have hl2' : (k : Int) < (t.size : Int) := by omega
      by_cases hlt : k < s.size
      · have hlt' : (k : Int) < (s.size : Int) := by omega
        have hge : decide ((s.size : Int) ≤ (k : Int)) = false := decide_eq_false (by omega)
        have hge2 : decide (s.size ≤ k) = false := decide_eq_false (by omega)
        by_cases hc : s[k] = t[k]
        · have hc' : (s[k].toNat : Int) = (t[k].toNat : Int) := by rw [hc]
          have HC : Hid (s[k] = t[k]) := hc
          clear hc
          go_wp2
          go_quiet (fail)
          go_wp2
          refine ⟨⟨k + 1, _, by omega, by go_num, fun j hj => ?_, by rw [HW.out, World.drewN_drewN]⟩, by simp [intOf]; omega⟩
          by_cases e : j < k
          · exact HD.out j e
          · obtain rfl : j = k := by omega
            rw [get_at s j hlt, get_at t j hl2, HC.out]
            simp
        · have hc' : ¬ (s[k].toNat : Int) = (t[k].toNat : Int) := fun h => hc (u8_of_nat h)
          have hc2 : ((s[k].toNat : Int) != (t[k].toNat : Int)) = true := by simpa using hc'
          have hc3 : ((s[k].toNat : Int) == (t[k].toNat : Int)) = false := by simpa using hc'
          have HE : Hid (pre s.data.toList t.data.toList = k) := pre_at _ _ _ HD.out (.inl (by rw [get_at s k hlt, get_at t k hl2]; simpa using hc))
          clear hc
          go_wp2
          go_quiet (fail)
          go_wp2
          go_ret2
          exact ⟨ret2 (vint (by rw [HE.out])) (by rw [HE.out, decide_eq_false (by omega)]; rfl), _, by rw [HW.out, World.drewN_drewN]⟩
      · have hge : decide ((s.size : Int) ≤ (k : Int)) = true := decide_eq_true (by omega)
        have hge2 : decide (s.size ≤ k) = true := decide_eq_true (by omega)
        have hge3 : (s.size : Int) ≤ (k : Int) := by omega
        have HE : Hid (pre s.data.toList t.data.toList = k) := pre_at _ _ _ HD.out (.inr (get_no s k hlt))
        go_wp2
        go_quiet (fail)
        go_wp2
        go_ret2
        exact ⟨ret2 (vint (by rw [HE.out])) (by rw [HE.out, decide_eq_false (by omega)]; rfl), _, by rw [HW.out, World.drewN_drewN]⟩
    · obtain rfl : k = t.size := by omega
      have HE : Hid (pre s.data.toList t.data.toList = t.size) := by
        refine pre_at _ _ _ HD.out ?_
        cases hx : s.data.toList[t.size]? with
        | none => exact .inr rfl
        | some c => exact .inl (by rw [get_no t t.size (by omega)]; simp)
      go_wp2
      go_ret2
      exact ⟨ret2 (vint (by rw [HE.out])) (by rw [HE.out, decide_eq_true (Nat.le_refl _)]; rfl), _, HW.out⟩
theorem results_tmp5 {fn : Func} {a b c d f : Tmp} (h : fn.results = #[.tmp a, .tmp b, .tmp c, .tmp d, .tmp f]) (tmps : Array Value) (P : Program) (w : World) :
    (results fn tmps).run P w = .ok (.tuple #[tmps.getD a undef, tmps.getD b undef, tmps.getD c undef, tmps.getD d undef, tmps.getD f undef]) w := by
  simp [results, h]
theorem val_pos (c : UInt8) (l : List UInt8) (hc : dig c = true) (h0 : c ≠ 48) (hd : digs l = true) : 0 < val (c :: l) := by
  have h1 := (dig_iff c).1 hc
  have h2 : ¬ (c.toNat : Int) = 48 := fun e => h0 (u8_of_nat (b := 48) e)
  have h3 := foldl_mono l hd (0 * 10 + ((c.toNat : Int) - 48)) (by omega)
  show 0 < l.foldl _ (0 * 10 + ((c.toNat : Int) - 48))
  omega
theorem ne_lt (l : List UInt8) (k : Nat) (h : 12 ≤ k) (hk : k < numEnd l 12) : k < 16 ∧ (∃ c, l[k]? = some c ∧ dig c = true) ∧ (k = 12 ∨ 0 < val ((l.drop 12).take (k - 12))) := by
  unfold numEnd at hk
  split at hk
  · rename_i h48
    obtain rfl : k = 12 := by omega
    exact ⟨by omega, ⟨48, h48, by decide⟩, .inl rfl⟩
  · rename_i h48
    have hc := cnt_all dig (l.drop 12)
    have hl := cnt_le dig (l.drop 12)
    have hj : k - 12 < (l.drop 12).length := by omega
    have hg : l[k]? = some (l.drop 12)[k - 12] := by
      have := List.getElem?_eq_getElem hj
      rw [List.getElem?_drop, show 12 + (k - 12) = k by omega] at this
      exact this
    have hm : ∀ j (h : j < (l.drop 12).length), j < cnt dig (l.drop 12) → dig (l.drop 12)[j] = true := fun j h hlt => by
      refine hc _ (List.mem_of_getElem? (i := j) ?_)
      rw [List.getElem?_take, if_pos hlt, List.getElem?_eq_getElem h]
    refine ⟨by omega, ⟨_, hg, hm _ hj (by omega)⟩, ?_⟩
    by_cases e : k = 12
    · exact .inl e
    · right
      cases hq : l.drop 12 with
      | nil => rw [hq] at hj; simp at hj
      | cons c t =>
        have h12 : l[12]? = some c := by
          have : (l.drop 12)[0]? = some c := by rw [hq]; rfl
          rw [List.getElem?_drop] at this
          exact this
        rw [show k - 12 = (k - 13) + 1 by omega, List.take_succ_cons]
        have hcm := hm 0 (by omega) (by omega)
        refine val_pos c _ ?_ (fun e => h48 (by rw [h12, e])) ?_
        · simpa [hq] using hcm
        · unfold digs
          rw [List.all_eq_true]
          intro x hx
          refine hc x ?_
          rw [hq]
          obtain ⟨i, hi, e⟩ := List.getElem_of_mem hx
          have hi2 : i < k - 13 := by rw [List.length_take] at hi; omega
          refine List.mem_of_getElem? (i := i + 1) ?_
          rw [List.getElem?_take, if_pos (by rw [hq] at hl; rw [hq] at hk; omega), List.getElem?_cons_succ, ← e, List.getElem_take]
          rw [List.getElem?_eq_getElem]
theorem ne_eq (l : List UInt8) : ¬ numEnd l 12 < l.length ∨ ¬ numEnd l 12 < 16 ∨ (∃ c, l[numEnd l 12]? = some c ∧ dig c = false) ∨ (numEnd l 12 ≠ 12 ∧ val ((l.drop 12).take (numEnd l 12 - 12)) = 0) := by
  unfold numEnd
  split
  · rename_i h48
    refine .inr (.inr (.inr ⟨by omega, ?_⟩))
    have : (l.drop 12).take (12 + 1 - 12) = [48] := by
      cases hq : l.drop 12 with
      | nil =>
        have h : (l.drop 12)[0]? = some 48 := by rw [List.getElem?_drop]; exact h48
        rw [hq] at h; cases h
      | cons c t =>
        have h : (l.drop 12)[0]? = some 48 := by rw [List.getElem?_drop]; exact h48
        rw [hq] at h
        simp at h
        rw [h]; rfl
    rw [this]
    decide
  · have hn := cnt_next dig (l.drop 12)
    by_cases h4 : 4 ≤ cnt dig (l.drop 12)
    · exact .inr (.inl (by omega))
    · rw [Nat.min_eq_left (by omega)]
      by_cases hl : 12 + cnt dig (l.drop 12) < l.length
      · refine .inr (.inr (.inl ⟨l[12 + cnt dig (l.drop 12)], List.getElem?_eq_getElem hl, hn _ ?_⟩))
        rw [List.getElem?_drop, List.getElem?_eq_getElem hl]
      · exact .inl hl
end Go.Proofs.YtfgfjkchcnpakaaDoor
