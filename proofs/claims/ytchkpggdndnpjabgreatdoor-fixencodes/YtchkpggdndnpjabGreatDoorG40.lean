import Derived.Test.YtchkpggdndnpjabGreatDoorG36
import Derived.Test.YtchkpggdndnpjabGreatDoorG37
import Derived.Test.YtchkpggdndnpjabGreatDoorG38
import Derived.Test.YtchkpggdndnpjabGreatDoorG39
import Derived.Test.YtchkpggdndnpjabGreatDoorG33
import Derived.Test.YtchkpggdndnpjabGreatDoorG34
import Derived.Test.YtchkpggdndnpjabGreatDoorG10
import Derived.Test.YtchkpggdndnpjabGreatDoorG23
import Derived.Test.YtchkpggdndnpjabGreatDoorG13
import Derived.Test.YtchkpggdndnpjabGreatDoorG18

namespace Go.Proofs.YtchkpggdndnpjabGreatDoor
set_option linter.unusedVariables false
set_option linter.unusedSimpArgs false
open Go.RowKit Go.Great

def vN (M : Msg) (i : Nat) : Int := if isStr i then 0 else if isBoo i then trN (M.b i) else M.z i
def vS (M : Msg) (i : Nat) : ByteArray := if isStr i then M.s i else ⟨#[]⟩
theorem val_at (M : Msg) (j : Nat) (hj : j < 42) (w : World) : Calls Tryz.prog 47 #[.agg M.cs, .int .i64 (tNum.getD j 0)] w fun e w' => e = .returned (.tuple #[.int .i64 (vN M j), .string (vS M j)]) ∧ Below w.heap.size w w' := by
  rcases cases42 hj with rfl | rfl | rfl | rfl | rfl | rfl | rfl | rfl | rfl | rfl | rfl | rfl | rfl | rfl | rfl | rfl | rfl | rfl | rfl | rfl | rfl | rfl | rfl | rfl | rfl | rfl | rfl | rfl | rfl | rfl | rfl | rfl | rfl | rfl | rfl | rfl | rfl | rfl | rfl | rfl | rfl | rfl
  · exact val0 M w
  · exact val1 M w
  · exact val2 M w
  · exact val3 M w
  · exact val4 M w
  · exact val5 M w
  · exact val6 M w
  · exact val7 M w
  · exact val8 M w
  · exact val9 M w
  · exact val10 M w
  · exact val11 M w
  · exact val12 M w
  · exact val13 M w
  · exact val14 M w
  · exact val15 M w
  · exact val16 M w
  · exact val17 M w
  · exact val18 M w
  · exact val19 M w
  · exact val20 M w
  · exact val21 M w
  · exact val22 M w
  · exact val23 M w
  · exact val24 M w
  · exact val25 M w
  · exact val26 M w
  · exact val27 M w
  · exact val28 M w
  · exact val29 M w
  · exact val30 M w
  · exact val31 M w
  · exact val32 M w
  · exact val33 M w
  · exact val34 M w
  · exact val35 M w
  · exact val36 M w
  · exact val37 M w
  · exact val38 M w
  · exact val39 M w
  · exact val40 M w
  · exact val41 M w
def thRB (M : Msg) (i : Nat) : Bool := vN M i != 0 || (vS M i).size != 0
theorem eq_num (z most least : Int) (hl : least = 0 ∨ least = 1) : (z != 0 || (⟨#[]⟩ : ByteArray).size != 0) = (stN z most != 0) ∧ (stN z most ≠ 0 → mayRS 0 least most z ⟨#[]⟩ = (stN z most == 1)) := by
  have e0 : ((⟨#[]⟩ : ByteArray).size != 0) = false := rfl
  have em : mayRS 0 least most z ⟨#[]⟩ = (decide (least ≤ z) && decide (z ≤ most)) := by simp [mayRS]
  rw [e0, Bool.or_false, em]
  unfold stN
  by_cases h0 : z = 0
  · simp [h0]
  · rw [if_neg h0]
    by_cases h1 : z < 0 ∨ most < z
    · rw [if_pos h1]
      refine ⟨by simp [h0], fun _ => ?_⟩
      simp
      omega
    · rw [if_neg h1]
      refine ⟨by simp [h0], fun _ => ?_⟩
      simp
      omega
theorem eq_txt (p : ByteArray → Bool) (what : Int) (s : ByteArray) (hm : mayRS what 0 0 0 s = p s) : ((0 : Int) != 0 || s.size != 0) = (stT p s != 0) ∧ (stT p s ≠ 0 → mayRS what 0 0 0 s = (stT p s == 1)) := by
  rw [hm]
  unfold stT
  by_cases h0 : s.size = 0
  · simp [h0]
  · rw [if_neg h0]
    cases p s
    · simp [h0]
    · simp [h0]
theorem eqR_boo (b : Bool) : (trN b != 0 || (⟨#[]⟩ : ByteArray).size != 0) = (stB b != 0) ∧ (stB b ≠ 0 → mayRS 1 0 0 (trN b) ⟨#[]⟩ = (stB b == 1)) := by
  have em : mayRS 1 0 0 (trN b) ⟨#[]⟩ = true := by simp [mayRS]
  rw [em]
  cases b
  · exact ⟨rfl, fun h => absurd rfl h⟩
  · exact ⟨rfl, fun _ => rfl⟩
theorem eq_dat (z : Int) : (z != 0 || (⟨#[]⟩ : ByteArray).size != 0) = (stD z != 0) ∧ (stD z ≠ 0 → mayRS 7 0 0 z ⟨#[]⟩ = (stD z == 1)) := by
  have e0 : ((⟨#[]⟩ : ByteArray).size != 0) = false := rfl
  have em : mayRS 7 0 0 z ⟨#[]⟩ = dnB z := by simp [mayRS]
  rw [e0, Bool.or_false, em]
  unfold stD
  by_cases h0 : z = 0
  · simp [h0]
  · rw [if_neg h0]
    cases dnB z
    · simp [h0]
    · simp [h0]
theorem st_at (M : Msg) (j : Nat) (hj : j < 42) : thRB M j = (stOf M j != 0) ∧ (stOf M j ≠ 0 → mayRS (rWhat.getD j 0) (rLeast.getD j 0) (rMost.getD j 0) (vN M j) (vS M j) = (stOf M j == 1)) := by
  rcases cases42 hj with rfl | rfl | rfl | rfl | rfl | rfl | rfl | rfl | rfl | rfl | rfl | rfl | rfl | rfl | rfl | rfl | rfl | rfl | rfl | rfl | rfl | rfl | rfl | rfl | rfl | rfl | rfl | rfl | rfl | rfl | rfl | rfl | rfl | rfl | rfl | rfl | rfl | rfl | rfl | rfl | rfl | rfl
  · exact eq_num (M.z 0) 17 1 (by decide)
  · exact eq_txt nmS 2 (M.s 1) (by simp [mayRS, tiS, Bool.and_comm])
  · exact eq_txt nmS 2 (M.s 2) (by simp [mayRS, tiS, Bool.and_comm])
  · exact eq_num (M.z 3) 999999999 1 (by decide)
  · exact eqR_boo (M.b 4)
  · exact eq_num (M.z 5) 253402300799999 0 (by decide)
  · exact eq_num (M.z 6) 253402300799999 1 (by decide)
  · exact eq_num (M.z 7) 3600 1 (by decide)
  · exact eqR_boo (M.b 8)
  · exact eq_txt tiS 6 (M.s 9) (by simp [mayRS, tiS, Bool.and_comm])
  · exact eq_num (M.z 10) 999999999 1 (by decide)
  · exact eq_num (M.z 11) 999999999 0 (by decide)
  · exact eq_num (M.z 12) 999999999 1 (by decide)
  · exact eqR_boo (M.b 13)
  · exact eq_num (M.z 14) 999999999 1 (by decide)
  · exact eq_num (M.z 15) 17 1 (by decide)
  · exact eq_num (M.z 16) 9999 1 (by decide)
  · exact eq_num (M.z 17) 999 0 (by decide)
  · exact eq_txt txS 5 (M.s 18) (by simp [mayRS, tiS, Bool.and_comm])
  · exact eq_txt idS 3 (M.s 19) (by simp [mayRS, tiS, Bool.and_comm])
  · exact eq_txt idS 3 (M.s 20) (by simp [mayRS, tiS, Bool.and_comm])
  · exact eq_txt nmS 2 (M.s 21) (by simp [mayRS, tiS, Bool.and_comm])
  · exact eq_txt syS 4 (M.s 22) (by simp [mayRS, tiS, Bool.and_comm])
  · exact eq_num (M.z 23) 2 1 (by decide)
  · exact eq_num (M.z 24) 4 1 (by decide)
  · exact eq_num (M.z 25) 7 1 (by decide)
  · exact eq_num (M.z 26) 1000000000 1 (by decide)
  · exact eq_num (M.z 27) 1000000000 1 (by decide)
  · exact eq_num (M.z 28) 1000000 1 (by decide)
  · exact eq_num (M.z 29) 1000000 1 (by decide)
  · exact eq_num (M.z 30) 1000000 1 (by decide)
  · exact eq_dat (M.z 31)
  · exact eq_num (M.z 32) 999999999 0 (by decide)
  · exact eq_num (M.z 33) 999999999 1 (by decide)
  · exact eq_num (M.z 34) 8 1 (by decide)
  · exact eq_num (M.z 35) 6 1 (by decide)
  · exact eq_num (M.z 36) 1000000000 1 (by decide)
  · exact eq_num (M.z 37) 1000000 1 (by decide)
  · exact eq_num (M.z 38) 1000000 0 (by decide)
  · exact eq_num (M.z 39) 1000000 0 (by decide)
  · exact eq_num (M.z 40) 5 0 (by decide)
  · exact eq_num (M.z 41) 999999999 0 (by decide)
def refErr (h : Int) (th fi oz : Bool) : Int := if h = 0 ∧ th = true then 32 else if h = 2 ∧ th = false ∧ oz = false then 31 else if th = true ∧ fi = false then 31 else 0
theorem row_err (M : Msg) (hK : isK (M.z 0) = true) (j : Nat) (hj : j < 42) : errAt M j = refErr (hasRR (M.z 0) (rMust.getD j []) (rMay.getD j [])) (thRB M j) (mayRS (rWhat.getD j 0) (rLeast.getD j 0) (rMost.getD j 0) (vN M j) (vS M j)) (tOz.getD j false) := by
  obtain ⟨h1, h2⟩ := st_at M j hj
  have hle := stOf_le M j hj
  have hk2 : 1 ≤ M.z 0 ∧ M.z 0 ≤ 17 := by simpa [isK] using hK
  obtain ⟨y, hy⟩ : ∃ y : Nat, M.z 0 = y := ⟨(M.z 0).toNat, by omega⟩
  have hy2 : (M.z 0).toNat = y := by omega
  unfold errAt hasRR
  rw [h1, hy2, hy, must_bit j hj y (by omega) (by omega), may_bit j hj y (by omega) (by omega)]
  have hst : stOf M j = 0 ∨ stOf M j = 1 ∨ stOf M j = 2 := by omega
  generalize mayRS (rWhat.getD j 0) (rLeast.getD j 0) (rMost.getD j 0) (vN M j) (vS M j) = fi at *
  generalize tOz.getD j false = oz at *
  generalize (tMust.getD j 0).testBit y = mu at *
  generalize (tMay.getD j 0).testBit y = ma at *
  rcases hst with h | h | h
  · rw [h]
    cases mu <;> cases ma <;> cases oz <;> cases fi <;> rfl
  · rw [h] at h2 ⊢
    rw [h2 (by decide)]
    cases mu <;> cases ma <;> cases oz <;> rfl
  · rw [h] at h2 ⊢
    rw [h2 (by decide)]
    cases mu <;> cases ma <;> cases oz <;> rfl
theorem ordN_nn (a b c d e f g h : Int) : 0 ≤ ordN a b c d e f g h := by unfold ordN; repeat' split <;> try decide
theorem exeN_nn (a b c d e f : Int) : 0 ≤ exeN a b c d e f := by unfold exeN; repeat' split <;> try decide
theorem fitN_nn (M : Msg) : 0 ≤ fitN M := by
  unfold fitN
  split
  · decide
  · split
    · decide
    · split
      · exact ordN_nn _ _ _ _ _ _ _ _
      · split
        · exact exeN_nn _ _ _ _ _ _
        · decide

end Go.Proofs.YtchkpggdndnpjabGreatDoor

namespace Go.Proofs.YtchkpggdndnpjabGreatDoor
set_option linter.unusedVariables false
set_option linter.unusedSimpArgs false
open Go.RowKit Go.Great

theorem num_injR : ∀ i, i < 42 → ∀ j, j < 42 → tNum.getD i 0 = tNum.getD j 0 → i = j := by decide
theorem hasN_at {z : Int} (hK : isK z = true) (j : Nat) (hj : j < 42) : hasN z (tNum.getD j 0) = hasAt z (tNum.getD j 0) j := by
  have hne : ∀ i, i < 42 → i ≠ j → hasAt z (tNum.getD j 0) i = 0 := fun i hi h => by
    unfold hasAt
    rw [if_neg (fun e => h (num_injR i hi j hj e))]
  by_cases h0 : hasAt z (tNum.getD j 0) j = 0
  · rw [h0]
    exact hasN_none hK fun i hi => by
      by_cases e : i = j
      · rw [e, h0]
      · exact hne i hi e
  · exact hasN_some hK hj (fun i hi => hne i (by omega) (by omega)) h0
theorem hasN_num {z f : Int} (h : hasN z f ≠ 0) : isK z = true ∧ ∃ j, j < 42 ∧ tNum.getD j 0 = f := by
  cases hK : isK z
  · exact absurd (by simp [hasN, hK]) h
  · refine ⟨rfl, ?_⟩
    refine Classical.byContradiction fun hn => h (hasN_none hK fun j hj => ?_)
    unfold hasAt
    rw [if_neg (fun e => hn ⟨j, hj, e⟩)]
theorem hasR_at {z : Int} (hK : isK z = true) (j : Nat) (hj : j < 42) : hasRR z (rMust.getD j []) (rMay.getD j []) = hasAt z (tNum.getD j 0) j := by
  simp [isK] at hK
  obtain ⟨y, hy⟩ : ∃ y : Nat, z = y := ⟨z.toNat, by omega⟩
  subst hy
  unfold hasRR hasAt
  rw [must_bit j hj y (by omega) (by omega), may_bit j hj y (by omega) (by omega), if_pos rfl]
  rfl
theorem hasR_no {z : Int} (hK : isK z = false) (l m : List Int) : hasRR z l m = 0 := by simp [hasRR, amongB, hK]
theorem hasR_num (z : Int) (j : Nat) (hj : j < 42) : hasRR z (rMust.getD j []) (rMay.getD j []) = hasN z (tNum.getD j 0) := by
  cases hK : isK z
  · rw [hasR_no hK]; simp [hasN, hK]
  · rw [hasR_at hK j hj, hasN_at hK j hj]
theorem hasN_non {z f : Int} (h : ∀ j, j < 42 → ¬ tNum.getD j 0 = f) : hasN z f = 0 := by
  refine Classical.byContradiction fun hn => ?_
  obtain ⟨_, j, hj, e⟩ := hasN_num hn
  exact h j hj e
set_option maxRecDepth 100000 in
set_option maxHeartbeats 1000000 in
theorem refHas_any (z fd : Int) (w : World) :
    Calls Tryz.prog 51 #[.int .i64 z, .int .i64 fd] w fun e w' => e = .returned (.int .i64 (hasN z fd)) ∧ Below w.heap.size w w' := by
  go_enter Tryz.func51, Tryz.ntmps51
  go_wp2_with (go_at_call 46; fail)
  refine (Rows_any w).mono ?_
  rintro e w1 ⟨G, mu, ma, rfl, hG, hT, hb⟩
  have HT : Hid (TabAt w1 G mu ma ∧ Below w.heap.size w w1) := ⟨hT, hb⟩
  clear hT hb
  go_wp2
  go_loopw [6] (fun i wr => ∃ k : Nat, k ≤ 42 ∧ i = .int .i64 k ∧ Hid (∀ j, j < k → ¬ tNum.getD j 0 = fd) ∧ wr = w1) (fun i _ => 42 - (intOf i).toNat)
  case atStart => exact ⟨0, by omega, rfl, fun j hj => by omega, rfl⟩
  case round =>
    obtain ⟨k, hk, rfl, he, rfl⟩ := hrel
    by_cases hlt : k < 42
    · have hlt' : (k : Int) < 42 := by omega
      have c0 := HT.out.1.cell k hlt 0 _ rfl
      have c1 := HT.out.1.cell k hlt 1 _ rfl
      have c2 := HT.out.1.cell k hlt 2 _ rfl
      have c3 := HT.out.1.cell k hlt 3 _ rfl
      have c4 := HT.out.1.cell k hlt 4 _ rfl
      have c5 := HT.out.1.cell k hlt 5 _ rfl
      have c6 := HT.out.1.cell k hlt 6 _ rfl
      rw [Nat.add_zero] at c0
      have hs := HT.out.1.2 k hlt
      have hc := refhas_any z (tNum.getD k 0) (rWhat.getD k 0) (rLeast.getD k 0) (rMost.getD k 0) (tOz.getD k false) (mu k) (ma k) _ _ (must_len k hlt) (may_len k hlt) wr hs.1 hs.2 hs.1.form hs.2.form
      rw [hasR_num z k hlt] at hc
      obtain ⟨au, lu, cu, hu⟩ := hs.1.form
      obtain ⟨aa, la, ca, ha⟩ := hs.2.form
      rw [hu, ha] at hc
      rw [hu] at c5
      rw [ha] at c6
      clear hs hu ha
      have HF : Hid (¬ tNum.getD k 0 = fd → ∀ j, j < k + 1 → ¬ tNum.getD j 0 = fd) := fun h j hj => by
        by_cases e : j = k
        · rw [e]; exact h
        · exact he.out j (by omega)
      clear he
      generalize tNum.getD k 0 = n at *
      generalize rWhat.getD k 0 = n1 at *
      generalize rLeast.getD k 0 = n2 at *
      generalize rMost.getD k 0 = n3 at *
      generalize tOz.getD k false = n4 at *
      by_cases hn : n = fd
      · subst hn
        have hb : (n == n) = true := by simp
        clear HF
        generalize hhe : hasN z n = hh at *
        have HE : Hid (hasN z n = hh) := hhe
        clear hhe
        go_wp2_with (go_at_call 48; fail)
        refine hc.mono ?_
        rintro e w3 ⟨rfl, hb3⟩
        go_wp2
        go_ret
        exact ⟨ret_int HE.out.symm, HT.out.2.trans (hb3.mono HT.out.2.size)⟩
      · have hb : (n == fd) = false := by simp [hn]
        have HR : Hid (∀ j, j < k + 1 → ¬ tNum.getD j 0 = fd) := HF.out hn
        clear HF hc
        go_wp2
        go_roundw
        case rel => exact ⟨k + 1, by omega, by go_num, HR, by first | rfl | trivial⟩
        case measure => simp [intOf]; omega
    · obtain rfl : k = 42 := by omega
      have HR : Hid (hasN z fd = 0) := hasN_non he.out
      clear he
      go_wp2
      go_ret
      exact ⟨ret_int HR.out.symm, HT.out.2⟩
end Go.Proofs.YtchkpggdndnpjabGreatDoor

namespace Go.Proofs.YtchkpggdndnpjabGreatDoor
set_option linter.unusedVariables false
set_option linter.unusedSimpArgs false
open Go.RowKit Go.Great

/-- The program's row of a field. -/
def jr (j : Nat) : Nat := if j < 7 then j else if j < 26 then j + 1 else j + 2
/-- How many of the program's rows lie ahead of a field's. -/
def rho (j : Nat) : Nat := if j < 8 then j else if j < 26 then j + 1 else j + 2
theorem jr_lt {j : Nat} (h : j < 42) : jr j < 45 := by unfold jr; split <;> (try split) <;> omega
set_option maxRecDepth 100000 in
theorem jr_tab : ((List.range 42).all fun j => (xNum.getD (jr j) 0 == tNum.getD j 0) && (xCe.getD (jr j) 0 == j) && !(tNum.getD j 0 == 98) && !(tNum.getD j 0 == 18) && !(tNum.getD j 0 == 530) && !(jr j == 7) && !(jr j == 27) && !(jr j == 44)) = true := by kernel_rfl
theorem jr_facts {j : Nat} (h : j < 42) : xNum.getD (jr j) 0 = tNum.getD j 0 ∧ xCe.getD (jr j) 0 = j ∧ tNum.getD j 0 ≠ 98 ∧ tNum.getD j 0 ≠ 18 ∧ tNum.getD j 0 ≠ 530 ∧ jr j ≠ 7 ∧ jr j ≠ 27 ∧ jr j ≠ 44 := by
  have := List.all_eq_true.1 jr_tab j (List.mem_range.2 h)
  simp only [Bool.and_eq_true, Bool.not_eq_true', beq_eq_false_iff_ne, beq_iff_eq, ne_eq] at this
  obtain ⟨⟨⟨⟨⟨⟨⟨a1, a2⟩, a3⟩, a4⟩, a5⟩, a6⟩, a7⟩, a8⟩ := this
  exact ⟨a1, a2, a3, a4, a5, a6, a7, a8⟩
def encX (M : Msg) (k : Nat) : List Fld := (slU (M.z 0) k).filterMap (fldF M)
def rowO (M : Msg) (r : Nat) : Option Fld := (slotF (M.z 0) r).bind (fldF M)
theorem encX_all (M : Msg) : encX M 45 = encF M := rfl
theorem encX_succ (M : Msg) (k : Nat) : encX M (k + 1) = encX M k ++ (rowO M k).toList := by
  unfold encX slU
  rw [List.range_succ, List.filterMap_append, List.filterMap_append]
  congr 1
  unfold rowO
  rw [List.filterMap_cons]
  cases h : slotF (M.z 0) k with
  | none => simp
  | some t =>
    rw [List.filterMap_nil, List.filterMap_cons, List.filterMap_nil]
    cases h2 : fldF M t <;> simp [h2]
theorem encX_len (M : Msg) : ∀ k, (encX M k).length ≤ k
  | 0 => by simp [encX, slU]
  | k + 1 => by
    rw [encX_succ, List.length_append]
    have := encX_len M k
    cases rowO M k <;> simp <;> omega
theorem has_jr {k : Int} (hk : k ≠ 0) {j : Nat} (hj : j < 42) : hasK k (jr j) = hasN k (tNum.getD j 0) := by
  obtain ⟨a1, a2, a3, a4, a5, -⟩ := jr_facts hj
  unfold hasK hasR
  rw [a1, if_neg hk, if_neg a3, if_neg a4, if_neg a5]
theorem Vld.nz {M : Msg} (h : Vld M) : M.z 0 ≠ 0 := by
  obtain ⟨k, hk, e⟩ := h.kind
  omega
theorem row98 {M : Msg} (h : Vld M) : rowO M 7 = if M.z 0 = 7 then some (98, [48]) else none := by
  unfold rowO slotF
  have e : hasR (M.z 0) (xNum.getD 7 0) = hiN (M.z 0 == 7) 2 := by
    show hasR (M.z 0) 98 = _
    unfold hasR
    rw [if_neg h.nz, if_pos rfl]
  rw [e]
  by_cases h7 : M.z 0 = 7
  · rw [h7]; rfl
  · have : (M.z 0 == 7) = false := by simp [h7]
    rw [this, if_neg h7]; rfl
theorem row530 {M : Msg} (h : Vld M) : rowO M 44 = if (M.z 0 == 11 || M.z 0 == 15) = true then some (530, (scS (M.s 22)).data.toList) else none := by
  unfold rowO slotF
  have e : hasR (M.z 0) (xNum.getD 44 0) = hiN (M.z 0 == 11 || M.z 0 == 15) 2 := by
    show hasR (M.z 0) 530 = _
    unfold hasR
    rw [if_neg h.nz, if_neg (by decide), if_neg (by decide), if_pos rfl]
  rw [e]
  cases hb : (M.z 0 == 11 || M.z 0 == 15) with
  | true => rfl
  | false => rfl
theorem row18 {M : Msg} (h : Vld M) : rowO M 27 = if M.z 25 = 7 then some (18, [54]) else none := by
  obtain ⟨l1, l2⟩ := life_facts h
  obtain ⟨z0, z1, z2, z3⟩ := life_z h
  unfold rowO slotF
  by_cases h7 : M.z 25 = 7
  · rw [if_pos h7]
    have h27 : hasK (M.z 0) 27 = 1 := l1.resolve_left (fun q => by have := z2 q; omega)
    unfold hasK at h27
    rw [h27]
    show fldF M (tagR (M.z 0) 18, false, 27) = _
    have : thB 27 M = true := by show (M.z 25 == 7) = true; rw [h7]; rfl
    unfold fldF
    rw [this]
    rfl
  · rw [if_neg h7]
    have : thB 27 M = false := by show (M.z 25 == 7) = false; simpa using h7
    rcases l2 with q | q <;> unfold hasK at q <;> rw [q]
    · rfl
    · show fldF M (tagR (M.z 0) 18, false, 27) = _
      unfold fldF
      rw [this]
      rfl
set_option maxRecDepth 100000 in
theorem th_jr (M : Msg) (j : Nat) (hj : j < 42) : thB (jr j) M = thRB M j := by
  rcases cases42 hj with rfl | rfl | rfl | rfl | rfl | rfl | rfl | rfl | rfl | rfl | rfl | rfl | rfl | rfl | rfl | rfl | rfl | rfl | rfl | rfl | rfl | rfl | rfl | rfl | rfl | rfl | rfl | rfl | rfl | rfl | rfl | rfl | rfl | rfl | rfl | rfl | rfl | rfl | rfl | rfl | rfl | rfl
  · show (M.z 0 != 0) = (M.z 0 != 0 || (⟨#[]⟩ : ByteArray).size != 0); rw [show ((⟨#[]⟩ : ByteArray).size != 0) = false from rfl, Bool.or_false]
  · show (!((M.s 1).size == 0)) = ((0 : Int) != 0 || (M.s 1).size != 0); rfl
  · show (!((M.s 2).size == 0)) = ((0 : Int) != 0 || (M.s 2).size != 0); rfl
  · show (M.z 3 != 0) = (M.z 3 != 0 || (⟨#[]⟩ : ByteArray).size != 0); rw [show ((⟨#[]⟩ : ByteArray).size != 0) = false from rfl, Bool.or_false]
  · show M.b 4 = (trN (M.b 4) != 0 || (⟨#[]⟩ : ByteArray).size != 0); cases M.b 4 <;> rfl
  · show (M.z 5 != 0) = (M.z 5 != 0 || (⟨#[]⟩ : ByteArray).size != 0); rw [show ((⟨#[]⟩ : ByteArray).size != 0) = false from rfl, Bool.or_false]
  · show (M.z 6 != 0) = (M.z 6 != 0 || (⟨#[]⟩ : ByteArray).size != 0); rw [show ((⟨#[]⟩ : ByteArray).size != 0) = false from rfl, Bool.or_false]
  · show (M.z 7 != 0) = (M.z 7 != 0 || (⟨#[]⟩ : ByteArray).size != 0); rw [show ((⟨#[]⟩ : ByteArray).size != 0) = false from rfl, Bool.or_false]
  · show M.b 8 = (trN (M.b 8) != 0 || (⟨#[]⟩ : ByteArray).size != 0); cases M.b 8 <;> rfl
  · show (!((M.s 9).size == 0)) = ((0 : Int) != 0 || (M.s 9).size != 0); rfl
  · show (M.z 10 != 0) = (M.z 10 != 0 || (⟨#[]⟩ : ByteArray).size != 0); rw [show ((⟨#[]⟩ : ByteArray).size != 0) = false from rfl, Bool.or_false]
  · show (M.z 11 != 0) = (M.z 11 != 0 || (⟨#[]⟩ : ByteArray).size != 0); rw [show ((⟨#[]⟩ : ByteArray).size != 0) = false from rfl, Bool.or_false]
  · show (M.z 12 != 0) = (M.z 12 != 0 || (⟨#[]⟩ : ByteArray).size != 0); rw [show ((⟨#[]⟩ : ByteArray).size != 0) = false from rfl, Bool.or_false]
  · show M.b 13 = (trN (M.b 13) != 0 || (⟨#[]⟩ : ByteArray).size != 0); cases M.b 13 <;> rfl
  · show (M.z 14 != 0) = (M.z 14 != 0 || (⟨#[]⟩ : ByteArray).size != 0); rw [show ((⟨#[]⟩ : ByteArray).size != 0) = false from rfl, Bool.or_false]
  · show (M.z 15 != 0) = (M.z 15 != 0 || (⟨#[]⟩ : ByteArray).size != 0); rw [show ((⟨#[]⟩ : ByteArray).size != 0) = false from rfl, Bool.or_false]
  · show (M.z 16 != 0) = (M.z 16 != 0 || (⟨#[]⟩ : ByteArray).size != 0); rw [show ((⟨#[]⟩ : ByteArray).size != 0) = false from rfl, Bool.or_false]
  · show (M.z 17 != 0) = (M.z 17 != 0 || (⟨#[]⟩ : ByteArray).size != 0); rw [show ((⟨#[]⟩ : ByteArray).size != 0) = false from rfl, Bool.or_false]
  · show (!((M.s 18).size == 0)) = ((0 : Int) != 0 || (M.s 18).size != 0); rfl
  · show (!((M.s 19).size == 0)) = ((0 : Int) != 0 || (M.s 19).size != 0); rfl
  · show (!((M.s 20).size == 0)) = ((0 : Int) != 0 || (M.s 20).size != 0); rfl
  · show (!((M.s 21).size == 0)) = ((0 : Int) != 0 || (M.s 21).size != 0); rfl
  · show (!((M.s 22).size == 0)) = ((0 : Int) != 0 || (M.s 22).size != 0); rfl
  · show (M.z 23 != 0) = (M.z 23 != 0 || (⟨#[]⟩ : ByteArray).size != 0); rw [show ((⟨#[]⟩ : ByteArray).size != 0) = false from rfl, Bool.or_false]
  · show (M.z 24 != 0) = (M.z 24 != 0 || (⟨#[]⟩ : ByteArray).size != 0); rw [show ((⟨#[]⟩ : ByteArray).size != 0) = false from rfl, Bool.or_false]
  · show (M.z 25 != 0) = (M.z 25 != 0 || (⟨#[]⟩ : ByteArray).size != 0); rw [show ((⟨#[]⟩ : ByteArray).size != 0) = false from rfl, Bool.or_false]
  · show (M.z 26 != 0) = (M.z 26 != 0 || (⟨#[]⟩ : ByteArray).size != 0); rw [show ((⟨#[]⟩ : ByteArray).size != 0) = false from rfl, Bool.or_false]
  · show (M.z 27 != 0) = (M.z 27 != 0 || (⟨#[]⟩ : ByteArray).size != 0); rw [show ((⟨#[]⟩ : ByteArray).size != 0) = false from rfl, Bool.or_false]
  · show (M.z 28 != 0) = (M.z 28 != 0 || (⟨#[]⟩ : ByteArray).size != 0); rw [show ((⟨#[]⟩ : ByteArray).size != 0) = false from rfl, Bool.or_false]
  · show (M.z 29 != 0) = (M.z 29 != 0 || (⟨#[]⟩ : ByteArray).size != 0); rw [show ((⟨#[]⟩ : ByteArray).size != 0) = false from rfl, Bool.or_false]
  · show (M.z 30 != 0) = (M.z 30 != 0 || (⟨#[]⟩ : ByteArray).size != 0); rw [show ((⟨#[]⟩ : ByteArray).size != 0) = false from rfl, Bool.or_false]
  · show (M.z 31 != 0) = (M.z 31 != 0 || (⟨#[]⟩ : ByteArray).size != 0); rw [show ((⟨#[]⟩ : ByteArray).size != 0) = false from rfl, Bool.or_false]
  · show (M.z 32 != 0) = (M.z 32 != 0 || (⟨#[]⟩ : ByteArray).size != 0); rw [show ((⟨#[]⟩ : ByteArray).size != 0) = false from rfl, Bool.or_false]
  · show (M.z 33 != 0) = (M.z 33 != 0 || (⟨#[]⟩ : ByteArray).size != 0); rw [show ((⟨#[]⟩ : ByteArray).size != 0) = false from rfl, Bool.or_false]
  · show (M.z 34 != 0) = (M.z 34 != 0 || (⟨#[]⟩ : ByteArray).size != 0); rw [show ((⟨#[]⟩ : ByteArray).size != 0) = false from rfl, Bool.or_false]
  · show (M.z 35 != 0) = (M.z 35 != 0 || (⟨#[]⟩ : ByteArray).size != 0); rw [show ((⟨#[]⟩ : ByteArray).size != 0) = false from rfl, Bool.or_false]
  · show (M.z 36 != 0) = (M.z 36 != 0 || (⟨#[]⟩ : ByteArray).size != 0); rw [show ((⟨#[]⟩ : ByteArray).size != 0) = false from rfl, Bool.or_false]
  · show (M.z 37 != 0) = (M.z 37 != 0 || (⟨#[]⟩ : ByteArray).size != 0); rw [show ((⟨#[]⟩ : ByteArray).size != 0) = false from rfl, Bool.or_false]
  · show (M.z 38 != 0) = (M.z 38 != 0 || (⟨#[]⟩ : ByteArray).size != 0); rw [show ((⟨#[]⟩ : ByteArray).size != 0) = false from rfl, Bool.or_false]
  · show (M.z 39 != 0) = (M.z 39 != 0 || (⟨#[]⟩ : ByteArray).size != 0); rw [show ((⟨#[]⟩ : ByteArray).size != 0) = false from rfl, Bool.or_false]
  · show (M.z 40 != 0) = (M.z 40 != 0 || (⟨#[]⟩ : ByteArray).size != 0); rw [show ((⟨#[]⟩ : ByteArray).size != 0) = false from rfl, Bool.or_false]
  · show (M.z 41 != 0) = (M.z 41 != 0 || (⟨#[]⟩ : ByteArray).size != 0); rw [show ((⟨#[]⟩ : ByteArray).size != 0) = false from rfl, Bool.or_false]
/-- Whether the reference writes a field. -/
def prs (M : Msg) (j : Nat) : Bool := (hasN (M.z 0) (tNum.getD j 0) == 2) || thRB M j
theorem row_jr {M : Msg} (h : Vld M) {j : Nat} (hj : j < 42) : rowO M (jr j) = cond (prs M j) (some (tagR (M.z 0) (tNum.getD j 0), (wrS (jr j) M).data.toList)) none := by
  obtain ⟨a1, a2, a3, a4, a5, a6, a7, a8⟩ := jr_facts hj
  have hk := has_jr h.nz hj
  have hf := row_facts h (jr j) (jr_lt hj) (by simp [a6, a7, a8]) (by rw [a2]; exact hj)
  rw [a2] at hf
  unfold rowO slotF prs
  change (if hasK (M.z 0) (jr j) = 0 then none else some (tagR (M.z 0) (xNum.getD (jr j) 0), hasK (M.z 0) (jr j) == 2, jr j)).bind (fldF M) = _
  rw [hk, a1]
  by_cases h0 : hasN (M.z 0) (tNum.getD j 0) = 0
  · rw [if_pos h0, h0]
    have : thRB M j = false := by
      rw [(st_at M j hj).1, hf.1 (by rw [hk]; exact h0)]; rfl
    rw [this]
    rfl
  · rw [if_neg h0]
    show fldF M _ = _
    unfold fldF
    rw [← th_jr M j hj]
theorem prs_slot {M : Msg} (h : Vld M) {j : Nat} (hj : j < 42) (hp : prs M j = true) : ∃ t ∈ slts (M.z 0), t.2.2 = jr j ∧ wrt M t = true := by
  obtain ⟨a1, a2, a3, a4, a5, a6, a7, a8⟩ := jr_facts hj
  have hk := has_jr h.nz hj
  have hf := row_facts h (jr j) (jr_lt hj) (by simp [a6, a7, a8]) (by rw [a2]; exact hj)
  rw [a2] at hf
  have h0 : hasK (M.z 0) (jr j) ≠ 0 := fun q => by
    have : thRB M j = false := by
      rw [(st_at M j hj).1, hf.1 q]; rfl
    unfold prs at hp
    rw [this, ← hk, q] at hp
    cases hp
  refine ⟨(tagR (M.z 0) (xNum.getD (jr j) 0), hasK (M.z 0) (jr j) == 2, jr j), slts_mem.2 ⟨jr_lt hj, h0, rfl, rfl⟩, rfl, ?_⟩
  unfold wrt
  dsimp only
  rw [hk, th_jr M j hj]
  exact hp
/-- What a round of the reference adds. -/
theorem encX_round {M : Msg} (h : Vld M) {j : Nat} (hj : j < 42) :
    encX M (rho (j + 1)) = encX M (rho j) ++ ((if j = 7 ∧ M.z 0 = 7 then [(98, [48])] else []) ++ (cond (prs M j) [(tagR (M.z 0) (tNum.getD j 0), (wrS (jr j) M).data.toList)] [] ++ (if j = 25 ∧ M.z 25 = 7 then [(18, [54])] else []))) := by
  have hc : (rowO M (jr j)).toList = cond (prs M j) [(tagR (M.z 0) (tNum.getD j 0), (wrS (jr j) M).data.toList)] [] := by
    rw [row_jr h hj]; cases prs M j <;> rfl
  by_cases h7 : j = 7
  · subst h7
    show encX M 9 = encX M 7 ++ _
    rw [encX_succ, encX_succ, row98 h, show (8 : Nat) = jr 7 from rfl, hc]
    by_cases hz : M.z 0 = 7
    · rw [if_pos hz, if_pos ⟨rfl, hz⟩, if_neg (by omega)]; simp
    · rw [if_neg hz, if_neg (fun q => hz q.2), if_neg (by omega)]; simp
  by_cases h25 : j = 25
  · subst h25
    show encX M 28 = encX M 26 ++ _
    rw [encX_succ, encX_succ, row18 h, show (26 : Nat) = jr 25 from rfl, hc]
    by_cases hz : M.z 25 = 7
    · rw [if_pos hz, if_neg (by omega), if_pos ⟨rfl, hz⟩]; simp
    · rw [if_neg hz, if_neg (by omega), if_neg (fun q => hz q.2)]; simp
  · have e1 : rho j = jr j := by unfold rho jr; split <;> split <;> (try split) <;> omega
    have e2 : rho (j + 1) = jr j + 1 := by unfold rho jr; split <;> split <;> (try split) <;> (try split) <;> omega
    rw [e1, e2, encX_succ, hc, if_neg (fun q => h7 q.1), if_neg (fun q => h25 q.1)]
    simp
theorem encX_last {M : Msg} (h : Vld M) : encF M = encX M 44 ++ (if (M.z 0 == 11 || M.z 0 == 15) = true then [(530, (scS (M.s 22)).data.toList)] else []) := by
  rw [← encX_all, encX_succ, row530 h]
  split <;> rfl
end Go.Proofs.YtchkpggdndnpjabGreatDoor

namespace Go.Proofs.YtchkpggdndnpjabGreatDoor
set_option linter.unusedVariables false
open Go.RowKit Go.Great

theorem any_no {z : Int} {l : List Int} (h : ∀ k, k < l.length → ¬ l.getD k 0 = z) : (l.any fun x => x == z) = false := by
  rw [List.any_eq_false]
  intro x hx
  obtain ⟨k, hk, rfl⟩ := List.getElem_of_mem hx
  have := h k hk
  rw [List.getD_eq_getElem?_getD, List.getElem?_eq_getElem hk] at this
  simpa using this
theorem any_yes {z : Int} {l : List Int} {k : Nat} (hk : k < l.length) (h : l.getD k 0 = z) : (l.any fun x => x == z) = true := by
  rw [List.any_eq_true]
  refine ⟨l[k], List.getElem_mem hk, ?_⟩
  rw [List.getD_eq_getElem?_getD, List.getElem?_eq_getElem hk] at h
  simpa using h
set_option maxRecDepth 100000 in
theorem xamong_any (z : Int) (g n : Nat) (l : List Int) (hn : n = l.length) (hl : l.length ≤ 20) (w : World) (hc : ∀ k, k < l.length → w.cell? ⟨g, k, none⟩ = some (.int .i64 (l.getD k 0))) :
    Calls Tryz.prog 233 #[.int .i64 z, .slice (some ⟨g, 0, none⟩) n n] w fun e w' => e = .returned (.bool (l.any fun x => x == z)) ∧ w' = w := by
  subst hn
  have HC : Hid (∀ k, k < l.length → w.cell? ⟨g, k, none⟩ = some (.int .i64 (l.getD k 0))) := hc
  clear hc
  go_enter Tryz.func233, Tryz.ntmps233
  go_wp2
  go_loopw [5] (fun i wr => ∃ k : Nat, k ≤ l.length ∧ i = .int .i64 k ∧ Hid (∀ j, j < k → ¬ l.getD j 0 = z) ∧ wr = w) (fun i _ => l.length - (intOf i).toNat)
  case atStart => exact ⟨0, by omega, rfl, fun j hj => by omega, rfl⟩
  case round =>
    obtain ⟨k, hk, rfl, he, rfl⟩ := hrel
    by_cases hlt : k < l.length
    · have hlt' : (k : Int) < (l.length : Int) := by omega
      have hc := HC.out k hlt
      have HT : Hid (l.getD k 0 = z → (l.any fun x => x == z) = true) := fun h => any_yes hlt h
      have HF : Hid (¬ l.getD k 0 = z → ∀ j, j < k + 1 → ¬ l.getD j 0 = z) := fun h j hj => by
        by_cases e : j = k
        · rw [e]; exact h
        · exact he.out j (by omega)
      clear he
      generalize l.getD k 0 = x at *
      by_cases hx : x = z
      · have HR : Hid ((l.any fun x => x == z) = true) := HT.out hx
        subst hx
        clear HT HF
        have hb : (x == x) = true := by simp
        go_wp2
        go_ret
        exact ⟨ret_bool HR.out.symm, by first | rfl | trivial⟩
      · have hb : (x == z) = false := by simp [hx]
        have HR : Hid (∀ j, j < k + 1 → ¬ l.getD j 0 = z) := HF.out hx
        clear HT HF
        go_wp2
        go_roundw
        case rel => exact ⟨k + 1, by omega, by go_num, HR, by first | rfl | trivial⟩
        case measure => simp [intOf]; omega
    · obtain rfl : k = l.length := by omega
      have HR : Hid ((l.any fun x => x == z) = false) := any_no he.out
      clear he
      go_wp2
      go_ret
      exact ⟨ret_bool HR.out.symm, by first | rfl | trivial⟩
theorem ints_alloc {w : World} {cs : Array Value} (l : List Int) (h : (l.map fun z => Value.int .i64 z).toArray = cs) : ∀ k, k < l.length → (w.alloc (.cells cs 3)).cell? ⟨w.heap.size, k, none⟩ = some (.int .i64 (l.getD k 0)) := fun k hk => by
  subst h
  rw [cell_of_row _ _ _ _ _ _ (heap_alloc_new w _)]
  simp [List.getD_eq_getElem?_getD, hk]
def xflB (z : Int) : Bool := [43, 123, 141].any fun x => x == z
set_option maxRecDepth 100000 in
theorem isFlag_any (z : Int) (w : World) : Calls Tryz.prog 192 #[.int .i64 z] w fun e w' => e = .returned (.bool (xflB z)) ∧ Below w.heap.size w w' := by
  have HB : Hid (Below w.heap.size w (w.alloc (.cells #[.int .i64 43, .int .i64 123, .int .i64 141] 3))) := (Below.refl _ w).alloc (Nat.le_refl _) _
  have HA := xamong_any z w.heap.size 3 [43, 123, 141] rfl (by decide) (w.alloc (.cells #[.int .i64 43, .int .i64 123, .int .i64 141] 3)) (ints_alloc _ rfl)
  change Calls _ _ _ _ fun e w' => e = .returned (.bool (xflB z)) ∧ _ at HA
  go_enter Tryz.func192, Tryz.ntmps192
  go_upto_region 1 with fail
  rename_i K hK
  refine wp_region_lit ?_
  refine wpList_runTo rfl (some 3) rfl (.int .i64 z) w (by kernel_rfl) ?_
  refine wpList_runTo rfl (some 4) rfl (.slice (some ⟨w.heap.size, 0, none⟩) 3 3) (w.alloc (.cells #[.int .i64 43, .int .i64 123, .int .i64 141] 3)) (by kernel_rfl) ?_
  refine wpList_callW rfl (some 5) rfl 233 #[.int .i64 z, .slice (some ⟨w.heap.size, 0, none⟩) 3 3] (by kernel_rfl) HA ?_
  clear HA
  rintro e w1 ⟨rfl, rfl⟩
  refine ⟨_, rfl, ?_⟩
  refine wpList_runTo rfl (some 2) rfl (.bool (xflB z)) (w.alloc (.cells #[.int .i64 43, .int .i64 123, .int .i64 141] 3)) (by kernel_rfl) ?_
  refine wpList_nil ?_
  refine hK _ _ ?_
  clear hK
  simp only [Act.put, List.setIfInBounds_toArray, List.set_cons_zero, List.set_cons_succ]
  generalize w.alloc (.cells #[.int .i64 43, .int .i64 123, .int .i64 141] 3) = w1 at *
  go_wp2
  go_ret
  exact ⟨rfl, HB.out⟩
def xprB (z : Int) : Bool := [44, 99, 31].any fun x => x == z
set_option maxRecDepth 100000 in
theorem isPrice_any (z : Int) (w : World) : Calls Tryz.prog 194 #[.int .i64 z] w fun e w' => e = .returned (.bool (xprB z)) ∧ Below w.heap.size w w' := by
  have HB : Hid (Below w.heap.size w (w.alloc (.cells #[.int .i64 44, .int .i64 99, .int .i64 31] 3))) := (Below.refl _ w).alloc (Nat.le_refl _) _
  have HA := xamong_any z w.heap.size 3 [44, 99, 31] rfl (by decide) (w.alloc (.cells #[.int .i64 44, .int .i64 99, .int .i64 31] 3)) (ints_alloc _ rfl)
  change Calls _ _ _ _ fun e w' => e = .returned (.bool (xprB z)) ∧ _ at HA
  go_enter Tryz.func194, Tryz.ntmps194
  go_upto_region 1 with fail
  rename_i K hK
  refine wp_region_lit ?_
  refine wpList_runTo rfl (some 3) rfl (.int .i64 z) w (by kernel_rfl) ?_
  refine wpList_runTo rfl (some 4) rfl (.slice (some ⟨w.heap.size, 0, none⟩) 3 3) (w.alloc (.cells #[.int .i64 44, .int .i64 99, .int .i64 31] 3)) (by kernel_rfl) ?_
  refine wpList_callW rfl (some 5) rfl 233 #[.int .i64 z, .slice (some ⟨w.heap.size, 0, none⟩) 3 3] (by kernel_rfl) HA ?_
  clear HA
  rintro e w1 ⟨rfl, rfl⟩
  refine ⟨_, rfl, ?_⟩
  refine wpList_runTo rfl (some 2) rfl (.bool (xprB z)) (w.alloc (.cells #[.int .i64 44, .int .i64 99, .int .i64 31] 3)) (by kernel_rfl) ?_
  refine wpList_nil ?_
  refine hK _ _ ?_
  clear hK
  simp only [Act.put, List.setIfInBounds_toArray, List.set_cons_zero, List.set_cons_succ]
  generalize w.alloc (.cells #[.int .i64 44, .int .i64 99, .int .i64 31] 3) = w1 at *
  go_wp2
  go_ret
  exact ⟨rfl, HB.out⟩
def xtxB (z : Int) : Bool := [49, 56, 112, 58, 11, 41, 1, 55].any fun x => x == z
set_option maxRecDepth 100000 in
theorem isText_any (z : Int) (w : World) : Calls Tryz.prog 195 #[.int .i64 z] w fun e w' => e = .returned (.bool (xtxB z)) ∧ Below w.heap.size w w' := by
  have HB : Hid (Below w.heap.size w (w.alloc (.cells #[.int .i64 49, .int .i64 56, .int .i64 112, .int .i64 58, .int .i64 11, .int .i64 41, .int .i64 1, .int .i64 55] 3))) := (Below.refl _ w).alloc (Nat.le_refl _) _
  have HA := xamong_any z w.heap.size 8 [49, 56, 112, 58, 11, 41, 1, 55] rfl (by decide) (w.alloc (.cells #[.int .i64 49, .int .i64 56, .int .i64 112, .int .i64 58, .int .i64 11, .int .i64 41, .int .i64 1, .int .i64 55] 3)) (ints_alloc _ rfl)
  change Calls _ _ _ _ fun e w' => e = .returned (.bool (xtxB z)) ∧ _ at HA
  go_enter Tryz.func195, Tryz.ntmps195
  go_upto_region 1 with fail
  rename_i K hK
  refine wp_region_lit ?_
  refine wpList_runTo rfl (some 3) rfl (.int .i64 z) w (by kernel_rfl) ?_
  refine wpList_runTo rfl (some 4) rfl (.slice (some ⟨w.heap.size, 0, none⟩) 8 8) (w.alloc (.cells #[.int .i64 49, .int .i64 56, .int .i64 112, .int .i64 58, .int .i64 11, .int .i64 41, .int .i64 1, .int .i64 55] 3)) (by kernel_rfl) ?_
  refine wpList_callW rfl (some 5) rfl 233 #[.int .i64 z, .slice (some ⟨w.heap.size, 0, none⟩) 8 8] (by kernel_rfl) HA ?_
  clear HA
  rintro e w1 ⟨rfl, rfl⟩
  refine ⟨_, rfl, ?_⟩
  refine wpList_runTo rfl (some 2) rfl (.bool (xtxB z)) (w.alloc (.cells #[.int .i64 49, .int .i64 56, .int .i64 112, .int .i64 58, .int .i64 11, .int .i64 41, .int .i64 1, .int .i64 55] 3)) (by kernel_rfl) ?_
  refine wpList_nil ?_
  refine hK _ _ ?_
  clear hK
  simp only [Act.put, List.setIfInBounds_toArray, List.set_cons_zero, List.set_cons_succ]
  generalize w.alloc (.cells #[.int .i64 49, .int .i64 56, .int .i64 112, .int .i64 58, .int .i64 11, .int .i64 41, .int .i64 1, .int .i64 55] 3) = w1 at *
  go_wp2
  go_ret
  exact ⟨rfl, HB.out⟩
def xtiB (z : Int) : Bool := z == 52 || z == 122
set_option maxRecDepth 100000 in
theorem isTimeX_any (z : Int) (w : World) : Calls Tryz.prog 193 #[.int .i64 z] w fun e w' => e = .returned (.bool (xtiB z)) ∧ w' = w := by
  unfold xtiB
  by_cases h : z = 52
  · have hb : (z == 52) = true := by simp [h]
    clear h
    go_enter Tryz.func193, Tryz.ntmps193
    go_wp2
    go_ret
    exact ⟨ret_bool (by rw [hb]; rfl), rfl⟩
  · have hb : (z == 52) = false := by simp [h]
    clear h
    go_enter Tryz.func193, Tryz.ntmps193
    go_wp2
    go_ret
    exact ⟨ret_bool (by rw [hb]; rfl), rfl⟩
set_option maxRecDepth 100000 in
theorem firstX_any (z : Int) (w : World) : Calls Tryz.prog 196 #[.int .i64 z] w fun e w' => e = .returned (.int .i64 (if z = 326 then 0 else 1)) ∧ w' = w := by
  by_cases h : z = 326
  · rw [if_pos h]
    have hb : (z == 326) = true := by simp [h]
    clear h
    go_enter Tryz.func196, Tryz.ntmps196
    go_wp2
    go_ret
    exact ⟨rfl, rfl⟩
  · rw [if_neg h]
    have hb : (z == 326) = false := by simp [h]
    clear h
    go_enter Tryz.func196, Tryz.ntmps196
    go_wp2
    go_ret
    exact ⟨rfl, rfl⟩
set_option maxRecDepth 100000 in
theorem TagX_any (k n : Int) (w : World) : Calls Tryz.prog 52 #[.int .i64 k, .int .i64 n] w fun e w' => e = .returned (.int .i64 (tagR k n)) ∧ w' = w := by
  unfold tagR
  by_cases h : n = 373
  · rw [if_pos h]
    subst h
    by_cases h1 : k = 16
    · subst h1
      go_enter Tryz.func52, Tryz.ntmps52
      go_wp2
      go_ret
      exact ⟨rfl, rfl⟩
    by_cases h2 : k = 14
    · subst h2
      go_enter Tryz.func52, Tryz.ntmps52
      go_wp2
      go_ret
      exact ⟨rfl, rfl⟩
    by_cases h3 : k = 13
    · subst h3
      go_enter Tryz.func52, Tryz.ntmps52
      go_wp2
      go_ret
      exact ⟨rfl, rfl⟩
    by_cases h4 : k = 15
    · subst h4
      go_enter Tryz.func52, Tryz.ntmps52
      go_wp2
      go_ret
      exact ⟨rfl, rfl⟩
    rw [if_neg h1, if_neg h2, if_neg h3, if_neg h4]
    have b1 : (k == 16) = false := by simp [h1]
    have b2 : (k == 14) = false := by simp [h2]
    have b3 : (k == 13) = false := by simp [h3]
    have b4 : (k == 15) = false := by simp [h4]
    clear h1 h2 h3 h4
    go_enter Tryz.func52, Tryz.ntmps52
    go_wp2
    go_ret
    exact ⟨rfl, rfl⟩
  · rw [if_neg h]
    have hb : (n != 373) = true := by simp [h]
    clear h
    go_enter Tryz.func52, Tryz.ntmps52
    go_wp2
    go_ret
    exact ⟨rfl, rfl⟩
set_option maxRecDepth 100000 in
theorem Number530_any (k : Int) (w : World) : Calls Tryz.prog 54 #[.int .i64 k, .int .i64 530] w fun e w' => e = .returned (.int .i64 (if (k == 11 || k == 15) = true then 530 else 0)) ∧ w' = w := by
  by_cases h1 : k = 11
  · subst h1
    go_enter Tryz.func54, Tryz.ntmps54
    go_wp2
    go_ret
    exact ⟨rfl, rfl⟩
  by_cases h2 : k = 15
  · subst h2
    go_enter Tryz.func54, Tryz.ntmps54
    go_wp2
    go_ret
    exact ⟨rfl, rfl⟩
  have b1 : (k == 11) = false := by simp [h1]
  have b2 : (k == 15) = false := by simp [h2]
  rw [b1, b2]
  clear h1 h2
  go_enter Tryz.func54, Tryz.ntmps54
  go_wp2
  go_ret
  exact ⟨rfl, rfl⟩
end Go.Proofs.YtchkpggdndnpjabGreatDoor

namespace Go.Proofs.YtchkpggdndnpjabGreatDoor
set_option linter.unusedVariables false
open Go.Shelf Go.RowKit Go.Sort Go.Lib

theorem size_any (n : Int) (h0 : -9223372036854775808 ≤ n) (h1 : n ≤ 9223372036854775807) (w : World) :
    Calls Tryz.prog 60 #[.int .i64 n] w fun e w' => e = .returned (.int .u64 (magI n)) ∧ w' = w := by
  by_cases hn : n < 0
  · have HM : Hid (magI n = -n) := magI_neg hn
    go_enter Tryz.func60, Tryz.ntmps60
    go_wp2
    go_ret
    refine ⟨ret_int ?_, rfl⟩
    rw [HM.out]; omega
  · have HM : Hid (magI n = n) := magI_pos hn
    go_enter Tryz.func60, Tryz.ntmps60
    go_wp2
    go_ret
    refine ⟨ret_int ?_, rfl⟩
    rw [HM.out]


/-- Between two rounds of digits: what has been written, and what is left. -/
def DInv (u n : Nat) (l : List UInt8) : Prop := (l = [] ∧ n = u) ∨ (l ≠ [] ∧ n = 0 ∧ l = decDigits u) ∨ (l ≠ [] ∧ n ≠ 0 ∧ decDigits n ++ l = decDigits u)
/-- The last digit of a number. -/
def dch (n : Nat) : UInt8 := UInt8.ofNat (48 + n % 10)
theorem dch_lt {n : Nat} (h : n < 10) : dch n = UInt8.ofNat (48 + n) := by unfold dch; rw [Nat.mod_eq_of_lt h]
theorem DInv_step {u n : Nat} {l : List UInt8} (h : DInv u n l) (g : l = [] ∨ n ≠ 0) : DInv u (n / 10) (dch n :: l) := by
  have key : ∀ r, decDigits n ++ l = r → (n / 10 = 0 ∧ dch n :: l = r) ∨ (n / 10 ≠ 0 ∧ decDigits (n / 10) ++ dch n :: l = r) := by
    intro r hr
    by_cases h10 : n < 10
    · left
      rw [decDigits_one h10] at hr
      exact ⟨by omega, by rw [dch_lt h10]; exact hr⟩
    · right
      rw [decDigits, dif_neg h10] at hr
      exact ⟨by omega, by rw [List.append_assoc] at hr; exact hr⟩
  have hd : decDigits n ++ l = decDigits u := by
    rcases h with ⟨rfl, rfl⟩ | ⟨h1, h2, h3⟩ | ⟨h1, h2, h3⟩
    · simp
    · rcases g with g | g
      · exact absurd g h1
      · exact absurd h2 g
    · exact h3
  rcases key _ hd with ⟨a, b⟩ | ⟨a, b⟩
  · exact .inr (.inl ⟨by simp, a, b⟩)
  · exact .inr (.inr ⟨by simp, a, b⟩)
theorem DInv_len {u n : Nat} {l : List UInt8} (h : DInv u n l) (hu : u < 18446744073709551616) : l.length ≤ 20 := by
  have := nDigits_le u hu
  rw [← decDigits_length] at this
  rcases h with ⟨rfl, rfl⟩ | ⟨h1, h2, rfl⟩ | ⟨h1, h2, h3⟩
  · simp
  · exact this
  · rw [← h3, List.length_append] at this; omega
theorem dig_slice0 (W : World) : ∀ r : Nat, r < 10 → (Instr.slice 9 (.string ⟨#[48, 49, 50, 51, 52, 53, 54, 55, 56, 57]⟩) (some (.int .u64 (r : Int))) (some (.int .u64 ((r : Int) + 1))) none).run Tryz.prog W = .ok (.string ⟨#[UInt8.ofNat (48 + r)]⟩) W
  | 0, _ => by kernel_rfl
  | 1, _ => by kernel_rfl
  | 2, _ => by kernel_rfl
  | 3, _ => by kernel_rfl
  | 4, _ => by kernel_rfl
  | 5, _ => by kernel_rfl
  | 6, _ => by kernel_rfl
  | 7, _ => by kernel_rfl
  | 8, _ => by kernel_rfl
  | 9, _ => by kernel_rfl
  | n + 10, h => absurd h (by omega)
theorem dig_slice (n : Nat) (W : World) : (Instr.slice 9 (.string ⟨#[48, 49, 50, 51, 52, 53, 54, 55, 56, 57]⟩) (some (.int .u64 ((n : Int) % 10))) (some (.int .u64 ((n : Int) % 10 + 1))) none).run Tryz.prog W = .ok (.string ⟨#[dch n]⟩) W := by
  have e : (n : Int) % 10 = ((n % 10 : Nat) : Int) := by omega
  rw [e]
  exact dig_slice0 W (n % 10) (Nat.mod_lt _ (by decide))

def strOf : Value → ByteArray
  | .string s => s
  | _ => ⟨#[]⟩
theorem cons_bytes (c : UInt8) (t : ByteArray) : ((⟨#[c]⟩ : ByteArray) ++ t).data.toList = c :: t.data.toList := by
  rw [ByteArray.data_append]; simp

set_option maxRecDepth 100000 in
set_option maxHeartbeats 400000 in
theorem digits_any (u : Nat) (hu : u < 18446744073709551616) (w : World) :
    Calls Tryz.prog 59 #[.int .u64 (u : Int)] w fun e w' => e = .returned (.string ⟨(decDigits u).toArray⟩) ∧ w' = w := by
  go_enter Tryz.func59, Tryz.ntmps59
  go_wp2
  go_loop [0, 3] (fun a s => ∃ (n : Nat) (t : ByteArray), a = .int .u64 (n : Int) ∧ s = .string t ∧ n < 18446744073709551616 ∧ DInv u n t.data.toList) (fun a s => (RowKit.intOf a).toNat + (if (strOf s).data.toList = [] then 1 else 0))
  case atStart => exact ⟨u, ⟨#[]⟩, rfl, rfl, hu, .inl ⟨rfl, rfl⟩⟩
  case round =>
    obtain ⟨n, t, rfl, rfl, hn, hi⟩ := hrel
    have HI : Hid (DInv u n t.data.toList) := hi
    have hl := DInv_len hi hu
    rw [← Lib.size_eq] at hl
    have hsz : ¬ 9223372036854775807 < 1 + t.size := by omega
    have hsl := dig_slice n
    have HE : Hid (((⟨#[dch n]⟩ : ByteArray) ++ t).data.toList = dch n :: t.data.toList) := cons_bytes _ _
    clear hi hl
    by_cases ht : t.toList = []
    · have e2 : t.toList.isEmpty = true := by simpa using ht
      have ht' : t.data.toList = [] := by rw [← Lib.toList_data]; exact ht
      have HT : Hid (t.data.toList = []) := ht'
      clear ht ht'
      go_wp2
      go_round
      case rel => exact ⟨n / 10, _, by go_num, rfl, by omega, by rw [HE.out]; exact DInv_step HI.out (.inl HT.out)⟩
      case measure =>
        show (RowKit.intOf (Value.int IntKind.u64 ((n : Int) / 10))).toNat + (if ((⟨#[dch n]⟩ : ByteArray) ++ t).data.toList = [] then 1 else 0) < (RowKit.intOf (Value.int IntKind.u64 (n : Int))).toNat + (if t.data.toList = [] then 1 else 0)
        rw [HE.out, if_neg (by simp), if_pos HT.out]
        simp [RowKit.intOf]; omega
    · have e2 : t.toList.isEmpty = false := by simpa using ht
      have HT : Hid (¬ t.data.toList = []) := by rw [← Lib.toList_data]; exact ht
      clear ht
      by_cases hn0 : 0 < (n : Int)
      · go_wp2
        go_round
        case rel => exact ⟨n / 10, _, by go_num, rfl, by omega, by rw [HE.out]; exact DInv_step HI.out (.inr (by omega))⟩
        case measure =>
          show (RowKit.intOf (Value.int IntKind.u64 ((n : Int) / 10))).toNat + (if ((⟨#[dch n]⟩ : ByteArray) ++ t).data.toList = [] then 1 else 0) < (RowKit.intOf (Value.int IntKind.u64 (n : Int))).toNat + (if t.data.toList = [] then 1 else 0)
          rw [HE.out, if_neg (by simp), if_neg HT.out]
          simp [RowKit.intOf]; omega
      · have HF : Hid (t = ⟨(decDigits u).toArray⟩) := by
          rcases HI.out with ⟨h1, _⟩ | ⟨_, _, h3⟩ | ⟨_, h2, _⟩
          · exact absurd h1 HT.out
          · exact (Lib.mk_data t).symm.trans (by rw [h3])
          · omega
        go_wp2
        go_ret
        exact ⟨ret_str HF.out, rfl⟩
theorem digits_int (v : Int) (h0 : 0 ≤ v) (h1 : v < 18446744073709551616) (w : World) :
    Calls Tryz.prog 59 #[.int .u64 v] w fun e w' => e = .returned (.string (decI v)) ∧ w' = w := by
  obtain ⟨u, rfl⟩ : ∃ u : Nat, v = u := ⟨v.toNat, by omega⟩
  exact digits_any u (by omega) w
/-- What Print tells. -/
def prRB (n : Int) : ByteArray := ⟨(itoa n).toArray⟩
theorem prRB_neg {n : Int} (h : n < 0) : prRB n = ⟨#[45]⟩ ++ decI (magI n) := by
  unfold prRB decI itoa
  rw [if_pos h, magI_neg h, show (-n).toNat = n.natAbs by omega]
  apply ByteArray.ext
  rw [ByteArray.data_append]
  apply Array.ext'
  simp
theorem prRB_pos {n : Int} (h : ¬ n < 0) : prRB n = decI (magI n) := by
  unfold prRB decI itoa
  rw [if_neg h, magI_pos h]
set_option maxRecDepth 100000 in
set_option maxHeartbeats 400000 in
theorem refPrint_any (n : Int) (h0 : -9223372036854775808 ≤ n) (h1 : n ≤ 9223372036854775807) (w : World) :
    Calls Tryz.prog 26 #[.int .i64 n] w fun e w' => e = .returned (.string (prRB n)) ∧ w' = w := by
  have hm := magI_bd h0 h1
  obtain ⟨hm0, hm1⟩ := hm
  have hz := decI_le (magI n) (by omega)
  have c1 : ¬ 9223372036854775807 < 1 + (decI (magI n)).size := by omega
  clear hz
  by_cases hn : n < 0
  · have HS : Hid (prRB n = ⟨#[45]⟩ ++ decI (magI n)) := prRB_neg hn
    go_enter Tryz.func26, Tryz.ntmps26
    go_wp2_with (first | (go_at_call 60; refine (size_any n h0 h1 _).mono ?_; rintro e w' ⟨rfl, rfl⟩) | (go_at_call 59; refine (digits_int _ (by omega) (by omega) _).mono ?_; rintro e w' ⟨rfl, rfl⟩))
    go_ret
    exact ⟨ret_str HS.out.symm, rfl⟩
  · have HS : Hid (prRB n = decI (magI n)) := prRB_pos hn
    go_enter Tryz.func26, Tryz.ntmps26
    go_wp2_with (first | (go_at_call 60; refine (size_any n h0 h1 _).mono ?_; rintro e w' ⟨rfl, rfl⟩) | (go_at_call 59; refine (digits_int _ (by omega) (by omega) _).mono ?_; rintro e w' ⟨rfl, rfl⟩))
    go_ret
    exact ⟨ret_str HS.out.symm, rfl⟩

/-! The noughts at the end. -/
/-- Bytes that came in. -/
def Src (w : World) (a : Option Addr) (n : Nat) (d : Nat → Nat) : Prop := n = 0 ∨ ∃ b off, a = some ⟨b, off, none⟩ ∧ Row w b off n d
/-- Lists of bytes that came in. -/
def Src2 (w : World) (a : Option Addr) (n : Nat) (len : Nat → Nat) (d : Nat → Nat → Nat) : Prop := n = 0 ∨ ∃ b off, a = some ⟨b, off, none⟩ ∧ ∀ i, i < n → ∃ (ai : Option Addr) (c : Nat), w.cell? ⟨b, off + i, none⟩ = some (.slice ai (len i) c) ∧ len i ≤ 140737488351232 ∧ Src w ai (len i) (d i)

set_option maxRecDepth 100000 in
set_option maxHeartbeats 400000 in
theorem refSum_any (a : Option Addr) (n cap : Nat) (len : Nat → Nat) (d : Nat → Nat → Nat) (w : World) (hn : n ≤ 140737488351232) (hs : Src2 w a n len d) :
    Calls Tryz.prog 28 #[.slice a n cap] w fun e w' => e = .returned (.int .i64 (sumRows len d n : Int)) ∧ w' = w := by
  have HS : Hid (Src2 w a n len d) := hs
  clear hs
  go_enter Tryz.func28, Tryz.ntmps28
  go_wp2
  go_loop [3, 4, 5] (fun s i _ => ∃ k : Nat, k ≤ n ∧ i = .int .i64 k ∧ s = .int .i64 (sumRows len d k : Int)) (fun _ i _ => n - (RowKit.intOf i).toNat)
  case atStart => exact ⟨0, Nat.zero_le _, rfl, rfl⟩
  case round =>
    obtain ⟨k, hk, rfl, rfl⟩ := hrel
    by_cases hlt : k < n
    · rcases HS.out with h0 | ⟨b, off, ea, hr⟩
      · omega
      · obtain ⟨ai, c, hc, hl, hsi⟩ := hr k hlt
        subst ea
        have HSi : Hid (Src w ai (len k) (d k)) := hsi
        clear hr hsi
        have hlt' : (k : Int) < (n : Int) := by omega
        have HK : Hid (sumRows len d (k + 1) = sumRow (sumRows len d k) (d k) (len k)) := rfl
        have hs0 := sumRows_lt len d k
        go_wp2
        generalize sumRows len d k = s0 at *
        go_loop [3, 5] (fun s i => ∃ m : Nat, m ≤ len k ∧ i = .int .i64 m ∧ s = .int .i64 (sumRow s0 (d k) m : Int)) (fun _ i => len k - (RowKit.intOf i).toNat)
        case atStart => exact ⟨0, Nat.zero_le _, rfl, rfl⟩
        case round =>
          obtain ⟨m, hm, rfl, rfl⟩ := hrel
          by_cases hmm : m < len k
          · rcases HSi.out with h0 | ⟨bb, oo, ea, hrw⟩
            · omega
            · obtain ⟨hcm, hdm⟩ := hrw m hmm
              have hm' : (m : Int) < (len k : Int) := by omega
              have HZ : Hid (sumRow s0 (d k) (m + 1) = (sumRow s0 (d k) m + d k m) % 256) := rfl
              have hz := sumRow_lt hs0 (d k) m
              subst ea
              go_wp2
              go_round
              case rel => exact ⟨m + 1, by omega, by go_num, by rw [HZ.out]; rfl⟩
              case measure => simp [RowKit.intOf]; omega
          · obtain rfl : m = len k := by omega
            go_wp2
            go_round
            case rel => exact ⟨k + 1, by omega, by go_num, by rw [HK.out]⟩
            case measure => simp [RowKit.intOf]; omega
    · obtain rfl : k = n := by omega
      go_wp2
      go_ret
      exact ⟨rfl, rfl⟩

open Go.RowKit
theorem refSum_one (B : Nat) (b off k cap : Nat) (l : List UInt8) (w : World) (hk : k ≤ l.length) (hl : l.length ≤ 1048576000)
    (hB : w.cell? ⟨B, 0, none⟩ = some (.slice (some ⟨b, off, none⟩) k cap)) (h : ∀ j c, l[j]? = some c → w.cell? ⟨b, off + j, none⟩ = some (.int .u8 (c.toNat : Int))) :
    Calls Tryz.prog 28 #[.slice (some ⟨B, 0, none⟩) 1 1] w fun e w' => e = .returned (.int .i64 (sumL (l.take k) : Int)) ∧ w' = w := by
  have h1 := refSum_any (some ⟨B, 0, none⟩) 1 1 (fun _ => k) (fun _ => dOf l) w (by decide) (.inr ⟨B, 0, rfl, fun i hi => by
    obtain rfl : i = 0 := by omega
    refine ⟨some ⟨b, off, none⟩, cap, hB, by show k ≤ _; omega, .inr ⟨b, off, rfl, fun j hj => ⟨?_, ?_⟩⟩⟩
    · have hj' : j < k := hj
      have := h j l[j] (List.getElem?_eq_getElem (by omega))
      rw [this]
      show _ = some (Value.int .u8 ((dOf l j : Nat) : Int))
      unfold dOf
      rw [List.getD_eq_getElem?_getD, List.getElem?_eq_getElem (by omega)]; rfl
    · unfold dOf; exact UInt8.toNat_lt _⟩)
  have e : sumRows (fun _ => k) (fun _ => dOf l) 1 = sumL (l.take k) := by
    show sumRow 0 (dOf l) k = _
    exact sumRow_list l k hk
  rw [e] at h1
  exact h1
set_option maxRecDepth 100000 in
theorem refIsTag_any (t : Int) (w : World) : Calls Tryz.prog 24 #[.int .i64 t] w fun e w' => e = .returned (.bool (isTg t)) ∧ w' = w := by
  by_cases h1 : 1 ≤ t
  · by_cases h2 : t ≤ 9999
    · by_cases h8 : t = 8
      · subst h8
        have HE : Hid (isTg 8 = false) := by show isTg 8 = false; decide
        generalize isTg 8 = d at *
        go_enter Tryz.func24, Tryz.ntmps24
        go_wp2
        go_ret
        exact ⟨ret_bool HE.out.symm, rfl⟩
      · by_cases h9 : t = 9
        · subst h9
          have HE : Hid (isTg 9 = false) := by show isTg 9 = false; decide
          generalize isTg 9 = d at *
          go_enter Tryz.func24, Tryz.ntmps24
          go_wp2
          go_ret
          exact ⟨ret_bool HE.out.symm, rfl⟩
        · by_cases h10 : t = 10
          · subst h10
            have HE : Hid (isTg 10 = false) := by show isTg 10 = false; decide
            generalize isTg 10 = d at *
            go_enter Tryz.func24, Tryz.ntmps24
            go_wp2
            go_ret
            exact ⟨ret_bool HE.out.symm, rfl⟩
          · have HE : Hid (isTg t = true) := (isTg_iff t).2 ⟨h1, h2, by omega⟩
            have b8 : (t != 8) = true := by simpa using h8
            have b9 : (t != 9) = true := by simpa using h9
            have b10 : (t != 10) = true := by simpa using h10
            generalize isTg t = d at *
            go_enter Tryz.func24, Tryz.ntmps24
            go_wp2
            go_ret
            exact ⟨ret_bool HE.out.symm, rfl⟩
    · have HE : Hid (isTg t = false) := by show isTg t = false; unfold isTg; simp; omega
      have h2' : decide (t ≤ 9999) = false := decide_eq_false h2
      generalize isTg t = d at *
      go_enter Tryz.func24, Tryz.ntmps24
      go_wp2
      go_ret
      exact ⟨ret_bool HE.out.symm, rfl⟩
  · have HE : Hid (isTg t = false) := by show isTg t = false; unfold isTg; simp; omega
    have h1' : decide (1 ≤ t) = false := decide_eq_false h1
    generalize isTg t = d at *
    go_enter Tryz.func24, Tryz.ntmps24
    go_wp2
    go_ret
    exact ⟨ret_bool HE.out.symm, rfl⟩
theorem okV_no {s : ByteArray} {k : Nat} (h : k < s.size) (hb : vby s[k] = false) : okV s.data.toList = false := by
  unfold okV
  have : s.data.toList.all vby = false := by
    rw [List.all_eq_false]
    exact ⟨s[k], by rw [ByteArray.getElem_eq_getElem_data, ← Array.getElem_toList]; exact List.getElem_mem _, by simp [hb]⟩
  rw [this, Bool.and_false]
theorem okV_all {s : ByteArray} {k : Nat} (h : ¬ k < s.size) (ha : ∀ c ∈ s.data.toList.take k, vby c = true) : okV s.data.toList = !(s.toList == []) := by
  rw [List.take_of_length_le (by simp; omega)] at ha
  unfold okV
  rw [List.all_eq_true.2 ha, Bool.and_true, Lib.toList_data]
  cases s.data.toList <;> rfl
set_option maxRecDepth 100000 in
set_option maxHeartbeats 400000 in
theorem refIsValue_any (s : ByteArray) (w : World) (hs : s.size ≤ maxLen) : Calls Tryz.prog 25 #[.string s] w fun e w' => e = .returned (.bool (okV s.data.toList)) ∧ w' = w := by
  unfold maxLen at hs
  go_enter Tryz.func25, Tryz.ntmps25
  go_wp2
  go_loopw [3] (fun i wr => ∃ k : Nat, k ≤ s.size ∧ i = .int .i64 k ∧ (∀ c ∈ s.data.toList.take k, vby c = true) ∧ wr = w) (fun i _ => s.size - (RowKit.intOf i).toNat)
  case atStart => exact ⟨0, Nat.zero_le _, rfl, fun c hc => by simp at hc, rfl⟩
  case round =>
    obtain ⟨k, hk, rfl, hd, rfl⟩ := hrel
    have HD : Hid (∀ c ∈ s.data.toList.take k, vby c = true) := hd
    clear hd
    by_cases hlt : k < s.size
    · have hlt' : (k : Int) < (s.size : Int) := by omega
      by_cases h1 : (s[k].toNat : Int) < 32
      · have HX : Hid (okV s.data.toList = false) := okV_no hlt (by unfold vby; simp; omega)
        go_wp2
        go_ret
        exact ⟨ret_bool HX.out.symm, rfl⟩
      · have h1' : decide ((s[k].toNat : Int) < 32) = false := decide_eq_false h1
        by_cases h2 : 126 < (s[k].toNat : Int)
        · have HX : Hid (okV s.data.toList = false) := okV_no hlt (by unfold vby; simp; omega)
          go_wp2
          go_ret
          exact ⟨ret_bool HX.out.symm, rfl⟩
        · have h2' : decide (126 < (s[k].toNat : Int)) = false := decide_eq_false h2
          have hv : vby s[k] = true := (vby_iff _).2 ⟨by omega, by omega⟩
          have HV : Hid (vby s[k] = true) := hv
          clear hv
          go_wp2
          go_roundw
          case rel => exact ⟨k + 1, by omega, by go_num, all_take_succ vby s k hlt HD.out HV.out, by first | rfl | trivial⟩
          case measure => simp [RowKit.intOf]; omega
    · have HX : Hid (okV s.data.toList = !(s.toList == [])) := okV_all hlt HD.out
      go_wp2
      go_ret
      exact ⟨ret_bool (by rw [HX.out]; first | rfl | simp), rfl⟩
set_option maxRecDepth 100000 in
theorem refThree_any (n : Nat) (hn : n < 256) (w : World) : Calls Tryz.prog 27 #[.int .i64 (n : Int)] w fun e w' => e = .returned (.string (bs (three n))) ∧ Below w.heap.size w w' := by
  have h3 : ∀ c : Nat, c < 10 → ((UInt8.ofNat (48 + c)).toNat : Int) = 48 + (c : Int) := fun c hc => by rw [chr_nat hc]; omega
  have e1 := h3 (n / 100) (by omega)
  have e2 := h3 (n / 10 % 10) (by omega)
  have e3 := h3 (n % 10) (by omega)
  have hsrc : SrcB (w.alloc (.cells #[.int .u8 (48 + (n : Int) / 100), .int .u8 (48 + (n : Int) / 10 % 10), .int .u8 (48 + (n : Int) % 10)] 5)) (.slice (some ⟨w.heap.size, 0, none⟩) 3 3) (three n) := by
    refine ⟨_, 3, rfl, Nat.le_refl _, .inr ⟨w.heap.size, 0, rfl, fun j c hj => ?_⟩⟩
    rw [Nat.zero_add, cell_of_row _ _ j _ _ _ (heap_alloc_new w _)]
    have hj3 : j < 3 := (List.getElem?_eq_some_iff.1 hj).1
    have hjj : j = 0 ∨ j = 1 ∨ j = 2 := by omega
    rcases hjj with rfl | rfl | rfl
    · simp [three] at hj; subst hj; simp; omega
    · simp [three] at hj; subst hj; simp; omega
    · simp [three] at hj; subst hj; simp; omega
  have hcv := hsrc.conv
  have hb : Below w.heap.size w (w.alloc (.cells #[.int .u8 (48 + (n : Int) / 100), .int .u8 (48 + (n : Int) / 10 % 10), .int .u8 (48 + (n : Int) % 10)] 5)) := (Below.refl _ w).alloc (Nat.le_refl _) _
  have HB : Hid (Below w.heap.size w (w.alloc (.cells #[.int .u8 (48 + (n : Int) / 100), .int .u8 (48 + (n : Int) / 10 % 10), .int .u8 (48 + (n : Int) % 10)] 5))) := hb
  clear hb hsrc e1 e2 e3 h3
  generalize bs (three n) = T at *
  go_enter Tryz.func27, Tryz.ntmps27
  go_wp2
  go_ret
  exact ⟨rfl, HB.out⟩
end Go.Proofs.YtchkpggdndnpjabGreatDoor
