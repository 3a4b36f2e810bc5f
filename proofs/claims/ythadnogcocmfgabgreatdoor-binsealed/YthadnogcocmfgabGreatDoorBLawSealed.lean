/-
  bin: BinSealed, walked.
-/
import Derived.Test.YthadnogcocmfgabGreatDoorBSame
import Derived.Test.YthadnogcocmfgabGreatDoorBLawOne
namespace Go.Proofs.YthadnogcocmfgabGreatDoor
set_option linter.unusedVariables false
set_option linter.unusedSimpArgs false
open Go.RowKit Go.Great Go.Lib

def slLen : Value → Nat
  | .slice _ n _ => n
  | _ => 0
theorem zer_succ (k : Nat) : byteCells (zer (k + 1)) = byteCells (zer k) ++ [.int .u8 0] := by
  unfold zer
  rw [List.replicate_succ', bc_app]
  rfl
theorem row_some {w : World} {B n : Nat} {ao : Option Addr} {co : Nat} {l : List UInt8} (h : w.ownsRow B 5 1 (.slice ao n co) n (byteCells l)) (hn : 0 < n) : ∃ g, ao = some ⟨g, 0, none⟩ ∧ n ≤ co ∧ At w g 0 l ∧ n = l.length := by
  have hl : n = l.length := by have := h.1; rw [bc_len] at this; omega
  rcases h.2 with ⟨_, h0⟩ | ⟨g, cO, cur, e1, e2, e3, e4, _⟩
  · omega
  · injection e1 with e1 _ e5
    subst e1
    exact ⟨g, rfl, by omega, rowAt h, hl⟩
/-- Bytes that came in, nil or not, behind a row of one's own. -/
theorem wpList_append_src {w : World} {ops : Array Oper} {rest : List Oper} {o : Oper} {a : Act} {Q : Exit → Act → World → Prop} (hgd : o.guard = none) (s x : Operand) (ho : o.op = .call { callee := .builtin .append, args := #[s, x], argTypes := #[22, 22] })
    (base : Nat) (v : Value) (m : Nat) (xs : List Value) (hs : a.eval s = v) (hown : w.ownsRow base 5 1 v m xs) (ao : Option Addr) (n cap : Nat) (hx : a.eval x = .slice ao n cap) (hnil : ao = none → n = 0 ∧ cap = 0) (ys : List Value) (hys : ys.length = n)
    (hc : ∀ ad, ao = some ad → ∀ j u, ys[j]? = some u → w.cell? (ad.add j) = some u) (h1 : ∀ u ∈ ys, u.oneCell' = true) (hb : m + n ≤ 140737488355000) (hB : base ≤ w.heap.size) (d : Option Tmp) (hd : o.dst = d)
    (h : ∀ v' w', w'.ownsRow base 5 1 v' (m + n) (xs ++ ys) → Below base w w' → wpList Tryz.prog ops Q rest (a.put d v') w') : wpList Tryz.prog ops Q (o :: rest) a w := by
  subst hd
  obtain ⟨i0, hi, hz0, hz1, hz2⟩ := info_parts info5
  cases ao with
  | none =>
    obtain ⟨rfl, rfl⟩ := hnil rfl
    obtain rfl : ys = [] := List.length_eq_zero_iff.1 hys
    refine wpList_append_own_none hgd s x 22 ho base 5 i0 1 Tryz.underlying22 hi v m xs hs hown hx (h v w ?_ (Below.refl _ _))
    rw [List.append_nil]; exact hown
  | some ad =>
    subst hs
    refine wpList_append_own _ hgd s x 22 ho base 5 i0 (.int .u8 0) 1 1 Tryz.underlying22 hi hz0 hz1 hz2 rfl (by decide) _ m xs rfl hown ad n cap ys hx (by rw [hys]; omega) (hc ad rfl) h1 (by unfold maxLen; omega) (by omega) hB ?_
    intro v' w' hown' hgrow' hnil'
    exact h v' w' hown' (below_grownBy (Below.refl _ _) hgrow' hB (fun q hq => (hown.lt q hq).1))
set_option maxRecDepth 100000 in
set_option maxHeartbeats 2000000 in
theorem BinSealed_law (z : Int) (hzw : (Lit.int .i64 z).wf = true) (a : Option Addr) (n cap : Nat) (d : Nat → Nat) (hn : n ≤ 0x7ffffffff000) (hc : n ≤ cap) (ha : a = none → n = 0 ∧ cap = 0) (w : World) (hs : Src w a n d) (hM : Mon w) :
    Calls Tryz.prog 3 #[.int .i64 z, .slice a n cap] w fun e w' => e = .returned (.bool true) ∧ Below w.heap.size w w' := by
  obtain ⟨i0, hi, hz0, hz1, hz2⟩ := info_parts info5
  obtain ⟨g, off, hag, hat⟩ := in_at hs
  have hln := inL_length d n
  generalize inL d n = l at *
  have HM : Hid (0 < w.heap.size ∧ Mon w ∧ n = l.length ∧ n ≤ cap ∧ (n = 0 ∨ a = some ⟨g, off, none⟩) ∧ At w g off l) := ⟨hM.lt, hM, hln.symm, hc, hag, hat⟩
  have hn2 : n ≤ 140737488351999 := by omega
  have hS := size_cs z
  have hSz := fun w' => refSizeOf_any z w'
  generalize sizeN z = N at *
  clear hs hc hM hln hag hat hzw
  have hN1000 : N ≤ 1000 := by omega
  have hA1 := u8_wrap ((N : Int) / 256)
  have hA1t : (N : Int).tdiv 256 = (N : Int) / 256 := Int.tdiv_eq_ediv_of_nonneg (by omega)
  have hA2 := u8_wrap (N : Int)
  have hA3 := u8_wrap z
  generalize UInt8.ofNat (u64N ((N : Int) / 256) % 256) = A1 at *
  generalize UInt8.ofNat (u64N (N : Int) % 256) = A2 at *
  generalize UInt8.ofNat (u64N z % 256) = A3 at *
  go_enter Tryz.func3, Tryz.ntmps3
  go_wp2_with (go_at_call 4; fail)
  refine (shown_any w HM.out.2.1).mono ?_
  rintro e w1 ⟨rfl, hb1⟩
  go_wp2_with (go_at_call 5; fail)
  refine (hSz w1).mono ?_
  rintro e w2 ⟨rfl, hb2⟩
  have HB2 : Hid (Below w.heap.size w w2) := hb1.trans (hb2.mono hb1.size)
  clear hb1 hb2 hSz
  go_upto_region 4 with fail
  have HO3 : Hid ((w2.alloc (.cells #[.int .u8 79, .int .u8 67, .int .u8 (A1.toNat : Int), .int .u8 (A2.toNat : Int), .int .u8 (A3.toNat : Int), .int .u8 1, .int .u8 0, .int .u8 0, .int .u8 0, .int .u8 0] 5)).ownsRow w.heap.size 5 1 (.slice (some ⟨w2.heap.size, 0, none⟩) 10 10) 10 (byteCells [79, 67, A1, A2, A3, 1, 0, 0, 0, 0]) ∧ Below w.heap.size w (w2.alloc (.cells #[.int .u8 79, .int .u8 67, .int .u8 (A1.toNat : Int), .int .u8 (A2.toNat : Int), .int .u8 (A3.toNat : Int), .int .u8 1, .int .u8 0, .int .u8 0, .int .u8 0, .int .u8 0] 5))) :=
    ⟨⟨rfl, .inr ⟨w2.heap.size, 10, _, rfl, HB2.out.size, heap_alloc_new w2 _, by omega, by unfold maxLen; omega, rfl, rfl⟩⟩, HB2.out.alloc HB2.out.size _⟩
  generalize hw3 : w2.alloc (.cells #[.int .u8 79, .int .u8 67, .int .u8 (A1.toNat : Int), .int .u8 (A2.toNat : Int), .int .u8 (A3.toNat : Int), .int .u8 1, .int .u8 0, .int .u8 0, .int .u8 0, .int .u8 0] 5) = w3 at *
  have HL0 : Hid (([79, 67, A1, A2, A3, 1, 0, 0, 0, 0] : List UInt8).length = 10) := rfl
  generalize ([79, 67, A1, A2, A3, 1, 0, 0, 0, 0] : List UInt8) = L0 at *
  clear hw3 hA1 hA1t hA2 hA3
  have hbc : (byteCells l).length = n := (bc_len l).trans HM.out.2.2.1.symm
  have hcl : ∀ ad, a = some ad → ∀ j u, (byteCells l)[j]? = some u → w3.cell? (ad.add j) = some u := fun ad hae j u hu => by
    rcases HM.out.2.2.2.2.1 with h0 | h0
    · have := (List.getElem?_eq_some_iff.1 hu).1
      omega
    · rw [h0] at hae
      injection hae with hae
      subst hae
      exact (HM.out.2.2.2.2.2.below HO3.out.2 (Nat.le_refl _)).cells j u hu
  refine wp_region_lit ?_
  refine wpList_runTo rfl (some 20) rfl (.slice (some ⟨w2.heap.size, 0, none⟩) 10 10) w3 (by kernel_rfl) ?_
  refine wpList_runTo rfl (some 21) rfl (.slice a n cap) w3 (by kernel_rfl) ?_
  refine wpList_append_src rfl (.tmp 20) (.tmp 21) rfl w.heap.size (.slice (some ⟨w2.heap.size, 0, none⟩) 10 10) 10 (byteCells L0) (by kernel_rfl) HO3.out.1 a n cap (by kernel_rfl) ha (byteCells l) hbc hcl (byteCells_one l) (by omega) HO3.out.2.size (some 22) rfl ?_
  intro v4 w4 ho4 hb4
  have HO4 : Hid (w4.ownsRow w.heap.size 5 1 v4 (10 + n) (byteCells (L0 ++ l)) ∧ Below w.heap.size w w4) := ⟨by rw [bc_app]; exact ho4, HO3.out.2.trans hb4⟩
  obtain ⟨a4, c4, rfl⟩ := own_form3 ho4
  clear ho4 hb4 HO3 hcl hbc
  refine wpList_runTo rfl (some 7) rfl (.slice a4 (10 + n) c4) w4 (by kernel_rfl) ?_
  refine wpList_nil ?_
  simp only [Act.put, List.setIfInBounds_toArray, List.set_cons_zero, List.set_cons_succ]
  go_upto_region 5 with fail
  go_loopw [7] (fun x7 wr => ∃ (k : Nat) (ao : Option Addr) (co : Nat), x7 = .slice ao (10 + n + k) co ∧ (k = 0 ∨ 10 + n + k ≤ N) ∧ Hid (wr.ownsRow w.heap.size 5 1 (.slice ao (10 + n + k) co) (10 + n + k) (byteCells (L0 ++ l ++ zer k)) ∧ Below w.heap.size w wr)) (fun x7 _ => N - slLen x7)
  case atStart => exact ⟨0, a4, c4, rfl, .inl rfl, by rw [show zer 0 = [] from rfl, List.append_nil]; exact HO4.out.1, HO4.out.2⟩
  case round =>
    obtain ⟨k, ao, co, rfl, hk, HR⟩ := hrel
    obtain ⟨T, hT⟩ : ∃ T : Nat, T = 10 + n + k := ⟨_, rfl⟩
    rw [← hT] at HR hk
    have HT : Hid (T = 10 + n + k) := hT
    have hT2 : T ≤ 140737488352999 := by omega
    rw [← hT]
    clear hT
    by_cases hlt : T < N
    · have hlt' : (T : Int) < (N : Int) := by omega
      have hnew : Hid (∀ j u, [Value.int .u8 0][j]? = some u → (wr.alloc (.cells #[.int .u8 0] 5)).cell? ((⟨wr.heap.size, 0, none⟩ : Addr).add j) = some u) := cell_one_new wr (.int .u8 0) 5
      go_wp2_with (at_builtin; refine wpList_append_own _ rfl _ _ 22 rfl w.heap.size 5 i0 (.int .u8 0) 1 1 Tryz.underlying22 hi hz0 hz1 hz2 rfl (by decide) _ T (byteCells (L0 ++ l ++ zer k)) rfl (HR.out.1.alloc _) ⟨wr.heap.size, 0, none⟩ 1 1 [.int .u8 0] rfl rfl hnew.out (fun x hx => by simp at hx; subst hx; rfl) (by unfold maxLen; omega) (by omega) (by have := HR.out.2.size; simp; omega) ?_; intro v8 w8 hown8 hgrow8 hnil8)
      obtain ⟨a8, c8, rfl⟩ := own_form3 hown8
      have hb8 : Below w.heap.size w w8 := below_grownBy (HR.out.2.alloc HR.out.2.size _) hgrow8 (Nat.le_refl _) (fun q hq => (HR.out.1.lt q hq).1)
      have HQ : Hid (w8.ownsRow w.heap.size 5 1 (.slice a8 (10 + n + (k + 1)) c8) (10 + n + (k + 1)) (byteCells (L0 ++ l ++ zer (k + 1))) ∧ Below w.heap.size w w8) := by
        rw [bc_app, zer_succ, ← List.append_assoc, ← bc_app, show 10 + n + (k + 1) = T + 1 by have := HT.out; omega]
        exact ⟨hown8, hb8⟩
      clear hown8 hgrow8 hnil8 hb8
      exact ⟨⟨k + 1, a8, c8, by rw [show 10 + n + (k + 1) = T + 1 by have := HT.out; omega], .inr (by have := HT.out; omega), HQ.out⟩, by have := HT.out; simp [slLen]; omega⟩
    · have hlt' : ¬ (T : Int) < (N : Int) := by omega
      obtain ⟨gr, rfl, hco, hatr, hlen⟩ := row_some HR.out.1 (by have := HT.out; omega)
      generalize L0 ++ l ++ zer k = LL at *
      have HA : Hid (At wr gr 0 LL ∧ T = LL.length ∧ Below w.heap.size w wr ∧ 10 ≤ T) := ⟨hatr, hlen, HR.out.2, by have := HT.out; omega⟩
      clear hatr hlen HR hk HT
      by_cases h10 : 10 < N
      · have h10' : (10 : Int) < (N : Int) := by omega
        have hNc : (N : Int) ≤ (co : Int) := by omega
        have hSe := Sealed_any gr 0 N co (LL.take N) wr (by rw [List.length_take, ← HA.out.2.1]; omega) (by omega) (by omega) (by omega) (HA.out.1.take N)
        go_wp2_with (go_at_call 7; fail)
        refine hSe.mono ?_
        rintro e w5 ⟨v5, rfl, ho5, hb5⟩
        obtain ⟨a5, c5, rfl⟩ := own_form3 ho5
        obtain ⟨g5, rfl, hc5, hat5, hlen5⟩ := row_some ho5 (by omega)
        have HB5 : Hid (Below w.heap.size w w5) := HA.out.2.2.1.trans (hb5.mono HA.out.2.2.1.size)
        have hSm := same_any (some ⟨g5, 0, none⟩) g5 0 N c5 _ w5 hlen5 hc5 (by omega) (.inr rfl) hat5 (HM.out.2.1.below HB5.out HM.out.1)
        clear ho5 hb5 hat5 hlen5 hSe
        go_wp2_with (go_at_call 6; fail)
        refine hSm.mono ?_
        rintro e w6 ⟨rfl, hb6⟩
        have HB6 : Hid (Below w.heap.size w w6) := HB5.out.trans (hb6.mono HB5.out.size)
        clear hb6 HB5 hSm
        go_wp2
        go_ret
        exact ⟨rfl, HB6.out⟩
      · have h10' : ¬ (10 : Int) < (N : Int) := by omega
        have hSe := Sealed_any gr 0 T co LL wr HA.out.2.1 HA.out.2.2.2 (by omega) hco HA.out.1
        go_wp2_with (go_at_call 7; fail)
        refine hSe.mono ?_
        rintro e w5 ⟨v5, rfl, ho5, hb5⟩
        obtain ⟨a5, c5, rfl⟩ := own_form3 ho5
        obtain ⟨g5, rfl, hc5, hat5, hlen5⟩ := row_some ho5 (by have := HA.out.2.2.2; omega)
        have HB5 : Hid (Below w.heap.size w w5) := HA.out.2.2.1.trans (hb5.mono HA.out.2.2.1.size)
        have hSm := same_any (some ⟨g5, 0, none⟩) g5 0 T c5 _ w5 hlen5 hc5 (by omega) (.inr rfl) hat5 (HM.out.2.1.below HB5.out HM.out.1)
        clear ho5 hb5 hat5 hlen5 hSe
        go_wp2_with (go_at_call 6; fail)
        refine hSm.mono ?_
        rintro e w6 ⟨rfl, hb6⟩
        have HB6 : Hid (Below w.heap.size w w6) := HB5.out.trans (hb6.mono HB5.out.size)
        clear hb6 HB5 hSm
        go_wp2
        go_ret
        exact ⟨rfl, HB6.out⟩
end Go.Proofs.YthadnogcocmfgabGreatDoor
