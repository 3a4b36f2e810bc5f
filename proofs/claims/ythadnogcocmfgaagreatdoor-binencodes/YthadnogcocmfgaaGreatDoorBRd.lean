import Derived.Test.YthadnogcocmfgaaGreatDoorBSum2
import Derived.Lib.ConvBytes
import Derived.Test.YthadnogcocmfgaaGreatDoorBEnc0

namespace Go.Proofs.YthadnogcocmfgaaGreatDoor
set_option linter.unusedVariables false
open Go.RowKit Go.Great Go.Lib

theorem split_at {l : List UInt8} {k : Nat} (hk : k < l.length) : ∃ c r, l = l.take k ++ c :: r ∧ dL l k = c.toNat := by
  obtain ⟨c, hc, e⟩ := dL_at hk
  refine ⟨c, l.drop (k + 1), ?_, e⟩
  have h := List.take_append_drop k l
  rw [List.drop_eq_getElem_cons hk] at h
  have : l[k] = c := by rw [List.getElem?_eq_getElem hk] at hc; exact Option.some.inj hc
  rw [this] at h
  exact h.symm
theorem take_all {l : List UInt8} {k : Nat} (p : UInt8 → Bool) (h : ∀ j, j < k → j < l.length → ∀ c, l[j]? = some c → p c = true) : ∀ c ∈ l.take k, p c = true := fun c hc => by
  obtain ⟨j, hj, e⟩ := List.getElem_of_mem hc
  rw [List.length_take] at hj
  exact h j (by omega) (by omega) c (by rw [List.getElem?_eq_getElem (by omega), ← e, List.getElem_take])
theorem d0 {l : List UInt8} {j : Nat} {c : UInt8} (h : l[j]? = some c) : dL l j = c.toNat := by
  unfold dL; rw [List.getD_eq_getElem?_getD, h]; rfl
theorem nz_eq {l : List UInt8} {k : Nat} (hk : k < l.length) (h : ∀ j, j < k → dL l j = 0) (hne : dL l k ≠ 0) : nzL l = k := by
  obtain ⟨c, r, e, ec⟩ := split_at hk
  have ha := take_all (l := l) (k := k) (· == 0) (fun j hj hl c hc => by have := h j hj; rw [d0 hc] at this; simpa using UInt8.toNat_inj.1 (this.trans rfl))
  have hc0 : (c == 0) = false := by simp; intro e0; subst e0; exact hne ec
  unfold nzL
  rw [e, List.takeWhile_append_of_pos ha, List.takeWhile_cons, hc0]
  simp; omega
theorem nz_full {l : List UInt8} (h : ∀ j, j < l.length → dL l j = 0) : nzL l = l.length := by
  have ha := take_all (l := l) (k := l.length) (· == 0) (fun j hj hl c hc => by have := h j hj; rw [d0 hc] at this; simpa using UInt8.toNat_inj.1 (this.trans rfl))
  rw [List.take_of_length_le (Nat.le_refl _)] at ha
  have := List.takeWhile_append_of_pos (p := (· == 0)) (l₁ := l) (l₂ := []) ha
  unfold nzL
  rw [List.append_nil] at this
  rw [this]; simp
theorem tx_eq {l : List UInt8} {k : Nat} (hk : k < l.length) (h : ∀ j, j < k → dL l j ≠ 0) (he : dL l k = 0) : txL l = k := by
  obtain ⟨c, r, e, ec⟩ := split_at hk
  have ha := take_all (l := l) (k := k) (· != 0) (fun j hj hl c hc => by have := h j hj; rw [d0 hc] at this; simp; intro e0; subst e0; exact this rfl)
  have hc0 : (c != 0) = false := by simp; exact UInt8.toNat_inj.1 ((ec.symm.trans he).trans rfl)
  unfold txL
  rw [e, List.takeWhile_append_of_pos ha, List.takeWhile_cons, hc0]
  simp; omega
theorem tx_full {l : List UInt8} (h : ∀ j, j < l.length → dL l j ≠ 0) : txL l = l.length := by
  have ha := take_all (l := l) (k := l.length) (· != 0) (fun j hj hl c hc => by have := h j hj; rw [d0 hc] at this; simp; intro e0; subst e0; exact this rfl)
  rw [List.take_of_length_le (Nat.le_refl _)] at ha
  have := List.takeWhile_append_of_pos (p := (· != 0)) (l₁ := l) (l₂ := []) ha
  unfold txL
  rw [List.append_nil] at this
  rw [this]; simp
theorem fault_any (e a : Int) (w : World) : Calls Tryz.prog 98 #[.int .i64 e, .int .i64 a] w fun x w' => x = .returned (.iface 87 (.pointer (some ⟨w.heap.size, 0, none⟩))) ∧ w' = w.alloc (.cells #[.int .i64 a, .int .i64 e] 90) := by
  go_enter Tryz.func98, Tryz.ntmps98
  go_wp2
  go_ret
  exact ⟨rfl, rfl⟩
set_option maxRecDepth 100000 in
theorem isNot_any (c : Nat) (w : World) : Calls Tryz.prog 122 #[.int .u8 (c : Int)] w fun e w' => e = .returned (.bool ((c : Int) != 0)) ∧ w' = w := by
  go_enter Tryz.func122, Tryz.ntmps122
  go_wp2
  go_ret
  exact ⟨rfl, rfl⟩
def nzI (l : List UInt8) : Int := if nzL l < l.length then (nzL l : Int) else -1
def txI (l : List UInt8) : Int := if txL l < l.length then (txL l : Int) else -1
set_option maxRecDepth 100000 in
set_option maxHeartbeats 400000 in
theorem IndexFunc_any (a : Option Addr) (g off n cap : Nat) (l : List UInt8) (w : World) (hn : n = l.length) (hmax : n ≤ 1048576) (ha : n = 0 ∨ a = some ⟨g, off, none⟩) (hl : At w g off l) :
    Calls Tryz.prog 121 #[.slice a n cap, .func (.func 122) #[] #[]] w fun e w' => e = .returned (.int .i64 (nzI l)) ∧ w' = w := by
  have HL : Hid (At w g off l) := hl
  have Hn : Hid (n = l.length) := hn
  clear hl hn
  obtain ⟨R, hR⟩ : ∃ R, R = nzI l := ⟨_, rfl⟩
  rw [← hR]
  have HR : Hid (R = nzI l) := hR
  clear hR
  go_enter Tryz.func121, Tryz.ntmps121
  go_wp2
  go_loop [4, 5, 8] (fun _ _ i => ∃ k : Nat, k ≤ n ∧ i = .int .i64 k ∧ Hid (∀ j, j < k → dL l j = 0)) (fun _ _ i => n - (RowKit.intOf i).toNat)
  case atStart => exact ⟨0, Nat.zero_le _, rfl, fun j hj => by omega⟩
  case round =>
    obtain ⟨k, hk, rfl, HZ⟩ := hrel
    by_cases hlt : k < n
    · have hlt' : (k : Int) < (n : Int) := by omega
      obtain rfl : a = some ⟨g, off, none⟩ := by
        rcases ha with h | h
        · omega
        · exact h
      obtain ⟨c, hc, ec⟩ := dL_at (show k < l.length by have := Hn.out; omega)
      have hcell := HL.out k c hc
      by_cases h0 : c.toNat = 0
      · have HZ2 : Hid (∀ j, j < k + 1 → dL l j = 0) := fun j hj => by
          by_cases e : j = k
          · subst e; omega
          · exact HZ.out j (by omega)
        clear HZ
        rw [h0] at hcell
        go_wp2_with (go_at_call 122; refine (isNot_any 0 _).mono ?_; rintro e w2 ⟨rfl, rfl⟩)
        go_round
        case rel => exact ⟨k + 1, by omega, by go_num, HZ2⟩
        case measure => simp [RowKit.intOf]; omega
      · have hcb : (((c.toNat : Nat) : Int) != 0) = true := by simp; omega
        have HE : Hid (R = k) := by
          show _ = _
          rw [HR.out]; unfold nzI
          have e := nz_eq (show k < l.length by have := Hn.out; omega) HZ.out (by omega)
          rw [e, if_pos (by have := Hn.out; omega)]
        generalize c.toNat = cn at *
        go_wp2_with (go_at_call 122; refine (isNot_any cn _).mono ?_; rintro e w2 ⟨rfl, rfl⟩)
        go_ret
        exact ⟨ret_int HE.out.symm, rfl⟩
    · have hf : ¬ (k : Int) < (n : Int) := by omega
      have HE : Hid (R = -1) := by
        show _ = _
        rw [HR.out]; unfold nzI
        rw [if_neg]
        rw [nz_full fun j hj => HZ.out j (by have := Hn.out; omega)]
        omega
      go_wp2
      go_ret
      exact ⟨ret_int HE.out.symm, rfl⟩
end Go.Proofs.YthadnogcocmfgaaGreatDoor

namespace Go.Proofs.YthadnogcocmfgaaGreatDoor
set_option linter.unusedVariables false
open Go.RowKit Go.Great Go.Lib

set_option maxRecDepth 100000 in
theorem noughts_any (a : Option Addr) (g off n cap : Nat) (l : List UInt8) (w : World) (hn : n = l.length) (hmax : n ≤ 1048576) (ha : n = 0 ∨ a = some ⟨g, off, none⟩) (hl : At w g off l) :
    Calls Tryz.prog 100 #[.slice a n cap] w fun e w' => e = .returned (.int .i64 (nzL l : Int)) ∧ w' = w := by
  have h1 := IndexFunc_any a g off n cap l w hn hmax ha hl
  have hle := nzL_le l
  unfold nzI at h1
  by_cases h : nzL l < l.length
  · rw [if_pos h] at h1
    generalize nzL l = k at *
    have hk : ¬ (k : Int) < 0 := by omega
    clear hn ha hl hle h
    go_enter Tryz.func100, Tryz.ntmps100
    go_wp2_with (go_at_call 121; refine h1.mono ?_; rintro e w2 ⟨rfl, rfl⟩)
    go_ret
    exact ⟨rfl, rfl⟩
  · rw [if_neg h] at h1
    have e : nzL l = n := by omega
    rw [e]
    clear hn ha hl hle h e
    go_enter Tryz.func100, Tryz.ntmps100
    go_wp2_with (go_at_call 121; refine h1.mono ?_; rintro e w2 ⟨rfl, rfl⟩)
    go_ret
    exact ⟨rfl, rfl⟩
set_option maxRecDepth 100000 in
set_option maxHeartbeats 400000 in
theorem Index_any (g off n cap : Nat) (l : List UInt8) (w : World) (hn : n = l.length) (hmax : n ≤ 1048576) (hl : At w g off l) :
    Calls Tryz.prog 165 #[.slice (some ⟨g, off, none⟩) n cap, .int .u8 0] w fun e w' => e = .returned (.int .i64 (txI l)) ∧ w' = w := by
  have HL : Hid (At w g off l) := hl
  have Hn : Hid (n = l.length) := hn
  clear hl hn
  obtain ⟨R, hR⟩ : ∃ R, R = txI l := ⟨_, rfl⟩
  rw [← hR]
  have HR : Hid (R = txI l) := hR
  clear hR
  go_enter Tryz.func165, Tryz.ntmps165
  go_wp2
  go_loop [4, 5, 8] (fun _ _ i => ∃ k : Nat, k ≤ n ∧ i = .int .i64 k ∧ Hid (∀ j, j < k → dL l j ≠ 0)) (fun _ _ i => n - (RowKit.intOf i).toNat)
  case atStart => exact ⟨0, Nat.zero_le _, rfl, fun j hj => by omega⟩
  case round =>
    obtain ⟨k, hk, rfl, HZ⟩ := hrel
    by_cases hlt : k < n
    · have hlt' : (k : Int) < (n : Int) := by omega
      obtain ⟨c, hc, ec⟩ := dL_at (show k < l.length by have := Hn.out; omega)
      have hcell := HL.out k c hc
      by_cases h0 : c.toNat = 0
      · have HE : Hid (R = k) := by
          show _ = _
          rw [HR.out]; unfold txI
          have e := tx_eq (show k < l.length by have := Hn.out; omega) HZ.out (by omega)
          rw [e, if_pos (by have := Hn.out; omega)]
        rw [h0] at hcell
        go_wp2
        go_ret
        exact ⟨ret_int HE.out.symm, rfl⟩
      · have hcb : ((0 : Int) == ((c.toNat : Nat) : Int)) = false := by simp; omega
        have hcb2 : ¬ (0 : Int) = ((c.toNat : Nat) : Int) := by omega
        have HZ2 : Hid (∀ j, j < k + 1 → dL l j ≠ 0) := fun j hj => by
          by_cases e : j = k
          · subst e; omega
          · exact HZ.out j (by omega)
        generalize c.toNat = cn at *
        clear HZ
        go_wp2
        go_round
        case rel => exact ⟨k + 1, by omega, by go_num, HZ2⟩
        case measure => simp [RowKit.intOf]; omega
    · have hf : ¬ (k : Int) < (n : Int) := by omega
      have HE : Hid (R = -1) := by
        show _ = _
        rw [HR.out]; unfold txI
        rw [if_neg]
        rw [tx_full fun j hj => HZ.out j (by have := Hn.out; omega)]
        omega
      go_wp2
      go_ret
      exact ⟨ret_int HE.out.symm, rfl⟩
/-- Bytes as a string. -/
theorem conv_at {w : World} {g off cap : Nat} {l : List UInt8} (h : At w g off l) (n : Nat) (hn : n = l.length) : (convert 28 9 (.slice (some ⟨g, off, none⟩) n cap)).run Tryz.prog w = .ok (.string ⟨l.toArray⟩) w := by
  subst hn
  exact run_convert_bytes_back (P := Tryz.prog) w 28 9 5 ⟨g, off, none⟩ cap l Tryz.underlying28 Tryz.underlying5 Tryz.underlying9 (fun j hj => by
    rw [addr_add]; exact h j l[j] (List.getElem?_eq_getElem hj))
/-- A cell is written, or not; there are new blocks. -/
def Wr (b : Bool) (a : Addr) (v : Value) (w w' : World) : Prop := ∃ w1, Below w.heap.size w w1 ∧ w' = cond b (w1.setCell a v) w1
set_option maxRecDepth 100000 in
theorem tr_read (a : Addr) (b : Bool) (g p n cap : Nat) (c : UInt8) (w : World) (hc : w.cell? a = some (.bool b)) (hf : w.frozen? a = false) (hn : 1 ≤ n) (hl : w.cell? ⟨g, p, none⟩ = some (.int .u8 (c.toNat : Int))) :
    Calls Tryz.prog 169 #[.agg #[.pointer (some a)], .slice (some ⟨g, p, none⟩) n cap] w fun e w' => e = .returned (.tuple #[.int .i64 0, .int .i64 (if 1 < c.toNat then 42 else 0)]) ∧ Wr (!decide (1 < c.toNat)) a (.bool (((c.toNat : Nat) : Int) == 1)) w w' := by
  have hcl := cell_alloc hc (.cells #[.pointer (some a)] 135)
  have hfl := frozen_alloc hc hf (.cells #[.pointer (some a)] 135)
  have hll := cell_alloc hl (.cells #[.pointer (some a)] 135)
  have HB : Hid (Below w.heap.size w (w.alloc (.cells #[.pointer (some a)] 135))) := (Below.refl _ w).alloc (Nat.le_refl _) _
  have hn0 : (0 : Int) < (n : Int) := by omega
  have hn1 : ¬ n = 0 := by omega
  clear hc hf hl
  have hcn := UInt8.toNat_lt c
  generalize c.toNat = cn at *
  by_cases h1 : 1 < cn
  · have h2 : (1 : Int) < (cn : Int) := by omega
    have e : (if 1 < cn then (42 : Int) else 0) = 42 := if_pos h1
    rw [e, decide_eq_true h1]
    clear e
    go_enter Tryz.func169, Tryz.ntmps169
    go_wp2
    go_ret2
    exact ⟨rfl, _, HB.out, rfl⟩
  · have h2 : ¬ (1 : Int) < (cn : Int) := by omega
    have e : (if 1 < cn then (42 : Int) else 0) = 0 := if_neg h1
    rw [e, decide_eq_false h1]
    clear e
    go_enter Tryz.func169, Tryz.ntmps169
    go_wp2
    go_region
    go_wp2
    go_ret2
    exact ⟨rfl, _, below_drewN HB.out 1, rfl⟩
theorem wr64_wrap {u : Nat} (h : u < 18446744073709551616) : IntKind.i64.wrap (u : Int) = wr64 u := by
  rw [IntKind.wrap_i64]; unfold wr64; split <;> omega
set_option maxRecDepth 100000 in
theorem ni_read (a : Addr) (z : Int) (s g p n cap : Nat) (l : List UInt8) (w : World) (hc : w.cell? a = some (.int .i64 z)) (hf : w.frozen? a = false) (hn : n = l.length) (hmax : n ≤ 1048576) (h1 : 1 ≤ s) (h8 : s ≤ 8) (hs : s ≤ n) (hcap : n ≤ cap) (hl : At w g p l) :
    Calls Tryz.prog 166 #[.agg #[.pointer (some a), .int .i64 (s : Nat)], .slice (some ⟨g, p, none⟩) n cap] w fun e w' => e = .returned (.tuple #[.int .i64 0, .int .i64 0]) ∧ Wr true a (.int .i64 (wr64 (getN (dL l) s))) w w' := by
  have hcl := cell_alloc hc (.cells #[.pointer (some a), .int .i64 (s : Nat)] 132)
  have hfl := frozen_alloc hc hf (.cells #[.pointer (some a), .int .i64 (s : Nat)] 132)
  have HB : Hid (Below w.heap.size w (w.alloc (.cells #[.pointer (some a), .int .i64 (s : Nat)] 132))) := (Below.refl _ w).alloc (Nat.le_refl _) _
  have hG := Get_yes (some ⟨g, p, none⟩) n cap (dL l) s _ (.inr ⟨g, p, rfl, by have := (hl.below HB.out (Nat.le_refl _)).row; rw [← hn] at this; exact this⟩) h1 h8 hs hcap (by omega)
  have hcv := wr64_wrap (getN_lt2 (dL l) s (dL_lt l) h8)
  generalize getN (dL l) s = R at *
  generalize wr64 R = V at *
  clear hc hf hl hmax hcap hn
  go_enter Tryz.func166, Tryz.ntmps166
  go_wp2_with (go_at_call 99; fail)
  refine hG.mono ?_
  rintro e w2 ⟨rfl, rfl⟩
  go_wp2
  go_ret2
  exact ⟨rfl, _, HB.out, rfl⟩
set_option maxRecDepth 100000 in
theorem nl_read (a : Addr) (z : Int) (s g p n cap : Nat) (l : List UInt8) (w : World) (hc : w.cell? a = some (.int .i64 z)) (hf : w.frozen? a = false) (hn : n = l.length) (hmax : n ≤ 1048576) (h1 : 1 ≤ s) (h8 : s ≤ 8) (hs : s ≤ n) (hcap : n ≤ cap) (hl : At w g p l) :
    Calls Tryz.prog 172 #[.agg #[.pointer (some a), .int .i64 (s : Nat)], .slice (some ⟨g, p, none⟩) n cap] w fun e w' => e = .returned (.tuple #[.int .i64 0, .int .i64 0]) ∧ Wr true a (.int .i64 (wr64 (getN (dL l) s))) w w' := by
  have hcl := cell_alloc hc (.cells #[.pointer (some a), .int .i64 (s : Nat)] 138)
  have hfl := frozen_alloc hc hf (.cells #[.pointer (some a), .int .i64 (s : Nat)] 138)
  have HB : Hid (Below w.heap.size w (w.alloc (.cells #[.pointer (some a), .int .i64 (s : Nat)] 138))) := (Below.refl _ w).alloc (Nat.le_refl _) _
  have hG := Get_yes (some ⟨g, p, none⟩) n cap (dL l) s _ (.inr ⟨g, p, rfl, by have := (hl.below HB.out (Nat.le_refl _)).row; rw [← hn] at this; exact this⟩) h1 h8 hs hcap (by omega)
  have hcv := wr64_wrap (getN_lt2 (dL l) s (dL_lt l) h8)
  generalize getN (dL l) s = R at *
  generalize wr64 R = V at *
  clear hc hf hl hmax hcap hn
  go_enter Tryz.func172, Tryz.ntmps172
  go_wp2_with (go_at_call 99; refine hG.mono ?_; rintro e w2 ⟨rfl, rfl⟩)
  go_ret2
  exact ⟨rfl, _, HB.out, rfl⟩
set_option maxRecDepth 100000 in
set_option maxHeartbeats 400000 in
theorem tx_read (a : Addr) (z : Int) (s : ByteArray) (g p n cap : Nat) (l : List UInt8) (w : World) (hc : w.cell? a = some (.string s)) (hf : w.frozen? a = false) (hn : n = l.length) (hmax : n ≤ 1048576) (h0 : 1 ≤ n) (hcap : n ≤ cap) (hl : At w g p l) :
    Calls Tryz.prog 162 #[.agg #[.pointer (some a), .int .i64 z], .slice (some ⟨g, p, none⟩) n cap] w fun e w' => e = .returned (.tuple (if txL l + nzL (l.drop (txL l)) < l.length then #[.int .i64 ((txL l + nzL (l.drop (txL l)) : Nat) : Int), .int .i64 62] else #[.int .i64 0, .int .i64 0])) ∧ Wr (!decide (txL l + nzL (l.drop (txL l)) < l.length)) a (.string ⟨(l.take (txL l)).toArray⟩) w w' := by
  have hcl := cell_alloc hc (.cells #[.pointer (some a), .int .i64 z] 129)
  have hfl := frozen_alloc hc hf (.cells #[.pointer (some a), .int .i64 z] 129)
  have HB : Hid (Below w.heap.size w (w.alloc (.cells #[.pointer (some a), .int .i64 z] 129))) := (Below.refl _ w).alloc (Nat.le_refl _) _
  have hl2 := hl.below HB.out (Nat.le_refl _)
  generalize hW : w.alloc (.cells #[.pointer (some a), .int .i64 z] 129) = W at *
  have hI := Index_any g p n cap l W hn hmax hl2
  have hte := txL_le l
  have hze := nzL_le (l.drop (txL l))
  rw [List.length_drop] at hze
  have hcv := fun W' (h : Below W.heap.size W W') => conv_at (cap := cap) ((hl2.below h (Nat.le_refl _)).take (txL l)) (txL l) (by rw [List.length_take]; omega)
  have hN := fun (ad : Option Addr) (h : n - txL l = 0 ∨ ad = some ⟨g, p + txL l, none⟩) => noughts_any ad g (p + txL l) (n - txL l) (cap - txL l) (l.drop (txL l)) W (by rw [List.length_drop]; omega) (by omega) h (hl2.drop _)
  rw [← hn] at hte hze ⊢
  unfold txI at hI
  rw [← hn] at hI
  generalize txL l = T at *
  generalize nzL (l.drop T) = Z at *
  generalize (ByteArray.mk (l.take T).toArray) = S at *
  have hcv1 := hcv _ (below_drewN (Below.refl _ W) 1)
  have hcv2 : (convert 28 9 (.slice (some ⟨g, p, none⟩) T cap)).run Tryz.prog W.drew = .ok (.string S) W.drew := hcv1
  have HB2 : Hid (Below w.heap.size w W.drew) := below_drewN HB.out 1
  clear hcv hcv1 hl2 hl hc hf
  by_cases hT : T < n
  · rw [if_pos hT] at hI
    have hN1 := hN (some ⟨g, p + T, none⟩) (.inr rfl)
    clear hN hn
    have f1 : ¬ (T : Int) < 0 := by omega
    have f2 : (T : Int) ≤ (n : Int) := by omega
    have f3 : ¬ cap = T := by omega
    have f4 : (T : Int) ≤ (cap : Int) := by omega
    have fw : IntKind.i64.wrap ((T : Int) + (Z : Int)) = (T : Int) + (Z : Int) := by rw [IntKind.wrap_i64]; omega
    by_cases hA : T + Z < n
    · have f5 : (T : Int) + (Z : Int) < (n : Int) := by omega
      rw [if_pos hA, decide_eq_true hA]
      clear hA hT hte hze h0 hcap hmax
      rw [← hW] at *
      go_enter Tryz.func162, Tryz.ntmps162
      go_wp2_with (first | (go_at_call 165; refine hI.mono ?_; rintro e w2 ⟨rfl, rfl⟩) | (go_at_call 100; refine hN1.mono ?_; rintro e w2 ⟨rfl, rfl⟩))
      go_ret2
      exact ⟨rfl, _, HB.out, rfl⟩
    · have f5 : ¬ (T : Int) + (Z : Int) < (n : Int) := by omega
      rw [if_neg hA, decide_eq_false hA]
      clear hA hT hte hze h0 hcap hmax
      rw [← hW] at *
      go_enter Tryz.func162, Tryz.ntmps162
      go_wp2_with (first | (go_at_call 165; refine hI.mono ?_; rintro e w2 ⟨rfl, rfl⟩) | (go_at_call 100; refine hN1.mono ?_; rintro e w2 ⟨rfl, rfl⟩))
      go_region
      go_wp2
      go_ret2
      exact ⟨rfl, _, HB2.out, rfl⟩
  · have hTn : T = n := by omega
    rw [if_neg hT] at hI
    have hZ : Z = 0 := by omega
    subst hTn hZ
    have f2 : (T : Int) ≤ (cap : Int) := by omega
    have fw : IntKind.i64.wrap (T : Int) = (T : Int) := by rw [IntKind.wrap_i64]; omega
    have fw3 : wrap64 (T : Int) = (T : Int) := by unfold wrap64; omega
    rw [if_neg (by omega), decide_eq_false (by omega)]
    have hN0 := hN (some ⟨g, p, none⟩) (.inl (by omega))
    have hN1 := hN (some ⟨g, p + T, none⟩) (.inr rfl)
    rw [Nat.sub_self] at hN0 hN1
    clear hN hn hte hze
    by_cases hC : cap = T
    · subst hC
      rw [Nat.sub_self] at hN0 hN1
      clear hT hcap h0 hmax
      rw [← hW] at *
      go_enter Tryz.func162, Tryz.ntmps162
      go_wp2_with (first | (go_at_call 165; refine hI.mono ?_; rintro e w2 ⟨rfl, rfl⟩) | (go_at_call 100; refine hN0.mono ?_; rintro e w2 ⟨rfl, rfl⟩))
      go_region
      go_wp2
      go_ret2
      exact ⟨rfl, _, HB2.out, rfl⟩
    · clear hT hcap h0 hmax
      rw [← hW] at *
      go_enter Tryz.func162, Tryz.ntmps162
      go_wp2_with (first | (go_at_call 165; refine hI.mono ?_; rintro e w2 ⟨rfl, rfl⟩) | (go_at_call 100; refine hN1.mono ?_; rintro e w2 ⟨rfl, rfl⟩))
      go_region
      go_wp2
      go_ret2
      exact ⟨rfl, _, HB2.out, rfl⟩
end Go.Proofs.YthadnogcocmfgaaGreatDoor

namespace Go.Proofs.YthadnogcocmfgaaGreatDoor
set_option linter.unusedVariables false
open Go.RowKit Go.Great Go.Lib

/-- What a form's read gives: the byte that is wrong and how, or the message then. -/
def rdV (x : Except (Nat × Int) Msg) : Array Value := match x with
  | .error (k, e) => #[.int .i64 (k : Nat), .int .i64 e]
  | .ok _ => #[.int .i64 0, .int .i64 0]
def rdM (x : Except (Nat × Int) Msg) (M : Msg) : Msg := match x with
  | .error _ => M
  | .ok M' => M'
theorem wd_ge {j : Nat} (hj : j < 42) : 1 ≤ wd j := by
  rcases cases42 hj with rfl | rfl | rfl | rfl | rfl | rfl | rfl | rfl | rfl | rfl | rfl | rfl | rfl | rfl | rfl | rfl | rfl | rfl | rfl | rfl | rfl | rfl | rfl | rfl | rfl | rfl | rfl | rfl | rfl | rfl | rfl | rfl | rfl | rfl | rfl | rfl | rfl | rfl | rfl | rfl | rfl | rfl <;> decide
theorem wr_msg {b : Bool} {g j : Nat} {v : Value} {w w' : World} {M M' : Msg} (h : Wr b ⟨g, j, none⟩ v w w') (ho : OwnM w g M) (e : M.cs.setIfInBounds j v = M'.cs) : OwnM w' g (cond b M' M) ∧ Wrt g w w' := by
  obtain ⟨w1, hb, rfl⟩ := h
  have ho1 : OwnM w1 g M := ho.below hb ho.lt
  cases b
  · exact ⟨ho1, Wrt.of ho.lt hb (Below.refl _ _) fun _ _ => rfl⟩
  · exact ⟨ho1.store e, Wrt.of ho.lt hb (ho1.stays (Nat.le_refl _)) fun b hb => Below.heap_setCell _ _ _ _ hb⟩
theorem read_any (M : Msg) (j : Nat) (h1 : 1 ≤ j) (hj : j < 42) (g p n cap mB : Nat) (l : List UInt8) (w : World) (ho : OwnM w mB M) (hn : n = l.length) (hw : n = wd j) (hcap : n ≤ cap) (hl : At w g p l) :
    Calls Tryz.prog (fRd j) #[fVal j mB, .slice (some ⟨g, p, none⟩) n cap] w fun e w' => e = .returned (.tuple (rdV (rdF j l M))) ∧ OwnM w' mB (rdM (rdF j l M) M) ∧ Wrt mB w w' := by
  have h0 : j ≠ 0 := by omega
  have hwd := wd_le j
  have hpos := wd_ge hj
  have hcell := ho.cell j hj
  have hfr := ho.frozen j
  cases hs : isStr j
  · cases hb : isBoo j
    · have hwn := wd_num hj hs
      have e : rdF j l M = .ok (M.setZ j (wr64 (getN (dL l) (wd j)))) := by simp [rdF, hs, hb]
      rw [e]
      have hc2 : w.cell? ⟨mB, j, none⟩ = some (.int .i64 (M.z j)) := by rw [hcell]; simp [Msg.cell, hs, hb]
      have hv : fVal j mB = .agg #[.pointer (some ⟨mB, j, none⟩), .int .i64 (wd j : Nat)] := by simp [fVal, hb]
      rw [hv]
      have fin : ∀ (x : Ending) (w' : World), (x = .returned (.tuple #[.int .i64 0, .int .i64 0]) ∧ Wr true ⟨mB, j, none⟩ (.int .i64 (wr64 (getN (dL l) (wd j)))) w w') → x = .returned (.tuple (rdV (.ok (M.setZ j (wr64 (getN (dL l) (wd j)))))) ) ∧ OwnM w' mB (rdM (.ok (M.setZ j (wr64 (getN (dL l) (wd j))))) M) ∧ Wrt mB w w' := fun x w' hx => by
        obtain ⟨a, b⟩ := wr_msg hx.2 ho (cs_setZ M j _ hj hs hb)
        exact ⟨hx.1, a, b⟩
      cases hL : isL j
      · have hf : fRd j = 166 := by simp [fRd, hs, hb, hL]
        rw [hf]
        exact (ni_read ⟨mB, j, none⟩ (M.z j) (wd j) g p n cap l w hc2 hfr hn (by omega) hwn.1 hwn.2 (by omega) hcap hl).mono fin
      · have hf : fRd j = 172 := by simp [fRd, hs, hb, hL]
        rw [hf]
        exact (nl_read ⟨mB, j, none⟩ (M.z j) (wd j) g p n cap l w hc2 hfr hn (by omega) hwn.1 hwn.2 (by omega) hcap hl).mono fin
    · have hc2 : w.cell? ⟨mB, j, none⟩ = some (.bool (M.b j)) := by rw [hcell]; simp [Msg.cell, hs, hb]
      have hv : fVal j mB = .agg #[.pointer (some ⟨mB, j, none⟩)] := by simp [fVal, hb]
      have hf : fRd j = 169 := by simp [fRd, hs, hb]
      rw [hv, hf]
      obtain ⟨c, hc, ec⟩ := dL_at (show 0 < l.length by omega)
      refine (tr_read ⟨mB, j, none⟩ (M.b j) g p n cap c w hc2 hfr (by omega) (hl 0 c hc)).mono ?_
      rintro x w' ⟨rfl, hx⟩
      rw [show ((((c.toNat : Nat) : Int)) == 1) = (dL l 0 == 1) by rw [ec, Bool.eq_iff_iff]; simp; omega] at hx
      obtain ⟨a, b⟩ := wr_msg hx ho (cs_setB M j _ hj hs hb)
      have e : rdF j l M = if 1 < dL l 0 then .error (0, 42) else .ok (M.setB j (dL l 0 == 1)) := by simp [rdF, hs, hb]
      rw [e, ec]
      rw [ec] at a
      by_cases h : 1 < c.toNat
      · rw [if_pos h, if_pos h]
        rw [decide_eq_true h] at a
        exact ⟨rfl, a, b⟩
      · rw [if_neg h, if_neg h]
        rw [decide_eq_false h] at a
        exact ⟨rfl, a, b⟩
  · have hc2 : w.cell? ⟨mB, j, none⟩ = some (.string (M.s j)) := by rw [hcell]; simp [Msg.cell, hs]
    have hb : isBoo j = false := by
      cases h : isBoo j
      · rfl
      · have := wd_boo hj h
        rcases cases42 hj with rfl | rfl | rfl | rfl | rfl | rfl | rfl | rfl | rfl | rfl | rfl | rfl | rfl | rfl | rfl | rfl | rfl | rfl | rfl | rfl | rfl | rfl | rfl | rfl | rfl | rfl | rfl | rfl | rfl | rfl | rfl | rfl | rfl | rfl | rfl | rfl | rfl | rfl | rfl | rfl | rfl | rfl <;> first | exact absurd hs (by decide) | exact absurd h (by decide)
    have hv : fVal j mB = .agg #[.pointer (some ⟨mB, j, none⟩), .int .i64 (wd j : Nat)] := by simp [fVal, hb]
    have hf : fRd j = 162 := by simp [fRd, hs]
    rw [hv, hf]
    refine (tx_read ⟨mB, j, none⟩ _ (M.s j) g p n cap l w hc2 hfr hn (by omega) (by omega) hcap hl).mono ?_
    rintro x w' ⟨rfl, hx⟩
    obtain ⟨a, b⟩ := wr_msg hx ho (cs_setS M j _ hj hs)
    have e : rdF j l M = if txL l + nzL (l.drop (txL l)) < l.length then .error (txL l + nzL (l.drop (txL l)), 62) else .ok (M.setS j ⟨(l.take (txL l)).toArray⟩) := by simp [rdF, hs]
    rw [e]
    by_cases h : txL l + nzL (l.drop (txL l)) < l.length
    · rw [if_pos h, if_pos h]
      rw [decide_eq_true h] at a
      exact ⟨rfl, a, b⟩
    · rw [if_neg h, if_neg h]
      rw [decide_eq_false h] at a
      exact ⟨rfl, a, b⟩
theorem cfRd (j : Nat) (hj : j < 42) (a : Array Value) (w : World) : Sem.run Tryz.prog (callFunc (fRd j) a) w = .ok (.enter (fRd j) a) w := by
  rcases cases42 hj with rfl | rfl | rfl | rfl | rfl | rfl | rfl | rfl | rfl | rfl | rfl | rfl | rfl | rfl | rfl | rfl | rfl | rfl | rfl | rfl | rfl | rfl | rfl | rfl | rfl | rfl | rfl | rfl | rfl | rfl | rfl | rfl | rfl | rfl | rfl | rfl | rfl | rfl | rfl | rfl | rfl | rfl <;> kernel_rfl
theorem mRd (j : Nat) (hj : j < 42) (B : Nat) (w : World) : (method 267 (fTy j) (fVal j B) "outcry/bin.read").run Tryz.prog w = .ok (fRd j, fVal j B) w := by
  rcases cases42 hj with rfl | rfl | rfl | rfl | rfl | rfl | rfl | rfl | rfl | rfl | rfl | rfl | rfl | rfl | rfl | rfl | rfl | rfl | rfl | rfl | rfl | rfl | rfl | rfl | rfl | rfl | rfl | rfl | rfl | rfl | rfl | rfl | rfl | rfl | rfl | rfl | rfl | rfl | rfl | rfl | rfl | rfl <;> kernel_rfl
end Go.Proofs.YthadnogcocmfgaaGreatDoor
