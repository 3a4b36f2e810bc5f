/-
  heap of things that count: the tally; Peek, All, most.
-/
import Derived.Test.YtdnhhcbabdoomaaHCFace6
import Derived.BigQuiet
namespace Go.Proofs.Ytdnhhcbabdoomaa.C
set_option linter.unusedVariables false
set_option linter.unusedSimpArgs false
open Go.RowKit Go.Great

def askT (tb : Nat) : Ask := ⟨tb, 30, fun a b => decide (a.k < b.k), fun b => b = tb, fun c w => Blk w tb 68 #[.int .i64 (wrap64 (c : Int))]⟩
theorem askT_ord (tb : Nat) : Ordr (askT tb).lt := ⟨fun a => by simp [askT], fun a b c h1 h2 => by simp only [askT, decide_eq_true_eq] at *; omega, fun a b c h1 h2 => by simp only [askT, decide_eq_false_iff_not] at *; omega⟩
theorem cfT (a : Array Value) (w : World) : Sem.run Try.prog (callFunc 30 a) w = .ok (.enter 30 a) w := by kernel_rfl
set_option maxRecDepth 100000 in
set_option maxHeartbeats 1000000 in
theorem byTally_any (tb : Nat) (a b : Th) (w : World) (c : Nat) (hS : Blk w tb 68 #[.int .i64 (wrap64 (c : Int))]) :
    Calls Try.prog 30 #[.agg #[.int .i64 a.k, ptr tb], .agg #[.int .i64 b.k, ptr tb]] w fun e w' => e = .returned (.bool (decide (a.k < b.k))) ∧ Fr w w' (fun b => b = tb) ∧ Blk w' tb 68 #[.int .i64 (wrap64 ((c + 1 : Nat) : Int))] := by
  have hlt := hS.lt
  have hne1 : tb ≠ w.heap.size := by omega
  have hne2 : tb ≠ w.heap.size + 1 := by omega
  have hB2 := (hS.alloc (.cells #[.int .i64 a.k, ptr tb] 65)).alloc (.cells #[.int .i64 b.k, ptr tb] 65)
  have ct : ((w.alloc (.cells #[.int .i64 a.k, ptr tb] 65)).alloc (.cells #[.int .i64 b.k, ptr tb] 65)).cell? ⟨tb, 0, none⟩ = some (.int .i64 (wrap64 (c : Int))) := hB2.cell 0
  have ft := hB2.frozen 0
  have hA1 : Blk ((w.alloc (.cells #[.int .i64 a.k, ptr tb] 65)).alloc (.cells #[.int .i64 b.k, ptr tb] 65)) w.heap.size 65 #[.int .i64 a.k, ptr tb] := (Blk.new _ _ _).alloc _
  have hA2 : Blk ((w.alloc (.cells #[.int .i64 a.k, ptr tb] 65)).alloc (.cells #[.int .i64 b.k, ptr tb] 65)) (w.heap.size + 1) 65 #[.int .i64 b.k, ptr tb] := Blk.new' _ _ _ (by simp)
  have c0 := hA1.cell 0
  have c1 := hA1.cell 1
  have c2 := hA2.cell 0
  have F2 : Fr w ((w.alloc (.cells #[.int .i64 a.k, ptr tb] 65)).alloc (.cells #[.int .i64 b.k, ptr tb] 65)) (fun _ => False) := (Fr.alloc _ _ (fun _ => False)).trans (Fr.alloc _ _ (fun _ => False)) fun _ _ q => by rcases q with q | q <;> exact q
  have HX : Hid (Blk ((w.alloc (.cells #[.int .i64 a.k, ptr tb] 65)).alloc (.cells #[.int .i64 b.k, ptr tb] 65)) tb 68 #[.int .i64 (wrap64 (c : Int))] ∧ Fr w ((w.alloc (.cells #[.int .i64 a.k, ptr tb] 65)).alloc (.cells #[.int .i64 b.k, ptr tb] 65)) (fun _ => False)) := ⟨hB2, F2⟩
  have hwr : wrap64 (wrap64 (c : Int) + 1) = wrap64 ((c + 1 : Nat) : Int) := by unfold wrap64; omega
  have HWR : Hid (wrap64 (wrap64 (c : Int) + 1) = wrap64 ((c + 1 : Nat) : Int)) := hwr
  generalize wrap64 (c : Int) = z at *
  clear hS hB2 hA1 hA2 F2 hwr
  go_enter Try.func30, Try.ntmps30
  go_upto_region 1 with fail
  generalize hw2 : (w.alloc (.cells #[.int .i64 a.k, ptr tb] 65)).alloc (.cells #[.int .i64 b.k, ptr tb] 65) = w2 at *
  clear hw2
  go_region
  all_goals
    go_wp2
    go_ret
    refine ⟨rfl, ?_, ?_⟩
    · exact (HX.out.2.trans (Fr.setCell w2 ⟨tb, 0, none⟩ _ (fun b => b = tb) rfl) fun _ _ q => by rcases q with q | q; exact q.elim; exact q).drew
    · have := HX.out.1.set 0 (.int .i64 (wrap64 (z + 1)))
      rw [HWR.out] at this ⊢
      exact this
theorem askT_ok (tb : Nat) : (askT tb).Ok :=
  ⟨fun args w => cfT args w, fun {w w' c e} hS hf hn => Blk.fr hS hf (fun q => hn _ q rfl), fun {w c b} hS hb => by have h1 : b = tb := hb; rw [h1]; exact Blk.lt hS,
    fun a b w c hS => (byTally_any tb a b w c hS).mono fun e w' q => ⟨q.1, q.2.1, q.2.2⟩⟩
set_option maxRecDepth 100000 in
theorem All_any (h : Nat) (w : World) : Calls Try.prog 39 #[ptr h] w fun e w' => e = .returned (.func (.func 63) #[] #[ptr w.heap.size]) ∧ w' = w.alloc (.cells #[ptr h] 61) := by
  go_enter Try.func39, Try.ntmps39
  go_wp2
  go_ret
  exact ⟨rfl, rfl⟩
set_option maxRecDepth 100000 in
theorem New_raw (w : World) : Calls Try.prog 29 #[.func (.func 30) #[] #[]] w fun e w' => e = .returned (ptr w.heap.size) ∧ w' = w.alloc (.cells #[.func (.func 30) #[] #[], .slice none 0 0, .int .i64 0] 118) := by
  go_enter Try.func29, Try.ntmps29
  go_wp2
  go_ret
  exact ⟨rfl, rfl⟩
section
variable {A : Ask} {w w' : World} {h : Nat} {v : Value} {t L : List (It Th)} {N c : Nat}
set_option maxRecDepth 100000 in
set_option maxHeartbeats 1000000 in
theorem Peek_any (H : HpA A w h v L N c) : Calls Try.prog 37 #[ptr h] w fun e w' => (∃ r, e = .returned r) ∧ Fr w w' (fun _ => False) := by
  obtain ⟨t, h1, h2, _⟩ := H
  have F1 : Fr w (w.alloc (.cells #[.int .i64 0, .pointer none] 65)) (fun _ => False) := Fr.alloc _ _ _
  have d1o := h1.hd.2.1
  have d1 : (w.alloc (.cells #[.int .i64 0, .pointer none] 65)).cell? ⟨h, 1, none⟩ = some v := F1.cell h1.hd.2.1 (fun q => q)
  have hlt : h < w.heap.size := h1.blk.lt
  have hne : h ≠ w.heap.size := by omega
  by_cases h0 : t.length = 0
  · obtain ⟨ao, cap, hvf, hcap⟩ := h1.form
    rw [h0] at hvf
    subst hvf
    clear h1 h2 hcap h0 F1
    go_enter Try.func37, Try.ntmps37
    go_wp2
    refine bodyPost_ret (results_cr2 (fn := Try.f37) (p := 2) (u := 3) (ty := 65) rfl _ _ w.heap.size 65 #[.int .i64 0, .pointer none] (0, 0) _ (by rfl) ((Blk.new w _ _).alloc _) Try.underlying65 rfl (by kernel_rfl)) (by rfl) ?_
    exact ⟨⟨_, rfl⟩, (Fr.alloc _ _ (fun _ => False)).trans (Fr.alloc _ _ (fun _ => False)) fun _ _ q => by rcases q with q | q <;> exact q⟩
  · obtain ⟨it, hk⟩ := get_some t (show 0 < t.length by omega)
    obtain ⟨g, off, cap, hv, _, _, _, h4, _⟩ := h1.slice (by omega)
    have hc := F1.cell (h4 0 it hk) (fun q => q)
    rw [Nat.add_zero] at hc
    obtain ⟨a0, a1, _, _⟩ := h1.at hk
    have b0 := F1.cell a0 (fun q => q)
    have b1 := F1.cell a1 (fun q => q)
    have hip : it.p < w.heap.size := (h1.its 0 it hk).lt
    have hipn : it.p ≠ w.heap.size := by omega
    subst hv
    have hl1 : ¬ t.length = 0 := h0
    have hl2 : (0 : Int) < (t.length : Int) := by omega
    have hl3 : 0 < t.length := by omega
    have hne0 : ((t.length : Int) == 0) = false := by rw [beq_eq_false_iff_ne]; omega
    clear h1 h2 h4 hk h0 a0 a1 F1
    go_enter Try.func37, Try.ntmps37
    go_wp2
    refine bodyPost_ret (results_cr2 (fn := Try.f37) (p := 2) (u := 3) (ty := 65) rfl _ _ w.heap.size 65 #[.int .i64 it.x.k, ptr A.tb] (0, 0) _ (by rfl) (Blk.new _ _ _) Try.underlying65 rfl (by kernel_rfl)) (by rfl) ?_
    exact ⟨⟨_, rfl⟩, Fr.alloc _ _ _⟩
end
/-- How often one doubles up to n. -/
def clN (n : Nat) : Nat := if n ≤ 1 then 0 else Nat.log2 (n - 1) + 1
theorem clN_lt (n k : Nat) : 2 ^ k < n ↔ k < clN n := by
  unfold clN
  by_cases h : n ≤ 1
  · rw [if_pos h]
    have := Nat.one_le_two_pow (n := k)
    omega
  · rw [if_neg h]
    have h1 := Nat.le_log2 (n := n - 1) (k := k) (by omega)
    constructor
    · intro q; have := h1.2 (by omega); omega
    · intro q; have := h1.1 (by omega); omega
theorem clN_le {n : Nat} (h : n ≤ 1000000000) : clN n ≤ 30 := by
  have := mt (clN_lt n 30).2 (by omega)
  omega
theorem log_cl (n : Nat) : n ≤ 2 ^ clN n := by
  have := mt (clN_lt n (clN n)).1 (by omega)
  omega
theorem log_push (n : Nat) : 2 * Nat.log2 (n + 1) + 1 ≤ 4 * (clN n + 1) := by
  have h1 := log_cl n
  have h2 : Nat.log2 (n + 1) < clN n + 2 := by
    rw [Nat.log2_lt (by omega), Nat.pow_add]
    have := Nat.one_le_two_pow (n := clN n)
    omega
  omega
theorem log_rem (n : Nat) : 2 * Nat.log2 n + 1 ≤ 4 * (clN n + 1) := by
  have h1 := log_cl n
  by_cases h0 : n = 0
  · subst h0
    have h3 : Nat.log2 0 = 0 := by decide
    omega
  have h2 : Nat.log2 n < clN n + 1 := by
    rw [Nat.log2_lt h0, Nat.pow_add]
    have := Nat.one_le_two_pow (n := clN n)
    omega
  omega
set_option maxRecDepth 100000 in
set_option maxHeartbeats 1000000 in
theorem most_any (n : Nat) (z : Int) (hz : z = n) (hn : n ≤ 1000000000) (w : World) : Calls Try.prog 32 #[.int .i64 z] w fun e w' => e = .returned (.int .i64 (4 * ((clN n : Int) + 1))) ∧ w' = w := by
  subst hz
  have HCL : Hid (clN n ≤ 30 ∧ ∀ k, 2 ^ k < n ↔ k < clN n) := ⟨clN_le hn, clN_lt n⟩
  generalize clN n = m at *
  go_enter Try.func32, Try.ntmps32
  go_wp2
  go_loop [3, 4] (fun x3 x4 => ∃ k p : Nat, k ≤ m ∧ Hid (p = 2 ^ k) ∧ x3 = .int .i64 (k : Int) ∧ x4 = .int .i64 (p : Int)) (fun x3 _ => m - (RowKit.intOf x3).toNat)
  case atStart =>
    exact ⟨0, 1, Nat.zero_le _, rfl, rfl, rfl⟩
  case round =>
    obtain ⟨k, p, hk, HP, rfl, rfl⟩ := hrel
    by_cases hlt : k < m
    · have hpn : (p : Int) < (n : Int) := by have h1 := (HCL.out.2 k).2 hlt; rw [← HP.out] at h1; omega
      have hb1 : (k : Int) + 1 < 9223372036854775808 := by have := HCL.out.1; omega
      have hb2 : (p : Int) * 2 < 9223372036854775808 := by omega
      have HP2 : Hid (p * 2 = 2 ^ (k + 1)) := by show p * 2 = 2 ^ (k + 1); rw [Nat.pow_succ, HP.out]
      go_wp2
      go_round
      case rel => exact ⟨k + 1, p * 2, by omega, HP2, by go_num, by go_num⟩
      case measure => simp [RowKit.intOf]; omega
    · have hpn : ¬ (p : Int) < (n : Int) := by have h1 := mt (HCL.out.2 k).1 hlt; rw [← HP.out] at h1; omega
      obtain rfl : k = m := by omega
      have hb1 : (k : Int) + 1 < 9223372036854775808 := by have := HCL.out.1; omega
      have hb3 : 4 * ((k : Int) + 1) < 9223372036854775808 := by have := HCL.out.1; omega
      go_wp2
      go_ret
      exact ⟨rfl, rfl⟩
end Go.Proofs.Ytdnhhcbabdoomaa.C
