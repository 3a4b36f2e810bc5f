import Derived.Test.YthadnogcocmfgaaGreatDoorRfC
import Derived.Deep.RegionHeld

namespace Go.Proofs.YthadnogcocmfgaaGreatDoor
set_option linter.unusedVariables false
open Go.RowKit Go.Great Go.Lib

/-- A block of another type is no row of bytes. -/
def Oth (w : World) (q : Nat) : Prop := ∃ cs t fr, w.heap[q]? = some (.cells cs t fr) ∧ t ≠ 5
theorem Oth.lt {w : World} {q : Nat} (h : Oth w q) : q < w.heap.size := by
  obtain ⟨cs, t, fr, h1, _⟩ := h
  exact (Array.getElem?_eq_some_iff.1 h1).1
theorem Oth.keep {w w' : World} {q : Nat} (h : Oth w q) (e : w'.heap[q]? = w.heap[q]?) : Oth w' q := by
  obtain ⟨cs, t, fr, h1, h2⟩ := h
  exact ⟨cs, t, fr, e.trans h1, h2⟩
theorem Oth.ne {w : World} {q B n : Nat} {v : Value} {xs : List Value} (h : Oth w q) (ho : w.ownsRow B 5 1 v n xs) : some q ≠ v.ownBlock := fun e => by
  obtain ⟨cs, t, fr, h1, h2⟩ := h
  rcases ho.2 with ⟨rfl, _⟩ | ⟨g, cap, cur, rfl, _, h3, _⟩
  · cases e
  · injection e with e
    subst e
    rw [h1] at h3
    injection h3 with h3
    injection h3 with _ h3
    exact h2 h3
theorem grow_other {w w' : World} {q B n : Nat} {v : Value} {xs : List Value} (h : Oth w q) (ho : w.ownsRow B 5 1 v n xs) (o : Obj) (hg : (w.alloc o).grownBy w' v.ownBlock) : w'.heap[q]? = w.heap[q]? := by
  have h1 : (w.alloc o).heap[q]? = w.heap[q]? := ((Below.refl w.heap.size w).alloc (Nat.le_refl _) o).block q h.lt
  exact (hg.block q (by have := h.lt; simp; omega) (h.ne ho)).trans h1
set_option maxRecDepth 100000 in
set_option maxHeartbeats 1000000 in
theorem big_any2 (B : Nat) (v : Value) (n : Nat) (l : List Nat) (u s : Nat) (hs8 : s ≤ 8) (w : World) (hn : n ≤ 140737488351232) (hu : u < 18446744073709551616) (ho : w.ownsRow B 5 1 v n (bvals l)) (hB : B ≤ w.heap.size) (q : Nat) (hq : Oth w q) :
    Calls Tryz.prog 109 #[v, .int .u64 (u : Int), .int .i64 (s : Int)] w fun e w' => ∃ v', e = .returned v' ∧ w'.ownsRow B 5 1 v' (n + s) (bvals (l ++ putTo u s s)) ∧ Below B w w' ∧ w'.heap[q]? = w.heap[q]? := by
  obtain ⟨i0, hi, hz0, hz1, hz2⟩ := info_parts info5
  have hs8' : (s : Int) ≤ 8 := by omega
  have hs0' : (0 : Int) ≤ (s : Int) := by omega
  obtain ⟨a1, c1, rfl⟩ := own_form ho
  have HO : Hid (w.ownsRow B 5 1 (.slice a1 n c1) n (bvals l) ∧ B ≤ w.heap.size ∧ Oth w q) := ⟨ho, hB, hq⟩
  clear ho hB hq
  go_enter Tryz.func109, Tryz.ntmps109
  go_wp2
  go_loopw [0, 7] (fun o i wr => ∃ (j : Nat) (ao : Option Addr) (cv : Nat) (i' : Int), j ≤ s ∧ i = .int .i64 i' ∧ i' = (s : Int) - 1 - j ∧ o = .slice ao (n + j) cv ∧ wr.ownsRow B 5 1 o (n + j) (bvals (l ++ putTo u s j)) ∧ Below B w wr ∧ wr.heap[q]? = w.heap[q]?) (fun _ i _ => (RowKit.intOf i + 1).toNat)
  case atStart => exact ⟨0, a1, c1, _, by omega, rfl, by omega, rfl, by simpa [putTo] using HO.out.1, Below.refl _ _, rfl⟩
  case round =>
    obtain ⟨j, ao, cv, i', hj, rfl, hi', rfl, hown, hbl, hqq⟩ := hrel
    by_cases hlt : j < s
    · obtain ⟨k, hk⟩ : ∃ k : Nat, k = s - 1 - j := ⟨_, rfl⟩
      have hik : i' = (k : Int) := by omega
      subst hik
      have hk8 : 8 * k < 64 := by omega
      have hv : (u : Int) / 2 ^ (8 * k) % 256 = ((u / 2 ^ (8 * k) % 256 : Nat) : Int) := by simp
      have HP : Hid (bvals (l ++ putTo u s (j + 1)) = bvals (l ++ putTo u s j) ++ [.int .u8 ((u / 2 ^ (8 * k) % 256 : Nat) : Int)]) := by
        show _ = _
        rw [putTo_succ, ← hk, ← List.append_assoc, bvals_append]
        rfl
      have hx256 : u / 2 ^ (8 * k) % 256 < 256 := Nat.mod_lt _ (by decide)
      have HA : Hid (Below B w wr ∧ B ≤ wr.heap.size ∧ wr.ownsRow B 5 1 (.slice ao (n + j) cv) (n + j) (bvals (l ++ putTo u s j)) ∧ wr.heap[q]? = w.heap[q]?) := ⟨hbl, Nat.le_trans HO.out.2.1 hbl.size, hown, hqq⟩
      have HK : Hid (k = s - 1 - j) := hk
      clear hown hbl hi' hk hqq
      generalize u / 2 ^ (8 * k) % 256 = X at *
      have hnew : Hid (∀ j u, [Value.int .u8 (X : Int)][j]? = some u → (wr.alloc (.cells #[.int .u8 (X : Int)] 5)).cell? ((⟨wr.heap.size, 0, none⟩ : Addr).add j) = some u) := cell_one_new wr (.int .u8 (X : Int)) 5
      go_wp2_with (at_builtin; refine wpList_append_own _ rfl _ _ 28 rfl B 5 i0 (.int .u8 0) 1 1 Tryz.underlying28 hi hz0 hz1 hz2 rfl (by decide) _ (n + j) (bvals (l ++ putTo u s j)) rfl (HA.out.2.2.1.alloc _) ⟨wr.heap.size, 0, none⟩ 1 1 [.int .u8 (X : Int)] rfl rfl hnew.out (fun x hx => by simp at hx; subst hx; rfl) (by unfold maxLen; omega) (by omega) (by have := HA.out.2.1; simp; omega) ?_; intro v' w3 hown' hgrow3 hnil3)
      have hg3 : (wr.alloc (.cells #[.int .u8 (X : Int)] 5)).grownBy w3 (Value.slice ao (n + j) cv).ownBlock := hgrow3
      have hb3 : Below B w w3 := below_grownBy (HA.out.1.alloc HA.out.2.1 _) hg3 HO.out.2.1 (fun q hq => (HA.out.2.2.1.lt q hq).1)
      have hq3 : w3.heap[q]? = w.heap[q]? := (grow_other (HO.out.2.2.keep HA.out.2.2.2) HA.out.2.2.1 _ hg3).trans HA.out.2.2.2
      rw [← HP.out] at hown'
      obtain ⟨a3, c3, rfl⟩ := own_form hown'
      have HB3 : Hid (Below B w w3 ∧ w3.ownsRow B 5 1 (.slice a3 (n + j + 1) c3) (n + j + 1) (bvals (l ++ putTo u s (j + 1))) ∧ w3.heap[q]? = w.heap[q]?) := ⟨hb3, hown', hq3⟩
      clear hb3 hown' hg3 hgrow3 hnil3 hq3
      exact ⟨⟨j + 1, a3, c3, _, by omega, rfl, by have := HK.out; omega, rfl, HB3.out.2.1, HB3.out.1, HB3.out.2.2⟩, by simp [RowKit.intOf]⟩
    · obtain rfl : j = s := by omega
      have hneg : i' = -1 := by omega
      subst hneg
      have HW : Hid (wr.ownsRow B 5 1 (.slice ao (n + j) cv) (n + j) (bvals (l ++ putTo u j j)) ∧ Below B w wr ∧ wr.heap[q]? = w.heap[q]?) := ⟨hown, hbl, hqq⟩
      clear hown hbl hi' hqq
      go_wp2
      go_ret
      exact ⟨_, rfl, HW.out.1, HW.out.2.1, HW.out.2.2⟩
theorem rowAt {w : World} {g n cap B : Nat} {l : List UInt8} (h : w.ownsRow B 5 1 (.slice (some ⟨g, 0, none⟩) n cap) n (byteCells l)) : At w g 0 l := fun j c hj => by
  have := h.cells (g := g) rfl j (.int .u8 (c.toNat : Int)) (by simp [byteCells, hj])
  rwa [addr_add] at this
def slLen : Value → Nat
  | .slice _ n _ => n
  | _ => 0
theorem zer_succ (k : Nat) : byteCells (zer (k + 1)) = byteCells (zer k) ++ [.int .u8 0] := by
  unfold zer
  rw [List.replicate_succ', bc_app]
  rfl
theorem row_some {w : World} {B n : Nat} {ao : Option Addr} {co : Nat} {l : List UInt8} (h : w.ownsRow B 5 1 (.slice ao n co) n (byteCells l)) (hn : 0 < n) : ∃ g, ao = some ⟨g, 0, none⟩ ∧ n ≤ co ∧ At w g 0 l ∧ n = l.length := by
  have hl : n = l.length := by have := h.1; rw [bc_len] at this; omega
  rcases h.2 with ⟨_, h0⟩ | ⟨g, cO, cur, e1, e2, e3, e4, _⟩
  · omega
  · injection e1 with e1 _ e5
    subst e1
    exact ⟨g, rfl, by omega, rowAt h, hl⟩
theorem cells_new (w : World) (xs : List Value) (t : TypeId) : ∀ j u, xs[j]? = some u → (w.alloc (.cells xs.toArray t)).cell? ((⟨w.heap.size, 0, none⟩ : Addr).add j) = some u := fun j u hu => by
  rw [addr_add, Nat.zero_add, cell_of_row _ _ _ _ _ _ (heap_alloc_new w _)]
  simpa using hu
end Go.Proofs.YthadnogcocmfgaaGreatDoor

namespace Go.Proofs.YthadnogcocmfgaaGreatDoor
set_option linter.unusedVariables false
set_option linter.unusedSimpArgs false
open Go.RowKit Go.Great Go.Lib

theorem takeR {P : Program} {md : Region.Mode} {ops : Array Oper} {Q : Exit → Act → World → Prop} {S : World → Prop} {i : Nat} {oi : Oper} {v : Value} {fuel : Nat} {listed : Array Bool} {a : Act} {w : World} (d : Option Tmp) (hi : ops[i]? = some oi) (hd : oi.dst = d)
    (hs : Region.noSelect ops = true) (hf : Region.free md ops listed i = true) (hr : (Region.ready md ops listed).contains i = true)
    (hQ : ∀ c a w, Q (.panic c) (a.put d v) w → Q (.panic c) a w) (hy : YieldsIf P ops S oi v a) (hS : S w)
    (h : wpAnyH P md ops Q S fuel (listed.setIfInBounds i true) (a.put d v) w) : wpAnyH P md ops Q S (fuel + 1) listed a w := by
  subst hd
  exact wpAnyH_take hi hs hf hr hQ hy hS h
theorem callR {P : Program} {op : Oper} {a : Act} {w : World} {K : Act → World → Prop} {Q : Exit → Act → World → Prop} {d : Option Tmp} (hd : op.dst = d)
    (f : FuncId) (args : Array Value) (hrun : (execOp a.eval op).run P w = .ok (.enter f args) w) {R : Ending → World → Prop} (hc : Calls P f args w R)
    (h : ∀ e w', R e w' → ∃ v, e = .returned v ∧ K (a.put d v) w') : op.wp P a w K Q := by
  subst hd
  unfold Oper.wp
  rw [hrun, Oper.upon_enter]
  refine hc.mono fun e w'' hh => ?_
  obtain ⟨v, rfl, hw⟩ := h _ _ hh
  exact hw
theorem enc_num (M : Msg) {j : Nat} (hj : j < 42) (hs : isStr j = false) : be (wd j) (u64N (vN M j)) = encF M j := by
  unfold encF vN
  rw [hs]
  simp only [Bool.false_eq_true, reduceIte]
  cases hb : isBoo j
  · simp
  · simp only [reduceIte]
    rw [wd_boo hj hb]
    cases M.b j <;> rfl
theorem u64_wrapR {z : Int} : IntKind.u64.wrap z = ((u64N z : Nat) : Int) := by
  rw [IntKind.wrap_u64]; unfold u64N
  have := Int.emod_nonneg z (show (18446744073709551616 : Int) ≠ 0 by decide)
  omega
theorem u64_lt (z : Int) : u64N z < 18446744073709551616 := by
  unfold u64N
  have := Int.emod_nonneg z (show (18446744073709551616 : Int) ≠ 0 by decide)
  have := Int.emod_lt_of_pos z (show (0 : Int) < 18446744073709551616 by decide)
  omega
/-- What Raw has behind so many fields. -/
def rawL (M : Msg) (k : Nat) : List UInt8 := hdL (M.z 0) ++ zer 4 ++ blkL M ((js (M.z 0)).take k)
theorem rawL_succ (M : Msg) {k j : Nat} (h : (js (M.z 0))[k]? = some j) : rawL M (k + 1) = rawL M k ++ encF M j := by
  unfold rawL
  rw [List.take_add_one, h, blkL_app]
  simp [blkL, List.append_assoc]
theorem rawL_length {M : Msg} (hf : ∀ j ∈ js (M.z 0), j < 42 ∧ Fit1 M j) (k : Nat) : (rawL M k).length = 10 + wS ((js (M.z 0)).take k) := by
  unfold rawL
  rw [List.length_append, List.length_append, hdL_length, zer_length, blkL_length _ (fun j hj => hf j (List.mem_of_mem_take hj))]
theorem seal_raw {M : Msg} (h : valE M = 0) : sealL (rawL M (js (M.z 0)).length ++ zer (padN (wS (js (M.z 0))))) = frameL M := by
  have e : rawL M (js (M.z 0)).length ++ zer (padN (wS (js (M.z 0)))) = hdL (M.z 0) ++ (zer 4 ++ bodyB M) := by
    unfold rawL bodyB
    rw [List.take_length]
    simp [List.append_assoc]
  rw [e]
  have h6 := hdL_length (M.z 0)
  have t6 : (hdL (M.z 0) ++ (zer 4 ++ bodyB M)).take 6 = hdL (M.z 0) := by rw [← h6]; exact List.take_left
  have d10 : (hdL (M.z 0) ++ (zer 4 ++ bodyB M)).drop 10 = bodyB M := by
    rw [← List.append_assoc]
    have hl : (hdL (M.z 0) ++ zer 4).length = 10 := by rw [List.length_append, h6, zer_length]
    rw [← hl]
    exact List.drop_left
  unfold sealL frameL
  rw [t6, d10]
theorem enc_at {M : Msg} {j q : Nat} (hs : isStr j = true) (hq : q < (M.s j).size) : (encF M j)[q]? = some (M.s j)[q] := by
  unfold encF
  rw [if_pos hs, List.getElem?_append_left (by rw [Array.length_toList]; exact hq), Array.getElem?_toList]
  exact Array.getElem?_eq_getElem hq
theorem enc_pad {M : Msg} {j q : Nat} (hs : isStr j = true) (hq : (M.s j).size ≤ q) (hq2 : q < wd j) : (encF M j)[q]? = some 0 := by
  unfold encF zer
  have hl : (M.s j).data.toList.length = (M.s j).size := Array.length_toList
  rw [if_pos hs, List.getElem?_append_right (by omega), List.getElem?_replicate, if_pos (by omega)]
theorem bc_take {l : List UInt8} {q : Nat} {c : UInt8} (h : l[q]? = some c) (X : List UInt8) : byteCells (X ++ l.take (q + 1)) = byteCells (X ++ l.take q) ++ [.int .u8 (c.toNat : Int)] := by
  rw [List.take_add_one, h, ← List.append_assoc, bc_app]
  rfl
set_option maxRecDepth 100000 in
set_option maxHeartbeats 4000000 in
theorem Raw_any (M : Msg) (w : World) (hv : valE M = 0) (hok : M.ok) :
    Calls Tryz.prog 35 #[.agg M.cs] w fun e w' => ∃ v, e = .returned v ∧ w'.ownsRow w.heap.size 5 1 v (frameL M).length (byteCells (frameL M)) ∧ Below w.heap.size w w' := by
  obtain ⟨i0, hi, hz0, hz1, hz2⟩ := info_parts info5
  have hK := (valid_fit hv).1
  have hsz := size_eq hK
  have HJ : Hid (js (M.z 0) ≠ [] ∧ ∀ j ∈ js (M.z 0), j < 42 ∧ Fit1 M j) := ⟨(js_yes hK).1, js_fit hv⟩
  have HV : Hid (valE M = 0 ∧ sizeN (M.z 0) = 10 + (wS (js (M.z 0)) + 7) / 8 * 8 ∧ (frameL M).length = sizeN (M.z 0)) := ⟨hv, hsz.1, frame_length hv⟩
  have hN418 := hsz.2.1
  have HO1 : Hid (OwnM (w.alloc (.cells M.cs 23)) w.heap.size M ∧ Below w.heap.size w (w.alloc (.cells M.cs 23))) := ⟨heap_alloc_new w _, (Below.refl _ w).alloc (Nat.le_refl _) _⟩
  obtain ⟨N, hN⟩ : ∃ N, N = sizeN (M.z 0) := ⟨_, rfl⟩
  rw [← hN] at hN418
  have HSz : Hid (∀ w', Calls Tryz.prog 15 #[.int .i64 (M.z 0)] w' fun e w'' => e = .returned (.int .i64 (N : Int)) ∧ Below w'.heap.size w' w'') := fun w' => by rw [hN]; exact refSizeOf_any (M.z 0) w'
  have HN : Hid (N = sizeN (M.z 0)) := hN
  have hA3 := u8_wrap (M.z 0)
  have HH : Hid (byteCells (rawL M 0) = bvals ([79, 67] ++ putTo N 2 2) ++ [.int .u8 ((UInt8.ofNat (u64N (M.z 0) % 256)).toNat : Int), .int .u8 1, .int .u8 0, .int .u8 0, .int .u8 0, .int .u8 0]) := by
    show byteCells (rawL M 0) = _
    unfold rawL hdL
    rw [hN, List.take_zero, show blkL M [] = [] from rfl, List.append_nil, bc_app, bc_app, bc_app, bc_be, bvals_append]
    simp [byteCells, bvals, zer]
  generalize UInt8.ofNat (u64N (M.z 0) % 256) = A3 at *
  clear hv hK hsz hN
  go_enter Tryz.func35, Tryz.ntmps35
  go_upto_region 1 with fail
  generalize w.alloc (.cells M.cs 23) = w1 at *
  have HC : Hid (∀ w', Below w1.heap.size w1 w' → w'.cell? ⟨w.heap.size, 0, none⟩ = some (.int .i64 (M.z 0)) ∧ OwnM w' w.heap.size M) := fun w' hb => ⟨(HO1.out.1.low hb).cell 0 (by decide), HO1.out.1.low hb⟩
  have Hw1 : Hid (Below w.heap.size w w1 ∧ w.heap.size < w1.heap.size) := ⟨HO1.out.2, HO1.out.1.lt⟩
  clear HO1
  go_upto_region 2 with fail
  have HO2 : Hid ((w1.alloc (.cells #[.int .u8 79, .int .u8 67] 5)).ownsRow w1.heap.size 5 1 (.slice (some ⟨w1.heap.size, 0, none⟩) 2 2) 2 (bvals [79, 67]) ∧ Below w1.heap.size w1 (w1.alloc (.cells #[.int .u8 79, .int .u8 67] 5))) :=
    ⟨⟨rfl, .inr ⟨w1.heap.size, 2, _, rfl, Nat.le_refl _, heap_alloc_new w1 _, by omega, by unfold maxLen; omega, rfl, rfl⟩⟩, (Below.refl _ w1).alloc (Nat.le_refl _) _⟩
  generalize w1.alloc (.cells #[.int .u8 79, .int .u8 67] 5) = w2 at *
  have c2 := (HC.out w2 HO2.out.2).1
  go_wp2_with (go_at_call 15; fail)
  refine (HSz.out w2).mono ?_
  rintro e w3 ⟨rfl, hb3⟩
  have HO3 : Hid (w3.ownsRow w1.heap.size 5 1 (.slice (some ⟨w1.heap.size, 0, none⟩) 2 2) 2 (bvals [79, 67]) ∧ Below w1.heap.size w1 w3) := ⟨row_keep HO2.out.1 (fun b _ h2 => hb3.block b h2), HO2.out.2.trans (hb3.mono HO2.out.2.size)⟩
  clear hb3 HO2 c2
  have hwN : IntKind.u64.wrap (N : Int) = (N : Int) := by rw [IntKind.wrap_u64]; omega
  go_wp2_with (go_at_call 109; fail)
  refine (big_any w1.heap.size _ 2 [79, 67] N 2 (by decide) w3 (by omega) (by omega) HO3.out.1 HO3.out.2.size).mono ?_
  rintro e w4 ⟨v4, rfl, ho4, hb4⟩
  obtain ⟨a4, k4, rfl⟩ := own_form3 ho4
  have HO4 : Hid (w4.ownsRow w1.heap.size 5 1 (.slice a4 4 k4) 4 (bvals ([79, 67] ++ putTo N 2 2)) ∧ Below w1.heap.size w1 w4) := ⟨ho4, HO3.out.2.trans hb4⟩
  clear ho4 hb4 HO3
  have c4 := (HC.out w4 HO4.out.2).1
  have hnew : Hid (∀ j u, [Value.int .u8 (A3.toNat : Int), .int .u8 1, .int .u8 0, .int .u8 0, .int .u8 0, .int .u8 0][j]? = some u → (w4.alloc (.cells #[.int .u8 (A3.toNat : Int), .int .u8 1, .int .u8 0, .int .u8 0, .int .u8 0, .int .u8 0] 5)).cell? ((⟨w4.heap.size, 0, none⟩ : Addr).add j) = some u) := cells_new w4 _ 5
  go_upto_region 4 with (at_builtin; refine wpList_append_own _ rfl _ _ 28 rfl w1.heap.size 5 i0 (.int .u8 0) 1 1 Tryz.underlying28 hi hz0 hz1 hz2 rfl (by decide) _ 4 (bvals ([79, 67] ++ putTo N 2 2)) rfl (HO4.out.1.alloc _) ⟨w4.heap.size, 0, none⟩ 6 6 [.int .u8 (A3.toNat : Int), .int .u8 1, .int .u8 0, .int .u8 0, .int .u8 0, .int .u8 0] rfl rfl hnew.out (fun x hx => by simp at hx; rcases hx with rfl | rfl | rfl <;> rfl) (by unfold maxLen; omega) (by omega) (by have := HO4.out.2.size; simp; omega) ?_; intro v5 w5 hown5 hgrow5 hnil5)
  have hb5 : Below w1.heap.size w1 w5 := below_grownBy (HO4.out.2.alloc HO4.out.2.size _) hgrow5 (Nat.le_refl _) (fun q hq => (HO4.out.1.lt q hq).1)
  rw [← HH.out] at hown5
  obtain ⟨a5, k5, rfl⟩ := own_form3 hown5
  have HO5 : Hid (w5.ownsRow w1.heap.size 5 1 (.slice a5 10 k5) 10 (byteCells (rawL M 0)) ∧ Below w1.heap.size w1 w5) := ⟨hown5, hb5⟩
  clear hown5 hgrow5 hnil5 hb5 HO4 c4 hnew HH hA3
  have c5 := (HC.out w5 HO5.out.2).1
  go_wp2_with (go_at_call 32; fail)
  refine (Fields_any (M.z 0) w5).mono ?_
  rintro e w6 ⟨v6, B, rfl, hB, ho6, hb6⟩
  obtain ⟨aF, cF, rfl⟩ := own_formR ho6
  obtain ⟨nf, hnf⟩ : ∃ nf, nf = (js (M.z 0)).length := ⟨_, rfl⟩
  rw [← hnf]
  obtain ⟨gF, cur, rfl, hgF, hcF⟩ : ∃ gF cur, aF = some ⟨gF, 0, none⟩ ∧ w6.heap[gF]? = some (.cells cur 3 (0, 0)) ∧ nf ≤ cF := by
    rcases ho6.2 with ⟨_, h0⟩ | ⟨gF, cF', cur, e1, e2, e3, e4, _⟩
    · exact absurd (List.length_eq_zero_iff.1 h0) HJ.out.1
    · injection e1 with e1 _ e5
      subst e1
      exact ⟨gF, cur, rfl, e3, by rw [hnf, e5]; exact e4⟩
  have HL : Hid (nf = (js (M.z 0)).length ∧ Oth w6 gF ∧ ∀ wr : World, wr.heap[gF]? = w6.heap[gF]? → ∀ k j, (js (M.z 0))[k]? = some j → wr.cell? ⟨gF, k, none⟩ = some (.int .i64 (tNum.getD j 0)) ∧ 1 ≤ j ∧ j < 42 ∧ Fit1 M j) := by
    refine ⟨hnf, ⟨cur, 3, (0, 0), hgF, by decide⟩, fun wr hwr k j hkj => ?_⟩
    have hc := ho6.cells (g := gF) rfl k (.int .i64 (tNum.getD j 0)) (by simp [tagV, hkj])
    rw [addr_add, Nat.zero_add] at hc
    have hm := List.mem_of_getElem? hkj
    exact ⟨(World.cell?_of_block hwr).trans hc, (mem_js.1 hm).1, (HJ.out.2 j hm).1, (HJ.out.2 j hm).2⟩
  have hnf41 : nf ≤ 41 := by rw [hnf]; exact jsU_len (M.z 0) 41
  have HO6 : Hid (w6.ownsRow w1.heap.size 5 1 (.slice a5 10 k5) 10 (byteCells (rawL M 0)) ∧ Below w1.heap.size w1 w6) := ⟨row_keep HO5.out.1 (fun b _ h2 => hb6.block b h2), HO5.out.2.trans (hb6.mono HO5.out.2.size)⟩
  clear ho6 hb6 hB hnf HO5 c5 hgF
  go_wp2
  go_loopw [3, 5, 6, 7, 8, 9, 10] (fun x3 x5 x6 x7 x8 x9 x10 wr => ∃ (k T : Nat) (ao : Option Addr) (co : Nat), k ≤ nf ∧ x5 = .int .i64 (k : Int) ∧ x3 = .slice ao T co ∧ Hid (T = 10 + wS ((js (M.z 0)).take k) ∧ wr.ownsRow w1.heap.size 5 1 (.slice ao T co) T (byteCells (rawL M k)) ∧ Below w1.heap.size w1 wr ∧ wr.heap[gF]? = w6.heap[gF]?)) (fun _ x5 _ _ _ _ _ _ => nf - (RowKit.intOf x5).toNat)
  case atStart => exact ⟨0, 10, a5, k5, Nat.zero_le _, rfl, rfl, rfl, HO6.out.1, HO6.out.2, rfl⟩
  case round =>
    obtain ⟨k, T, ao, co, hk, rfl, rfl, HR⟩ := hrel
    by_cases hlt : k < nf
    · have hlt' : (k : Int) < (nf : Int) := by omega
      obtain ⟨j, hj⟩ : ∃ j, (js (M.z 0))[k]? = some j := ⟨_, List.getElem?_eq_getElem (by rw [← HL.out.1]; exact hlt)⟩
      obtain ⟨hcl, j1, j42, hfit⟩ := HL.out.2.2 wr HR.out.2.2.2 k j hj
      have HS1 : Hid (Unit → _) := fun _ => refSize_any j j1 j42 wr
      have hT : T + wd j ≤ N := by
        have h1 := wS_take_succ hj
        have h2 := wS_take_le (js (M.z 0)) (k + 1)
        have h3 := HR.out.1
        have h4 := HV.out.2.1
        have h5 := HN.out
        omega
      have HT2 : Hid (T + wd j = 10 + wS ((js (M.z 0)).take (k + 1)) ∧ rawL M (k + 1) = rawL M k ++ encF M j ∧ (encF M j).length = wd j) := by
        have h1 := wS_take_succ hj
        have h3 := HR.out.1
        refine ⟨by omega, rawL_succ M hj, encF_length j42 hfit⟩
      have hw60 := wd_le j
      have HVa : Hid (∀ w', _) := fun w' => val_at M j j42 w'
      have Hcl : Hid (∀ w' : World, w'.heap[gF]? = w6.heap[gF]? → w'.cell? ⟨gF, k, none⟩ = some (.int .i64 (tNum.getD j 0))) := fun w' h => (HL.out.2.2 w' h k j hj).1
      have hFlt : Hid (gF < wr.heap.size) := by
        have := HL.out.2.1
        exact (this.keep HR.out.2.2.2).lt
      cases hs : isStr j
      · cases hb : isBoo j
        · rw [how_num j42 hs hb] at HS1
          go_wp2_with (go_at_call 33; fail)
          refine (HS1.out ()).mono ?_
          rintro e w7 ⟨rfl, rfl⟩
          go_upto_region 9 with fail
          rename_i KK hKK
          refine wp_region_held (S := fun w' => OwnM w' w.heap.size M ∧ w'.cell? ⟨gF, k, none⟩ = some (.int .i64 (tNum.getD j 0))) (by kernel_rfl) ?_
          change wpAnyH _ _ _ _ _ _ _ _ (World.drew _)
          have HD : Hid (w7.drew.ownsRow w1.heap.size 5 1 (.slice ao T co) T (byteCells (rawL M k)) ∧ Below w1.heap.size w1 w7.drew ∧ w7.drew.heap[gF]? = w6.heap[gF]?) := ⟨HR.out.2.1, below_drewN HR.out.2.2.1 1, HR.out.2.2.2⟩
          generalize w7.drew = w8 at *
          have hS8 : OwnM w8 w.heap.size M ∧ w8.cell? ⟨gF, k, none⟩ = some (.int .i64 (tNum.getD j 0)) := ⟨(HC.out w8 HD.out.2.1).2, Hcl.out w8 HD.out.2.2⟩
          have HVb := HVa.out w8
          refine takeR (i := 0) (v := .agg M.cs) (some 42) rfl rfl (by kernel_rfl) (by kernel_rfl) (by kernel_rfl) (fun _ _ _ h => h) (Or.inl ⟨by kernel_rfl, fun w' hSw => loadM_run hSw.1 (.tmp 1) rfl (by kernel_rfl)⟩) hS8 ?_
          simp only [Act.put, List.setIfInBounds_toArray, List.set_cons_zero, List.set_cons_succ]
          refine takeR (i := 1) (v := .slice (some ⟨gF, 0, none⟩) nf cF) (some 43) rfl rfl (by kernel_rfl) (by kernel_rfl) (by kernel_rfl) (fun _ _ _ h => h) (Or.inl ⟨by kernel_rfl, fun _ _ => by kernel_rfl⟩) hS8 ?_
          simp only [Act.put, List.setIfInBounds_toArray, List.set_cons_zero, List.set_cons_succ]
          refine takeR (i := 2) (v := .int .i64 (k : Int)) (some 44) rfl rfl (by kernel_rfl) (by kernel_rfl) (by kernel_rfl) (fun _ _ _ h => h) (Or.inl ⟨by kernel_rfl, fun _ _ => by kernel_rfl⟩) hS8 ?_
          simp only [Act.put, List.setIfInBounds_toArray, List.set_cons_zero, List.set_cons_succ]
          refine takeR (i := 3) (v := .pointer (some ⟨gF, k, none⟩)) (some 45) rfl rfl (by kernel_rfl) (by kernel_rfl) (by kernel_rfl) (fun _ _ _ h => h) (Or.inl ⟨by kernel_rfl, fun w' hSw => by clear hSw; go_simp⟩) hS8 ?_
          simp only [Act.put, List.setIfInBounds_toArray, List.set_cons_zero, List.set_cons_succ]
          refine takeR (i := 4) (v := .int .i64 (tNum.getD j 0)) (some 46) rfl rfl (by kernel_rfl) (by kernel_rfl) (by kernel_rfl) (fun _ _ _ h => h) (Or.inl ⟨by kernel_rfl, fun w' hSw => by obtain ⟨_, q0⟩ := hSw; go_simp⟩) hS8 ?_
          simp only [Act.put, List.setIfInBounds_toArray, List.set_cons_zero, List.set_cons_succ]
          refine wpAnyH_ready (rs := [5]) (by kernel_rfl) (by simp) ?_
          refine AllReadyH.cons rfl (fun K' hK' => ?_) AllReadyH.nil
          rw [if_pos (by kernel_rfl)]
          refine callR (d := some 47) rfl 105 #[.agg M.cs, .int .i64 (tNum.getD j 0)] (by kernel_rfl) HVb ?_
          rintro e w9 ⟨rfl, hb9⟩
          refine ⟨_, rfl, ?_⟩
          have HQ : Hid (w9.ownsRow w1.heap.size 5 1 (.slice ao T co) T (byteCells (rawL M k)) ∧ Below w1.heap.size w1 w9 ∧ w9.heap[gF]? = w6.heap[gF]?) := ⟨row_keep HD.out.1 (fun b _ h2 => hb9.block b h2), HD.out.2.1.trans (hb9.mono HD.out.2.1.size), (hb9.block gF ((HL.out.2.1.keep HD.out.2.2).lt)).trans HD.out.2.2⟩
          have hS9 : OwnM w9 w.heap.size M ∧ w9.cell? ⟨gF, k, none⟩ = some (.int .i64 (tNum.getD j 0)) := ⟨(HC.out w9 HQ.out.2.1).2, Hcl.out w9 HQ.out.2.2⟩
          refine hK'.out _ _ hS9 (fun _ => ?_)
          clear hK' HVb hb9 HD hS8
          simp only [Act.put, List.setIfInBounds_toArray, List.set_cons_zero, List.set_cons_succ]
          refine takeR (i := 6) (v := .tuple #[.int .i64 (vN M j), .string (vS M j)]) (some 41) rfl rfl (by kernel_rfl) (by kernel_rfl) (by kernel_rfl) (fun _ _ _ h => h) (Or.inl ⟨by kernel_rfl, fun _ _ => by kernel_rfl⟩) hS9 ?_
          simp only [Act.put, List.setIfInBounds_toArray, List.set_cons_zero, List.set_cons_succ]
          refine takeR (i := 7) (v := .int .i64 (vN M j)) (some 48) rfl rfl (by kernel_rfl) (by kernel_rfl) (by kernel_rfl) (fun _ _ _ h => h) (Or.inl ⟨by kernel_rfl, fun _ _ => by kernel_rfl⟩) hS9 ?_
          simp only [Act.put, List.setIfInBounds_toArray, List.set_cons_zero, List.set_cons_succ]
          refine takeR (i := 8) (v := .string (vS M j)) (some 49) rfl rfl (by kernel_rfl) (by kernel_rfl) (by kernel_rfl) (fun _ _ _ h => h) (Or.inl ⟨by kernel_rfl, fun _ _ => by kernel_rfl⟩) hS9 ?_
          simp only [Act.put, List.setIfInBounds_toArray, List.set_cons_zero, List.set_cons_succ]
          refine takeR (i := 9) (v := .int .i64 (vN M j)) (some 8) rfl rfl (by kernel_rfl) (by kernel_rfl) (by kernel_rfl) (fun _ _ _ h => h) (Or.inl ⟨by kernel_rfl, fun _ _ => by kernel_rfl⟩) hS9 ?_
          simp only [Act.put, List.setIfInBounds_toArray, List.set_cons_zero, List.set_cons_succ]
          refine takeR (i := 10) (v := .string (vS M j)) (some 9) rfl rfl (by kernel_rfl) (by kernel_rfl) (by kernel_rfl) (fun _ _ _ h => h) (Or.inl ⟨by kernel_rfl, fun _ _ => by kernel_rfl⟩) hS9 ?_
          simp only [Act.put, List.setIfInBounds_toArray, List.set_cons_zero, List.set_cons_succ]
          refine wpAnyH_done (by kernel_rfl) ?_ _
          refine hKK _ _ ?_
          clear hKK KK hS9 HVa HS1 HR hcl
          have HU : Hid (be (wd j) (u64N (vN M j)) = encF M j) := enc_num M j42 hs
          have hwr := u64_wrapR (z := vN M j)
          have hu64 := u64_lt (vN M j)
          have hwn := wd_num j42 hs
          generalize u64N (vN M j) = U at *
          generalize vN M j = VN at *
          generalize vS M j = VS at *
          go_wp2_with (go_at_call 109; fail)
          refine (big_any2 w1.heap.size (.slice ao T co) T ((rawL M k).map UInt8.toNat) U (wd j) hwn.2 w9 (by omega) hu64 (by rw [bv_map]; exact HQ.out.1) HQ.out.2.1.size gF (HL.out.2.1.keep HQ.out.2.2)).mono ?_
          rintro e w10 ⟨v10, rfl, ho10, hb10, hq10⟩
          obtain ⟨a10, c10, rfl⟩ := own_form3 ho10
          have HX : Hid (w10.ownsRow w1.heap.size 5 1 (.slice a10 (T + wd j) c10) (T + wd j) (byteCells (rawL M (k + 1))) ∧ Below w1.heap.size w1 w10 ∧ w10.heap[gF]? = w6.heap[gF]?) := by
            refine ⟨?_, HQ.out.2.1.trans hb10, hq10.trans HQ.out.2.2⟩
            rw [HT2.out.2.1, ← HU.out, bc_app, bc_be, ← bv_map (rawL M k), ← bvals_append]
            exact ho10
          clear ho10 hb10 hq10 HQ hwr
          go_wp2
          exact ⟨⟨k + 1, T + wd j, a10, c10, by omega, by go_num, rfl, HT2.out.1, HX.out.1, HX.out.2.1, HX.out.2.2⟩, by simp [RowKit.intOf]; omega⟩
        · rw [how_boo j42 hb] at HS1
          go_wp2_with (go_at_call 33; fail)
          refine (HS1.out ()).mono ?_
          rintro e w7 ⟨rfl, rfl⟩
          go_upto_region 9 with fail
          rename_i KK hKK
          refine wp_region_held (S := fun w' => OwnM w' w.heap.size M ∧ w'.cell? ⟨gF, k, none⟩ = some (.int .i64 (tNum.getD j 0))) (by kernel_rfl) ?_
          change wpAnyH _ _ _ _ _ _ _ _ (World.drew _)
          have HD : Hid (w7.drew.ownsRow w1.heap.size 5 1 (.slice ao T co) T (byteCells (rawL M k)) ∧ Below w1.heap.size w1 w7.drew ∧ w7.drew.heap[gF]? = w6.heap[gF]?) := ⟨HR.out.2.1, below_drewN HR.out.2.2.1 1, HR.out.2.2.2⟩
          generalize w7.drew = w8 at *
          have hS8 : OwnM w8 w.heap.size M ∧ w8.cell? ⟨gF, k, none⟩ = some (.int .i64 (tNum.getD j 0)) := ⟨(HC.out w8 HD.out.2.1).2, Hcl.out w8 HD.out.2.2⟩
          have HVb := HVa.out w8
          refine takeR (i := 0) (v := .agg M.cs) (some 42) rfl rfl (by kernel_rfl) (by kernel_rfl) (by kernel_rfl) (fun _ _ _ h => h) (Or.inl ⟨by kernel_rfl, fun w' hSw => loadM_run hSw.1 (.tmp 1) rfl (by kernel_rfl)⟩) hS8 ?_
          simp only [Act.put, List.setIfInBounds_toArray, List.set_cons_zero, List.set_cons_succ]
          refine takeR (i := 1) (v := .slice (some ⟨gF, 0, none⟩) nf cF) (some 43) rfl rfl (by kernel_rfl) (by kernel_rfl) (by kernel_rfl) (fun _ _ _ h => h) (Or.inl ⟨by kernel_rfl, fun _ _ => by kernel_rfl⟩) hS8 ?_
          simp only [Act.put, List.setIfInBounds_toArray, List.set_cons_zero, List.set_cons_succ]
          refine takeR (i := 2) (v := .int .i64 (k : Int)) (some 44) rfl rfl (by kernel_rfl) (by kernel_rfl) (by kernel_rfl) (fun _ _ _ h => h) (Or.inl ⟨by kernel_rfl, fun _ _ => by kernel_rfl⟩) hS8 ?_
          simp only [Act.put, List.setIfInBounds_toArray, List.set_cons_zero, List.set_cons_succ]
          refine takeR (i := 3) (v := .pointer (some ⟨gF, k, none⟩)) (some 45) rfl rfl (by kernel_rfl) (by kernel_rfl) (by kernel_rfl) (fun _ _ _ h => h) (Or.inl ⟨by kernel_rfl, fun w' hSw => by clear hSw; go_simp⟩) hS8 ?_
          simp only [Act.put, List.setIfInBounds_toArray, List.set_cons_zero, List.set_cons_succ]
          refine takeR (i := 4) (v := .int .i64 (tNum.getD j 0)) (some 46) rfl rfl (by kernel_rfl) (by kernel_rfl) (by kernel_rfl) (fun _ _ _ h => h) (Or.inl ⟨by kernel_rfl, fun w' hSw => by obtain ⟨_, q0⟩ := hSw; go_simp⟩) hS8 ?_
          simp only [Act.put, List.setIfInBounds_toArray, List.set_cons_zero, List.set_cons_succ]
          refine wpAnyH_ready (rs := [5]) (by kernel_rfl) (by simp) ?_
          refine AllReadyH.cons rfl (fun K' hK' => ?_) AllReadyH.nil
          rw [if_pos (by kernel_rfl)]
          refine callR (d := some 47) rfl 105 #[.agg M.cs, .int .i64 (tNum.getD j 0)] (by kernel_rfl) HVb ?_
          rintro e w9 ⟨rfl, hb9⟩
          refine ⟨_, rfl, ?_⟩
          have HQ : Hid (w9.ownsRow w1.heap.size 5 1 (.slice ao T co) T (byteCells (rawL M k)) ∧ Below w1.heap.size w1 w9 ∧ w9.heap[gF]? = w6.heap[gF]?) := ⟨row_keep HD.out.1 (fun b _ h2 => hb9.block b h2), HD.out.2.1.trans (hb9.mono HD.out.2.1.size), (hb9.block gF ((HL.out.2.1.keep HD.out.2.2).lt)).trans HD.out.2.2⟩
          have hS9 : OwnM w9 w.heap.size M ∧ w9.cell? ⟨gF, k, none⟩ = some (.int .i64 (tNum.getD j 0)) := ⟨(HC.out w9 HQ.out.2.1).2, Hcl.out w9 HQ.out.2.2⟩
          refine hK'.out _ _ hS9 (fun _ => ?_)
          clear hK' HVb hb9 HD hS8
          simp only [Act.put, List.setIfInBounds_toArray, List.set_cons_zero, List.set_cons_succ]
          refine takeR (i := 6) (v := .tuple #[.int .i64 (vN M j), .string (vS M j)]) (some 41) rfl rfl (by kernel_rfl) (by kernel_rfl) (by kernel_rfl) (fun _ _ _ h => h) (Or.inl ⟨by kernel_rfl, fun _ _ => by kernel_rfl⟩) hS9 ?_
          simp only [Act.put, List.setIfInBounds_toArray, List.set_cons_zero, List.set_cons_succ]
          refine takeR (i := 7) (v := .int .i64 (vN M j)) (some 48) rfl rfl (by kernel_rfl) (by kernel_rfl) (by kernel_rfl) (fun _ _ _ h => h) (Or.inl ⟨by kernel_rfl, fun _ _ => by kernel_rfl⟩) hS9 ?_
          simp only [Act.put, List.setIfInBounds_toArray, List.set_cons_zero, List.set_cons_succ]
          refine takeR (i := 8) (v := .string (vS M j)) (some 49) rfl rfl (by kernel_rfl) (by kernel_rfl) (by kernel_rfl) (fun _ _ _ h => h) (Or.inl ⟨by kernel_rfl, fun _ _ => by kernel_rfl⟩) hS9 ?_
          simp only [Act.put, List.setIfInBounds_toArray, List.set_cons_zero, List.set_cons_succ]
          refine takeR (i := 9) (v := .int .i64 (vN M j)) (some 8) rfl rfl (by kernel_rfl) (by kernel_rfl) (by kernel_rfl) (fun _ _ _ h => h) (Or.inl ⟨by kernel_rfl, fun _ _ => by kernel_rfl⟩) hS9 ?_
          simp only [Act.put, List.setIfInBounds_toArray, List.set_cons_zero, List.set_cons_succ]
          refine takeR (i := 10) (v := .string (vS M j)) (some 9) rfl rfl (by kernel_rfl) (by kernel_rfl) (by kernel_rfl) (fun _ _ _ h => h) (Or.inl ⟨by kernel_rfl, fun _ _ => by kernel_rfl⟩) hS9 ?_
          simp only [Act.put, List.setIfInBounds_toArray, List.set_cons_zero, List.set_cons_succ]
          refine wpAnyH_done (by kernel_rfl) ?_ _
          refine hKK _ _ ?_
          clear hKK KK hS9 HVa HS1 HR hcl
          have HU : Hid (be (wd j) (u64N (vN M j)) = encF M j) := enc_num M j42 hs
          have hwr := u64_wrapR (z := vN M j)
          have hu64 := u64_lt (vN M j)
          have hwn := wd_num j42 hs
          generalize u64N (vN M j) = U at *
          generalize vN M j = VN at *
          generalize vS M j = VS at *
          go_wp2_with (go_at_call 109; fail)
          refine (big_any2 w1.heap.size (.slice ao T co) T ((rawL M k).map UInt8.toNat) U (wd j) hwn.2 w9 (by omega) hu64 (by rw [bv_map]; exact HQ.out.1) HQ.out.2.1.size gF (HL.out.2.1.keep HQ.out.2.2)).mono ?_
          rintro e w10 ⟨v10, rfl, ho10, hb10, hq10⟩
          obtain ⟨a10, c10, rfl⟩ := own_form3 ho10
          have HX : Hid (w10.ownsRow w1.heap.size 5 1 (.slice a10 (T + wd j) c10) (T + wd j) (byteCells (rawL M (k + 1))) ∧ Below w1.heap.size w1 w10 ∧ w10.heap[gF]? = w6.heap[gF]?) := by
            refine ⟨?_, HQ.out.2.1.trans hb10, hq10.trans HQ.out.2.2⟩
            rw [HT2.out.2.1, ← HU.out, bc_app, bc_be, ← bv_map (rawL M k), ← bvals_append]
            exact ho10
          clear ho10 hb10 hq10 HQ hwr
          go_wp2
          exact ⟨⟨k + 1, T + wd j, a10, c10, by omega, by go_num, rfl, HT2.out.1, HX.out.1, HX.out.2.1, HX.out.2.2⟩, by simp [RowKit.intOf]; omega⟩
      · rw [how_str j42 hs] at HS1
        go_wp2_with (go_at_call 33; fail)
        refine (HS1.out ()).mono ?_
        rintro e w7 ⟨rfl, rfl⟩
        go_upto_region 9 with fail
        rename_i KK hKK
        refine wp_region_held (S := fun w' => OwnM w' w.heap.size M ∧ w'.cell? ⟨gF, k, none⟩ = some (.int .i64 (tNum.getD j 0))) (by kernel_rfl) ?_
        change wpAnyH _ _ _ _ _ _ _ _ (World.drew _)
        have HD : Hid (w7.drew.ownsRow w1.heap.size 5 1 (.slice ao T co) T (byteCells (rawL M k)) ∧ Below w1.heap.size w1 w7.drew ∧ w7.drew.heap[gF]? = w6.heap[gF]?) := ⟨HR.out.2.1, below_drewN HR.out.2.2.1 1, HR.out.2.2.2⟩
        generalize w7.drew = w8 at *
        have hS8 : OwnM w8 w.heap.size M ∧ w8.cell? ⟨gF, k, none⟩ = some (.int .i64 (tNum.getD j 0)) := ⟨(HC.out w8 HD.out.2.1).2, Hcl.out w8 HD.out.2.2⟩
        have HVb := HVa.out w8
        refine takeR (i := 0) (v := .agg M.cs) (some 42) rfl rfl (by kernel_rfl) (by kernel_rfl) (by kernel_rfl) (fun _ _ _ h => h) (Or.inl ⟨by kernel_rfl, fun w' hSw => loadM_run hSw.1 (.tmp 1) rfl (by kernel_rfl)⟩) hS8 ?_
        simp only [Act.put, List.setIfInBounds_toArray, List.set_cons_zero, List.set_cons_succ]
        refine takeR (i := 1) (v := .slice (some ⟨gF, 0, none⟩) nf cF) (some 43) rfl rfl (by kernel_rfl) (by kernel_rfl) (by kernel_rfl) (fun _ _ _ h => h) (Or.inl ⟨by kernel_rfl, fun _ _ => by kernel_rfl⟩) hS8 ?_
        simp only [Act.put, List.setIfInBounds_toArray, List.set_cons_zero, List.set_cons_succ]
        refine takeR (i := 2) (v := .int .i64 (k : Int)) (some 44) rfl rfl (by kernel_rfl) (by kernel_rfl) (by kernel_rfl) (fun _ _ _ h => h) (Or.inl ⟨by kernel_rfl, fun _ _ => by kernel_rfl⟩) hS8 ?_
        simp only [Act.put, List.setIfInBounds_toArray, List.set_cons_zero, List.set_cons_succ]
        refine takeR (i := 3) (v := .pointer (some ⟨gF, k, none⟩)) (some 45) rfl rfl (by kernel_rfl) (by kernel_rfl) (by kernel_rfl) (fun _ _ _ h => h) (Or.inl ⟨by kernel_rfl, fun w' hSw => by clear hSw; go_simp⟩) hS8 ?_
        simp only [Act.put, List.setIfInBounds_toArray, List.set_cons_zero, List.set_cons_succ]
        refine takeR (i := 4) (v := .int .i64 (tNum.getD j 0)) (some 46) rfl rfl (by kernel_rfl) (by kernel_rfl) (by kernel_rfl) (fun _ _ _ h => h) (Or.inl ⟨by kernel_rfl, fun w' hSw => by obtain ⟨_, q0⟩ := hSw; go_simp⟩) hS8 ?_
        simp only [Act.put, List.setIfInBounds_toArray, List.set_cons_zero, List.set_cons_succ]
        refine wpAnyH_ready (rs := [5]) (by kernel_rfl) (by simp) ?_
        refine AllReadyH.cons rfl (fun K' hK' => ?_) AllReadyH.nil
        rw [if_pos (by kernel_rfl)]
        refine callR (d := some 47) rfl 105 #[.agg M.cs, .int .i64 (tNum.getD j 0)] (by kernel_rfl) HVb ?_
        rintro e w9 ⟨rfl, hb9⟩
        refine ⟨_, rfl, ?_⟩
        have HQ : Hid (w9.ownsRow w1.heap.size 5 1 (.slice ao T co) T (byteCells (rawL M k)) ∧ Below w1.heap.size w1 w9 ∧ w9.heap[gF]? = w6.heap[gF]?) := ⟨row_keep HD.out.1 (fun b _ h2 => hb9.block b h2), HD.out.2.1.trans (hb9.mono HD.out.2.1.size), (hb9.block gF ((HL.out.2.1.keep HD.out.2.2).lt)).trans HD.out.2.2⟩
        have hS9 : OwnM w9 w.heap.size M ∧ w9.cell? ⟨gF, k, none⟩ = some (.int .i64 (tNum.getD j 0)) := ⟨(HC.out w9 HQ.out.2.1).2, Hcl.out w9 HQ.out.2.2⟩
        refine hK'.out _ _ hS9 (fun _ => ?_)
        clear hK' HVb hb9 HD hS8
        simp only [Act.put, List.setIfInBounds_toArray, List.set_cons_zero, List.set_cons_succ]
        refine takeR (i := 6) (v := .tuple #[.int .i64 (vN M j), .string (vS M j)]) (some 41) rfl rfl (by kernel_rfl) (by kernel_rfl) (by kernel_rfl) (fun _ _ _ h => h) (Or.inl ⟨by kernel_rfl, fun _ _ => by kernel_rfl⟩) hS9 ?_
        simp only [Act.put, List.setIfInBounds_toArray, List.set_cons_zero, List.set_cons_succ]
        refine takeR (i := 7) (v := .int .i64 (vN M j)) (some 48) rfl rfl (by kernel_rfl) (by kernel_rfl) (by kernel_rfl) (fun _ _ _ h => h) (Or.inl ⟨by kernel_rfl, fun _ _ => by kernel_rfl⟩) hS9 ?_
        simp only [Act.put, List.setIfInBounds_toArray, List.set_cons_zero, List.set_cons_succ]
        refine takeR (i := 8) (v := .string (vS M j)) (some 49) rfl rfl (by kernel_rfl) (by kernel_rfl) (by kernel_rfl) (fun _ _ _ h => h) (Or.inl ⟨by kernel_rfl, fun _ _ => by kernel_rfl⟩) hS9 ?_
        simp only [Act.put, List.setIfInBounds_toArray, List.set_cons_zero, List.set_cons_succ]
        refine takeR (i := 9) (v := .int .i64 (vN M j)) (some 8) rfl rfl (by kernel_rfl) (by kernel_rfl) (by kernel_rfl) (fun _ _ _ h => h) (Or.inl ⟨by kernel_rfl, fun _ _ => by kernel_rfl⟩) hS9 ?_
        simp only [Act.put, List.setIfInBounds_toArray, List.set_cons_zero, List.set_cons_succ]
        refine takeR (i := 10) (v := .string (vS M j)) (some 9) rfl rfl (by kernel_rfl) (by kernel_rfl) (by kernel_rfl) (fun _ _ _ h => h) (Or.inl ⟨by kernel_rfl, fun _ _ => by kernel_rfl⟩) hS9 ?_
        simp only [Act.put, List.setIfInBounds_toArray, List.set_cons_zero, List.set_cons_succ]
        refine wpAnyH_done (by kernel_rfl) ?_ _
        refine hKK _ _ ?_
        clear hKK KK hS9 HVa HS1 HR hcl
        have hvS : vS M j = M.s j := by unfold vS; rw [if_pos hs]
        rw [hvS]
        clear hvS
        generalize vN M j = VN at *
        have hfs := (hfit.str hs).1
        have HEa : Hid (∀ q (h : q < (M.s j).size), (encF M j)[q]? = some (M.s j)[q]) := fun q h => enc_at hs h
        have HEp : Hid (∀ q, (M.s j).size ≤ q → q < wd j → (encF M j)[q]? = some 0) := fun q h1 h2 => enc_pad hs h1 h2
        generalize hSS : M.s j = SS at *
        go_upto_region 12 with fail
        go_loopw [3, 10] (fun x3 x10 wq => ∃ (q : Nat) (ao2 : Option Addr) (co2 : Nat), q ≤ wd j ∧ x10 = .int .i64 (q : Int) ∧ x3 = .slice ao2 (T + q) co2 ∧ Hid (wq.ownsRow w1.heap.size 5 1 (.slice ao2 (T + q) co2) (T + q) (byteCells (rawL M k ++ (encF M j).take q)) ∧ Below w1.heap.size w1 wq ∧ wq.heap[gF]? = w6.heap[gF]?)) (fun _ x10 _ => wd j - (RowKit.intOf x10).toNat)
        case atStart => exact ⟨0, ao, co, Nat.zero_le _, rfl, rfl, by rw [List.take_zero, List.append_nil]; exact HQ.out.1, HQ.out.2.1, HQ.out.2.2⟩
        case round =>
          obtain ⟨q, ao2, co2, hq, rfl, rfl, HP⟩ := hrel
          by_cases hlt2 : q < wd j
          · have hlt2' : (q : Int) < ((wd j : Nat) : Int) := by omega
            by_cases hsz2 : q < SS.size
            · have hsz2' : (q : Int) < (SS.size : Int) := by omega
              have hea := HEa.out q hsz2
              have HN0 : Hid (byteCells (rawL M k ++ (encF M j).take (q + 1)) = byteCells (rawL M k ++ (encF M j).take q) ++ [.int .u8 (SS[q].toNat : Int)]) := bc_take hea _
              clear hea
              obtain ⟨X, hX⟩ : ∃ X : Nat, X = SS[q].toNat := ⟨_, rfl⟩
              rw [← hX] at HN0
              have hnew : Hid (∀ j u, [Value.int .u8 (X : Int)][j]? = some u → (wr.alloc (.cells #[.int .u8 (X : Int)] 5)).cell? ((⟨wr.heap.size, 0, none⟩ : Addr).add j) = some u) := cell_one_new wr (.int .u8 (X : Int)) 5
              have HN1 : Hid (byteCells (rawL M k ++ (encF M j).take (q + 1)) = byteCells (rawL M k ++ (encF M j).take q) ++ [.int .u8 (X : Int)]) := HN0
              go_upto_region 15 with fail
              refine wp_region_lit ?_
              refine wpList_runTo rfl (some 61) rfl (.slice ao2 (T + q) co2) wr (by kernel_rfl) ?_
              refine wpList_runTo rfl (some 62) rfl (.string SS) wr (by kernel_rfl) ?_
              refine wpList_runTo rfl (some 63) rfl (.int .i64 (q : Int)) wr (by kernel_rfl) ?_
              simp only [Act.put, List.setIfInBounds_toArray, List.set_cons_zero, List.set_cons_succ]
              refine wpList_runTo rfl (some 64) rfl (.int .u8 (X : Int)) wr (by rw [hX]; go_simp) ?_
              clear hX
              refine wpList_runTo rfl (some 65) rfl (.slice (some ⟨wr.heap.size, 0, none⟩) 1 1) (wr.alloc (.cells #[.int .u8 (X : Int)] 5)) (by kernel_rfl) ?_
              simp only [Act.put, List.setIfInBounds_toArray, List.set_cons_zero, List.set_cons_succ]
              refine wpList_append_own _ rfl _ _ 28 rfl w1.heap.size 5 i0 (.int .u8 0) 1 1 Tryz.underlying28 hi hz0 hz1 hz2 rfl (by decide) _ (T + q) (byteCells (rawL M k ++ (encF M j).take q)) rfl (HP.out.1.alloc _) ⟨wr.heap.size, 0, none⟩ 1 1 [.int .u8 (X : Int)] rfl rfl hnew.out (fun x hx => by simp at hx; subst hx; rfl) (by unfold maxLen; omega) (by omega) (by have := HP.out.2.1.size; simp; omega) ?_
              intro v8 w10 hown8 hgrow8 hnil8
              obtain ⟨a10, c10, rfl⟩ := own_form3 hown8
              have HX : Hid (w10.ownsRow w1.heap.size 5 1 (.slice a10 (T + (q + 1)) c10) (T + (q + 1)) (byteCells (rawL M k ++ (encF M j).take (q + 1))) ∧ Below w1.heap.size w1 w10 ∧ w10.heap[gF]? = w6.heap[gF]?) := by
                refine ⟨by rw [HN1.out]; exact hown8, below_grownBy (HP.out.2.1.alloc HP.out.2.1.size _) hgrow8 (Nat.le_refl _) (fun q hq => (HP.out.1.lt q hq).1), (grow_other (HL.out.2.1.keep HP.out.2.2) HP.out.1 _ hgrow8).trans HP.out.2.2⟩
              clear hown8 hgrow8 hnil8 HP HN1 hnew
              refine wpList_runTo rfl (some 3) rfl (.slice a10 (T + (q + 1)) c10) w10 (by kernel_rfl) ?_
              refine wpList_nil ?_
              simp only [Act.put, List.setIfInBounds_toArray, List.set_cons_zero, List.set_cons_succ]
              go_wp2
              first | exact ⟨⟨q + 1, a10, c10, by omega, by go_num, by first | rfl | (rw [Nat.add_assoc]), HX.out⟩, by simp [RowKit.intOf]; omega⟩ | exact ⟨⟨q + 1, by omega, by go_num, a10, c10, by first | rfl | (rw [Nat.add_assoc]), HX.out⟩, by simp [RowKit.intOf]; omega⟩
            · have hsz2' : ¬ (q : Int) < (SS.size : Int) := by omega
              have hnew : Hid (∀ j u, [Value.int .u8 0][j]? = some u → (wr.alloc (.cells #[.int .u8 0] 5)).cell? ((⟨wr.heap.size, 0, none⟩ : Addr).add j) = some u) := cell_one_new wr (.int .u8 0) 5
              have HN1 : Hid (byteCells (rawL M k ++ (encF M j).take (q + 1)) = byteCells (rawL M k ++ (encF M j).take q) ++ [.int .u8 0]) := bc_take (HEp.out q (by omega) hlt2) _
              go_wp2_with (at_builtin; refine wpList_append_own _ rfl _ _ 28 rfl w1.heap.size 5 i0 (.int .u8 0) 1 1 Tryz.underlying28 hi hz0 hz1 hz2 rfl (by decide) _ (T + q) (byteCells (rawL M k ++ (encF M j).take q)) rfl (HP.out.1.alloc _) ⟨wr.heap.size, 0, none⟩ 1 1 [.int .u8 0] rfl rfl hnew.out (fun x hx => by simp at hx; subst hx; rfl) (by unfold maxLen; omega) (by omega) (by have := HP.out.2.1.size; simp; omega) ?_; intro v8 w10 hown8 hgrow8 hnil8)
              obtain ⟨a10, c10, rfl⟩ := own_form3 hown8
              have HX : Hid (w10.ownsRow w1.heap.size 5 1 (.slice a10 (T + (q + 1)) c10) (T + (q + 1)) (byteCells (rawL M k ++ (encF M j).take (q + 1))) ∧ Below w1.heap.size w1 w10 ∧ w10.heap[gF]? = w6.heap[gF]?) := by
                refine ⟨by rw [HN1.out]; exact hown8, below_grownBy (HP.out.2.1.alloc HP.out.2.1.size _) hgrow8 (Nat.le_refl _) (fun q hq => (HP.out.1.lt q hq).1), (grow_other (HL.out.2.1.keep HP.out.2.2) HP.out.1 _ hgrow8).trans HP.out.2.2⟩
              clear hown8 hgrow8 hnil8 HP HN1 hnew
              first | exact ⟨⟨q + 1, a10, c10, by omega, by go_num, by first | rfl | (rw [Nat.add_assoc]), HX.out⟩, by simp [RowKit.intOf]; omega⟩ | exact ⟨⟨q + 1, by omega, by go_num, a10, c10, by first | rfl | (rw [Nat.add_assoc]), HX.out⟩, by simp [RowKit.intOf]; omega⟩
          · obtain rfl : q = wd j := by omega
            have HX : Hid (wr.ownsRow w1.heap.size 5 1 (.slice ao2 (T + wd j) co2) (T + wd j) (byteCells (rawL M (k + 1))) ∧ Below w1.heap.size w1 wr ∧ wr.heap[gF]? = w6.heap[gF]?) := by
              have h := HP.out
              rw [← HT2.out.2.2, List.take_length, HT2.out.2.2, ← HT2.out.2.1] at h
              exact h
            clear HP
            go_wp2
            exact ⟨⟨k + 1, T + wd j, ao2, co2, by omega, by go_num, rfl, HT2.out.1, HX.out.1, HX.out.2.1, HX.out.2.2⟩, by simp [RowKit.intOf]; omega⟩
    · obtain rfl : k = nf := by omega
      have HE : Hid (T = 10 + wS (js (M.z 0)) ∧ wr.ownsRow w1.heap.size 5 1 (.slice ao T co) T (byteCells (rawL M (js (M.z 0)).length)) ∧ Below w1.heap.size w1 wr) := by
        have h := HR.out
        rw [HL.out.1, List.take_length] at h
        exact ⟨h.1, h.2.1, h.2.2.1⟩
      have hTN : T ≤ N := by have h1 := HE.out.1; have h2 := HV.out.2.1; have h3 := HN.out; omega
      clear HR hlt
      go_upto_region 18 with fail
      go_loopw [3] (fun x3 wq => ∃ (q : Nat) (ao2 : Option Addr) (co2 : Nat), T + q ≤ N ∧ x3 = .slice ao2 (T + q) co2 ∧ Hid (wq.ownsRow w1.heap.size 5 1 (.slice ao2 (T + q) co2) (T + q) (byteCells (rawL M (js (M.z 0)).length ++ zer q)) ∧ Below w1.heap.size w1 wq)) (fun x3 _ => N - slLen x3)
      case atStart => exact ⟨0, ao, co, hTN, rfl, by rw [show zer 0 = [] from rfl, List.append_nil]; exact HE.out.2.1, HE.out.2.2⟩
      case round =>
        obtain ⟨q, ao2, co2, hq, rfl, HP⟩ := hrel
        obtain ⟨TQ, hTQ⟩ : ∃ TQ : Nat, TQ = T + q := ⟨_, rfl⟩
        rw [← hTQ] at HP hq
        have HTQ : Hid (TQ = T + q) := hTQ
        rw [← hTQ]
        clear hTQ
        have c0 := (HC.out wr HP.out.2).1
        have hSz := HSz.out wr
        go_wp2_with (go_at_call 15; fail)
        refine hSz.mono ?_
        rintro e w8 ⟨rfl, hb8⟩
        have HP8 : Hid (w8.ownsRow w1.heap.size 5 1 (.slice ao2 TQ co2) TQ (byteCells (rawL M (js (M.z 0)).length ++ zer q)) ∧ Below w1.heap.size w1 w8) := ⟨row_keep HP.out.1 (fun b _ h2 => hb8.block b h2), HP.out.2.trans (hb8.mono HP.out.2.size)⟩
        clear hb8 HP c0 hSz
        by_cases hlt : TQ < N
        · have hlt' : (TQ : Int) < (N : Int) := by omega
          have hnew : Hid (∀ j u, [Value.int .u8 0][j]? = some u → (w8.alloc (.cells #[.int .u8 0] 5)).cell? ((⟨w8.heap.size, 0, none⟩ : Addr).add j) = some u) := cell_one_new w8 (.int .u8 0) 5
          go_wp2_with (at_builtin; refine wpList_append_own _ rfl _ _ 28 rfl w1.heap.size 5 i0 (.int .u8 0) 1 1 Tryz.underlying28 hi hz0 hz1 hz2 rfl (by decide) _ TQ (byteCells (rawL M (js (M.z 0)).length ++ zer q)) rfl (HP8.out.1.alloc _) ⟨w8.heap.size, 0, none⟩ 1 1 [.int .u8 0] rfl rfl hnew.out (fun x hx => by simp at hx; subst hx; rfl) (by unfold maxLen; omega) (by omega) (by have := HP8.out.2.size; simp; omega) ?_; intro v9 w9 hown9 hgrow9 hnil9)
          obtain ⟨a9, c9, rfl⟩ := own_form3 hown9
          have HX : Hid (w9.ownsRow w1.heap.size 5 1 (.slice a9 (T + (q + 1)) c9) (T + (q + 1)) (byteCells (rawL M (js (M.z 0)).length ++ zer (q + 1))) ∧ Below w1.heap.size w1 w9) := by
            rw [bc_app, zer_succ, ← List.append_assoc, ← bc_app, show T + (q + 1) = TQ + 1 by have := HTQ.out; omega]
            exact ⟨hown9, below_grownBy (HP8.out.2.alloc HP8.out.2.size _) hgrow9 (Nat.le_refl _) (fun q hq => (HP8.out.1.lt q hq).1)⟩
          clear hown9 hgrow9 hnil9 HP8 hnew
          exact ⟨⟨q + 1, a9, c9, by have := HTQ.out; omega, by rw [show T + (q + 1) = TQ + 1 by have := HTQ.out; omega], HX.out⟩, by have := HTQ.out; simp [slLen]; omega⟩
        · have hlt' : ¬ (TQ : Int) < (N : Int) := by omega
          obtain rfl : TQ = N := by omega
          obtain ⟨gr, rfl, hco, hatr, hlen⟩ := row_some HP8.out.1 (by have := HTQ.out; have := HE.out.1; omega)
          have hpad : q = padN (wS (js (M.z 0))) := by
            have h1 := HE.out.1
            have h2 := HV.out.2.1
            have h3 := HN.out
            have h4 := HTQ.out
            unfold padN
            omega
          have hsl := seal_raw HV.out.1
          rw [← hpad] at hsl
          have hSe := Sealed_any gr 0 TQ co2 _ w8 hlen (by have := HTQ.out; have := HE.out.1; omega) (by omega) hco hatr
          rw [hsl] at hSe
          have HFL : Hid ((frameL M).length = TQ ∧ Below w.heap.size w w8) := ⟨by rw [HV.out.2.2, ← HN.out], Hw1.out.1.trans (HP8.out.2.mono (Nat.le_of_lt Hw1.out.2))⟩
          clear hatr hlen hsl hpad HP8 hlt hlt' hq
          go_wp2_with (go_at_call 110; fail)
          refine hSe.mono ?_
          rintro e w9 ⟨v9, rfl, ho9, hb9⟩
          have HX : Hid (w9.ownsRow w.heap.size 5 1 v9 (frameL M).length (byteCells (frameL M)) ∧ Below w.heap.size w w9) := ⟨by rw [HFL.out.1]; exact own_mono ho9 HFL.out.2.size, HFL.out.2.trans (hb9.mono HFL.out.2.size)⟩
          clear ho9 hb9 hSe
          go_wp2
          go_ret
          exact ⟨_, rfl, HX.out.1, HX.out.2⟩
end Go.Proofs.YthadnogcocmfgaaGreatDoor
