import Derived.Test.YtkpoheknmcepnaaGreatDoorFrFeed
import Derived.Test.YtkpoheknmcepnaaGreatDoorBEnc
import Derived.Lib.SlBytesConst
import Derived.Test.YtkpoheknmcepnaaGreatDoorBSize

namespace Go.Proofs.YtkpoheknmcepnaaGreatDoor
set_option linter.unusedVariables false
set_option linter.unusedSimpArgs false
open Go.RowKit Go.Great Go.Shelf

/-- A framer as New makes it. -/
def newF (lk : FuncId) : Obj := .cells #[.func (.func lk) #[] #[], .slice none 0 0, .int .i64 0, .int .i64 0, .int .i64 0] 66
set_option maxRecDepth 100000 in
theorem New_text (w : World) : Calls Tryz.prog 8 #[.int .i64 1] w fun e w' => e = .returned (.tuple #[.pointer (some ⟨w.heap.size, 0, none⟩), .int .i64 0]) ∧ w' = w.alloc (newF 19) := by
  go_enter Tryz.func8, Tryz.ntmps8
  go_wp2
  go_ret2
  exact ⟨rfl, rfl⟩
set_option maxRecDepth 100000 in
theorem New_bin (w : World) : Calls Tryz.prog 8 #[.int .i64 2] w fun e w' => e = .returned (.tuple #[.pointer (some ⟨w.heap.size, 0, none⟩), .int .i64 0]) ∧ w' = w.alloc (newF 20) := by
  go_enter Tryz.func8, Tryz.ntmps8
  go_wp2
  go_ret2
  exact ⟨rfl, rfl⟩
set_option maxRecDepth 100000 in
theorem New_three (w : World) : Calls Tryz.prog 8 #[.int .i64 3] w fun e w' => e = .returned (.tuple #[.pointer none, .int .i64 1]) ∧ w' = w := by
  go_enter Tryz.func8, Tryz.ntmps8
  go_wp2
  go_ret2
  exact ⟨rfl, rfl⟩
set_option maxRecDepth 100000 in
theorem New_zero (w : World) : Calls Tryz.prog 8 #[.int .i64 0] w fun e w' => e = .returned (.tuple #[.pointer none, .int .i64 1]) ∧ w' = w := by
  go_enter Tryz.func8, Tryz.ntmps8
  go_wp2
  go_ret2
  exact ⟨rfl, rfl⟩
set_option maxRecDepth 100000 in
theorem Waits_any {w : World} {p wants K told n c : Nat} {a : Option Addr} {fv : Value} (h : FmB w p fv (.slice a n c) wants K told) :
    Calls Tryz.prog 13 #[.pointer (some ⟨p, 0, none⟩)] w fun e w' => e = .returned (.int .i64 (n : Int)) ∧ w' = w := by
  have h1 := h.at.2.1
  clear h
  go_enter Tryz.func13, Tryz.ntmps13
  go_wp2
  go_ret
  exact ⟨rfl, rfl⟩
set_option maxRecDepth 100000 in
theorem Junk_any {w : World} {p wants K told : Nat} {fv vb : Value} (h : FmB w p fv vb wants K told) :
    Calls Tryz.prog 12 #[.pointer (some ⟨p, 0, none⟩)] w fun e w' => e = .returned (.int .i64 (K : Int)) ∧ w' = w := by
  have h1 := h.at.2.2.2.1
  clear h
  go_enter Tryz.func12, Tryz.ntmps12
  go_wp2
  go_ret
  exact ⟨rfl, rfl⟩
end Go.Proofs.YtkpoheknmcepnaaGreatDoor

namespace Go.Proofs.YtkpoheknmcepnaaGreatDoor
set_option linter.unusedVariables false
set_option linter.unusedSimpArgs false
open Go.RowKit Go.Great Go.Shelf

/-- Which of n things a raw number speaks of. -/
def pickN (c : Int) (n : Nat) : Nat := (if c < 0 then (-(c + 1)) % (n : Int) else c % (n : Int)).toNat
theorem pickN_lt (c : Int) {n : Nat} (h : 0 < n) : pickN c n < n := by
  unfold pickN
  have h1 := Int.emod_lt_of_pos (-(c + 1)) (show (0 : Int) < n by omega)
  have h2 := Int.emod_nonneg (-(c + 1)) (show (n : Int) ≠ 0 by omega)
  have h3 := Int.emod_lt_of_pos c (show (0 : Int) < n by omega)
  have h4 := Int.emod_nonneg c (show (n : Int) ≠ 0 by omega)
  split <;> omega
set_option maxRecDepth 100000 in
set_option maxHeartbeats 400000 in
theorem pick_any (c x : Int) (n : Nat) (hx : x = n) (w : World) (hn : 0 < n) (hn1 : n ≤ 9223372036854775807) (h0 : -9223372036854775808 ≤ c) (h1 : c ≤ 9223372036854775807) :
    Calls Tryz.prog 9 #[.int .i64 c, .int .i64 x] w fun e w' => e = .returned (.int .i64 (pickN c n : Int)) ∧ w' = w := by
  subst hx
  have hp := pickN_lt c hn
  have hn' : ¬ (n : Int) = 0 := by omega
  by_cases hc : c < 0
  · have e : (c + 1).tmod (n : Int) = -(pickN c n : Int) := by
      have h2 := Int.emod_nonneg (-(c + 1)) (show (n : Int) ≠ 0 by omega)
      unfold pickN
      rw [if_pos hc, Int.toNat_of_nonneg h2, ← Int.tmod_eq_emod_of_nonneg (by omega), Int.neg_tmod, Int.neg_neg]
    generalize pickN c n = p at *
    go_enter Tryz.func9, Tryz.ntmps9
    go_wp2
    go_ret
    exact ⟨rfl, rfl⟩
  · have hc' : 0 ≤ c := by omega
    have e : c % (n : Int) = (pickN c n : Int) := by
      have h2 := Int.emod_nonneg c (show (n : Int) ≠ 0 by omega)
      unfold pickN
      rw [if_neg hc, Int.toNat_of_nonneg h2]
    generalize pickN c n = p at *
    go_enter Tryz.func9, Tryz.ntmps9
    go_wp2
    go_ret
    exact ⟨rfl, rfl⟩
/-- A piece of the stream, in memory. -/
def PcAt (g : Nat) (w : World) (v : Value) (l : List UInt8) : Prop := ∃ a o c, v = .slice a l.length c ∧ l.length ≤ c ∧ (0 < l.length → a = some ⟨g, o, none⟩) ∧ LSrc w (some ⟨g, o, none⟩) l
theorem PcAt.fr {g : Nat} {w w' : World} {v : Value} {l : List UInt8} {ex : Nat → Prop} (h : PcAt g w v l) (hf : Fr w w' ex) (hn : ¬ ex g) : PcAt g w' v l := by
  obtain ⟨a, o, c, h1, h2, h3, h4⟩ := h
  exact ⟨a, o, c, h1, h2, h3, h4.fr hf hn⟩
theorem infoBs : ∃ i, Tryz.prog.info? 22 = some i ∧ i.zero = some (.slice none 0 0) ∧ i.size = 1 ∧ i.bytes = 24 := by
  have h : (Tryz.prog.info? 22).map (fun i => (i.zero, i.size, i.bytes)) = some (some (.slice none 0 0), 1, 24) := by kernel_rfl
  obtain ⟨i, hi, he⟩ := Option.map_eq_some_iff.1 h
  injection he with h1 h2
  injection h2 with h2 h3
  exact ⟨i, hi, h1, h2, h3⟩
/-- Pieces that were cut: bs lie in a row, rest is still to be cut. -/
structure PJ (g : Nat) (w wr : World) (l : List UInt8) (x5 : Value) (nb : Nat) (bs : List (Value × List UInt8)) (rest : List UInt8) : Prop where
  row : RowAt wr 22 1 x5 nb (bs.map (·.1))
  len : bs.length = nb
  each : ∀ x, x ∈ bs → PcAt g w x.1 x.2
  eq : (bs.map (·.2)).flatten ++ rest = l
  fr : Fr w wr (fun _ => False)
  new : ∀ b, x5.ownBlock = some b → w.heap.size ≤ b
theorem PJ.app {g : Nat} {w wr : World} {l : List UInt8} {x5 : Value} {nb : Nat} {bs : List (Value × List UInt8)} {rest : List UInt8} (h : PJ g w wr l x5 nb bs rest) {a : Option Addr} {m c k : Nat} (hp : PcAt g w (.slice a m c) (rest.take k)) (hnb : nb ≤ 1000000000) :
    ∃ a8 c8 w8, (Builtin.append_ #[32, 32] 32 #[x5, .slice (some ⟨wr.heap.size, 0, none⟩) 1 1]).run Tryz.prog (wr.alloc (.cells #[.slice a m c] 22)) = .ok (.slice a8 (nb + 1) c8) w8 ∧ PJ g w w8 l (.slice a8 (nb + 1) c8) (nb + 1) (bs ++ [(.slice a m c, rest.take k)]) (rest.drop k) := by
  obtain ⟨i, hi, hz, hsz, hby⟩ := infoBs
  have hF7 : Fr wr (wr.alloc (.cells #[.slice a m c] 22)) (fun _ => False) := Fr.alloc _ _ _
  have hb7 : (wr.alloc (.cells #[.slice a m c] 22)).heap[wr.heap.size]? = some (.cells #[.slice a m c] 22 (0, 0)) := heap_alloc_new wr _
  generalize wr.alloc (.cells #[.slice a m c] 22) = w7 at *
  obtain ⟨v', w', hr, hrow, hfa, hnw⟩ := run_append_row (P := Tryz.prog) w7 32 32 22 i _ 1 24 Tryz.underlying32 hi hz hsz hby (by rfl) x5 nb (bs.map (·.1)) (h.row.fr hF7 fun _ _ q => q) ⟨wr.heap.size, 0, none⟩ 1 1 [.slice a m c] rfl
    (fun k u hk => by rw [Addr.add_mid, cell_of_row _ _ _ _ _ _ hb7, Nat.zero_add]; simpa using hk) (fun u hu => by simp at hu; rw [hu]; rfl) (.inl (by decide)) (by unfold maxLen; omega) (by omega)
  obtain ⟨a8, c8, rfl, _⟩ := hrow.form
  refine ⟨a8, c8, w', hr, by rw [List.map_append]; exact hrow, by rw [List.length_append, h.len]; rfl, fun x hx => ?_, ?_, ?_, fun b hb => ?_⟩
  · rcases List.mem_append.1 hx with q | q
    · exact h.each x q
    · simp at q; rw [q]; exact hp
  · rw [List.map_append, List.flatten_append, List.append_assoc]
    simp only [List.map_cons, List.map_nil, List.flatten_cons, List.flatten_nil, List.append_nil, List.take_append_drop]
    exact h.eq
  · refine (h.fr.trans hF7 fun _ _ q => q.elim id id).trans hfa fun b hb q => ?_
    rcases q with q | q
    · exact q
    · have := h.new b q; omega
  · have h7 := hF7.size
    have h8 := h.fr.size
    rcases hnw with e | ⟨e, _⟩
    · rw [e] at hb; exact h.new b hb
    · rw [e] at hb; injection hb with hb; omega
structure PO (g : Nat) (w w' : World) (l : List UInt8) (nc : Nat) (v : Value) : Prop where
  out : ∃ nb bs, PJ g w w' l v nb bs [] ∧ nb ≤ nc + 1
set_option maxRecDepth 100000 in
set_option maxHeartbeats 4000000 in
theorem pieces_any {w : World} {g n c nc cc : Nat} {a ac : Option Addr} {l : List UInt8} (hs : PcAt g w (.slice a n c) l) (hn : l.length = n) (hn1 : n ≤ 1000000000) (hnc : nc ≤ 900000000)
    (hcuts : ∀ k, k < nc → ∃ z : Int, -9223372036854775808 ≤ z ∧ z ≤ 9223372036854775807 ∧ ∃ gc oc, ac = some ⟨gc, oc, none⟩ ∧ w.cell? ⟨gc, oc + k, none⟩ = some (.int .i64 z)) :
    Calls Tryz.prog 11 #[.slice a n c, .slice ac nc cc] w fun e w' => ∃ vo, e = .returned vo ∧ PO g w w' l nc vo := by
  have HS : Hid (PcAt g w (.slice a n c) l ∧ l.length = n) := ⟨hs, hn⟩
  have HCU : Hid _ := hcuts
  clear hs hn hcuts
  go_enter Tryz.func11, Tryz.ntmps11
  go_wp2
  go_loopw [0, 5, 6, 7] (fun x0 x5 x6 _ wr => ∃ (k m c' cb : Nat) (a' ab : Option Addr), k ≤ nc ∧ m ≤ n ∧ x6 = .int .i64 (k : Int) ∧ x0 = .slice a' m c' ∧ x5 = .slice ab k cb ∧ Hid (∃ bs rest, PcAt g w (.slice a' m c') rest ∧ rest.length = m ∧ PJ g w wr l (.slice ab k cb) k bs rest)) (fun _ _ x6 _ _ => nc - (intOf x6).toNat)
  case atStart => exact ⟨0, n, c, 0, a, none, Nat.zero_le _, Nat.le_refl _, rfl, rfl, rfl, [], l, HS.out.1, HS.out.2, ⟨RowAt.none0 _ _ _, rfl, fun x hx => (by cases hx), by simp, Fr.refl _ _, fun b hb => (by cases hb)⟩⟩
  case round =>
    obtain ⟨k, m, c', cb, a', ab, hk, hm, rfl, rfl, rfl, HJ⟩ := hrel
    by_cases hgo : k < nc ∧ 0 < m
    · obtain ⟨hlt, hm0⟩ := hgo
      obtain ⟨z, hz0, hz1, gc, oc, hac, hcell⟩ := HCU.out k hlt
      obtain ⟨bs, rest, hpc, hrl, hpj⟩ := HJ.out
      obtain ⟨a1, o1, c1, e1, hc1, ha1, hsrc⟩ := hpc
      injection e1 with e1 e2 e3
      subst e3
      subst e1
      obtain rfl := ha1 (by omega)
      subst hac
      have hpk := pickN_lt z (n := m + 1) (by omega)
      have hcall := pick_any z ((m : Int) + 1) (m + 1) (by omega) wr (by omega) (by omega) hz0 hz1
      generalize pickN z (m + 1) = pk at *
      have hcr : wr.cell? ⟨gc, oc + k, none⟩ = some (.int .i64 z) := (World.cell?_of_block (hpj.fr.block gc (World.block_lt_of_cell? w ⟨gc, oc + k, none⟩ hcell) id)).trans hcell
      have hp1 : PcAt g w (.slice (some ⟨g, o1, none⟩) pk c') (rest.take pk) := ⟨_, o1, c', by rw [List.length_take, hrl, Nat.min_eq_left (by omega)], by rw [List.length_take]; omega, fun _ => rfl, hsrc.take pk⟩
      obtain ⟨a8, c8, w8, hrun, hpj8⟩ := hpj.app hp1 (by omega)
      obtain ⟨o', hif, hsrc'⟩ : ∃ o', (if c' = pk then some (⟨g, o1, none⟩ : Addr) else some ⟨g, o1 + pk, none⟩) = some ⟨g, o', none⟩ ∧ LSrc w (some ⟨g, o', none⟩) (rest.drop pk) := by
        by_cases hc : c' = pk
        · exact ⟨o1, by rw [if_pos hc], .inl (List.drop_eq_nil_of_le (by omega))⟩
        · exact ⟨o1 + pk, by rw [if_neg hc], hsrc.drop pk⟩
      have hp2 : PcAt g w (.slice (some ⟨g, o', none⟩) (m - pk) (c' - pk)) (rest.drop pk) := ⟨_, o', c' - pk, by rw [List.length_drop, hrl], by rw [List.length_drop]; omega, fun _ => rfl, hsrc'⟩
      have HJ8 : Hid (∃ bs rest, PcAt g w (.slice (some ⟨g, o', none⟩) (m - pk) (c' - pk)) rest ∧ rest.length = m - pk ∧ PJ g w w8 l (.slice a8 (k + 1) c8) (k + 1) bs rest) := ⟨_, _, hp2, by rw [List.length_drop, hrl], hpj8⟩
      have hpk1 : (pk : Int) ≤ (m : Int) := by omega
      have hpk2 : (pk : Int) ≤ (c' : Int) := by omega
      have HR : Hid _ := hrun
      clear hrun hpj8 hp1 hp2 hsrc hsrc' hpj HJ ha1 HCU HS hcell hrl e2
      have hlt' : (k : Int) < (nc : Int) := by omega
      have hkn : ¬ (nc : Int) ≤ (k : Int) := by omega
      have hm0' : (0 : Int) < (m : Int) := by omega
      have hmw : IntKind.i64.wrap ((m : Int) + 1) = (m : Int) + 1 := by rw [IntKind.wrap_i64]; omega
      have hkw : IntKind.i64.wrap ((k : Int) + 1) = (k : Int) + 1 := by rw [IntKind.wrap_i64]; omega
      go_upto_region 5 with fail
      rename_i Kc hKc
      refine wp_region_lit ?_
      refine wpList_runTo rfl (some 19) rfl (.slice (some ⟨gc, oc, none⟩) nc cc) wr (by kernel_rfl) ?_
      simp only [Act.put, List.setIfInBounds_toArray, List.set_cons_zero, List.set_cons_succ]
      refine wpList_runTo rfl (some 20) rfl (.int .i64 (k : Int)) wr (by kernel_rfl) ?_
      simp only [Act.put, List.setIfInBounds_toArray, List.set_cons_zero, List.set_cons_succ]
      refine wpList_runTo rfl (some 21) rfl (.pointer (some ⟨gc, oc + k, none⟩)) wr (by go_simp) ?_
      simp only [Act.put, List.setIfInBounds_toArray, List.set_cons_zero, List.set_cons_succ]
      refine wpList_runTo rfl (some 22) rfl (.int .i64 z) wr (by go_simp) ?_
      simp only [Act.put, List.setIfInBounds_toArray, List.set_cons_zero, List.set_cons_succ]
      refine wpList_runTo rfl (some 23) rfl (.slice (some ⟨g, o1, none⟩) m c') wr (by kernel_rfl) ?_
      simp only [Act.put, List.setIfInBounds_toArray, List.set_cons_zero, List.set_cons_succ]
      refine wpList_runTo rfl (some 24) rfl (.int .i64 (m : Int)) wr (by kernel_rfl) ?_
      simp only [Act.put, List.setIfInBounds_toArray, List.set_cons_zero, List.set_cons_succ]
      refine wpList_runTo rfl (some 25) rfl (.int .i64 ((m : Int) + 1)) wr (by go_simp) ?_
      simp only [Act.put, List.setIfInBounds_toArray, List.set_cons_zero, List.set_cons_succ]
      refine wpList_callF rfl (some 26) rfl 9 #[.int .i64 z, .int .i64 ((m : Int) + 1)] (by kernel_rfl) hcall ?_
      rintro e w5 ⟨rfl, rfl⟩
      refine ⟨_, rfl, ?_⟩
      simp only [Act.put, List.setIfInBounds_toArray, List.set_cons_zero, List.set_cons_succ]
      clear hcall
      refine wpList_runTo rfl (some 7) rfl (.int .i64 (pk : Int)) w5 (by kernel_rfl) ?_
      simp only [Act.put, List.setIfInBounds_toArray, List.set_cons_zero, List.set_cons_succ]
      refine wpList_nil ?_
      refine hKc _ _ ?_
      clear hKc
      go_upto_region 6 with fail
      rename_i Kd hKd
      refine wp_region_lit ?_
      refine wpList_runTo rfl (some 27) rfl (.slice ab k cb) w5 (by kernel_rfl) ?_
      simp only [Act.put, List.setIfInBounds_toArray, List.set_cons_zero, List.set_cons_succ]
      refine wpList_runTo rfl (some 28) rfl (.slice (some ⟨g, o1, none⟩) m c') w5 (by kernel_rfl) ?_
      simp only [Act.put, List.setIfInBounds_toArray, List.set_cons_zero, List.set_cons_succ]
      refine wpList_runTo rfl (some 29) rfl (.int .i64 (pk : Int)) w5 (by kernel_rfl) ?_
      simp only [Act.put, List.setIfInBounds_toArray, List.set_cons_zero, List.set_cons_succ]
      refine wpList_runTo rfl (some 30) rfl (.slice (some ⟨g, o1, none⟩) pk c') w5 (by go_simp) ?_
      simp only [Act.put, List.setIfInBounds_toArray, List.set_cons_zero, List.set_cons_succ]
      refine wpList_runTo rfl (some 31) rfl (.slice (some ⟨w5.heap.size, 0, none⟩) 1 1) (w5.alloc (.cells #[.slice (some ⟨g, o1, none⟩) pk c'] 22)) (by kernel_rfl) ?_
      simp only [Act.put, List.setIfInBounds_toArray, List.set_cons_zero, List.set_cons_succ]
      refine wpList_runTo rfl (some 32) rfl (.slice a8 (k + 1) c8) w8 (exec_append (.tmp 27) (.tmp 31) 32 rfl (by kernel_rfl) (by kernel_rfl) HR.out) ?_
      simp only [Act.put, List.setIfInBounds_toArray, List.set_cons_zero, List.set_cons_succ]
      refine wpList_runTo rfl (some 5) rfl (.slice a8 (k + 1) c8) w8 (by kernel_rfl) ?_
      simp only [Act.put, List.setIfInBounds_toArray, List.set_cons_zero, List.set_cons_succ]
      refine wpList_nil ?_
      refine hKd _ _ ?_
      clear hKd HR
      go_wp2
      go_roundw
      case rel => exact ⟨k + 1, m - pk, c' - pk, c8, _, a8, by omega, by omega, by go_num, rfl, rfl, HJ8.out⟩
      case measure => simp [intOf]; omega
    · obtain ⟨bs, rest, hpc, hrl, hpj⟩ := HJ.out
      have hp1 : PcAt g w (.slice a' m c') (rest.take m) := by rw [List.take_of_length_le (by omega)]; exact hpc
      obtain ⟨a8, c8, w8, hrun, hpj8⟩ := hpj.app hp1 (by omega)
      have HJ8 : Hid (PJ g w w8 l (.slice a8 (k + 1) c8) (k + 1) (bs ++ [(.slice a' m c', rest.take m)]) []) := by rw [List.drop_eq_nil_of_le (by omega)] at hpj8; exact hpj8
      have HR : Hid _ := hrun
      have HG : Hid _ := hgo
      clear hrun hpj8 hp1 hpj HJ hpc hgo
      by_cases hlt : k < nc
      · obtain rfl : m = 0 := Nat.eq_zero_of_not_pos fun h => HG.out ⟨hlt, h⟩
        have hlt' : (k : Int) < (nc : Int) := by omega
        go_upto_region 8 with fail
        rename_i Kd hKd
        refine wp_region_lit ?_
        refine wpList_runTo rfl (some 36) rfl (.slice ab k cb) wr (by kernel_rfl) ?_
        simp only [Act.put, List.setIfInBounds_toArray, List.set_cons_zero, List.set_cons_succ]
        refine wpList_runTo rfl (some 37) rfl (.slice a' 0 c') wr (by kernel_rfl) ?_
        simp only [Act.put, List.setIfInBounds_toArray, List.set_cons_zero, List.set_cons_succ]
        refine wpList_runTo rfl (some 38) rfl (.slice (some ⟨wr.heap.size, 0, none⟩) 1 1) (wr.alloc (.cells #[.slice a' 0 c'] 22)) (by kernel_rfl) ?_
        simp only [Act.put, List.setIfInBounds_toArray, List.set_cons_zero, List.set_cons_succ]
        refine wpList_runTo rfl (some 39) rfl (.slice a8 (k + 1) c8) w8 (exec_append (.tmp 36) (.tmp 38) 32 rfl (by kernel_rfl) (by kernel_rfl) HR.out) ?_
        simp only [Act.put, List.setIfInBounds_toArray, List.set_cons_zero, List.set_cons_succ]
        refine wpList_runTo rfl (some 4) rfl (.slice a8 (k + 1) c8) w8 (by kernel_rfl) ?_
        simp only [Act.put, List.setIfInBounds_toArray, List.set_cons_zero, List.set_cons_succ]
        refine wpList_nil ?_
        refine hKd _ _ ?_
        clear hKd HR
        go_wp2
        go_ret
        exact ⟨_, rfl, ⟨_, _, HJ8.out, by omega⟩⟩
      · have hge : (nc : Int) ≤ (k : Int) := by omega
        have hge' : ¬ (k : Int) < (nc : Int) := by omega
        go_upto_region 8 with fail
        rename_i Kd hKd
        refine wp_region_lit ?_
        refine wpList_runTo rfl (some 36) rfl (.slice ab k cb) wr (by kernel_rfl) ?_
        simp only [Act.put, List.setIfInBounds_toArray, List.set_cons_zero, List.set_cons_succ]
        refine wpList_runTo rfl (some 37) rfl (.slice a' m c') wr (by kernel_rfl) ?_
        simp only [Act.put, List.setIfInBounds_toArray, List.set_cons_zero, List.set_cons_succ]
        refine wpList_runTo rfl (some 38) rfl (.slice (some ⟨wr.heap.size, 0, none⟩) 1 1) (wr.alloc (.cells #[.slice a' m c'] 22)) (by kernel_rfl) ?_
        simp only [Act.put, List.setIfInBounds_toArray, List.set_cons_zero, List.set_cons_succ]
        refine wpList_runTo rfl (some 39) rfl (.slice a8 (k + 1) c8) w8 (exec_append (.tmp 36) (.tmp 38) 32 rfl (by kernel_rfl) (by kernel_rfl) HR.out) ?_
        simp only [Act.put, List.setIfInBounds_toArray, List.set_cons_zero, List.set_cons_succ]
        refine wpList_runTo rfl (some 4) rfl (.slice a8 (k + 1) c8) w8 (by kernel_rfl) ?_
        simp only [Act.put, List.setIfInBounds_toArray, List.set_cons_zero, List.set_cons_succ]
        refine wpList_nil ?_
        refine hKd _ _ ?_
        clear hKd HR
        go_wp2
        go_ret
        exact ⟨_, rfl, ⟨_, _, HJ8.out, by omega⟩⟩
end Go.Proofs.YtkpoheknmcepnaaGreatDoor

namespace Go.Proofs.YtkpoheknmcepnaaGreatDoor
set_option linter.unusedVariables false
set_option linter.unusedSimpArgs false
open Go.RowKit Go.Great Go.Shelf

theorem steady_nil {f : List UInt8 → Sight} (hf : Steady f) : ∃ m, f [] = .begun m := by
  cases h : f [] with
  | begun s => exact ⟨s, rfl⟩
  | whole s => obtain ⟨g1, g2, _⟩ := hf.whole h; simp at g2; omega
  | wrong => exact absurd rfl (hf.wrong h).1
theorem sight_begun {p : Part Nat} {n : Nat} (h : p.sight = .begun n) : p = .begun n := by
  cases p with
  | begun m => injection h with h; rw [h]
  | whole m => cases h
  | wrong => cases h
theorem textS_le (b : List UInt8) (n : Nat) (h : textS b = .begun n) : n ≤ 1024 := text_begun_le prT_len (sight_begun h)
theorem binS_le (b : List UInt8) (n : Nat) (h : binS b = .begun n) : n ≤ 1024 := bin_begun_le (fun b s h => by have := sizeF_some h; omega) (sight_begun h)
theorem enter_text (args : Array Value) (w : World) : (callFunc 19 args).run Tryz.prog w = .ok (.enter 19 args) w := enters_of Tryz.func19 (by kernel_rfl) rfl args w
theorem enter_bin (args : Array Value) (w : World) : (callFunc 20 args).run Tryz.prog w = .ok (.enter 20 args) w := enters_of Tryz.func20 (by kernel_rfl) rfl args w
/-- What Feed has done. -/
structure FdE (f : List UInt8 → Sight) (w w' : World) (p : Nat) (lk : FuncId) (vb0 v : Value) (K j : Nat) (b : List UInt8) : Prop where
  out : ∃ sv vb' wants told fs, FH sv w w' p lk vb0 vb' v wants told (K + (walkL f b j).k) (walkL f b j).j (walkL f b j).r fs ∧ fsOf fs = (walkL f b j).fs ∧ (walkL f b j).r.length < 1024 ∧ wants ≤ 1024 ∧ ∀ c, ((walkL f b j).r ++ c).length < wants → ∃ m, f ((walkL f b j).r ++ c) = .begun m
/-- One frame came out. -/
theorem FdE.one {f : List UInt8 → Sight} {w w' : World} {p : Nat} {lk : FuncId} {vb0 v : Value} {K j : Nat} {b : List UInt8} (h : FdE f w w' p lk vb0 v K j b) {e1 r' : List UInt8} {j1 j' k' : Nat} (hw : walkL f b j = ⟨[(e1, j1)], j', k', r'⟩) (he : e1 ≠ []) :
    ∃ gl ol cl gx ox cx a c wants told, v = .slice (some ⟨gl, ol, none⟩) 1 cl ∧ w'.cell? ⟨gl, ol, none⟩ = some (.slice (some ⟨gx, ox, none⟩) e1.length cx) ∧ w'.cell? ⟨gl, ol + 1, none⟩ = some (.int .i64 (j1 : Int)) ∧ LSrc w' (some ⟨gx, ox, none⟩) e1 ∧ FmB w' p (.func (.func lk) #[] #[]) (.slice a r'.length c) wants (K + k') told ∧ Fr w w' (fun b => b = p ∨ vb0.ownBlock = some b) ∧ w.heap.size ≤ gl ∧ w.heap.size ≤ gx ∧ gl < w'.heap.size ∧ gx < w'.heap.size := by
  obtain ⟨sv, vb', wants, told, fs, hH, hfs, _, _, _⟩ := h.out
  rw [hw] at hH hfs
  cases fs with
  | nil => cases hfs
  | cons x xs =>
    cases xs with
    | cons y ys => simp [fsOf] at hfs
    | nil =>
      simp [fsOf] at hfs
      obtain ⟨rfl, rfl⟩ := hfs
      have hx : x ∈ [x] := by simp
      obtain ⟨gl, ol, cl, cur, e2, e3, _⟩ := hH.G.found.row.more (by simp)
      have hrx := hH.G.found.each x hx
      obtain ⟨gx, ox, cx, cur2, e4, e5, _⟩ := RowAt.more hrx (List.length_pos_iff.2 he)
      obtain ⟨a, c, e6, _⟩ := hH.G.row.form
      have hc0 : w'.cell? ⟨gl, ol + 0, none⟩ = some x.v := hH.G.found.row.cell e2 (j := 0) rfl
      have hc1 : w'.cell? ⟨gl, ol + 1, none⟩ = some (.int .i64 (x.j : Int)) := hH.G.found.row.cell e2 (j := 1) rfl
      refine ⟨gl, ol, cl, gx, ox, cx, a, c, wants, told, e2, by rw [← e4]; exact hc0, hc1, ?_, e6 ▸ hH.G.blk, hH.G.fr, hH.G.nv gl (by rw [e2]; rfl), hH.G.news x hx gx (by rw [e4]; rfl), (Array.getElem?_eq_some_iff.1 e3).1, (Array.getElem?_eq_some_iff.1 e5).1⟩
      rw [e4] at hrx
      exact ByAt.src hrx
theorem Feed_fresh {W0 w : World} {f : List UInt8 → Sight} {lk : FuncId} (hf : Steady f) (hlk : LookOK W0 lk f) (hcf : ∀ args w, (callFunc lk args).run Tryz.prog w = .ok (.enter lk args) w) (hbeg : ∀ b n, f b = .begun n → n ≤ 1024)
    {a : Option Addr} {p g o n c : Nat} {l : List UInt8} (hp : w.heap[p]? = some (newF lk)) (hs : LSrc w (some ⟨g, o, none⟩) l) (hg : 0 < n → a = some ⟨g, o, none⟩ ∧ g ≠ p) (hl : l.length = n) (hnc : n ≤ c) (hn1 : n ≤ 1000000000) (hW0 : Below W0.heap.size W0 w) (hlp : W0.heap.size ≤ p) :
    Calls Tryz.prog 10 #[.pointer (some ⟨p, 0, none⟩), .slice a n c] w fun e w' => ∃ v, e = .returned v ∧ FdE f w w' p lk (.slice none 0 0) v 0 0 l := by
  refine (Feed_any (r := []) (wants := 0) (told := 0) (K := 0) (j := 0) (vb := .slice none 0 0) hf hlk hcf hbeg hp rfl (RowAt.none0 _ _ _) (steady_nil hf) (by decide) (by decide) (fun c h => absurd h (Nat.not_lt_zero _)) hs (fun h => ⟨(hg h).1, (hg h).2, fun e => by cases e⟩) hl hnc hn1 (by decide) hW0 hlp (fun b e => by cases e)).mono ?_
  rintro e w' ⟨vb', v, wants', told', fs, rfl, h⟩
  exact ⟨v, rfl, ⟨_, vb', wants', told', fs, h⟩⟩
end Go.Proofs.YtkpoheknmcepnaaGreatDoor

namespace Go.Proofs.YtkpoheknmcepnaaGreatDoor
set_option linter.unusedVariables false
set_option linter.unusedSimpArgs false
open Go.RowKit Go.Great Go.Shelf

theorem OwnL.src {w : World} {g : Nat} {l : List UInt8} (h : OwnL w g l) : LSrc w (some ⟨g, 0, none⟩) l := .inr ⟨g, 0, rfl, fun j hj => by rw [Nat.zero_add]; exact h.cell (List.getElem?_eq_getElem hj)⟩
theorem lsrc_of_cells {w : World} {g : Nat} {l : List UInt8} {fr : Nat × Nat} (h : w.heap[g]? = some (.cells (Lib.byteCells l).toArray 5 fr)) : LSrc w (some ⟨g, 0, none⟩) l := .inr ⟨g, 0, rfl, fun j hj => by
  rw [Nat.zero_add, cell_of_row _ _ _ _ _ _ h]
  simp [Lib.byteCells, hj]⟩
theorem exec_convert {P : Program} {w w' : World} {o : Oper} {a : Act} {s d : TypeId} (x : Operand) (ho : o.op = .convert s d x) {v r : Value} (hx : a.eval x = v) (hr : (convert s d v).run P w = .ok r w') : (execOp a.eval o).run P w = .ok (.value r) w' := by
  unfold execOp
  simp only [ho, hx, Sem.run_bind, hr, Result.andThen_ok, Sem.run_pure]
theorem run_append_full {w : World} {g o n m gs os c : Nat} {l1 l2 : List UInt8} (h1 : LSrc w (some ⟨g, o, none⟩) l1) (hn : l1.length = n) (h2 : LSrc w (some ⟨gs, os, none⟩) l2) (hm : l2.length = m) (hm0 : 0 < m) (hs : n + m ≤ 1000000) :
    ∃ c7 w7, (Builtin.append_ #[22, 22] 22 #[.slice (some ⟨g, o, none⟩) n n, .slice (some ⟨gs, os, none⟩) m c]).run Tryz.prog w = .ok (.slice (some ⟨w.heap.size, 0, none⟩) (n + m) c7) w7 ∧ ByAt w7 (.slice (some ⟨w.heap.size, 0, none⟩) (n + m) c7) (l1 ++ l2) ∧ n + m ≤ c7 ∧ Fr w w7 (fun _ => False) := by
  obtain ⟨i, hi, hz, hsz, hby⟩ := infoB
  have hmx : n + m ≤ maxLen := by unfold maxLen; omega
  have hr := run_append_grow (P := Tryz.prog) w 22 22 5 i _ Tryz.underlying22 hi hz ⟨g, o, none⟩ n n (flatL u8V l1) (by rw [flatL_len u8V_len, hsz, hn]) (lsrc_cells h1) ⟨gs, os, none⟩ m c (flatL u8V l2) (by rw [flatL_len u8V_len, hsz, hm]) (lsrc_cells h2) (by omega) (by omega) (growslice_fits (by omega) (by rw [hby]; omega))
  have hge := grownCap_ge w (n + m) n 5
  have hcm : grownCap w (n + m) n 5 ≤ maxLen := grownCap_le_maxLen w (n + m) n 5 hmx
  have hlen : (flatL u8V (l1 ++ l2)).length = n + m := by rw [flatL_len u8V_len, List.length_append, hn, hm, Nat.mul_one]
  refine ⟨_, _, hr, ?_, hge, ⟨rfl, rfl, rfl, by simp, fun b hb _ => Below.heap_alloc w.drew _ b hb⟩⟩
  unfold ByAt
  rw [List.length_append, hn, hm]
  refine ⟨by rw [hlen, Nat.mul_one], .inr ⟨w.heap.size, 0, _, _, rfl, heap_alloc_new w.drew _, hge, hcm, ?_, ?_⟩⟩
  · simp only [Array.size_append, List.size_toArray, size_zeroCells, flatL_len u8V_len, hn, hm]
    rw [show (Value.int IntKind.u8 0).cells.size = 1 from rfl]
    simp
    omega
  · simp only [Array.toList_append, List.append_assoc, List.drop_zero]
    rw [← List.append_assoc, ← flatL_app, Nat.mul_one, ← hlen]
    exact List.take_left
def exE : List UInt8 := [0x38,0x3d,0x46,0x49,0x58,0x2e,0x34,0x2e,0x34,0x01,0x39,0x3d,0x31,0x30,0x01,0x33,0x35,0x3d,0x30,0x01,0x33,0x34,0x3d,0x31,0x01,0x31,0x30,0x3d,0x31,0x36,0x35,0x01]
def exT : List UInt8 := [0x78, 0x78] ++ exE ++ [0x38, 0x3d, 0x46]
set_option maxRecDepth 100000 in
theorem walk_text : walkL textS exT 0 = ⟨[(exE, 2)], 0, 2, [0x38, 0x3d, 0x46]⟩ := by kernel_rfl
def sA : ByteArray := ⟨#[65]⟩
def sB : ByteArray := ⟨#[66]⟩
def sX : ByteArray := ⟨#[120]⟩
def tqM : Msg := ⟨fun i => if i = 0 then 2 else if i = 3 then 1 else 0, fun i => if i = 1 then sA else if i = 2 then sB else if i = 9 then sX else ⟨#[]⟩, fun _ => false⟩
theorem tqOk : tqM.ok := fun i => by unfold tqM; dsimp only; split <;> (try split) <;> (try split) <;> omega
set_option maxRecDepth 100000 in
theorem tqV : valE tqM = 0 := by kernel_rfl
set_option maxRecDepth 100000 in
theorem tqL : (frameL tqM).length = 82 := by kernel_rfl
set_option maxRecDepth 100000 in
theorem walk_bin : walkL binS (79 :: frameL tqM) 0 = ⟨[(frameL tqM, 1)], 0, 1, []⟩ := by kernel_rfl
end Go.Proofs.YtkpoheknmcepnaaGreatDoor
