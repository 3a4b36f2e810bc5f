/-
  heap: shown.
-/
import Derived.Test.YtdnhhcbabdoomaaHBase
namespace Go.Proofs.Ytdnhhcbabdoomaa
set_option linter.unusedVariables false
set_option linter.unusedSimpArgs false
open Go.RowKit Go.Great

def pshL : List Th := [⟨13, 0⟩, ⟨22, 0⟩, ⟨3, 0⟩, ⟨12, 0⟩]
def popL : Nat → List Th
  | 0 => pshL
  | 1 => [⟨13, 0⟩, ⟨3, 0⟩, ⟨12, 0⟩]
  | 2 => [⟨13, 0⟩, ⟨3, 0⟩]
  | 3 => [⟨3, 0⟩]
  | _ => []
def popM : Nat → Nat
  | 0 => 1
  | 1 => 2
  | _ => 0
def kA : Array Value := #[.int .i64 13, .int .i64 22, .int .i64 3, .int .i64 12]
def kB : Array Value := #[.int .i64 22, .int .i64 12, .int .i64 13, .int .i64 3]
def pshK (i : Nat) : Int := (pshL.getD i ⟨0, 0⟩).k
def popK : Nat → Int
  | 0 => 22
  | 1 => 12
  | 2 => 13
  | _ => 3
theorem four {i : Nat} (h : i < 4) : i = 0 ∨ i = 1 ∨ i = 2 ∨ i = 3 := by omega
theorem kA_at {i : Nat} (h : i < 4) : kA[i]? = some (.int .i64 (pshK i)) := by rcases four h with rfl | rfl | rfl | rfl <;> rfl
theorem kB_at {i : Nat} (h : i < 4) : kB[i]? = some (.int .i64 (popK i)) := by rcases four h with rfl | rfl | rfl | rfl <;> rfl
theorem psh_step {i : Nat} (h : i < 4) : pshL.take (i + 1) = pshL.take i ++ [⟨pshK i, 0⟩] := by rcases four h with rfl | rfl | rfl | rfl <;> rfl
theorem pop_min {i : Nat} (h : i < 4) : IsMin (lsB 2) (popL i) (popM i) := by
  rcases four h with rfl | rfl | rfl | rfl <;> exact isMin_of (by decide)
theorem pop_step {i : Nat} (h : i < 4) : (popL i).eraseIdx (popM i) = popL (i + 1) ∧ (popL i)[popM i]? = some ⟨popK i, 0⟩ ∧ popL i ≠ [] := by
  rcases four h with rfl | rfl | rfl | rfl <;> exact ⟨rfl, rfl, by decide⟩
theorem fn_nil (g : Nat) (w : World) : (binOp .eql 33 (.func (.func 47) #[] #[ptr g]) .nilFunc).run Try.prog w = .ok (.bool false) w := by kernel_rfl
/-- Where shown stands: a heap with these things; a row of four numbers. -/
structure ShS (w wr : World) (h : Nat) (g : Nat) (cs : Array Value) (xs : List Th) (N : Nat) : Prop where
  hp : ∃ v L, HpO 2 h wr h v L N ∧ L.map (·.x) = xs
  blk : Blk wr g 3 cs
  fr : Fr w wr (fun b => h ≤ b)
set_option maxRecDepth 100000 in
set_option maxHeartbeats 4000000 in
theorem shown_any (w : World) : Calls Try.prog 8 #[] w fun e w' => e = .returned (.bool true) ∧ Fr w w' (fun _ => False) := by
  have hmade := made_O (B := w.heap.size) 2 2 rfl (by decide) w (Nat.le_refl _)
  go_enter Try.func8, Try.ntmps8
  go_wp2_with (go_at_call 10; fail)
  refine hmade.mono ?_
  rintro e w1 ⟨rfl, h1, h2⟩
  have hall := All_any w.heap.size w1
  have H1 : Hid (HpO 2 w.heap.size w1 w.heap.size (.slice none 0 0) [] 0 ∧ Fr w w1 (fun _ => False)) := ⟨h1, h2⟩
  clear h1 h2 hmade
  generalize hh : w.heap.size = h at *
  go_wp2_with (go_at_call 12; fail)
  refine hall.mono ?_
  rintro e w2 ⟨rfl, rfl⟩
  have F2 : Fr w1 (w1.alloc (.cells #[ptr h] 25)) (fun _ => False) := Fr.alloc _ _ _
  have H2 : Hid (HpO 2 h (w1.alloc (.cells #[ptr h] 25)) h (.slice none 0 0) [] 0 ∧ Fr w (w1.alloc (.cells #[ptr h] 25)) (fun _ => False)) := ⟨H1.out.1.sm F2, H1.out.2.trans F2 fun _ _ q => by rcases q with q | q <;> exact q⟩
  clear F2 H1 hall
  generalize w1.alloc (.cells #[ptr h] 25) = w2 at *
  have hfn := fn_nil w1.heap.size
  have F3 : Fr w2 (w2.alloc (.cells kA 3)) (fun _ => False) := Fr.alloc _ _ _
  have H3 : Hid (ShS w (w2.alloc (.cells kA 3)) h w2.heap.size kA (pshL.take 0) 0) := ⟨⟨_, [], H2.out.1.sm F3, rfl⟩, Blk.new _ _ _, (H2.out.2.trans F3 (e3 := fun b => h ≤ b) fun _ _ q => by rcases q with q | q <;> exact q.elim)⟩
  clear F3
  unfold kA at H3
  generalize hg : w2.heap.size = g at *
  go_wp2
  go_loopw [4, 20] (fun x4 i wr => ∃ j : Nat, j ≤ 4 ∧ i = .int .i64 (j : Int) ∧ Hid (ShS w wr h g kA (pshL.take j) j)) (fun _ i _ => 4 - (RowKit.intOf i).toNat)
  case atStart =>
    exact ⟨0, by decide, rfl, H3.out⟩
  case round =>
    obtain ⟨j, hj, rfl, HQ⟩ := hrel
    by_cases hlt : j < 4
    · have hji : (j : Int) < 4 := by omega
      have hc : wr.cell? ⟨g, j, none⟩ = some (.int .i64 (pshK j)) := by rw [HQ.out.blk.cell]; exact kA_at hlt
      obtain ⟨v, L, q1, q2⟩ := HQ.out.hp
      have hL : L.length ≤ 4 := by
        have : L.length = (pshL.take j).length := by rw [← q2, List.length_map]
        rw [this, List.length_take]; exact Nat.le_trans (Nat.min_le_left _ _) hj
      have hpu := Push_O q1 ⟨pshK j, 0⟩ (by omega) (by omega)
      have HP : Hid (HpO 2 h wr h v L j ∧ L.map (·.x) = pshL.take j) := ⟨q1, q2⟩
      clear q1 q2
      go_wp2_with (go_at_call 11; fail)
      refine hpu.mono ?_
      rintro e w5 ⟨rfl, ⟨v', h5, h6⟩, h7⟩
      have HX : Hid (ShS w w5 h g kA (pshL.take (j + 1)) (j + 1)) := by
        refine ⟨⟨v', _, h5, ?_⟩, HQ.out.blk.fr h7 (HP.out.1.other HQ.out.blk (by decide) (by decide) (by decide)), HP.out.1.sml HQ.out.fr h7⟩
        rw [List.map_append, HP.out.2, psh_step hlt]; rfl
      clear h5 h6 h7 hpu hc
      go_wp2
      exact ⟨⟨j + 1, by omega, by go_num, HX.out⟩, by simp [RowKit.intOf]; omega⟩
    · have hji : ¬ (j : Int) < 4 := by omega
      have HJ : Hid (j = 4) := by show j = 4; omega
      generalize j = n4 at *
      have F4 : Fr wr (wr.alloc (.cells kB 3)) (fun _ => False) := Fr.alloc _ _ _
      obtain ⟨v, L, q1, q2⟩ := HQ.out.hp
      have H4 : Hid (ShS w (wr.alloc (.cells kB 3)) h wr.heap.size kB (popL 0) n4) := ⟨⟨v, L, q1.sm F4, q2.trans (by rw [HJ.out]; rfl)⟩, Blk.new _ _ _, HQ.out.fr.trans F4 fun _ _ q => by rcases q with q | q; exact q; exact q.elim⟩
      clear F4 q1 q2 HQ
      unfold kB at H4
      generalize hg2 : wr.heap.size = g2 at *
      go_wp2
      go_loopw [0, 6, 7, 8, 31] (fun x0 x6 x7 x8 i wq => ∃ j : Nat, j ≤ 4 ∧ i = .int .i64 (j : Int) ∧ Hid (ShS w wq h g2 kB (popL j) n4)) (fun _ _ _ _ i _ => 4 - (RowKit.intOf i).toNat)
      case atStart =>
        exact ⟨0, by decide, rfl, H4.out⟩
      case round =>
        obtain ⟨j, hj, rfl, HQ⟩ := hrel
        by_cases hlt : j < 4
        · have hji : (j : Int) < 4 := by omega
          have hc : wr.cell? ⟨g2, j, none⟩ = some (.int .i64 (popK j)) := by rw [HQ.out.blk.cell]; exact kB_at hlt
          obtain ⟨v, L, q1, q2⟩ := HQ.out.hp
          have hpo := Pop_O q1 (fun e => (pop_step hlt).2.2 (by rw [← q2, e]; rfl))
          have HP : Hid (HpO 2 h wr h v L n4 ∧ L.map (·.x) = popL j) := ⟨q1, q2⟩
          clear q1 q2
          go_wp2_with (go_at_call 14; fail)
          refine hpo.mono ?_
          rintro e w5 ⟨m, it, hm, hmin, rfl, ⟨v', h5, h6⟩, _, h7⟩
          rw [HP.out.2] at hmin
          obtain rfl : m = popM j := hmin.uniq (pop_min hlt)
          have hx : it.x = ⟨popK j, 0⟩ := by
            have h8 : (L.map (·.x))[popM j]? = some it.x := by rw [List.getElem?_map, hm]; rfl
            rw [HP.out.2, (pop_step hlt).2.1] at h8
            injection h8 with h8; exact h8.symm
          have hk1 : it.x.k = popK j := by rw [hx]
          have hk2 : it.x.g = 0 := by rw [hx]
          rw [hk1, hk2]
          have F5 : Fr w5 (w5.alloc (.cells #[.int .i64 (popK j), .int .i64 0] 30)) (fun _ => False) := Fr.alloc _ _ _
          have HX : Hid (ShS w (w5.alloc (.cells #[.int .i64 (popK j), .int .i64 0] 30)) h g2 kB (popL (j + 1)) n4) := by
            refine ⟨⟨v', _, h5.sm F5, ?_⟩, (HQ.out.blk.fr h7 (HP.out.1.other HQ.out.blk (by decide) (by decide) (by decide))).fr F5 (fun q => q), (HP.out.1.sml HQ.out.fr h7).trans F5 fun _ _ q => by rcases q with q | q; exact q; exact q.elim⟩
            rw [← (pop_step hlt).1, ← HP.out.2, erase_map]
          clear h5 h6 h7 hpo hc hm hmin hx hk1 hk2 F5
          go_wp2
          exact ⟨⟨j + 1, by omega, by go_num, HX.out⟩, by simp [RowKit.intOf]; omega⟩
        · obtain rfl : j = 4 := by omega
          obtain ⟨v, L, q1, q2⟩ := HQ.out.hp
          obtain rfl : L = [] := List.map_eq_nil_iff.1 q2
          have hpo := Pop_Z q1
          go_wp2_with (go_at_call 14; fail)
          refine hpo.mono ?_
          rintro e w5 ⟨rfl, h5, h7⟩
          have HX : Hid (Fr w (w5.alloc (.cells #[.int .i64 0, .int .i64 0] 30)) (fun b => h ≤ b)) := (HQ.out.fr.trans h7 (e3 := fun b => h ≤ b) fun _ _ q => by rcases q with q | q; exact q; exact q.elim).trans (Fr.alloc _ _ (fun b => h ≤ b)) fun _ _ q => by rcases q with q | q <;> exact q
          clear h5 h7 hpo q1 q2 HQ
          go_wp2
          go_ret
          exact ⟨rfl, HX.out.mono fun b hb q => by omega⟩
end Go.Proofs.Ytdnhhcbabdoomaa
