import Derived.Test.YthadnogcocmfgaaGreatDoorBRd
import Derived.BigQuiet

namespace Go.Proofs.YthadnogcocmfgaaGreatDoor
set_option linter.unusedVariables false
open Go.RowKit Go.Great Go.Lib

set_option maxRecDepth 100000 in
theorem of_any2 (j : Nat) (h1 : 1 ≤ wd j) (hj : j < 42) (B : Nat) (n : Int) (at_ : Nat) (g off len cap : Nat) (w : World) (hl : at_ + wd j ≤ len) (hc : len ≤ cap) (hm : len ≤ 1048576) :
    Calls Tryz.prog 26 #[.agg #[.int .i64 n, fIf j B, .int .i64 at_], .slice (some ⟨g, off, none⟩) len cap] w fun e w' => e = .returned (.slice (some ⟨g, off + at_, none⟩) (wd j) (cap - at_)) ∧ Below w.heap.size w w' := by
  have HS : Hid (∀ w', Calls Tryz.prog (fSz j) #[fVal j B] w' fun e w2 => e = .returned (.int .i64 (wd j : Nat)) ∧ Below w'.heap.size w' w2) := fun w' => size_any j hj B w'
  have hcf := cfSz j hj
  have hmt := mSz j hj B
  have HK : Hid (∀ w', Below w.heap.size w w' → w'.cell? ⟨0, 0, none⟩ = w'.cell? ⟨0, 0, none⟩) := fun _ _ => rfl
  unfold fIf
  generalize fVal j B = V at *
  generalize fTy j = T at *
  generalize fSz j = F at *
  generalize wd j = W at *
  have hx0 : IntKind.i64.wrap ((at_ : Int) + (W : Int)) = (at_ : Int) + (W : Int) := by rw [IntKind.wrap_i64]; omega
  have hx1 : (0 : Int) ≤ (at_ : Int) := by omega
  have hx2 : (0 : Int) ≤ (at_ : Int) + (W : Int) := by omega
  have hx3 : (at_ : Int) ≤ (at_ : Int) + (W : Int) := by omega
  have hx4 : (at_ : Int) + (W : Int) ≤ (cap : Int) := by omega
  have hx5 : (at_ : Int) ≤ (cap : Int) := by omega
  have hx6 : ¬ at_ = cap := by omega
  have hx7 : ¬ cap - at_ = 0 := by omega
  go_enter Tryz.func26, Tryz.ntmps26
  go_upto_region 1 with fail
  generalize hW : w.alloc _ = W0
  have HB0 : Hid (Below w.heap.size w W0) := by rw [← hW]; exact (Below.refl _ w).alloc (Nat.le_refl _) _
  have c0 : W0.cell? ⟨w.heap.size, 0, none⟩ = some (.int .i64 n) := by rw [← hW]; exact World.cell?_alloc_new ..
  have c1 : W0.cell? ⟨w.heap.size, 1, none⟩ = some (.iface T V) := by rw [← hW]; exact World.cell?_alloc_new ..
  have c2 : W0.cell? ⟨w.heap.size, 2, none⟩ = some (.int .i64 at_) := by rw [← hW]; exact World.cell?_alloc_new ..
  have HK2 : Hid (∀ w', Below W0.heap.size W0 w' → w'.cell? ⟨w.heap.size, 1, none⟩ = some (.iface T V) ∧ w'.cell? ⟨w.heap.size, 2, none⟩ = some (.int .i64 at_)) := fun w' hb => by
    rw [hb.cell (p := ⟨w.heap.size, 1, none⟩) (World.block_lt_of_cell? _ _ c1), hb.cell (p := ⟨w.heap.size, 2, none⟩) (World.block_lt_of_cell? _ _ c2)]
    exact ⟨c1, c2⟩
  have hB1 : Below W0.heap.size W0 W0.drew := below_drewN (Below.refl _ _) 1
  clear hW
  go_region_held3 (fun w' => w'.cell? ⟨w.heap.size, 1, none⟩ = some (.iface T V) ∧ w'.cell? ⟨w.heap.size, 2, none⟩ = some (.int .i64 at_)) (first | exact HK2.out _ hB3 | exact HK2.out _ hB1) (first | (refine (HS.out _).mono ?_; rintro e w3 ⟨rfl, hb3⟩; have hB3 : Below W0.heap.size W0 w3 := hB1.trans (hb3.mono hB1.size); clear hb3))
  all_goals go_wp2
  all_goals go_ret
  all_goals exact ⟨congrArg (fun x => Ending.returned (Value.slice (some ⟨g, off + at_, none⟩) x (cap - at_))) (show ((at_ : Int) + (W : Int)).toNat - at_ = W by omega), HB0.out.trans (hB3.mono HB0.out.size)⟩
/-- A fault, as it lies in memory. -/
def FaultAt (w : World) (b : Nat) (a e : Int) : Prop := w.heap[b]? = some (.cells #[.int .i64 a, .int .i64 e] 90 (0, 0))
/-- An error: nil, or a new fault. -/
def ErrV (x : Option (Nat × Int)) (v : Value) (w w' : World) : Prop := match x with
  | none => v = .nilIface
  | some (k, e) => ∃ b, v = .iface 87 (.pointer (some ⟨b, 0, none⟩)) ∧ w.heap.size ≤ b ∧ FaultAt w' b (k : Nat) e
theorem err_new {w w1 : World} (hb : Below w.heap.size w w1) (k : Nat) (e : Int) : ErrV (some (k, e)) (.iface 87 (.pointer (some ⟨w1.heap.size, 0, none⟩))) w (w1.alloc (.cells #[.int .i64 (k : Nat), .int .i64 e] 90)) ∧ Below w.heap.size w (w1.alloc (.cells #[.int .i64 (k : Nat), .int .i64 e] 90)) :=
  ⟨⟨w1.heap.size, rfl, hb.size, heap_alloc_new w1 _⟩, hb.alloc hb.size _⟩
def mg (j : Nat) : Nat := if j = 0 then 79 else 67
theorem start_some0 {l : List UInt8} {k : Nat} (hk : k < l.length) (h2 : k < 2) (h : ∀ j, j < k → dL l j = mg j) (hne : dL l k ≠ mg k) : startE l = some k := by
  have hc : k = 0 ∨ k = 1 := by omega
  unfold startE
  rcases hc with rfl | rfl
  · rw [if_pos ⟨hk, hne⟩]
  · have h0 := h 0 (by omega)
    have e0 : dL l 0 = 79 := h0
    rw [if_neg (by rw [e0]; omega), if_pos ⟨hk, hne⟩]
theorem start_few {l : List UInt8} (h : ∀ j, j < 2 → j < l.length → dL l j = mg j) (hl : l.length < 10) : startE l = some l.length := by
  unfold startE
  have a := h 0 (by omega)
  have b := h 1 (by omega)
  have ea : mg 0 = 79 := rfl
  have eb : mg 1 = 67 := rfl
  rw [if_neg (fun x => x.2 (by rw [a x.1, ea])), if_neg (fun x => x.2 (by rw [b x.1, eb])), if_pos hl]
theorem start_none {l : List UInt8} (h : ∀ j, j < 2 → j < l.length → dL l j = mg j) (hl : ¬ l.length < 10) : startE l = none := by
  unfold startE
  have a := h 0 (by omega)
  have b := h 1 (by omega)
  have ea : mg 0 = 79 := rfl
  have eb : mg 1 = 67 := rfl
  rw [if_neg (fun x => x.2 (by rw [a x.1, ea])), if_neg (fun x => x.2 (by rw [b x.1, eb])), if_neg hl]
def stE (l : List UInt8) : Option (Nat × Int) := (startE l).map fun k => (k, 40)
set_option maxRecDepth 100000 in
set_option maxHeartbeats 800000 in
theorem checkStart_any (a : Option Addr) (g off n cap : Nat) (l : List UInt8) (w : World) (hn : n = l.length) (hmax : n ≤ 140737488351232) (ha : n = 0 ∨ a = some ⟨g, off, none⟩) (hl : At w g off l) :
    Calls Tryz.prog 28 #[.slice a n cap] w fun e w' => ∃ v, e = .returned v ∧ ErrV (stE l) v w w' ∧ Below w.heap.size w w' := by
  have HL : Hid (At w g off l) := hl
  have Hn : Hid (n = l.length) := hn
  have HF := fun (k : Int) w' => fault_any 40 k w'
  clear hl hn
  obtain ⟨m, hm⟩ : ∃ m : Nat, m = min n 2 := ⟨_, rfl⟩
  have hm2 : m ≤ 2 := by omega
  have hmn : m ≤ n := by omega
  have hmI : min (n : Int) 2 = (m : Int) := by omega
  have hmx : Hid (m = n ∨ m = 2) := by show _ ∨ _; omega
  clear hm
  go_enter Tryz.func28, Tryz.ntmps28
  go_wp2
  go_loopw [3, 7] (fun x3 i wr => ∃ k : Nat, k ≤ m ∧ i = .int .i64 k ∧ Hid (∀ j, j < k → dL l j = mg j) ∧ Hid (Below w.heap.size w wr)) (fun _ i _ => m - (RowKit.intOf i).toNat)
  case atStart => exact ⟨0, Nat.zero_le _, rfl, (fun j hj => by omega), Below.refl _ _⟩
  case round =>
    obtain ⟨k, hk, rfl, HZ, HB⟩ := hrel
    by_cases hlt : k < m
    · have hlt' : (k : Int) < (m : Int) := by omega
      obtain rfl : a = some ⟨g, off, none⟩ := by
        rcases ha with h | h
        · omega
        · exact h
      have hk2 : k = 0 ∨ k = 1 := by omega
      rcases hk2 with rfl | rfl
      · obtain ⟨c, hc, ec⟩ := dL_at (show 0 < l.length by have := Hn.out; omega)
        have hcell : wr.cell? ⟨g, off, none⟩ = some (.int .u8 (c.toNat : Int)) := (HL.out.below HB.out (Nat.le_refl _)) 0 c hc
        have hi : (0 : Int) < (n : Int) := by omega
        have hin : 0 < n := by omega
        by_cases h0 : c.toNat = 79
        · have HZ2 : Hid (∀ j, j < 0 + 1 → dL l j = mg j) := fun j hj => by
            by_cases e : j = 0
            · subst e; rw [ec, h0]; rfl
            · exact HZ.out j (by omega)
          rw [h0] at hcell
          clear HZ
          go_upto_region 4 with fail
          go_quiet (fail)
          go_wp2
          exact ⟨⟨0 + 1, by omega, by go_num, HZ2, below_drewN HB.out _⟩, by simp [RowKit.intOf]; omega⟩
        · have hcb : ((c.toNat : Int) != 79) = true := by simp; omega
          have hcb2 : ¬ ((c.toNat : Int) = 79) := by omega
          have hcb3 : ((c.toNat : Int) == 79) = false := by simp; omega
          have HS : Hid (stE l = some (0, 40)) := by
            show _ = _
            unfold stE
            rw [start_some0 (k := 0) (by have := Hn.out; omega) (by omega) HZ.out (by rw [ec]; exact h0)]; rfl
          generalize c.toNat = cn at *
          clear HZ
          go_upto_region 4 with fail
          go_quiet (fail)
          go_wp2_with (go_at_call 98; fail)
          · refine (fault_any 40 0 _).mono ?_
            rintro e w3 ⟨rfl, rfl⟩
            go_wp2
            go_ret
            exact ⟨_, rfl, by rw [HS.out]; exact (err_new (below_drewN HB.out _) 0 40).1, (err_new (below_drewN HB.out _) 0 40).2⟩
          · rename_i h
            have h' : ((cn : Int) != 79) = false := h
            rw [hcb] at h'
            cases h'
      · obtain ⟨c, hc, ec⟩ := dL_at (show 1 < l.length by have := Hn.out; omega)
        have hcell := (HL.out.below HB.out (Nat.le_refl _)) 1 c hc
        have hi : (1 : Int) < (n : Int) := by omega
        have hin : 1 < n := by omega
        by_cases h0 : c.toNat = 67
        · have HZ2 : Hid (∀ j, j < 1 + 1 → dL l j = mg j) := fun j hj => by
            by_cases e : j = 1
            · subst e; rw [ec, h0]; rfl
            · exact HZ.out j (by omega)
          rw [h0] at hcell
          clear HZ
          go_upto_region 4 with fail
          go_quiet (fail)
          go_wp2
          exact ⟨⟨1 + 1, by omega, by go_num, HZ2, below_drewN HB.out _⟩, by simp [RowKit.intOf]; omega⟩
        · have hcb : ((c.toNat : Int) != 67) = true := by simp; omega
          have hcb2 : ¬ ((c.toNat : Int) = 67) := by omega
          have hcb3 : ((c.toNat : Int) == 67) = false := by simp; omega
          have HS : Hid (stE l = some (1, 40)) := by
            show _ = _
            unfold stE
            rw [start_some0 (k := 1) (by have := Hn.out; omega) (by omega) HZ.out (by rw [ec]; exact h0)]; rfl
          generalize c.toNat = cn at *
          clear HZ
          go_upto_region 4 with fail
          go_quiet (fail)
          go_wp2_with (go_at_call 98; fail)
          · refine (fault_any 40 1 _).mono ?_
            rintro e w3 ⟨rfl, rfl⟩
            go_wp2
            go_ret
            exact ⟨_, rfl, by rw [HS.out]; exact (err_new (below_drewN HB.out _) 1 40).1, (err_new (below_drewN HB.out _) 1 40).2⟩
          · rename_i h
            have h' : ((cn : Int) != 67) = false := h
            rw [hcb] at h'
            cases h'
    · have hf : ¬ (k : Int) < (m : Int) := by omega
      have HA : Hid (∀ j, j < 2 → j < l.length → dL l j = mg j) := fun j h2 hl => HZ.out j (by have := hmx.out; have := Hn.out; omega)
      by_cases h10 : n < 10
      · have h10' : (n : Int) < 10 := by omega
        have HS : Hid (stE l = some (n, 40)) := by
          show _ = _
          unfold stE
          rw [start_few HA.out (by have := Hn.out; omega), ← Hn.out]; rfl
        clear HZ HA
        go_wp2_with (go_at_call 98; fail)
        refine (fault_any 40 (n : Int) _).mono ?_
        rintro e w3 ⟨rfl, rfl⟩
        have HE := err_new HB.out n 40
        go_wp2
        go_ret
        exact ⟨_, rfl, by rw [HS.out]; exact HE.1, HE.2⟩
      · have h10' : ¬ (n : Int) < 10 := by omega
        have HS : Hid (stE l = none) := by
          show _ = _
          unfold stE
          rw [start_none HA.out (by have := Hn.out; omega)]; rfl
        clear HZ HA
        go_wp2
        go_ret
        exact ⟨_, rfl, by rw [HS.out]; rfl, HB.out⟩
end Go.Proofs.YthadnogcocmfgaaGreatDoor

namespace Go.Proofs.YthadnogcocmfgaaGreatDoor
set_option linter.unusedVariables false
open Go.RowKit Go.Great Go.Lib

theorem At.src {w : World} {g off : Nat} {l : List UInt8} (h : At w g off l) (n : Nat) (hn : n = l.length) : Src w (some ⟨g, off, none⟩) n (dL l) := .inr ⟨g, off, rfl, by have := h.row; rw [← hn] at this; exact this⟩
set_option maxRecDepth 100000 in
set_option maxHeartbeats 800000 in
theorem checkHead_any (g off n cap : Nat) (l : List UInt8) (sz : Nat) (w : World) (hn : n = l.length) (h10 : 10 ≤ n) (hcap : n ≤ cap) (hmax : n ≤ 140737488351232) (hsz : sz = 0 ∨ 10 < sz ∧ sz ≤ 1000) (hl : At w g off l) :
    Calls Tryz.prog 29 #[.slice (some ⟨g, off, none⟩) n cap, .int .i64 (sz : Int)] w fun e w' => ∃ v, e = .returned v ∧ ErrV (headE l sz) v w w' ∧ Below w.heap.size w w' := by
  have hG1 := Get_yes (some ⟨g, off + 2, none⟩) (n - 2) (cap - 2) (dL (l.drop 2)) 2 w ((hl.drop 2).src _ (by rw [List.length_drop]; omega)) (by decide) (by decide) (by omega) (by omega) (by omega)
  have hG2 := Get_yes (some ⟨g, off + 6, none⟩) (n - 6) (cap - 6) (dL (l.drop 6)) 4 w ((hl.drop 6).src _ (by rw [List.length_drop]; omega)) (by decide) (by decide) (by omega) (by omega) (by omega)
  have hSm : n = sz → 10 < sz ∧ sz ≤ 1000 → Calls Tryz.prog 27 #[.slice (some ⟨g, off, none⟩) n cap] w fun e w' => e = .returned (.int .u64 (crcL (l.take 6 ++ l.drop 10) : Int)) ∧ Below w.heap.size w w' := fun e h => sumOf_any g off n cap l w hn (by omega) hcap (by omega) hl
  obtain ⟨c, hc, ec⟩ := dL_at (show 5 < l.length by omega)
  have hcell := hl 5 c hc
  have e0 : headE l sz = if sz = 0 then some (4, 60) else if c.toNat ≠ 1 then some (5, 60) else if getN (dL (l.drop 2)) 2 ≠ n then some (2, 43) else if n ≠ sz then some (2, 61) else if getN (dL (l.drop 6)) 4 ≠ crcL (l.take 6 ++ l.drop 10) then some (6, 44) else none := by
    unfold headE; rw [ec, ← hn]
  have hb1 := getN_lt2 (dL (l.drop 2)) 2 (dL_lt _) (by decide)
  have hb2 := getN_lt2 (dL (l.drop 6)) 4 (dL_lt _) (by decide)
  have hcr := crcL_lt (l.take 6 ++ l.drop 10)
  generalize headE l sz = H at *
  generalize getN (dL (l.drop 2)) 2 = G1 at *
  generalize getN (dL (l.drop 6)) 4 = G2 at *
  generalize crcL (l.take 6 ++ l.drop 10) = R at *
  generalize c.toNat = cn at *
  have x1 : (2 : Int) ≤ (n : Int) := by omega
  have x2 : ¬ cap = 2 := by omega
  have x3 : (6 : Int) ≤ (n : Int) := by omega
  have x4 : ¬ cap = 6 := by omega
  have x5 : (5 : Int) < (n : Int) := by omega
  have x6 : 5 < n := by omega
  have xw : IntKind.u64.wrap (n : Int) = (n : Int) := by rw [IntKind.wrap_u64]; omega
  clear hl hc ec hn
  by_cases s0 : sz = 0
  · subst s0
    rw [if_pos rfl] at e0
    subst e0
    clear hSm
    go_enter Tryz.func29, Tryz.ntmps29
    go_wp2_with (go_at_call 99; fail)
    refine hG1.mono ?_
    rintro e w2 ⟨rfl, rfl⟩
    go_wp2_with (go_at_call 99; fail)
    refine hG2.mono ?_
    rintro e w2 ⟨rfl, rfl⟩
    clear hG1 hG2
    go_wp2_with (first | (go_at_call 98; refine (fault_any _ _ _).mono ?_; rintro e w2 ⟨rfl, rfl⟩))
    go_ret
    exact ⟨_, rfl, err_new (Below.refl _ _) 4 60⟩
  · rw [if_neg s0] at e0
    have hs1 := hsz.resolve_left s0
    have s1 : ((sz : Int) == 0) = false := by simp; omega
    have s2 : ¬ (sz : Int) = 0 := by omega
    by_cases c0 : cn = 1
    · subst c0
      rw [if_neg (by simp)] at e0
      by_cases g0 : G1 = n
      · subst g0
        rw [if_neg (by simp)] at e0
        by_cases n0 : G1 = sz
        · rw [if_neg (by simpa using n0)] at e0
          have hSm' := hSm n0 hs1
          subst n0
          by_cases r0 : G2 = R
          · subst r0
            rw [if_neg (by simp)] at e0
            subst e0
            clear hSm hsz hs1 hmax hcap h10
            go_enter Tryz.func29, Tryz.ntmps29
            go_wp2_with (go_at_call 99; fail)
            refine hG1.mono ?_
            rintro e w2 ⟨rfl, rfl⟩
            go_wp2_with (go_at_call 99; fail)
            refine hG2.mono ?_
            rintro e w2 ⟨rfl, rfl⟩
            clear hG1 hG2
            go_wp2_with (first | (go_at_call 27; refine hSm'.mono ?_; rintro e w3 ⟨rfl, hb3⟩; have HB3 : Hid _ := hb3; clear hb3))
            go_ret
            exact ⟨_, rfl, rfl, HB3.out⟩
          · rw [if_pos r0] at e0
            subst e0
            have r1 : ((G2 : Int) != (R : Int)) = true := by simp; omega
            have r2 : ¬ (G2 : Int) = (R : Int) := by omega
            clear hSm hsz hs1 hmax hcap h10
            go_enter Tryz.func29, Tryz.ntmps29
            go_wp2_with (go_at_call 99; fail)
            refine hG1.mono ?_
            rintro e w2 ⟨rfl, rfl⟩
            go_wp2_with (go_at_call 99; fail)
            refine hG2.mono ?_
            rintro e w2 ⟨rfl, rfl⟩
            clear hG1 hG2
            go_wp2_with (first | (go_at_call 27; refine hSm'.mono ?_; rintro e w3 ⟨rfl, hb3⟩; have HB3 : Hid _ := hb3; clear hb3) | (go_at_call 98; refine (fault_any _ _ _).mono ?_; rintro e w2 ⟨rfl, rfl⟩))
            go_ret
            exact ⟨_, rfl, err_new HB3.out 6 44⟩
        · rw [if_pos n0] at e0
          subst e0
          have n1 : ((G1 : Int) != (sz : Int)) = true := by simp; omega
          have n2 : ¬ (G1 : Int) = (sz : Int) := by omega
          clear hSm hsz hs1 hmax hcap h10
          go_enter Tryz.func29, Tryz.ntmps29
          go_wp2_with (go_at_call 99; fail)
          refine hG1.mono ?_
          rintro e w2 ⟨rfl, rfl⟩
          go_wp2_with (go_at_call 99; fail)
          refine hG2.mono ?_
          rintro e w2 ⟨rfl, rfl⟩
          clear hG1 hG2
          go_wp2_with (first | (go_at_call 98; refine (fault_any _ _ _).mono ?_; rintro e w2 ⟨rfl, rfl⟩))
          go_ret
          exact ⟨_, rfl, err_new (Below.refl _ _) 2 61⟩
      · rw [if_pos g0] at e0
        subst e0
        have g1 : ((G1 : Int) != (n : Int)) = true := by simp; omega
        have g2 : ¬ (G1 : Int) = (n : Int) := by omega
        clear hSm hsz hs1 hmax hcap h10
        go_enter Tryz.func29, Tryz.ntmps29
        go_wp2_with (go_at_call 99; fail)
        refine hG1.mono ?_
        rintro e w2 ⟨rfl, rfl⟩
        go_wp2_with (go_at_call 99; fail)
        refine hG2.mono ?_
        rintro e w2 ⟨rfl, rfl⟩
        clear hG1 hG2
        go_wp2_with (first | (go_at_call 98; refine (fault_any _ _ _).mono ?_; rintro e w2 ⟨rfl, rfl⟩))
        go_ret
        exact ⟨_, rfl, err_new (Below.refl _ _) 2 43⟩
    · rw [if_pos c0] at e0
      subst e0
      have c1 : ((cn : Int) != 1) = true := by simp; omega
      have c2 : ¬ (cn : Int) = 1 := by omega
      clear hSm hsz hs1 hmax hcap h10
      go_enter Tryz.func29, Tryz.ntmps29
      go_wp2_with (go_at_call 99; fail)
      refine hG1.mono ?_
      rintro e w2 ⟨rfl, rfl⟩
      go_wp2_with (go_at_call 99; fail)
      refine hG2.mono ?_
      rintro e w2 ⟨rfl, rfl⟩
      clear hG1 hG2
      go_wp2_with (first | (go_at_call 98; refine (fault_any _ _ _).mono ?_; rintro e w2 ⟨rfl, rfl⟩))
      go_ret
      exact ⟨_, rfl, err_new (Below.refl _ _) 5 60⟩
end Go.Proofs.YthadnogcocmfgaaGreatDoor
