/-
  fields: bytes in memory; Split.
-/
import Derived.Test.YtfgfjkchcnpakaaDoorFSplit
import Derived.Laws.BytesArg
import Derived.Laws.IdiomStrings
namespace Go.Proofs.YtfgfjkchcnpakaaDoor
set_option linter.unusedVariables false
open Go.RowKit

/-- Bytes in memory: what may be read. -/
def SrcB (w : World) (v : Value) (l : List UInt8) : Prop := ∃ ao cap, v = .slice ao l.length cap ∧ l.length ≤ cap ∧ (l = [] ∨ ∃ b off, ao = some ⟨b, off, none⟩ ∧ ∀ j c, l[j]? = some c → w.cell? ⟨b, off + j, none⟩ = some (.int .u8 (c.toNat : Int)))
theorem SrcB.below {w w' : World} {v : Value} {l : List UInt8} (h : SrcB w v l) (hb : Below w.heap.size w w') : SrcB w' v l := by
  obtain ⟨ao, cap, rfl, hc, h⟩ := h
  refine ⟨ao, cap, rfl, hc, ?_⟩
  rcases h with h | ⟨b, off, e, h⟩
  · exact .inl h
  · refine .inr ⟨b, off, e, fun j c hj => ?_⟩
    have h1 := h j c hj
    have hlt : b < w.heap.size := World.block_lt_of_cell? _ _ h1
    rw [hb.cell (p := ⟨b, _, none⟩) hlt]; exact h1
theorem addr_add (b off j : Nat) : (⟨b, off, none⟩ : Addr).add j = ⟨b, off + j, none⟩ := by unfold Addr.add; split <;> simp_all
theorem SrcB.conv {w : World} {v : Value} {l : List UInt8} (h : SrcB w v l) : (convert 23 9 v).run Tryd.prog w = .ok (.string (bs l)) w := by
  obtain ⟨ao, cap, rfl, hc, h⟩ := h
  rcases h with rfl | ⟨b, off, rfl, h⟩
  · cases ao with
    | none => exact run_convert_bytes_nil w 23 5 Tryd.underlying23 Tryd.underlying5 0 cap 9 Tryd.underlying9
    | some a => exact run_convert_bytes_back (P := Tryd.prog) w 23 9 5 a cap [] Tryd.underlying23 Tryd.underlying5 Tryd.underlying9 (fun j hj => by simp at hj)
  · exact run_convert_bytes_back (P := Tryd.prog) w 23 9 5 ⟨b, off, none⟩ cap l Tryd.underlying23 Tryd.underlying5 Tryd.underlying9 (fun j hj => by
      rw [addr_add]; exact h j l[j] (List.getElem?_eq_getElem hj))
/-- The sum that num.Sum tells. -/
def dOf (l : List UInt8) (j : Nat) : Nat := (l.getD j 0).toNat
theorem sumRow_list (l : List UInt8) : ∀ k, k ≤ l.length → sumRow 0 (dOf l) k = sumL (l.take k)
  | 0, _ => rfl
  | k + 1, h => by
    have e : l.take (k + 1) = l.take k ++ [l[k]] := List.take_succ_eq_append_getElem (by omega)
    rw [e, sumL_snoc, ← sumRow_list l k (by omega)]
    show (sumRow 0 (dOf l) k + dOf l k) % 256 = _
    rw [show dOf l k = l[k].toNat by unfold dOf; rw [List.getD_eq_getElem?_getD, List.getElem?_eq_getElem (by omega)]; rfl]
theorem Sum_one (B : Nat) (b off k cap : Nat) (l : List UInt8) (w : World) (hk : k ≤ l.length) (hl : l.length ≤ 1048576)
    (hB : w.cell? ⟨B, 0, none⟩ = some (.slice (some ⟨b, off, none⟩) k cap)) (h : ∀ j c, l[j]? = some c → w.cell? ⟨b, off + j, none⟩ = some (.int .u8 (c.toNat : Int))) :
    Calls Tryd.prog 33 #[.slice (some ⟨B, 0, none⟩) 1 1] w fun e w' => e = .returned (.int .i64 (sumL (l.take k) : Int)) ∧ w' = w := by
  have h1 := Sum_any B 0 1 1 (fun _ => k) (fun _ => dOf l) w (by decide) ⟨fun i hi => by
    obtain rfl : i = 0 := by omega
    refine ⟨some ⟨b, off, none⟩, cap, hB, by unfold maxLen; omega, .inr ⟨b, off, rfl, fun j hj => ⟨?_, ?_⟩⟩⟩
    · have := h j l[j] (List.getElem?_eq_getElem (by omega))
      rw [this]
      show _ = some (Value.int .u8 ((dOf l j : Nat) : Int))
      unfold dOf
      rw [List.getD_eq_getElem?_getD, List.getElem?_eq_getElem (by omega)]; rfl
    · unfold dOf; exact UInt8.toNat_lt _⟩
  have e : sumRows (fun _ => k) (fun _ => dOf l) 1 = sumL (l.take k) := by
    show sumRow 0 (dOf l) k = _
    exact sumRow_list l k hk
  rw [e] at h1
  exact h1
theorem body_len {l : List UInt8} {b : Nat} (h : bodyL l = .ok b) : b + 7 ≤ l.length := by
  unfold bodyL at h
  split at h
  · cases h
  · split at h
    · cases h
    · split at h
      · rename_i h1 h2 h3
        injection h with h
        have := (pu_bd ((l.drop 12).take (numEnd l 12 - 12)) 9999 (by decide)).1
        omega
      · cases h
theorem split_e1 {l : List UInt8} {x : Int × Nat} (h : ¬ 1024 < l.length) (hb : bodyL l = .error x) : splitL l = .error x := by unfold splitL; rw [if_neg h, hb]
theorem split_e2 {l : List UInt8} {b : Nat} {x : Int × Nat} (h : ¬ 1024 < l.length) (hb : bodyL l = .ok b) (hx : lastL l (l.length - 7) (sumL (l.take (l.length - 7))) = some x) : splitL l = .error x := by
  unfold splitL; rw [if_neg h, hb]; simp only [hx]
theorem split_e3 {l : List UInt8} {b : Nat} (h : ¬ 1024 < l.length) (hb : bodyL l = .ok b) (hx : lastL l (l.length - 7) (sumL (l.take (l.length - 7))) = none) : splitL l = rdAll (l.take (l.length - 7)) l.length b := by
  unfold splitL; rw [if_neg h, hb]; simp only [hx]
set_option maxRecDepth 100000 in
set_option maxHeartbeats 800000 in
theorem Split_any (v : Value) (l : List UInt8) (w : World) (hl : l.length ≤ 9223372036854775807) (hv : SrcB w v l) (hp : Pow w) :
    Calls Tryd.prog 10 #[v] w fun x w' => SplitRet (splitL l) w x w' := by
  have HV : Hid (SrcB w v l ∧ Pow w) := ⟨hv, hp⟩
  obtain ⟨ao, cap, rfl, hc, hcells⟩ := hv
  have HC : Hid (l = [] ∨ ∃ b off, ao = some ⟨b, off, none⟩ ∧ ∀ j c, l[j]? = some c → w.cell? ⟨b, off + j, none⟩ = some (.int .u8 (c.toNat : Int))) := hcells
  clear hcells hp
  by_cases hlong : 1024 < l.length
  · have hB : Hid (splitL l = .error (43, 1024)) := by show splitL _ = _; unfold splitL; rw [if_pos hlong]
    generalize splitL l = R at *
    have hlong' : (1024 : Int) < (l.length : Int) := by omega
    generalize l.length = n at *
    go_enter Tryd.func10, Tryd.ntmps10
    go_wp2_with (go_at_call 35; fail)
    refine (fault_any 43 _ 1024 rfl _).mono ?_
    rintro e w2 ⟨rfl, hf, hb⟩
    have HX : Hid (FaultAt w2 w.heap.size 43 1024 ∧ Below w.heap.size w w2) := ⟨hf, hb⟩
    clear hf hb
    go_wp2
    go_ret2
    exact .fail hB.out HX.out.2 (Nat.le_refl _) rfl HX.out.1
  · have hlong' : decide ((1024 : Int) < (l.length : Int)) = false := decide_eq_false (by omega)
    have hlong2 : decide (1024 < l.length) = false := decide_eq_false (by omega)
    have hcv := HV.out.1.conv
    have h1 := findBody_any (bs l) w (by rw [bs_size]; omega)
    rw [bs_list] at h1
    cases hb : bodyL l with
    | error x =>
      obtain ⟨e, a⟩ := x
      have HS : Hid (splitL l = .error (e, a)) := split_e1 hlong hb
      have HB : Hid (bodyL l = .error (e, a)) := hb
      clear hb
      generalize splitL l = R at *
      generalize bs l = S at *
      go_enter Tryd.func10, Tryd.ntmps10
      go_wp2_with (go_at_call 36; fail)
      refine h1.mono ?_
      intro x w1 hR1
      unfold BodyRet at hR1
      rw [HB.out] at hR1
      obtain ⟨hb1, g, hg, rfl, hf⟩ := hR1
      have HX : Hid (FaultAt w1 g e a ∧ Below w.heap.size w w1 ∧ w.heap.size ≤ g) := ⟨hf, hb1, hg⟩
      clear hf hb1 hg h1
      go_wp2
      go_ret2
      exact .fail HS.out HX.out.2.1 HX.out.2.2 rfl HX.out.1
    | ok b =>
      have hbl := body_len hb
      obtain ⟨m, hm⟩ : ∃ m, l.length = m + 7 := ⟨l.length - 7, by omega⟩
      have hm7 : l.length - 7 = m := by omega
      have HB : Hid (bodyL l = .ok b) := hb
      have HE2 : Hid (∀ x, lastL l m (sumL (l.take m)) = some x → splitL l = .error x) := fun x hx => split_e2 hlong hb (by rw [hm7]; exact hx)
      have HE3 : Hid (lastL l m (sumL (l.take m)) = none → splitL l = rdAll (l.take m) l.length b) := fun hx => by
        have := split_e3 hlong hb (by rw [hm7]; exact hx)
        rw [hm7] at this; exact this
      have h3 := fun w' hw' => checkLast_any (bs l) m (sumL (l.take m)) w' (by rw [bs_size]; omega) (by rw [bs_size]; omega) (sumL_lt _) hw'
      simp only [bs_list] at h3
      have h4 := fun w' => readFields_any ((bs l).extract 0 m) b l.length w' (by have := extract_le (bs l) 0 m; rw [bs_size] at this; omega) (by rw [Lib.size_eq, Lib.extract_data, bs_list]; simp; omega) (by have := extract_le (bs l) 0 m; rw [bs_size] at this; omega)
      simp only [Lib.extract_data, bs_list, List.drop_zero, Nat.sub_zero] at h4
      have HSZ : (bs l).size = m + 7 := by rw [bs_size]; exact hm
      rcases HC.out with h0 | ⟨B, off, rfl, hcell⟩
      · rw [h0] at hm; simp at hm
      have HCell : Hid (∀ j c, l[j]? = some c → w.cell? ⟨B, off + j, none⟩ = some (.int .u8 (c.toNat : Int))) := hcell
      have h2 := fun w' Bk hk hh => Sum_one Bk B off m cap l w' (by omega) (by omega) hk hh
      clear hb hcell HC hm7 hlong
      have HBL : Hid (l.length = m + 7) := hm
      rw [hm] at hlong' hlong2 hcv hc hl hbl
      simp only [hm]
      generalize splitL l = R at *
      have hsl : lastL l m (sumL (l.take m)) = lastL l m (sumL (l.take m)) := rfl
      generalize hL : lastL l m (sumL (l.take m)) = L at *
      have hsum := sumL_lt (l.take m)
      generalize sumL (l.take m) = sm at *
      generalize bs l = S at *
      have hc7 : (m : Int) ≤ (cap : Int) := by omega
      have hl7 : decide ((1024 : Int) < (m : Int) + 7) = false := decide_eq_false (by have := of_decide_eq_false hlong2; omega)
      clear hlong' hlong2
      clear hL hsl hm
      have HW : Hid (∀ w', Below w.heap.size w w' → Pow w') := fun w' hb => HV.out.2.below hb
      clear HV
      go_enter Tryd.func10, Tryd.ntmps10
      go_wp2_with (go_at_call 36; fail)
      refine h1.mono ?_
      intro x w1 hR1
      unfold BodyRet at hR1
      rw [HB.out] at hR1
      obtain ⟨hb1, rfl⟩ := hR1
      have HB1 : Hid (Below w.heap.size w w1) := hb1
      clear hb1 h1
      go_wp2_with (go_at_call 33; fail)
      have hba : Below w.heap.size w (w1.alloc (.cells #[.slice (some ⟨B, off, none⟩) m cap] 23)) := HB1.out.alloc HB1.out.size _
      refine (h2 (w1.alloc (.cells #[.slice (some ⟨B, off, none⟩) m cap] 23)) w1.heap.size (cell_of_row _ _ 0 _ _ _ (heap_alloc_new w1 _)) (fun j c hj => by
        have h := HCell.out j c hj
        rw [hba.cell (p := ⟨B, _, none⟩) (World.block_lt_of_cell? _ _ h)]; exact h)).mono ?_
      rintro e w2 ⟨rfl, rfl⟩
      have HB2 : Hid (Below w.heap.size w (w1.alloc (.cells #[.slice (some ⟨B, off, none⟩) m cap] 23))) := hba
      clear hba h2 HB1
      generalize w1.alloc (.cells #[.slice (some ⟨B, off, none⟩) m cap] 23) = w2 at *
      go_wp2_with (go_at_call 37; fail)
      refine (h3 w2 (HW.out _ HB2.out)).mono ?_
      intro x w3 hR3
      unfold LastRet at hR3
      cases L with
      | some y =>
        obtain ⟨e, a⟩ := y
        obtain ⟨hb3, g, hg, rfl, hf⟩ := hR3
        have HX : Hid (FaultAt w3 g e a ∧ Below w.heap.size w w3 ∧ w.heap.size ≤ g) := ⟨hf, HB2.out.trans (hb3.mono HB2.out.size), Nat.le_trans HB2.out.size hg⟩
        clear hf hb3 hg h3 h4
        go_wp2
        go_ret2
        exact .fail (HE2.out _ rfl) HX.out.2.1 HX.out.2.2 rfl HX.out.1
      | none =>
        obtain ⟨hb3, rfl⟩ := hR3
        have HB3 : Hid (Below w.heap.size w w3) := HB2.out.trans (hb3.mono HB2.out.size)
        have HE : Hid (R = rdAll (l.take m) l.length b) := HE3.out rfl
        clear hb3 HB2 h3 HE2 HE3
        go_wp2_with (go_at_call 38; fail)
        refine (h4 w3).mono ?_
        intro x w4 hR4
        unfold SplitRet at hR4
        rw [← HE.out] at hR4
        cases R with
        | ok fs =>
          obtain ⟨hb4, v, rfl, ho⟩ := hR4
          have HX : Hid (Below w.heap.size w w4 ∧ OwnF w4 w.heap.size v fs) := ⟨HB3.out.trans (hb4.mono HB3.out.size), ho.mono HB3.out.size⟩
          clear hb4 ho h4
          go_wp2
          go_ret2
          exact .good rfl HX.out.1 rfl HX.out.2
        | error y =>
          obtain ⟨e, a⟩ := y
          obtain ⟨hb4, g, hg, rfl, hf⟩ := hR4
          have HX : Hid (FaultAt w4 g e a ∧ Below w.heap.size w w4 ∧ w.heap.size ≤ g) := ⟨hf, HB3.out.trans (hb4.mono HB3.out.size), Nat.le_trans HB3.out.size hg⟩
          clear hf hb4 hg h4
          go_wp2
          go_ret2
          exact .fail rfl HX.out.2.1 HX.out.2.2 rfl HX.out.1
end Go.Proofs.YtfgfjkchcnpakaaDoor
