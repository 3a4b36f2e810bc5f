/-
  The law's split: what Split tells of a text is what the reference tells.
-/
import Derived.Test.YtfgfjkchcnpakaaDoorFKept
import Derived.Test.YtfgfjkchcnpakaaDoorFRefSplit
namespace Go.Proofs.YtfgfjkchcnpakaaDoor
set_option linter.unusedVariables false
open Go.RowKit

theorem addF_err {f : Fld} {r : Except (Int × Nat) (List Fld)} {x : Int × Nat} (h : addF f r = .error x) : r = .error x := by
  cases r with
  | ok l => cases h
  | error y => exact h
theorem rdAll_err (t : List UInt8) : ∀ (n a : Nat) (e : Int) (k : Nat), rdAll t n a = .error (e, k) → e ≠ 0
  | 0, a, e, k, h => by cases h
  | n + 1, a, e, k, h => by
    unfold rdAll at h
    split at h
    · split at h
      · rename_i f j hf
        exact rdAll_err t n (a + j) e k (addF_err h)
      · rename_i e' j hf
        injection h with h
        obtain ⟨h, _⟩ := Prod.mk.inj h
        rw [← h]
        exact rdF_err hf
    · cases h
theorem body_err {l : List UInt8} {e : Int} {k : Nat} (h : bodyL l = .error (e, k)) : e ≠ 0 := by
  unfold bodyL at h
  split at h
  · injection h with h; obtain ⟨h, _⟩ := Prod.mk.inj h; omega
  · split at h
    · injection h with h; obtain ⟨h, _⟩ := Prod.mk.inj h; omega
    · split at h
      · cases h
      · injection h with h; obtain ⟨h, _⟩ := Prod.mk.inj h; omega
theorem last_err {l : List UInt8} {a n : Nat} {e : Int} {k : Nat} (h : lastL l a n = some (e, k)) : e ≠ 0 := by
  unfold lastL at h
  split at h
  · injection h with h; obtain ⟨h, _⟩ := Prod.mk.inj h; omega
  · split at h
    · injection h with h; obtain ⟨h, _⟩ := Prod.mk.inj h; omega
    · split at h
      · injection h with h; obtain ⟨h, _⟩ := Prod.mk.inj h; omega
      · split at h
        · cases h
        · injection h with h; obtain ⟨h, _⟩ := Prod.mk.inj h; omega
theorem split_err {l : List UInt8} {e : Int} {k : Nat} (h : splitL l = .error (e, k)) : e ≠ 0 := by
  unfold splitL at h
  split at h
  · injection h with h; obtain ⟨h, _⟩ := Prod.mk.inj h; omega
  · split at h
    · rename_i x hx
      injection h with h
      rw [h] at hx
      exact body_err hx
    · split at h
      · rename_i x hx
        injection h with h
        rw [h] at hx
        exact last_err hx
      · exact rdAll_err _ _ _ e k h
def splitF (l : List UInt8) : List Fld := match splitL l with | .ok fs => fs | .error _ => []
def splitE (l : List UInt8) : Int := match splitL l with | .ok _ => 0 | .error (e, _) => e
def splitA (l : List UInt8) : Nat := match splitL l with | .ok _ => 0 | .error (_, a) => a
/-- An error that tells how the text was split. -/
def ErrAt (w : World) (B : Nat) (ev : Value) (l : List UInt8) : Prop := match splitL l with
  | .ok _ => ev = .nilIface
  | .error (e, a) => ∃ g, B ≤ g ∧ ev = .iface 100 (.pointer (some ⟨g, 0, none⟩)) ∧ FaultAt w g e a
theorem ErrAt.of {w w' : World} {B : Nat} {ev : Value} {l : List UInt8} (h : ErrAt w B ev l) (hk : ∀ k, B ≤ k → k < w.heap.size → w'.heap[k]? = w.heap[k]?) : ErrAt w' B ev l := by
  unfold ErrAt at h ⊢
  cases hj : splitL l with
  | ok fs => rw [hj] at h; exact h
  | error y =>
    obtain ⟨e, a⟩ := y
    rw [hj] at h
    obtain ⟨g, hg, h1, h2⟩ := h
    exact ⟨g, hg, h1, (hk g hg h2.lt).trans h2⟩
theorem ErrAt.below {w w' : World} {B : Nat} {ev : Value} {l : List UInt8} (h : ErrAt w B ev l) (hb : Below w.heap.size w w') : ErrAt w' B ev l := h.of fun k _ hk => hb.block k hk
theorem ErrAt.calls {w : World} {B : Nat} {ev : Value} {l : List UInt8} (h : ErrAt w B ev l) : Calls Tryd.prog 26 #[ev] w fun x w2 => x = .returned (.tuple #[.int .i64 (splitA l : Int), .int .i64 (splitE l), .bool true]) ∧ ∃ q, w2 = w.drewN q := by
  unfold ErrAt at h
  unfold splitA splitE
  cases hj : splitL l with
  | ok fs => rw [hj] at h; subst h; exact (lawFault_nil w).mono fun e w3 ⟨he, hw⟩ => ⟨he, 0, hw⟩
  | error y =>
    obtain ⟨e, a⟩ := y
    rw [hj] at h
    obtain ⟨g, hg, h1, h2⟩ := h
    subst h1
    exact lawFault_at g e a w h2 (split_err hj)
theorem SplitRet.one {l : List UInt8} {w w' : World} {x : Ending} (h : SplitRet (splitL l) w x w') : ∃ v ev, x = .returned (.tuple #[v, ev]) ∧ OwnF w' w.heap.size v (splitF l) ∧ ErrAt w' w.heap.size ev l ∧ Below w.heap.size w w' := by
  obtain ⟨hb, h⟩ := h
  unfold splitF ErrAt
  cases hj : splitL l with
  | ok fs =>
    rw [hj] at h
    obtain ⟨v, h1, h2⟩ := h
    exact ⟨v, _, h1, h2, rfl, hb⟩
  | error y =>
    obtain ⟨e, a⟩ := y
    rw [hj] at h
    obtain ⟨g, hg, h1, h2⟩ := h
    exact ⟨_, _, h1, OwnF.nil _ _, ⟨g, hg, rfl, h2⟩, hb⟩
theorem RefSplitRet.one {l : List UInt8} {w w' : World} {x : Ending} (h : RefSplitRet (splitL l) w x w') : ∃ v, x = .returned (.tuple #[v, .int .i64 (splitA l : Int), .int .i64 (splitE l)]) ∧ OwnF w' w.heap.size v (splitF l) ∧ Below w.heap.size w w' := by
  obtain ⟨hb, h⟩ := h
  unfold splitF splitA splitE
  cases hj : splitL l with
  | ok fs =>
    rw [hj] at h
    obtain ⟨v, h1, h2⟩ := h
    exact ⟨v, h1, h2, hb⟩
  | error y =>
    obtain ⟨e, a⟩ := y
    rw [hj] at h
    exact ⟨_, h, OwnF.nil _ _, hb⟩
theorem splitF_len (l : List UInt8) : (splitF l).length ≤ 1024 := by
  unfold splitF
  cases hj : splitL l with
  | ok fs =>
    have h1 := split_join hj
    have h2 := join_parts h1
    have h3 := length_flds fs
    have h4 : (bodyB fs).length ≤ l.length := by
      rw [h2.1]
      simp [closeL, aheadL]
      omega
    have := h2.2.1
    show fs.length ≤ 1024
    omega
  | error y => exact Nat.zero_le _
set_option maxRecDepth 100000 in
set_option maxHeartbeats 2000000 in
theorem split_any (v : Value) (l : List UInt8) (w : World) (hn : l.length ≤ 140737488351232) (hv : SrcB w v l) (hp : Pow w) :
    Calls Tryd.prog 23 #[v] w fun x w' => ∃ u, x = .returned (.tuple #[u, .bool true]) ∧ OwnF w' w.heap.size u (splitF l) ∧ Below w.heap.size w w' := by
  have HV : Hid (SrcB w v l ∧ Pow w ∧ ∀ k, v.ownBlock = some k → k < w.heap.size ∨ l = []) := ⟨hv, hp, fun k hk => by
    obtain ⟨ao, cap, rfl, hc, h0 | ⟨b, off, rfl, hr⟩⟩ := hv
    · exact .inr h0
    · by_cases hl : l = []
      · exact .inr hl
      · left
        have hpos : 0 < l.length := List.length_pos_iff.2 hl
        have h := hr 0 _ (List.getElem?_eq_getElem hpos)
        have e : b = k := by simpa [Value.ownBlock] using hk
        rw [← e]
        exact World.block_lt_of_cell? _ _ h⟩
  obtain ⟨ao, cap, rfl, hc, _⟩ := hv
  have hfl := splitF_len l
  have h1 := bytes_any _ l w hn HV.out.1
  clear hp
  go_enter Tryd.func23, Tryd.ntmps23
  go_wp2_with (go_at_call 52; fail)
  refine h1.mono ?_
  rintro e w1 ⟨rfl, ho1, hb1⟩
  have H1 : Hid (OwnB w1 w.heap.size (.slice (some ⟨w.heap.size, 0, none⟩) (l.length + 8) (l.length + 8)) (padL l 8) ∧ Below w.heap.size w w1) := ⟨ho1, hb1⟩
  have HSM : Hid (SrcB w1 (.slice (some ⟨w.heap.size, 0, none⟩) l.length (l.length + 8)) l) := by
    refine ⟨_, _, rfl, by omega, .inr ⟨w.heap.size, 0, rfl, fun j c hj => ?_⟩⟩
    have hjl := (List.getElem?_eq_some_iff.1 hj).1
    obtain ⟨y, hy, c0, _⟩ := ho1.cellN (padL_length l 8 (by omega)).symm j (by omega)
    rw [padL_lo l j hjl, hj] at hy
    injection hy with hy
    rw [Nat.zero_add, c0, hy]
  clear ho1 hb1 h1
  have hcast : (l.length : Int) ≤ (l.length : Int) + 8 := by omega
  go_wp2_with (go_at_call 10; fail)
  refine (Split_any _ l w1 (by omega) HSM.out (HV.out.2.1.below H1.out.2)).mono ?_
  intro x w2 hR
  obtain ⟨vg, ev, rfl, hog, hev, hb2⟩ := hR.one
  have H2 : Hid (OwnB w2 w.heap.size (.slice (some ⟨w.heap.size, 0, none⟩) (l.length + 8) (l.length + 8)) (padL l 8) ∧ Below w.heap.size w w2 ∧ OwnF w2 w1.heap.size vg (splitF l) ∧ ErrAt w2 w1.heap.size ev l ∧ w.heap.size < w1.heap.size) := ⟨H1.out.1.below hb2, H1.out.2.trans (hb2.mono H1.out.2.size), hog, hev, (H1.out.1.lt w.heap.size rfl).2⟩
  clear hR hog hev hb2 HSM
  go_wp2_with (go_at_call 53; fail)
  refine (kept_any w.heap.size (l.length + 8) w.heap.size _ l w2 hn (HV.out.1.below H2.out.2.1) HV.out.2.2 H2.out.1).mono ?_
  rintro e w3 ⟨rfl, hb3, hsame⟩
  have hofg : OwnF w3 w1.heap.size vg (splitF l) := ownsRow_of_block H2.out.2.2.1 (fun k hk => hsame k (by have := (H2.out.2.2.1.lt k hk).1; have := H2.out.2.2.2.2; omega))
  have hev3 : ErrAt w3 w1.heap.size ev l := H2.out.2.2.2.1.of (fun k hk _ => hsame k (by have := H2.out.2.2.2.2; omega))
  have H3 : Hid (Below w.heap.size w w3 ∧ OwnF w3 w.heap.size vg (splitF l) ∧ ErrAt w3 w1.heap.size ev l) := ⟨H2.out.2.1.trans hb3, hofg.mono (by have := H2.out.2.2.2.2; omega), hev3⟩
  clear hb3 hsame hofg hev3 H2 H1
  go_wp2_with (go_at_call 24; fail)
  refine (refSplit_any _ l w3 (HV.out.1.below H3.out.1) (by unfold maxLen; omega)).mono ?_
  intro x w4 hR
  obtain ⟨vr, rfl, hor, hb4⟩ := hR.one
  have H4 : Hid (Below w.heap.size w w4 ∧ OwnF w4 w.heap.size vg (splitF l) ∧ ErrAt w4 w1.heap.size ev l ∧ OwnF w4 w3.heap.size vr (splitF l)) := ⟨H3.out.1.trans (hb4.mono H3.out.1.size), H3.out.2.1.below hb4, H3.out.2.2.below hb4, hor⟩
  clear hR hor hb4 H3
  have h5 := H4.out.2.2.1.calls
  generalize (splitA l : Int) = SA at *
  generalize splitE l = SE at *
  go_wp2_with (go_at_call 26; fail)
  refine h5.mono ?_
  rintro x w5 ⟨rfl, q5, hq5⟩
  have hb5 : Below w4.heap.size w4 w5 := by rw [hq5]; exact below_drewN (Below.refl _ w4) q5
  have H5 : Hid (Below w.heap.size w w5 ∧ OwnF w5 w.heap.size vg (splitF l) ∧ OwnF w5 w3.heap.size vr (splitF l)) := ⟨H4.out.1.trans (hb5.mono H4.out.1.size), H4.out.2.1.below hb5, H4.out.2.2.2.below hb5⟩
  clear hq5 hb5 h5 H4
  go_wp2_with (go_at_call 11; fail)
  refine (same_yes _ _ (splitF l) w5 (by omega) H5.out.2.1.src H5.out.2.2.src).mono ?_
  rintro x w6 ⟨rfl, q6, hq6⟩
  have hb6 : Below w5.heap.size w5 w6 := by rw [hq6]; exact below_drewN (Below.refl _ w5) q6
  have H6 : Hid (Below w.heap.size w w6 ∧ OwnF w6 w.heap.size vg (splitF l)) := ⟨H5.out.1.trans (hb6.mono H5.out.1.size), H5.out.2.1.below hb6⟩
  clear hq6 hb6 H5
  have hse : (SE != SE) = false := by simp
  have hsa : (SA != SA) = false := by simp
  go_wp2
  go_ret2
  exact ⟨vg, rfl, H6.out.2, H6.out.1⟩
end Go.Proofs.YtfgfjkchcnpakaaDoor
