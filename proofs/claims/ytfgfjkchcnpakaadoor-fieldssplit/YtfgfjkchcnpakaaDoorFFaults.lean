/-
  The law's faults: two errors stay as they are.
-/
import Derived.Test.YtfgfjkchcnpakaaDoorFSplitL
namespace Go.Proofs.YtfgfjkchcnpakaaDoor
set_option linter.unusedVariables false
open Go.RowKit

def litL : List UInt8 := [56, 61, 70, 73, 88, 46, 52, 46, 52, 1]
theorem lit_src (W : World) : SrcB (W.alloc (.cells #[.int .u8 56, .int .u8 61, .int .u8 70, .int .u8 73, .int .u8 88, .int .u8 46, .int .u8 52, .int .u8 46, .int .u8 52, .int .u8 1] 5 (10, 11))) (.slice (some ⟨W.heap.size, 0, none⟩) 10 10) litL := by
  refine ⟨_, _, rfl, Nat.le_refl _, .inr ⟨W.heap.size, 0, rfl, fun j c hj => ?_⟩⟩
  rw [cell_of_row _ _ _ _ _ _ (heap_alloc_new W _), Nat.zero_add]
  show (bcs litL).toArray[j]? = _
  simp [bcs, hj]
set_option maxRecDepth 100000 in
set_option maxHeartbeats 4000000 in
theorem faults_any (e1 e2 v1 v2 : Value) (l1 l2 : List UInt8) (B : Nat) (w : World) (h1 : ErrAt w B e1 l1) (h2 : ErrAt w B e2 l2) (hv1 : SrcB w v1 l1) (hv2 : SrcB w v2 l2) (hn1 : l1.length ≤ 140737488351232) (hn2 : l2.length ≤ 140737488351232) (hp : Pow w) :
    Calls Tryd.prog 25 #[e1, e2, v1, v2] w fun x w' => x = .returned (.bool true) ∧ Below w.heap.size w w' := by
  have HE : Hid (∀ w', Below w.heap.size w w' → Calls Tryd.prog 26 #[e1] w' fun x w2 => x = .returned (.tuple #[.int .i64 (splitA l1 : Int), .int .i64 (splitE l1), .bool true]) ∧ ∃ q, w2 = w'.drewN q) := fun w' hb => (h1.below hb).calls
  have HE2 : Hid (∀ w', Below w.heap.size w w' → Calls Tryd.prog 26 #[e2] w' fun x w2 => x = .returned (.tuple #[.int .i64 (splitA l2 : Int), .int .i64 (splitE l2), .bool true]) ∧ ∃ q, w2 = w'.drewN q) := fun w' hb => (h2.below hb).calls
  have HR1 : Hid (∀ w', Below w.heap.size w w' → Calls Tryd.prog 24 #[v1] w' fun x w2 => ∃ v, x = .returned (.tuple #[v, .int .i64 (splitA l1 : Int), .int .i64 (splitE l1)]) ∧ Below w'.heap.size w' w2) := fun w' hb => (refSplit_any v1 l1 w' (hv1.below hb) (by unfold maxLen; omega)).mono fun x w2 h => by obtain ⟨v, a, _, b⟩ := h.one; exact ⟨v, a, b⟩
  have HR2 : Hid (∀ w', Below w.heap.size w w' → Calls Tryd.prog 24 #[v2] w' fun x w2 => ∃ v, x = .returned (.tuple #[v, .int .i64 (splitA l2 : Int), .int .i64 (splitE l2)]) ∧ Below w'.heap.size w' w2) := fun w' hb => (refSplit_any v2 l2 w' (hv2.below hb) (by unfold maxLen; omega)).mono fun x w2 h => by obtain ⟨v, a, _, b⟩ := h.one; exact ⟨v, a, b⟩
  have HP : Hid (Pow w) := hp
  clear h1 h2 hv1 hv2 hn1 hn2 hp
  generalize (splitA l1 : Int) = A1 at *
  generalize splitE l1 = E1 at *
  generalize (splitA l2 : Int) = A2 at *
  generalize splitE l2 = E2 at *
  have x1 : (E1 != E1) = false := by simp
  have x2 : (E2 != E2) = false := by simp
  have x3 : (A1 != A1) = false := by simp
  have x4 : (A2 != A2) = false := by simp
  have x5 : (E1 == E1) = true := by simp
  have x6 : (E2 == E2) = true := by simp
  have x7 : (A1 == A1) = true := by simp
  have x8 : (A2 == A2) = true := by simp
  have hc : ∀ E : Int, ((E != 0) = true ∧ (E == 0) = false) ∨ E = 0 := fun E => by
    by_cases h : E = 0
    · exact .inr h
    · exact .inl ⟨by simpa using h, by simpa using h⟩
  rcases hc E1 with ⟨k1, k2⟩ | rfl <;> rcases hc E2 with ⟨k3, k4⟩ | rfl
  all_goals clear hc
  all_goals go_enter Tryd.func25, Tryd.ntmps25
  all_goals go_wp2_with (go_at_call 26; fail)
  all_goals (refine (HE.out w (Below.refl _ _)).mono ?_)
  all_goals (rintro x wa ⟨rfl, qa, hqa⟩)
  all_goals (have HBa : Hid (Below w.heap.size w wa) := (by rw [hqa]; exact below_drewN (Below.refl _ w) qa : Below w.heap.size w wa))
  all_goals clear hqa
  all_goals go_wp2_with (go_at_call 24; fail)
  all_goals (refine (HR1.out wa HBa.out).mono ?_)
  all_goals (rintro x wb ⟨u1, rfl, hbb⟩)
  all_goals (have HBb : Hid (Below w.heap.size w wb) := HBa.out.trans (hbb.mono HBa.out.size))
  all_goals clear hbb HBa
  all_goals go_wp2_with (go_at_call 26; fail)
  all_goals (refine (HE2.out wb HBb.out).mono ?_)
  all_goals (rintro x wc ⟨rfl, qc, hqc⟩)
  all_goals (have HBc : Hid (Below w.heap.size w wc) := (by rw [hqc]; exact below_drewN HBb.out qc : Below w.heap.size w wc))
  all_goals clear hqc HBb
  all_goals go_wp2_with (go_at_call 24; fail)
  all_goals (refine (HR2.out wc HBc.out).mono ?_)
  all_goals (rintro x wd ⟨u2, rfl, hbd⟩)
  all_goals (have HBd : Hid (Below w.heap.size w wd) := HBc.out.trans (hbd.mono HBc.out.size))
  all_goals clear hbd HBc
  all_goals (have hcs := Lib.run_convert_bytes_const (P := Tryd.prog) wd 23 5 #[.int .u8 56, .int .u8 61, .int .u8 70, .int .u8 73, .int .u8 88, .int .u8 46, .int .u8 52, .int .u8 46, .int .u8 52, .int .u8 1] 10 10 Tryd.underlying23 Tryd.underlying5)
  all_goals (have HBl : Hid (Below w.heap.size w (wd.alloc (.cells #[.int .u8 56, .int .u8 61, .int .u8 70, .int .u8 73, .int .u8 88, .int .u8 46, .int .u8 52, .int .u8 46, .int .u8 52, .int .u8 1] 5 (10, 11)))) := HBd.out.alloc HBd.out.size _)
  all_goals (have HSl : Hid (Calls Tryd.prog 10 #[.slice (some ⟨wd.heap.size, 0, none⟩) 10 10] (wd.alloc (.cells #[.int .u8 56, .int .u8 61, .int .u8 70, .int .u8 73, .int .u8 88, .int .u8 46, .int .u8 52, .int .u8 46, .int .u8 52, .int .u8 1] 5 (10, 11))) fun x w' => SplitRet (splitL litL) (wd.alloc (.cells #[.int .u8 56, .int .u8 61, .int .u8 70, .int .u8 73, .int .u8 88, .int .u8 46, .int .u8 52, .int .u8 46, .int .u8 52, .int .u8 1] 5 (10, 11))) x w') := Split_any _ litL _ (by decide) (lit_src wd) (HP.out.below HBl.out))
  all_goals go_wp2_with (go_at_call 10; fail)
  all_goals (refine HSl.out.mono ?_)
  all_goals (intro x wf hR)
  all_goals (obtain ⟨u3, u4, rfl, _, _, hbf⟩ := hR.one)
  all_goals (have HBf : Hid (Below w.heap.size w wf) := HBl.out.trans (hbf.mono HBl.out.size))
  all_goals clear hbf hR HBl HSl HBd hcs
  all_goals go_wp2_with (go_at_call 26; fail)
  all_goals (refine (HE.out wf HBf.out).mono ?_)
  all_goals (rintro x wg ⟨rfl, qg, hqg⟩)
  all_goals (have HBg : Hid (Below w.heap.size w wg) := (by rw [hqg]; exact below_drewN HBf.out qg : Below w.heap.size w wg))
  all_goals clear hqg HBf
  all_goals go_wp2_with (go_at_call 26; fail)
  all_goals (refine (HE2.out wg HBg.out).mono ?_)
  all_goals (rintro x wh ⟨rfl, qh, hqh⟩)
  all_goals (have HBh : Hid (Below w.heap.size w wh) := (by rw [hqh]; exact below_drewN HBg.out qh : Below w.heap.size w wh))
  all_goals clear hqh HBg
  all_goals go_wp2
  all_goals go_ret
  all_goals exact ⟨rfl, HBh.out⟩
end Go.Proofs.YtfgfjkchcnpakaaDoor
