/-
  fields: the document's examples: shown.
-/
import Derived.Test.YtfgfjkchcnpakaaDoorFFault
import Derived.Lib.ConvBytes
import Derived.Lib.SlBytesConst
namespace Go.Proofs.YtfgfjkchcnpakaaDoor
set_option linter.unusedVariables false
open Go.RowKit

def exL : List UInt8 := [56, 61, 70, 73, 88, 46, 52, 46, 52, 1, 57, 61, 49, 48, 1, 51, 53, 61, 48, 1, 51, 52, 61, 49, 1, 49, 48, 61, 49, 54, 53, 1]
def exL6 : List UInt8 := [56, 61, 70, 73, 88, 46, 52, 46, 52, 1, 57, 61, 49, 48, 1, 51, 53, 61, 48, 1, 51, 52, 61, 49, 1, 49, 48, 61, 49, 54, 54, 1]
def exF : List Fld := [(35, [48]), (34, [49])]
theorem two_dig (a : Nat) (h1 : ¬ a < 10) (h2 : a < 100) : Lib.itoa (a : Int) = [UInt8.ofNat (48 + a / 10), UInt8.ofNat (48 + a % 10)] := by
  rw [Lib.itoa_nonneg, Lib.decDigits_two h1 h2]
theorem body_ex : bodyB exF = [51, 53, 61, 48, 1, 51, 52, 61, 49, 1] := by
  have h35 : Lib.itoa 35 = [51, 53] := two_dig 35 (by decide) (by decide)
  have h34 : Lib.itoa 34 = [51, 52] := two_dig 34 (by decide) (by decide)
  simp [bodyB, exF, fldL, h35, h34]
theorem ahead_ex : aheadL (bodyB exF) = [56, 61, 70, 73, 88, 46, 52, 46, 52, 1, 57, 61, 49, 48, 1, 51, 53, 61, 48, 1, 51, 52, 61, 49, 1] := by
  have h10 : Lib.itoa ((10 : Nat) : Int) = [49, 48] := two_dig 10 (by decide) (by decide)
  rw [body_ex]
  unfold aheadL
  rw [show (([51, 53, 61, 48, 1, 51, 52, 61, 49, 1] : List UInt8).length : Int) = ((10 : Nat) : Int) from rfl, h10]
  rfl
theorem join_ex : joinL exF = .ok exL := by
  unfold joinL
  rw [if_neg (by decide), if_neg (by decide), ahead_ex, if_neg (by decide)]
  rfl
theorem split_ex : splitL exL = .ok exF := by kernel_rfl
theorem split_ex6 : splitL exL6 = .error (44, 28) := by kernel_rfl

/-- Bytes made of a text. -/
theorem conv_src (s : ByteArray) (W : World) : SrcB (Lib.bytesWorld W 5 s) (.slice (some ⟨W.heap.size, 0, none⟩) s.size (grownCap W s.size 0 5)) s.data.toList ∧ Below W.heap.size W (Lib.bytesWorld W 5 s) := by
  refine ⟨⟨_, grownCap W s.size 0 5, by rw [size_data], by rw [size_data]; exact grownCap_ge _ _ _ _, .inr ⟨W.heap.size, 0, rfl, fun j c hj => ?_⟩⟩, rfl, rfl, rfl, ?_, fun b hb => Lib.bytesWorld_at_old W 5 s b hb⟩
  · have hjl : j < s.size := by have := (List.getElem?_eq_some_iff.1 hj).1; simpa using this
    rw [Nat.zero_add, Lib.bytesWorld_cell W 5 s j hjl, List.getD_eq_getElem?_getD, hj]; rfl
  · rw [Lib.bytesWorld_size]; omega
theorem src_lit (g : Nat) (l : List UInt8) (w : World) {fr : Nat × Nat} (h : w.heap[g]? = some (.cells (bcs l).toArray 5 fr)) : SrcB w (.slice (some ⟨g, 0, none⟩) l.length l.length) l := by
  refine ⟨_, l.length, rfl, Nat.le_refl _, .inr ⟨g, 0, rfl, fun j c hj => ?_⟩⟩
  rw [Nat.zero_add, cell_of_row w g j _ _ _ h]
  unfold bcs
  simp [hj]
theorem srcF_lit (g : Nat) (fs : List Fld) (w : World) (h : w.heap[g]? = some (.cells (fcs fs).toArray 36 (0, 0))) : SrcF w (.slice (some ⟨g, 0, none⟩) fs.length fs.length) fs := by
  refine ⟨_, fs.length, rfl, Nat.le_refl _, .inr ⟨g, 0, rfl, fun j f hj => ?_⟩⟩
  obtain ⟨e1, e2⟩ := fcs_at fs j f hj
  rw [Nat.zero_add, cell_of_row w g _ _ _ _ h, cell_of_row w g _ _ _ _ h]
  exact ⟨by simpa using e1, by simpa using e2⟩
set_option maxRecDepth 100000 in
set_option maxHeartbeats 800000 in
theorem shown_any (w : World) (hp : Pow w) :
    Calls Tryd.prog 8 #[] w fun e w' => e = .returned (.bool true) ∧ Below w.heap.size w w' := by
  have HP : Hid (Pow w) := hp
  clear hp
  go_enter Tryd.func8, Tryd.ntmps8
  go_wp2_with (go_at_call 9; fail)
  have hb0 : Below w.heap.size w (w.alloc (.cells (fcs exF).toArray 36)) := (Below.refl _ w).alloc (Nat.le_refl _) _
  have h1 := Join_any _ exF (w.alloc (.cells (fcs exF).toArray 36)) (srcF_lit w.heap.size exF _ (heap_alloc_new w _)) (HP.out.below hb0) (fun f hf => by simp only [exF, List.mem_cons, List.not_mem_nil, or_false] at hf; rcases hf with rfl | rfl <;> decide) (by rw [body_ex]; decide) (by decide)
  rw [join_ex] at h1
  refine h1.mono ?_
  rintro x w1 ⟨hb1, vb, rfl, ho1⟩
  have HB1 : Hid (Below w.heap.size w w1 ∧ OwnB w1 w.heap.size vb exL) := ⟨hb0.trans (hb1.mono hb0.size), ho1.mono hb0.size⟩
  clear hb1 ho1 h1 hb0
  have hcc := Lib.run_convert_bytes_const (P := Tryd.prog) w1 23 5 #[.int .u8 56, .int .u8 61, .int .u8 70, .int .u8 73, .int .u8 88, .int .u8 46, .int .u8 52, .int .u8 46, .int .u8 52, .int .u8 1, .int .u8 57, .int .u8 61, .int .u8 49, .int .u8 48, .int .u8 1, .int .u8 51, .int .u8 53, .int .u8 61, .int .u8 48, .int .u8 1, .int .u8 51, .int .u8 52, .int .u8 61, .int .u8 49, .int .u8 1, .int .u8 49, .int .u8 48, .int .u8 61, .int .u8 49, .int .u8 54, .int .u8 53, .int .u8 1] 32 32 Tryd.underlying23 Tryd.underlying5
  go_wp2_with (go_at_call 10; fail)
  have hb2 : Below w1.heap.size w1 (w1.alloc (.cells (bcs exL).toArray 5 (32, 33))) := (Below.refl _ w1).alloc (Nat.le_refl _) _
  have h2 := Split_any _ exL (w1.alloc (.cells (bcs exL).toArray 5 (32, 33))) (by decide) (src_lit w1.heap.size exL _ (heap_alloc_new w1 _)) ((HP.out.below HB1.out.1).below hb2)
  rw [split_ex] at h2
  refine h2.mono ?_
  rintro x w2 ⟨hb3, vf, rfl, ho2⟩
  have hb4 := hb2.trans (hb3.mono hb2.size)
  have HB2 : Hid (Below w.heap.size w w2 ∧ OwnB w2 w.heap.size vb exL ∧ OwnF w2 w1.heap.size vf exF) := ⟨HB1.out.1.trans (hb4.mono HB1.out.1.size), HB1.out.2.below hb4, ho2.mono hb2.size⟩
  clear hb3 hb2 hb4 ho2 h2 HB1
  have hcv : ∀ W, (convert 9 23 (.string (bs exL6))).run Tryd.prog W = .ok (.slice (some ⟨W.heap.size, 0, none⟩) (bs exL6).size (grownCap W (bs exL6).size 0 5)) (Lib.bytesWorld W 5 (bs exL6)) := fun W =>
    Lib.run_convert_string_bytes W 9 23 5 (bs exL6) Tryd.underlying9 Tryd.underlying23 Tryd.underlying5
  have hcat : (((⟨#[56, 61, 70, 73, 88, 46, 52, 46, 52, 1, 57, 61, 49, 48, 1, 51, 53, 61, 48, 1, 51, 52, 61, 49, 1, 49, 48, 61, 49, 54, 53, 1]⟩ : ByteArray).extract 0 30) ++ ⟨#[54]⟩) ++ ((⟨#[56, 61, 70, 73, 88, 46, 52, 46, 52, 1, 57, 61, 49, 48, 1, 51, 53, 61, 48, 1, 51, 52, 61, 49, 1, 49, 48, 61, 49, 54, 53, 1]⟩ : ByteArray).extract 31 32) = bs exL6 := by kernel_rfl
  clear hcc
  have HS : Hid (∀ W, Below w2.heap.size w2 W → Calls Tryd.prog 10 #[.slice (some ⟨W.heap.size, 0, none⟩) (bs exL6).size (grownCap W (bs exL6).size 0 5)] (Lib.bytesWorld W 5 (bs exL6)) fun x w' => ∃ g, w2.heap.size ≤ g ∧ x = .returned (.tuple #[.slice none 0 0, .iface 100 (.pointer (some ⟨g, 0, none⟩))]) ∧ FaultAt w' g 44 28 ∧ Below w2.heap.size w2 w') := fun W hW => by
    obtain ⟨c1, c2⟩ := conv_src (bs exL6) W
    have hb := hW.trans (c2.mono hW.size)
    have h3 := Split_any _ exL6 (Lib.bytesWorld W 5 (bs exL6)) (by decide) c1 ((HP.out.below HB2.out.1).below hb)
    rw [split_ex6] at h3
    refine h3.mono ?_
    rintro x w' ⟨hb', g, hg, hx, hf⟩
    exact ⟨g, Nat.le_trans hb.size hg, hx, hf, hb.trans (hb'.mono hb.size)⟩
  generalize bs exL6 = S6 at *
  go_upto_region 3 with fail
  have hB2 : Below w2.heap.size w2 w2.drew := (Below.refl _ w2).drew
  go_region_with (go_at_call 10; refine (HS.out _ (below_drewN (Below.refl _ w2) _)).mono ?_; rintro x w3 ⟨g, hg, rfl, hf, hb3⟩)
  have HB3 : Hid (Below w.heap.size w w3 ∧ OwnB w3 w.heap.size vb exL ∧ OwnF w3 w1.heap.size vf exF ∧ FaultAt w3 g 44 28) := ⟨HB2.out.1.trans (hb3.mono HB2.out.1.size), HB2.out.2.1.below hb3, HB2.out.2.2.below hb3, hf⟩
  clear hf hb3 hg HS hcv hcat HB2 hB2
  go_wp2_with (go_at_call 26; fail)
  refine (lawFault_at g 44 28 w3 HB3.out.2.2.2 (by decide)).mono ?_
  rintro x w4 ⟨rfl, q, rfl⟩
  have hb4 : Below w3.heap.size w3 (w3.drewN q) := below_drewN (Below.refl _ w3) q
  have hcvb := (HB3.out.2.1.below hb4).src.conv
  have hexL : bs exL = ⟨#[56, 61, 70, 73, 88, 46, 52, 46, 52, 1, 57, 61, 49, 48, 1, 51, 53, 61, 48, 1, 51, 52, 61, 49, 1, 49, 48, 61, 49, 54, 53, 1]⟩ := rfl
  rw [hexL] at hcvb
  rcases (HB3.out.2.2.1.below hb4).2 with ⟨_, h0⟩ | ⟨g2, c2, cur, rfl, _⟩
  · exact absurd h0 (by decide)
  obtain ⟨ao, cp, e1, _, h0 | ⟨b, off, e2, hcell⟩⟩ := (HB3.out.2.2.1.below hb4).src
  · exact absurd h0 (by decide)
  injection e1 with e1 _ _
  rw [← e1] at e2
  injection e2 with e2
  injection e2 with e3 e4
  subst e3 e4
  obtain ⟨k0, k1⟩ := hcell 1 (34, [49]) rfl
  have k1' : (w3.drewN q).cell? ⟨g2, 0 + 1 * 2 + 1, none⟩ = some (.string ⟨#[49]⟩) := k1
  have HB4 : Hid (Below w.heap.size w (w3.drewN q)) := below_drewN HB3.out.1 q
  clear hcell k1 e1 HB3 hb4
  have h2e : exF.length = 2 := rfl
  rw [h2e]
  go_wp2
  go_ret
  exact ⟨rfl, HB4.out⟩
end Go.Proofs.YtfgfjkchcnpakaaDoor
