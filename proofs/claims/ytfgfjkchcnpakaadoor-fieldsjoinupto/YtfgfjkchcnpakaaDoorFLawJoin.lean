/-
  FieldsJoin: the walk.
-/
import Derived.Test.YtfgfjkchcnpakaaDoorFFour
namespace Go.Proofs.YtfgfjkchcnpakaaDoor
set_option linter.unusedVariables false
open Go.RowKit

set_option maxRecDepth 100000 in
set_option maxHeartbeats 4000000 in
theorem FieldsJoin_law (v : Value) (fs : List Fld) (w : World) (hv : SrcF w v fs) (ht : okT fs) (hsz : (bodyB fs).length ≤ 104857600) (hn : fs.length ≤ 1099511627776) (hp : Pow w) :
    Calls Tryd.prog 5 #[v] w fun e w' => e = .returned (.bool true) ∧ Below w.heap.size w w' := by
  have HI : Hid (SrcF w v fs ∧ Pow w) := ⟨hv, hp⟩
  obtain ⟨i0, hi, hz0', hz1', hz2'⟩ := info_parts info5
  have h1 := shown_any w hp
  have HJ : Hid (∀ u w', Below w.heap.size w w' → SrcF w' u fs → Calls Tryd.prog 9 #[u] w' fun x w2 => JoinRet (joinL fs) w' x w2) := fun u w' hb hu => Join_any u fs w' hu (hp.below hb) ht (by omega) hn
  have HRJ : Hid (∀ w', Below w.heap.size w w' → Calls Tryd.prog 15 #[v] w' fun x w2 => RefJoinRet (joinL fs) w' x w2) := fun w' hb => refJoin_any v fs w' (hv.below hb) ht hsz hn
  have hLb := joinB_len fs
  obtain ⟨ao, cap, rfl, hc, _⟩ := hv
  clear hp
  go_enter Tryd.func5, Tryd.ntmps5
  go_wp2_with (go_at_call 8; fail)
  refine h1.mono ?_
  rintro e w1 ⟨rfl, hb1⟩
  have HB1 : Hid (Below w.heap.size w w1) := hb1
  clear hb1 h1
  go_wp2_with (go_at_call 13; fail)
  refine (lent_any _ fs w1 hn (HI.out.1.below HB1.out)).mono ?_
  rintro e w2 ⟨rfl, hk2, hb2⟩
  have HB2 : Hid (Below w.heap.size w w2 ∧ BlkF w2 w1.heap.size (lentL fs 8)) := ⟨HB1.out.trans (hb2.mono HB1.out.size), hk2⟩
  clear hb2 hk2 HB1
  generalize w1.heap.size = gm at *
  have hcap : (fs.length : Int) ≤ ((fs.length : Int) + 8) := by omega
  go_wp2_with (go_at_call 9; fail)
  refine (HJ.out _ w2 HB2.out.1 (HB2.out.2.src ⟨List.replicate 8 (mk 999) ++ List.replicate 0 z0, by simp [lentL]⟩ (by omega))).mono ?_
  intro y w3 hR
  obtain ⟨vb, rfl, hob, hb3⟩ := hR.one
  have HB3 : Hid (Below w.heap.size w w3 ∧ BlkF w3 gm (lentL fs 8) ∧ OwnB w3 w2.heap.size vb (joinB fs)) := ⟨HB2.out.1.trans (hb3.mono HB2.out.1.size), HB2.out.2.below hb3 HB2.out.2.lt, hob⟩
  have HS2 : Hid (w.heap.size ≤ w2.heap.size) := HB2.out.1.size
  clear hR hob hb3 HB2
  go_wp2_with (go_at_call 14; fail)
  refine (still_any gm (fs.length + 8) _ fs w3 hn (Nat.le_refl _) HB3.out.2.1 (HI.out.1.below HB3.out.1)).mono ?_
  rintro e w4 ⟨rfl, hb4⟩
  have HB4 : Hid (Below w.heap.size w w4 ∧ OwnB w4 w2.heap.size vb (joinB fs)) := ⟨HB3.out.1.trans (hb4.mono HB3.out.1.size), HB3.out.2.2.below hb4⟩
  clear hb4 HB3
  go_wp2_with (go_at_call 15; fail)
  refine (HRJ.out w4 HB4.out.1).mono ?_
  intro y w5 hR
  obtain ⟨vc, rfl, hoc, hkc, hb5⟩ := hR.one
  have HB5 : Hid (Below w.heap.size w w5 ∧ OwnB w5 w2.heap.size vb (joinB fs) ∧ SrcB w5 vc (joinB fs) ∧ (∀ k, vc.ownBlock = some k → k < w5.heap.size) ∧ Ap vb vc) := ⟨HB4.out.1.trans (hb5.mono HB4.out.1.size), HB4.out.2.below hb5, hoc, fun k hk => (hkc k hk).2, fun k hk e => by have h1 := (HB4.out.2.lt k hk).2; have h2 := (hkc k e).1; omega⟩
  clear hR hoc hkc hb5 HB4 HRJ
  have hcb := HB5.out.2.1.src.conv
  have hcc := HB5.out.2.2.1.conv
  generalize hSS : bs (joinB fs) = S at hcb hcc
  have HSS : Hid (bs (joinB fs) = S) := hSS
  clear hSS
  generalize hEE : joinE fs = E at *
  have HEq : Hid (joinE fs = E) := hEE
  clear hEE
  go_wp2_with (go_at_call 9; fail)
  have hbx : Below w5.heap.size w5 (w5.alloc (.cells (fcs exF).toArray 36)) := (Below.refl _ w5).alloc (Nat.le_refl _) _
  have hbx2 : Below w.heap.size w (w5.alloc (.cells (fcs exF).toArray 36)) := HB5.out.1.alloc HB5.out.1.size _
  have h6 := Join_any _ exF (w5.alloc (.cells (fcs exF).toArray 36)) (srcF_lit w5.heap.size exF _ (heap_alloc_new w5 _)) (HI.out.2.below hbx2) (fun f hf => by simp only [exF, List.mem_cons, List.not_mem_nil, or_false] at hf; rcases hf with rfl | rfl <;> decide) (by rw [body_ex]; decide) (by decide)
  rw [join_ex] at h6
  refine h6.mono ?_
  rintro y w6 ⟨hb6, vx, rfl, hox⟩
  have hb6' : Below w5.heap.size w5 w6 := hbx.trans (hb6.mono hbx.size)
  have HB6 : Hid (Below w.heap.size w w6 ∧ OwnB w6 w2.heap.size vb (joinB fs) ∧ SrcB w6 vc (joinB fs) ∧ (∀ k, vc.ownBlock = some k → k < w6.heap.size) ∧ Ap vb vc ∧ OwnB w6 w5.heap.size vx exL ∧ Ap vb vx ∧ Ap vx vc) := by
    have hx5 := fun k hk => (hox.mono hbx.size).lt k hk
    refine ⟨HB5.out.1.trans (hb6'.mono HB5.out.1.size), HB5.out.2.1.below hb6', HB5.out.2.2.1.below hb6', fun k hk => Nat.lt_of_lt_of_le (HB5.out.2.2.2.1 k hk) hb6'.size, HB5.out.2.2.2.2, hox.mono hbx.size, fun k hk e => ?_, fun k hk e => ?_⟩
    · have h1 := (HB5.out.2.1.lt k hk).2; have h2 := (hx5 k e).1; omega
    · have h1 := HB5.out.2.2.2.1 k e; have h2 := (hx5 k hk).1; omega
  have HS5 : Hid (w.heap.size ≤ w5.heap.size) := HB5.out.1.size
  clear hb6 hb6' hox h6 hbx hbx2 HB5 hcb hcc
  go_wp2_with (go_at_call 9; fail)
  refine (HJ.out _ w6 HB6.out.1 (HI.out.1.below HB6.out.1)).mono ?_
  intro y w7 hR
  obtain ⟨vd, rfl, hod, hb7⟩ := hR.one
  rw [HEq.out]
  have HT : Hid (T4 w w7 vx exL vb (joinB fs) vd (joinB fs) vc (joinB fs)) := by
    have hd6 := fun k hk => (hod.lt k hk).1
    refine ⟨HB6.out.1.trans (hb7.mono HB6.out.1.size), (HB6.out.2.2.2.2.2.1.below hb7).mono HS5.out, (HB6.out.2.1.below hb7).mono HS2.out, hod.mono HB6.out.1.size, HB6.out.2.2.1.below hb7, HB6.out.2.2.2.2.2.2.1.symm, fun k hk e => ?_, fun k hk e => ?_, HB6.out.2.2.2.2.2.2.2, HB6.out.2.2.2.2.1, fun k hk e => ?_, fun k hk => Nat.lt_of_lt_of_le (HB6.out.2.2.2.1 k hk) hb7.size⟩
    · have h1 := (HB6.out.2.2.2.2.2.1.lt k hk).2; have h2 := hd6 k e; omega
    · have h1 := (HB6.out.2.1.lt k hk).2; have h2 := hd6 k e; omega
    · have h1 := HB6.out.2.2.2.1 k e; have h2 := hd6 k hk; omega
  clear hR hod hb7 HB6 HJ HS2 HS5
  have hcb := HT.out.o2.src.conv
  have hcc := HT.out.oc.conv
  have hcx := HT.out.o1.src.conv
  have hexL : bs exL = ⟨#[56, 61, 70, 73, 88, 46, 52, 46, 52, 1, 57, 61, 49, 48, 1, 51, 53, 61, 48, 1, 51, 52, 61, 49, 1, 49, 48, 61, 49, 54, 53, 1]⟩ := rfl
  rw [hexL] at hcx
  rw [HSS.out] at hcb hcc
  generalize joinB fs = Lb at *
  obtain ⟨ax, cx, hvx⟩ := HT.out.o1.form
  have hx32 : exL.length = 32 := rfl
  rw [hx32] at hvx
  subst hvx
  obtain ⟨gx, egx, hcx32⟩ := HT.out.addr (by decide)
  subst egx
  obtain ⟨ab, cb, hvb⟩ := HT.out.o2.form
  subst hvb
  obtain ⟨ad, cd, hvd⟩ := HT.out.o3.form
  subst hvd
  obtain ⟨nb, hnb⟩ : ∃ n, Lb.length = n := ⟨_, rfl⟩
  rw [hnb] at hLb hcb
  have HNB : Hid (Lb.length = nb) := hnb
  rw [hnb] at HT
  simp only [hnb]
  clear hnb
  go_upto_region 12 with fail
  clear hcb hcc hcx
  go_wp2
  go_loopw [14] (fun i wr => ∃ k : Nat, k ≤ 32 ∧ i = .int .i64 (k : Int) ∧ T4 w wr (.slice (some ⟨gx, 0, none⟩) 32 cx) (fillL exL 79 k) (.slice ab nb cb) Lb (.slice ad nb cd) Lb vc Lb) (fun i _ => 32 - (intOf i).toNat)
  case atStart => exact ⟨0, by omega, rfl, by rw [fillL_zero]; exact HT.out⟩
  case round =>
    obtain ⟨k, hk, rfl, ht⟩ := hrel
    clear HT
    have hln : 32 = (fillL exL 79 k).length := by rw [fillL_length _ _ _ (by rw [hx32]; exact hk)]; exact rfl
    by_cases hlt : k < 32
    · have hlt' : (k : Int) < (32 : Int) := by omega
      obtain ⟨y, hy, c0, z0'⟩ := ht.cell hln k hlt
      have hf := ht.fill (rfl) hlt
      have HF : Hid _ := hf
      clear ht hy hf hln
      go_wp2
      exact ⟨⟨k + 1, by omega, by go_num, HF.out⟩, by simp [intOf]; omega⟩
    · obtain rfl : k = 32 := by omega
      rw [show ((32 : Nat) : Int) = (32 : Int) from rfl]
      have hfa : fillL exL 79 32 = List.replicate 32 79 := by rfl
      rw [hfa] at ht
      have HT1 : Hid _ := ht
      clear ht hfa hln
      go_wp2
      go_loopw [10, 15] (fun z i wr => ∃ (k : Nat) (a' : Option Addr) (c' : Nat), k ≤ 70 ∧ i = .int .i64 (k : Int) ∧ z = .slice a' (32 + k) c' ∧ T4 w wr (.slice a' (32 + k) c') (List.replicate (32 + k) 79) (.slice ab nb cb) Lb (.slice ad nb cd) Lb vc Lb) (fun _ i _ => 70 - (intOf i).toNat)
      case atStart => exact ⟨0, _, _, by omega, rfl, rfl, HT1.out⟩
      case round =>
        obtain ⟨k, a2, c2x, hk, rfl, rfl, ht⟩ := hrel
        clear HT1
        by_cases hlt : k < 70
        · have hlt' : (k : Int) < 70 := by omega
          have hown : wr.ownsRow w.heap.size 5 1 (.slice a2 (32 + k) c2x) (32 + k) (bcs (List.replicate (32 + k) 79)) := by have h := ht.o1; unfold OwnB at h; rw [List.length_replicate] at h; exact h
          have hnew := one_new wr 79
          have HA : Hid _ := ht
          have hwB : w.heap.size ≤ (wr.alloc (.cells #[.int .u8 79] 5)).heap.size := by have := ht.bel.size; simp; omega
          have HO : Hid (wr.ownsRow w.heap.size 5 1 (.slice a2 (32 + k) c2x) (32 + k) (bcs (List.replicate (32 + k) 79))) := hown
          clear ht hown
          go_wp2_with (at_builtin; refine wpList_append_lies _ rfl _ _ 23 rfl w.heap.size 5 i0 (.int .u8 0) 1 1 Tryd.underlying23 hi hz0' hz1' hz2' rfl (by decide) _ (32 + k) (bcs (List.replicate (32 + k) 79)) rfl (World.ownsRow.alloc HO.out _) ⟨wr.heap.size, 0, none⟩ 1 1 [.int .u8 79] rfl rfl hnew (fun x hx => by simp at hx; subst hx; rfl) (by decide) (by unfold maxLen; omega) (by omega) hwB _ rfl ?_; intro g2 c2 w2 ho2 hg2 hat2 hlt2; have HF : Hid (T4 w w2 (.slice (some ⟨g2, 0, none⟩) (32 + k + 1) c2) (List.replicate (32 + k + 1) 79) (.slice ab nb cb) Lb (.slice ad nb cd) Lb vc Lb) := HA.out.grow (x := 79) ho2 hg2 hat2; clear ho2 hg2 hat2 hlt2)
          go_roundw
          case rel => exact ⟨k + 1, some ⟨g2, 0, none⟩, c2, by omega, by go_num, by first | rfl | (congr 1), HF.out⟩
          case measure => simp [intOf]; omega
        · obtain rfl : k = 70 := by omega
          rw [show ((70 : Nat) : Int) = (70 : Int) from rfl]
          rw [show (32 + 70 : Nat) = 102 from rfl]
          rw [show (32 + 70 : Nat) = 102 from rfl] at ht
          have HT2 : Hid _ := ht
          clear ht
          have HT3 : Hid (T4 w wr (.slice ab nb cb) Lb (.slice ad nb cd) Lb (.slice a2 102 c2x) (List.replicate 102 79) vc Lb) := HT2.out.rot
          clear HT2
          go_wp2
          go_loopw [16] (fun i wr => ∃ k : Nat, k ≤ nb ∧ i = .int .i64 (k : Int) ∧ T4 w wr (.slice ab nb cb) (fillL Lb 77 k) (.slice ad nb cd) Lb (.slice a2 102 c2x) (List.replicate 102 79) vc Lb) (fun i _ => nb - (intOf i).toNat)
          case atStart => exact ⟨0, by omega, rfl, by rw [fillL_zero]; exact HT3.out⟩
          case round =>
            obtain ⟨k, hk, rfl, ht⟩ := hrel
            clear HT3
            have hln : nb = (fillL Lb 77 k).length := by rw [fillL_length _ _ _ (by have := HNB.out; omega)]; exact HNB.out.symm
            by_cases hlt : k < nb
            · have hlt' : (k : Int) < (nb : Int) := by omega
              obtain ⟨gg, eg, hcg⟩ := ht.addr (by omega)
              subst eg
              obtain ⟨y, hy, c0, z0'⟩ := ht.cell hln k hlt
              have hf := ht.fill (HNB.out.symm) hlt
              have HF : Hid _ := hf
              clear ht hy hf hln
              go_wp2
              exact ⟨⟨k + 1, by omega, by go_num, HF.out⟩, by simp [intOf]; omega⟩
            · obtain rfl : nb = k := by omega
              have hfa : fillL Lb 77 nb = List.replicate nb 77 := by have h := fillL_all Lb 77; rw [HNB.out] at h; exact h
              rw [hfa] at ht
              have HT4 : Hid _ := ht
              clear ht hfa hln
              go_wp2
              go_loopw [5, 17] (fun z i wr => ∃ (k : Nat) (a' : Option Addr) (c' : Nat), k ≤ 70 ∧ i = .int .i64 (k : Int) ∧ z = .slice a' (nb + k) c' ∧ T4 w wr (.slice a' (nb + k) c') (List.replicate (nb + k) 77) (.slice ad nb cd) Lb (.slice a2 102 c2x) (List.replicate 102 79) vc Lb) (fun _ i _ => 70 - (intOf i).toNat)
              case atStart => exact ⟨0, _, _, by omega, rfl, rfl, HT4.out⟩
              case round =>
                obtain ⟨k, a4, c4, hk, rfl, rfl, ht⟩ := hrel
                clear HT4
                by_cases hlt : k < 70
                · have hlt' : (k : Int) < 70 := by omega
                  have hown : wr.ownsRow w.heap.size 5 1 (.slice a4 (nb + k) c4) (nb + k) (bcs (List.replicate (nb + k) 77)) := by have h := ht.o1; unfold OwnB at h; rw [List.length_replicate] at h; exact h
                  have hnew := one_new wr 77
                  have HA : Hid _ := ht
                  have hwB : w.heap.size ≤ (wr.alloc (.cells #[.int .u8 77] 5)).heap.size := by have := ht.bel.size; simp; omega
                  have HO : Hid (wr.ownsRow w.heap.size 5 1 (.slice a4 (nb + k) c4) (nb + k) (bcs (List.replicate (nb + k) 77))) := hown
                  clear ht hown
                  go_wp2_with (at_builtin; refine wpList_append_lies _ rfl _ _ 23 rfl w.heap.size 5 i0 (.int .u8 0) 1 1 Tryd.underlying23 hi hz0' hz1' hz2' rfl (by decide) _ (nb + k) (bcs (List.replicate (nb + k) 77)) rfl (World.ownsRow.alloc HO.out _) ⟨wr.heap.size, 0, none⟩ 1 1 [.int .u8 77] rfl rfl hnew (fun x hx => by simp at hx; subst hx; rfl) (by decide) (by unfold maxLen; omega) (by omega) hwB _ rfl ?_; intro g2 c2 w2 ho2 hg2 hat2 hlt2; have HF : Hid (T4 w w2 (.slice (some ⟨g2, 0, none⟩) (nb + k + 1) c2) (List.replicate (nb + k + 1) 77) (.slice ad nb cd) Lb (.slice a2 102 c2x) (List.replicate 102 79) vc Lb) := HA.out.grow (x := 77) ho2 hg2 hat2; clear ho2 hg2 hat2 hlt2)
                  go_roundw
                  case rel => exact ⟨k + 1, some ⟨g2, 0, none⟩, c2, by omega, by go_num, by first | rfl | (congr 1), HF.out⟩
                  case measure => simp [intOf]; omega
                · obtain rfl : k = 70 := by omega
                  rw [show ((70 : Nat) : Int) = (70 : Int) from rfl]
                  have HT5 : Hid _ := ht
                  clear ht
                  have hcd := HT5.out.o2.src.conv
                  have hcc := HT5.out.oc.conv
                  rw [HSS.out] at hcd hcc
                  go_wp2
                  clear hcd hcc
                  obtain ⟨gx2, egx2, hcx2⟩ := HT5.out.rot.rot.addr (by decide)
                  subst egx2
                  have HT6 : Hid (T4 w wr (.slice (some ⟨gx2, 0, none⟩) 102 c2x) (List.replicate 102 79) (.slice a4 (nb + 70) c4) (List.replicate (nb + 70) 77) (.slice ad nb cd) Lb vc Lb) := HT5.out.rot.rot
                  clear HT5
                  go_loopw [18, 19] (fun z i w' => ∃ k : Nat, k ≤ 102 ∧ z = .bool true ∧ i = .int .i64 (k : Int) ∧ w' = wr) (fun _ i _ => 102 - (intOf i).toNat)
                  case atStart => exact ⟨0, by omega, by first | rfl | simp, rfl, rfl⟩
                  case round =>
                    obtain ⟨k, hk, rfl, rfl, hw⟩ := hrel
                    have hw' := hw.symm
                    subst hw'
                    clear hw
                    by_cases hlt : k < 102
                    · have hlt' : (k : Int) < 102 := by omega
                      obtain ⟨y, hy, c0, _⟩ := HT6.out.cell (by simp) k (by omega)
                      have hy' : y = 79 := by rw [List.getElem?_replicate] at hy; simpa using (by simpa using hy : k < 102 ∧ 79 = y).2.symm
                      subst hy'
                      have c0' : wr.cell? ⟨gx2, k, none⟩ = some (.int .u8 79) := c0
                      clear c0 hy
                      go_wp2
                      exact ⟨⟨k + 1, by omega, by first | rfl | simp, by go_num, by first | rfl | trivial⟩, by simp [intOf]; omega⟩
                    · obtain rfl : k = 102 := by omega
                      rw [show ((102 : Nat) : Int) = (102 : Int) from rfl]
                      have HT7 : Hid (T4 w wr (.slice ad nb cd) Lb (.slice (some ⟨gx2, 0, none⟩) 102 c2x) (List.replicate 102 79) (.slice a4 (nb + 70) c4) (List.replicate (nb + 70) 77) vc Lb) := HT6.out.rot.rot
                      clear HT6
                      go_wp2
                      go_loopw [20] (fun i wr => ∃ k : Nat, k ≤ nb ∧ i = .int .i64 (k : Int) ∧ T4 w wr (.slice ad nb cd) (fillL Lb 78 k) (.slice (some ⟨gx2, 0, none⟩) 102 c2x) (List.replicate 102 79) (.slice a4 (nb + 70) c4) (List.replicate (nb + 70) 77) vc Lb) (fun i _ => nb - (intOf i).toNat)
                      case atStart => exact ⟨0, by omega, rfl, by rw [fillL_zero]; exact HT7.out⟩
                      case round =>
                        obtain ⟨k, hk, rfl, ht⟩ := hrel
                        clear HT7
                        have hln : nb = (fillL Lb 78 k).length := by rw [fillL_length _ _ _ (by have := HNB.out; omega)]; exact HNB.out.symm
                        by_cases hlt : k < nb
                        · have hlt' : (k : Int) < (nb : Int) := by omega
                          obtain ⟨gg, eg, hcg⟩ := ht.addr (by omega)
                          subst eg
                          obtain ⟨y, hy, c0, z0'⟩ := ht.cell hln k hlt
                          have hf := ht.fill (HNB.out.symm) hlt
                          have HF : Hid _ := hf
                          clear ht hy hf hln
                          go_wp2
                          exact ⟨⟨k + 1, by omega, by go_num, HF.out⟩, by simp [intOf]; omega⟩
                        · obtain rfl : nb = k := by omega
                          have hfa : fillL Lb 78 nb = List.replicate nb 78 := by have h := fillL_all Lb 78; rw [HNB.out] at h; exact h
                          rw [hfa] at ht
                          have HT8 : Hid _ := ht
                          clear ht hfa hln
                          go_wp2
                          go_loopw [12, 21] (fun z i wr => ∃ (k : Nat) (a' : Option Addr) (c' : Nat), k ≤ 70 ∧ i = .int .i64 (k : Int) ∧ z = .slice a' (nb + k) c' ∧ T4 w wr (.slice a' (nb + k) c') (List.replicate (nb + k) 78) (.slice (some ⟨gx2, 0, none⟩) 102 c2x) (List.replicate 102 79) (.slice a4 (nb + 70) c4) (List.replicate (nb + 70) 77) vc Lb) (fun _ i _ => 70 - (intOf i).toNat)
                          case atStart => exact ⟨0, _, _, by omega, rfl, rfl, HT8.out⟩
                          case round =>
                            obtain ⟨k, a6, c6, hk, rfl, rfl, ht⟩ := hrel
                            clear HT8
                            by_cases hlt : k < 70
                            · have hlt' : (k : Int) < 70 := by omega
                              have hown : wr.ownsRow w.heap.size 5 1 (.slice a6 (nb + k) c6) (nb + k) (bcs (List.replicate (nb + k) 78)) := by have h := ht.o1; unfold OwnB at h; rw [List.length_replicate] at h; exact h
                              have hnew := one_new wr 78
                              have HA : Hid _ := ht
                              have hwB : w.heap.size ≤ (wr.alloc (.cells #[.int .u8 78] 5)).heap.size := by have := ht.bel.size; simp; omega
                              have HO : Hid (wr.ownsRow w.heap.size 5 1 (.slice a6 (nb + k) c6) (nb + k) (bcs (List.replicate (nb + k) 78))) := hown
                              clear ht hown
                              go_wp2_with (at_builtin; refine wpList_append_lies _ rfl _ _ 23 rfl w.heap.size 5 i0 (.int .u8 0) 1 1 Tryd.underlying23 hi hz0' hz1' hz2' rfl (by decide) _ (nb + k) (bcs (List.replicate (nb + k) 78)) rfl (World.ownsRow.alloc HO.out _) ⟨wr.heap.size, 0, none⟩ 1 1 [.int .u8 78] rfl rfl hnew (fun x hx => by simp at hx; subst hx; rfl) (by decide) (by unfold maxLen; omega) (by omega) hwB _ rfl ?_; intro g2 c2 w2 ho2 hg2 hat2 hlt2; have HF : Hid (T4 w w2 (.slice (some ⟨g2, 0, none⟩) (nb + k + 1) c2) (List.replicate (nb + k + 1) 78) (.slice (some ⟨gx2, 0, none⟩) 102 c2x) (List.replicate 102 79) (.slice a4 (nb + 70) c4) (List.replicate (nb + 70) 77) vc Lb) := HA.out.grow (x := 78) ho2 hg2 hat2; clear ho2 hg2 hat2 hlt2)
                              go_roundw
                              case rel => exact ⟨k + 1, some ⟨g2, 0, none⟩, c2, by omega, by go_num, by first | rfl | (congr 1), HF.out⟩
                              case measure => simp [intOf]; omega
                            · obtain rfl : k = 70 := by omega
                              rw [show ((70 : Nat) : Int) = (70 : Int) from rfl]
                              have HT9 : Hid _ := ht
                              clear ht
                              obtain ⟨gb2, egb2, hcb2⟩ := HT9.out.rot.rot.addr (by omega)
                              subst egb2
                              have HT10 : Hid (T4 w wr (.slice (some ⟨gb2, 0, none⟩) (nb + 70) c4) (List.replicate (nb + 70) 77) (.slice a6 (nb + 70) c6) (List.replicate (nb + 70) 78) (.slice (some ⟨gx2, 0, none⟩) 102 c2x) (List.replicate 102 79) vc Lb) := HT9.out.rot.rot
                              clear HT9
                              go_wp2
                              go_loopw [22] (fun i w' => ∃ k : Nat, k ≤ nb + 70 ∧ i = .int .i64 (k : Int) ∧ w' = wr) (fun i _ => nb + 70 - (intOf i).toNat)
                              case atStart => exact ⟨0, by omega, rfl, rfl⟩
                              case round =>
                                obtain ⟨k, hk, rfl, hw⟩ := hrel
                                have hw' := hw.symm
                                subst hw'
                                clear hw
                                by_cases hlt : k < nb + 70
                                · have hlt' : (k : Int) < (nb : Int) + 70 := by omega
                                  obtain ⟨y, hy, c0, _⟩ := HT10.out.cell (by simp) k hlt
                                  have hy' : y = 77 := by rw [List.getElem?_replicate] at hy; simpa using (by simpa using hy : k < nb + 70 ∧ 77 = y).2.symm
                                  subst hy'
                                  have c0' : wr.cell? ⟨gb2, k, none⟩ = some (.int .u8 77) := c0
                                  clear c0 hy
                                  go_wp2
                                  exact ⟨⟨k + 1, by omega, by go_num, by first | rfl | trivial⟩, by simp [intOf]; omega⟩
                                · obtain rfl : k = nb + 70 := by omega
                                  have hEE : (E == E) = true := by simp
                                  go_wp2
                                  go_ret
                                  exact ⟨ret_bool (by first | rfl | simp), HT10.out.bel⟩
end Go.Proofs.YtfgfjkchcnpakaaDoor
