/-
  fix: FixEncodes' walk.
-/
import Derived.Test.YtchkpggdndnpjabGreatDoorG45
import Derived.Laws.AppendOwnNone
namespace Go.Proofs.YtchkpggdndnpjabGreatDoor
set_option linter.unusedVariables false
set_option linter.unusedSimpArgs false
open Go.RowKit Go.Great

/-- Two lists of bytes: one's own, one that is only read; the message. -/
structure E2 (w1 wr : World) (g : Nat) (M : Msg) (v2 : Value) (l2 : List UInt8) (vc : Value) (lc : List UInt8) : Prop where
  bel : Below w1.heap.size w1 wr
  o2 : OwnB wr w1.heap.size v2 l2
  oc : SrcB wr vc lc
theorem E2.low {w1 wr w' : World} {g : Nat} {M : Msg} {v2 vc : Value} {l2 lc : List UInt8} (h : E2 w1 wr g M v2 l2 vc lc) (hb : Below wr.heap.size wr w') : E2 w1 w' g M v2 l2 vc lc := ⟨h.bel.trans (hb.mono h.bel.size), h.o2.below hb, h.oc.below hb⟩
theorem T4.e2 {w1 wr w' : World} {g : Nat} {M : Msg} {cs : Array Value} {v1 v2 v3 vc : Value} {l1 l2 l3 lc : List UInt8} (h : T4 w1 wr v1 l1 v2 l2 v3 l3 vc lc) (hg : (wr.alloc (.cells cs 5)).grownBy w' v1.ownBlock) (hb : Below w1.heap.size (wr.alloc (.cells cs 5)) w') : E2 w1 w' g M v2 l2 vc lc := by
  have hb0 : Below wr.heap.size wr (wr.alloc (.cells cs 5)) := (Below.refl _ wr).alloc (Nat.le_refl _) _
  have hk : ∀ v : Value, Ap v1 v → (∀ k, v.ownBlock = some k → k < wr.heap.size) → ∀ k, v.ownBlock = some k → w'.heap[k]? = wr.heap[k]? := fun v ha hl k hk => by
    have h1 := hl k hk
    rw [hg.block k (by have := hb0.size; omega) (fun e => ha k e.symm hk), hb0.block k h1]
  exact ⟨(h.bel.alloc h.bel.size _).trans hb, ownsRow_of_block h.o2 (hk _ h.a12 (fun k q => (h.o2.lt k q).2)), h.oc.of_block (hk _ h.a1c h.ltc)⟩
set_option maxRecDepth 100000 in
set_option maxHeartbeats 4000000 in
theorem FixEncodes_law (M : Msg) (w : World) (hz : M.ok) (hS : M.okS) (he : Env w) :
    Calls Tryz.prog 3 #[.agg M.cs] w fun e w' => e = .returned (.bool true) ∧ Below w.heap.size w w' := by
  obtain ⟨i0, hi, hz0', hz1', hz2'⟩ := info_parts info5
  have HE : Hid (Env w ∧ M.ok ∧ M.okS) := ⟨he, hz, hS⟩
  have HO1 : Hid (LM w (w.alloc (.cells M.cs 23)) w.heap.size M) := ⟨heap_alloc_new w _, (Below.refl _ w).alloc (Nat.le_refl _) _⟩
  have hLb := enB_len M
  clear he hz hS
  go_enter Tryz.func3, Tryz.ntmps3
  go_upto_region 1 with fail
  generalize w.alloc (.cells M.cs 23) = w1 at *
  generalize hcs : M.cs = CS at *
  have Hcs : Hid (M.cs = CS) := hcs
  clear hcs
  have HM : Hid (∀ W, Below w1.heap.size w1 W → OwnM W w.heap.size M ∧ Env W) := fun W hb => ⟨HO1.out.msg.low hb, HE.out.1.below (HO1.out.below.trans (hb.mono HO1.out.below.size))⟩
  go_wp2_with (go_at_call 6; fail)
  refine (shown_any _ (HE.out.1.below HO1.out.below).mon (HE.out.1.below HO1.out.below).pow (HE.out.1.below HO1.out.below).ety).mono ?_
  rintro e w2 ⟨rfl, hb2⟩
  have HB2 : Hid (Below w1.heap.size w1 w2) := hb2
  clear hb2
  go_upto_region 2 with fail
  refine wp_region_lit ?_
  refine wpList_loadM (HM.out w2 HB2.out).1 (.tmp 1) rfl rfl rfl ?_
  simp only [Act.put, List.setIfInBounds_toArray, List.set_cons_zero, List.set_cons_succ]
  rw [Hcs.out]
  have hE := Encode_one M w2 (HM.out w2 HB2.out).2 HE.out.2.1
  rw [Hcs.out] at hE
  go_wp2_with (go_at_call 7; fail)
  refine hE.mono ?_
  clear hE
  rintro e w3 ⟨vb, rfl, ho3, hb3⟩
  have HB3 : Hid (Below w1.heap.size w1 w3 ∧ OwnB w3 w1.heap.size vb (enB M)) := ⟨HB2.out.trans (hb3.mono HB2.out.size), ho3.mono HB2.out.size⟩
  clear ho3 hb3 HB2
  go_upto_region 3 with fail
  refine wp_region_lit ?_
  refine wpList_loadM (HM.out w3 HB3.out.1).1 (.tmp 1) rfl rfl rfl ?_
  simp only [Act.put, List.setIfInBounds_toArray, List.set_cons_zero, List.set_cons_succ]
  rw [Hcs.out]
  have hE := Encode_one M w3 (HM.out w3 HB3.out.1).2 HE.out.2.1
  rw [Hcs.out] at hE
  go_wp2_with (go_at_call 7; fail)
  refine hE.mono ?_
  clear hE
  rintro e w4 ⟨vd, rfl, ho4, hb4⟩
  have HB4 : Hid (Below w1.heap.size w1 w4 ∧ OwnB w4 w1.heap.size vb (enB M) ∧ OwnB w4 w1.heap.size vd (enB M) ∧ Ap vb vd) := ⟨HB3.out.1.trans (hb4.mono HB3.out.1.size), HB3.out.2.below hb4, ho4.mono HB3.out.1.size, fun k q e => by have h1 := (HB3.out.2.lt k q).2; have h2 := (ho4.lt k e).1; omega⟩
  clear ho4 hb4 HB3
  go_upto_region 4 with fail
  refine wp_region_lit ?_
  refine wpList_loadM (HM.out w4 HB4.out.1).1 (.tmp 1) rfl rfl rfl ?_
  simp only [Act.put, List.setIfInBounds_toArray, List.set_cons_zero, List.set_cons_succ]
  rw [Hcs.out]
  have hE := EncX_any M w4 HE.out.2.1 HE.out.2.2
  rw [Hcs.out] at hE
  go_wp2_with (go_at_call 8; fail)
  refine hE.mono ?_
  clear hE
  rintro e w5 ⟨vc, rfl, hs5, hk5, hb5⟩
  have HT : Hid (T4 w1 w5 vb (enB M) vd (enB M) (.slice none 0 0) [] vc (enB M)) := by
    have l2 := fun k q => (HB4.out.2.1.lt k q).2
    have l3 := fun k q => (HB4.out.2.2.1.lt k q).2
    refine ⟨HB4.out.1.trans (hb5.mono HB4.out.1.size), HB4.out.2.1.below hb5, HB4.out.2.2.1.below hb5, World.ownsRow_nil _ _ _ _, hs5, HB4.out.2.2.2, (fun k q e => by cases e), (fun k q e => by cases e), fun k q e => ?_, fun k q e => ?_, (fun k q e => by cases q), fun k q => (hk5 k q).2⟩
    · have h1 := l2 k q; have h2 := (hk5 k e).1; omega
    · have h1 := l3 k q; have h2 := (hk5 k e).1; omega
  clear hs5 hk5 hb5 HB4
  have HMe : Hid (∀ W, Below w1.heap.size w1 W → OwnM W w.heap.size M ∧ Calls Tryz.prog 7 #[.agg M.cs] W fun e w' => ∃ v, e = .returned (.tuple #[v, .int .i64 (valE M)]) ∧ OwnB w' W.heap.size v (enB M) ∧ Below W.heap.size W w') := fun W hb => ⟨(HM.out W hb).1, Encode_one M W (HM.out W hb).2 HE.out.2.1⟩
  clear HM HE
  generalize enB M = Lb at *
  generalize valE M = E at *
  have hEE : (E == E) = true := by simp
  have hcb := HT.out.o1.src.conv
  have hcd := HT.out.o2.src.conv
  have hcc := HT.out.oc.conv
  obtain ⟨S, hS⟩ : ∃ S, S = bs Lb := ⟨_, rfl⟩
  have HS : Hid (S = bs Lb) := hS
  rw [← hS] at hcb hcd hcc
  clear hS
  obtain ⟨ab, cb, hvb⟩ := HT.out.o1.form
  subst hvb
  obtain ⟨nb, hnb⟩ : ∃ n, Lb.length = n := ⟨_, rfl⟩
  rw [hnb] at hLb hcb HT
  have HNB : Hid (Lb.length = nb) := hnb
  simp only [hnb]
  clear hnb
  go_upto_region 6 with fail
  clear hcb hcd hcc
  go_wp2
  go_loopw [11] (fun i wr => ∃ k : Nat, k ≤ nb ∧ i = .int .i64 (k : Int) ∧ Hid (T4 w1 wr (.slice ab nb cb) (fillL Lb 77 k) vd Lb (.slice none 0 0) [] vc Lb)) (fun i _ => nb - (intOf i).toNat)
  case atStart => exact ⟨0, by omega, rfl, by rw [fillL_zero]; exact HT⟩
  case round =>
    obtain ⟨k, hk, rfl, ht⟩ := hrel
    clear HT
    by_cases hlt : k < nb
    · have hlt' : (k : Int) < (nb : Int) := by omega
      have hln : nb = (fillL Lb 77 k).length := by rw [fillL_length _ _ _ (by rw [HNB.out]; exact hk)]; exact HNB.out.symm
      obtain ⟨gb, egb⟩ : ∃ gb, ab = some ⟨gb, 0, none⟩ := by
        rcases ht.out.o1.2 with ⟨e, h0⟩ | ⟨g, cap, cur, e, -⟩
        · omega
        · injection e with e; exact ⟨g, e⟩
      subst egb
      obtain ⟨y, hy, c0, z0'⟩ := ht.out.cell hln k hlt
      have HF : Hid (T4 w1 (wr.setCell ⟨gb, k, none⟩ (.int .u8 77)) (.slice (some ⟨gb, 0, none⟩) nb cb) (fillL Lb 77 (k + 1)) vd Lb (.slice none 0 0) [] vc Lb) := ht.out.fill HNB.out.symm hlt
      clear ht hy hln
      go_wp2
      exact ⟨⟨k + 1, by omega, by go_num, HF⟩, by simp [intOf]; omega⟩
    · obtain rfl : k = nb := by omega
      have hln : k = (fillL Lb 77 k).length := by rw [fillL_length _ _ _ (by rw [HNB.out]; exact Nat.le_refl _)]; exact HNB.out.symm
      generalize fillL Lb 77 k = L1 at *
      have HT : Hid (T4 w1 wr (.slice ab k cb) L1 vd Lb (.slice none 0 0) [] vc Lb) := ht.out
      clear ht
      have HO : Hid (wr.ownsRow w1.heap.size 5 1 (.slice ab k cb) k (bcs L1)) := by have h := HT.out.o1; unfold OwnB at h; rw [← hln] at h; exact h
      have hwB : w1.heap.size ≤ (wr.alloc (.cells #[.int .u8 77, .int .u8 77, .int .u8 77] 5)).heap.size := by have := HT.out.bel.size; simp; omega
      have hnew : ∀ j u, ([.int .u8 77, .int .u8 77, .int .u8 77] : List Value)[j]? = some u → (wr.alloc (.cells #[.int .u8 77, .int .u8 77, .int .u8 77] 5)).cell? ((⟨wr.heap.size, 0, none⟩ : Addr).add j) = some u := fun j u hj => by
        rw [addr_add, Nat.zero_add, cell_of_row _ _ _ _ _ _ (heap_alloc_new wr _)]
        simpa using hj
      go_upto_region 11 with (at_builtin; refine wpList_append_own _ rfl _ _ 25 rfl w1.heap.size 5 i0 (.int .u8 0) 1 1 Tryz.underlying25 hi hz0' hz1' hz2' rfl (by decide) _ k (bcs L1) rfl (World.ownsRow.alloc HO.out _) ⟨wr.heap.size, 0, none⟩ 3 3 [.int .u8 77, .int .u8 77, .int .u8 77] rfl rfl hnew (fun x hx => by simp at hx; subst hx; rfl) (by unfold maxLen; omega) (by omega) hwB ?_; intro v7 w7 ho7 hg7 hn7)
      have HE7 : Hid (E2 w1 w7 w.heap.size M vd Lb vc Lb) := HT.out.e2 hg7 (below_grownBy (Below.refl _ _) hg7 hwB (fun q hq => (HO.out.lt q hq).1))
      obtain ⟨a7, c7, e7⟩ : ∃ a c, v7 = .slice a (k + 3) c := by
        rcases ho7.2 with ⟨e, h0⟩ | ⟨g, cap, cur, e, -⟩
        · omega
        · exact ⟨_, cap, e⟩
      subst e7
      clear ho7 hg7 hn7 hnew hwB HO HT hln
      have hcd := HE7.out.o2.src.conv
      have hcc := HE7.out.oc.conv
      rw [← HS.out] at hcd hcc
      go_upto_region 12 with fail
      clear hcd hcc
      refine wp_region_lit ?_
      refine wpList_loadM (HMe.out w7 HE7.out.bel).1 (.tmp 1) rfl rfl rfl ?_
      simp only [Act.put, List.setIfInBounds_toArray, List.set_cons_zero, List.set_cons_succ]
      rw [Hcs.out]
      have hE := (HMe.out w7 HE7.out.bel).2
      rw [Hcs.out] at hE
      go_wp2_with (go_at_call 7; fail)
      refine hE.mono ?_
      clear hE
      rintro e w8 ⟨vx, rfl, ho8, hb8⟩
      have HE8 : Hid (E2 w1 w8 w.heap.size M vd Lb vc Lb ∧ SrcB w8 vx Lb) := ⟨HE7.out.low hb8, ho8.src⟩
      clear ho8 hb8 HE7
      have hcx := HE8.out.2.conv
      have hcc := HE8.out.1.oc.conv
      rw [← HS.out] at hcx hcc
      obtain ⟨ac, cc, hvc⟩ : ∃ a c, vc = .slice a k c := by obtain ⟨a, c, h, -⟩ := HE8.out.1.oc; exact ⟨a, c, by rw [h, HNB.out]⟩
      subst hvc
      have HB8 : Hid (Below w.heap.size w w8) := HO1.out.below.trans (HE8.out.1.bel.mono HO1.out.below.size)
      have hkk : (k : Int) + 3 ≤ 2000 := by omega
      go_wp2
      go_ret
      exact ⟨rfl, HB8.out⟩
end Go.Proofs.YtchkpggdndnpjabGreatDoor
