/-
  StorePlays: parts: both tell the same; what came out is its owner's.
-/
import Derived.Test.YtekkckfoikpljaaSTakes2
import Derived.Test.YtekkckfoikpljaaSLooks
import Derived.Test.YtekkckfoikpljaaSRefParts
namespace Go.Proofs.Ytekkckfoikpljaa
set_option linter.unusedVariables false
set_option linter.unusedSimpArgs false
open Go.RowKit Go.Great

/-- A pair's Parts: both tell the same. -/
theorem Parts_both {w : World} {P : PR} (h : PrAt w P) (hn : P.ev.length ≤ 900000) (z1 z2 : Int) : ∃ (L : List (Pt Msg)) (e0 : Int), L.length ≤ 900000 ∧
    (∀ w', PrAt w' P → Calls Try.prog 10 #[.pointer (some ⟨P.p, 0, none⟩), .int .i64 z1, .int .i64 z2] w' fun e w'' => ∃ v, e = .returned (.tuple #[v, .int .i64 e0]) ∧ RowAt w'' 36 45 v L.length (flatL ptL L) ∧ Below w'.heap.size w' w'' ∧ ∀ g, v.ownBlock = some g → w'.heap.size ≤ g) ∧
    (∀ w', PrAt w' P → Calls Try.prog 36 #[.pointer (some ⟨P.q, 0, none⟩), .int .i64 z1, .int .i64 z2] w' fun e w'' => ∃ v, e = .returned (.tuple #[v, .int .i64 e0]) ∧ RowAt w'' 36 45 v L.length (flatL ptL L) ∧ Below w'.heap.size w' w'' ∧ ∀ g, v.ownBlock = some g → w'.heap.size ≤ g) := by
  by_cases hg : 1 ≤ z1 ∧ (z2 = 0 ∧ z1 ≤ P.ev.length ∨ z1 ≤ z2 ∧ z2 ≤ P.ev.length)
  · obtain ⟨a, ha⟩ : ∃ a : Nat, z1 = a := ⟨z1.toNat, by omega⟩
    obtain ⟨b, hb⟩ : ∃ b : Nat, (a ≤ b ∧ b ≤ P.ev.length) ∧ (z2 = b ∨ z2 = 0 ∧ b = P.ev.length) := by
      rcases hg.2 with ⟨h1, h2⟩ | ⟨h1, h2⟩
      · exact ⟨P.ev.length, by omega, .inr ⟨h1, rfl⟩⟩
      · exact ⟨z2.toNat, by omega, .inl (by omega)⟩
    subst ha
    refine ⟨prt P.K P.ev a b, 0, ?_, fun w' hw => ?_, fun w' hw => ?_⟩
    · have := gr_len (c := cd P.K P.ev) (g := mm P.K P.ev) a (b + 1 - a)
      unfold prt; omega
    · exact Parts_yes a b z2 hw.st (by omega) (by omega) hb.1.1 hb.1.2 hb.2 hw.k2
    · exact refParts_yes a b z2 hw.rf (by omega) (by omega) hb.1.1 hb.1.2 hb.2
  · refine ⟨[], 1, by simp, fun w' hw => ?_, fun w' hw => ?_⟩
    · refine (Parts_no z1 z2 hw.st (by omega) hg).mono ?_
      rintro e w2 ⟨rfl, rfl⟩
      exact ⟨_, rfl, RowAt.none0 _ _ _, Below.refl _ _, fun g hg => by cases hg⟩
    · refine (refParts_no z1 z2 hw.rf (by rw [cdL_len]; omega) (by rw [cdL_len]; exact hg)).mono ?_
      rintro e w2 ⟨rfl, rfl⟩
      exact ⟨_, rfl, RowAt.none0 _ _ _, Below.refl _ _, fun g hg => by cases hg⟩
/-- What takes leaves. -/
theorem takes_ty {w w' : World} {pw : Nat} {ps : List PR} {hs : List Hd} {vP vH l : Value} {N n : Nat} {xs : List Value} (h : WsAt w pw ps hs vP vH N) (hl : RowAt w 36 45 l n xs) (hf : Fr w w' (fun b => l.ownBlock = some b ∨ b = pw ∨ vH.ownBlock = some b)) : Ty w w' (fun e => e ≠ 36 ∧ e ≠ 73 ∧ e ≠ 51) :=
  Ty.of_fr hf fun b cur e hb h1 hn => by
    rcases hb with hb | hb | hb
    · obtain ⟨_, c2, h2⟩ := hl.lt hb; exact hn.1 (obj_type h1 h2)
    · subst hb; exact hn.2.2 (obj_type h1 h.blk)
    · obtain ⟨_, c2, h2⟩ := h.hrow.lt hb; exact hn.2.1 (obj_type h1 h2)
theorem takes_row {w w' : World} {pw : Nat} {ps : List PR} {hs : List Hd} {vP vH l k : Value} {N n m : Nat} {xs ys : List Value} (h : WsAt w pw ps hs vP vH N) (hk : RowAt w 36 45 k m ys) (hlk : ∀ g, l.ownBlock = some g → k.ownBlock ≠ some g) (hf : Fr w w' (fun b => l.ownBlock = some b ∨ b = pw ∨ vH.ownBlock = some b)) : RowAt w' 36 45 k m ys :=
  hk.fr hf fun g hg hb => by
    obtain ⟨_, c2, h2⟩ := hk.lt hg
    rcases hb with hb | hb | hb
    · exact hlk g hb hg
    · subst hb; exact absurd (obj_type h2 h.blk) (by decide)
    · obtain ⟨_, c3, h3⟩ := h.hrow.lt hb; exact absurd (obj_type h2 h3) (by decide)
theorem row_pos {w : World} {n c : Nat} {ao : Option Addr} {xs : List Value} (h : RowAt w 36 45 (.slice ao n c) n xs) (hn : 0 < n) : ∃ g o, ao = some ⟨g, o, none⟩ := by
  obtain ⟨g, o, c', cur, e, _⟩ := h.more hn
  injection e with e _ _
  exact ⟨g, o, e⟩
set_option maxRecDepth 100000 in
set_option maxHeartbeats 4000000 in
theorem parts_any {w : World} {pw : Nat} {ps : List PR} {hs : List Hd} {vP vH : Value} {N i0 : Nat} {P : PR} (h : WsAt w pw ps hs vP vH N) (hN : N ≤ 900000) (hh : hs.length ≤ 90000) (hi : ps[i0]? = some P) (z1 z2 : Int) :
    Calls Try.prog 27 #[.pointer (some ⟨pw, 0, none⟩), .agg #[.pointer (some ⟨P.p, 0, none⟩), .pointer (some ⟨P.q, 0, none⟩)], .int .i64 z1, .int .i64 z2] w fun e w' => e = .returned (.bool true) ∧ ∃ hs' vH', WsAt w' pw ps hs' vP vH' N ∧ hs'.length = hs.length + 2 ∧ Ty w w' (fun e => e ≠ 36 ∧ e ≠ 73 ∧ e ≠ 51) ∧ Fr w w' (fun b => b = pw ∨ vH.ownBlock = some b) ∧ newer w vH vH' := by
  obtain ⟨L, e0, hL, hP, hR⟩ := Parts_both (h.ps.each i0 P hi).1 (by have := (h.ps.each i0 P hi).2; omega) z1 z2
  obtain ⟨n, hLn⟩ : ∃ n, L.length = n := ⟨_, rfl⟩
  rw [hLn] at hL hP hR
  have HLn : Hid (L.length = n) := hLn
  have HP : Hid _ := hP
  have HR : Hid _ := hR
  have HPS : Hid (∀ w', Sm w w' → PrAt w' P) := fun w' ht => ((h.ps.each i0 P hi).1).ty (ht.ty.mono fun _ _ => trivial)
  have HW : Hid (WsAt w pw ps hs vP vH N ∧ hs.length ≤ 90000) := ⟨h, hh⟩
  have hT1 : Sm w (w.alloc (.cells #[.pointer (some ⟨P.p, 0, none⟩), .pointer (some ⟨P.q, 0, none⟩)] 69)) := Fr.alloc w _ fun _ => False
  have hbx : (w.alloc (.cells #[.pointer (some ⟨P.p, 0, none⟩), .pointer (some ⟨P.q, 0, none⟩)] 69)).heap[w.heap.size]? = some (.cells #[.pointer (some ⟨P.p, 0, none⟩), .pointer (some ⟨P.q, 0, none⟩)] 69 (0, 0)) := heap_alloc_new w _
  clear h hi hP hR hN hh hLn
  generalize hw1 : w.alloc (.cells #[.pointer (some ⟨P.p, 0, none⟩), .pointer (some ⟨P.q, 0, none⟩)] 69) = w1 at *
  have c0 : w1.cell? ⟨w.heap.size, 0, none⟩ = some (.pointer (some ⟨P.p, 0, none⟩)) := cell_at hbx rfl
  generalize P.p = pp at *
  generalize P.q = pq at *
  have HX1 : Hid (Sm w w1 ∧ w1.heap[w.heap.size]? = some (.cells #[.pointer (some ⟨pp, 0, none⟩), .pointer (some ⟨pq, 0, none⟩)] 69 (0, 0))) := ⟨hT1, hbx⟩
  clear hT1 hbx
  go_enter Try.func27, Try.ntmps27
  go_upto_region 1 with fail
  clear hw1
  have HG : Hid (w.heap.size ≤ w.heap.size) := Nat.le_refl _
  generalize hg5 : w.heap.size = g5 at HG HX1 c0 ⊢
  have HG5 : Hid (w.heap.size = g5) := hg5
  clear HG hg5
  go_wp2_with (go_at_call 10; fail)
  refine (HP.out w1 (HPS.out w1 HX1.out.1)).mono ?_
  rintro e w2 ⟨vl, rfl, hrl, hb2, hnl⟩
  obtain ⟨al, cl, rfl, -⟩ := hrl.form
  have HX2 : Hid (Sm w w2 ∧ w2.heap[g5]? = some (.cells #[.pointer (some ⟨pp, 0, none⟩), .pointer (some ⟨pq, 0, none⟩)] 69 (0, 0)) ∧ RowAt w2 36 45 (.slice al n cl) n (flatL ptL L) ∧ ∀ g, (Value.slice al n cl).ownBlock = some g → w.heap.size ≤ g) :=
    ⟨HX1.out.1.trans (Sm.of_below hb2), (Ty.of_below hb2 fun _ => True).blk _ _ _ HX1.out.2 trivial, hrl, fun g hg => Nat.le_trans HX1.out.1.size (hnl g hg)⟩
  have c1 : w2.cell? ⟨g5, 1, none⟩ = some (.pointer (some ⟨pq, 0, none⟩)) := cell_at HX2.out.2.1 rfl
  clear c0 hrl hb2 hnl HX1
  go_wp2_with (go_at_call 36; fail)
  refine (HR.out w2 (HPS.out w2 HX2.out.1)).mono ?_
  rintro e w3 ⟨vm, rfl, hrm, hb3, hnm⟩
  obtain ⟨am, cm, rfl, -⟩ := hrm.form
  have HX3 : Hid (Sm w w3 ∧ w3.heap[g5]? = some (.cells #[.pointer (some ⟨pp, 0, none⟩), .pointer (some ⟨pq, 0, none⟩)] 69 (0, 0)) ∧ (RowAt w3 36 45 (.slice al n cl) n (flatL ptL L) ∧ RowAt w3 36 45 (.slice am n cm) n (flatL ptL L)) ∧ (∀ g, (Value.slice al n cl).ownBlock = some g → w.heap.size ≤ g) ∧ ∀ g, (Value.slice al n cl).ownBlock = some g → (Value.slice am n cm).ownBlock ≠ some g) :=
    ⟨HX2.out.1.trans (Sm.of_below hb3), (Ty.of_below hb3 fun _ => True).blk _ _ _ HX2.out.2.1 trivial, ⟨HX2.out.2.2.1.ty (Ty.of_below hb3 fun _ => True) trivial, hrm⟩, HX2.out.2.2.2, fun g hg e => by have := (HX2.out.2.2.1.lt hg).1; have := hnm g e; omega⟩
  clear c1 hrm hb3 hnm HX2
  go_wp2_with (go_at_call 16; fail)
  refine (looks_any (HW.out.1.ty HX3.out.1.ty)).mono ?_
  rintro e w4 ⟨rfl, hT4⟩
  have HX4 : Hid (Sm w w4 ∧ w4.heap[g5]? = some (.cells #[.pointer (some ⟨pp, 0, none⟩), .pointer (some ⟨pq, 0, none⟩)] 69 (0, 0)) ∧ (RowAt w4 36 45 (.slice al n cl) n (flatL ptL L) ∧ RowAt w4 36 45 (.slice am n cm) n (flatL ptL L)) ∧ (∀ g, (Value.slice al n cl).ownBlock = some g → w.heap.size ≤ g) ∧ ∀ g, (Value.slice al n cl).ownBlock = some g → (Value.slice am n cm).ownBlock ≠ some g) :=
    ⟨HX3.out.1.trans hT4, hT4.ty.blk _ _ _ HX3.out.2.1 trivial, ⟨HX3.out.2.2.1.1.ty hT4.ty trivial, HX3.out.2.2.1.2.ty hT4.ty trivial⟩, HX3.out.2.2.2⟩
  have c0 : w4.cell? ⟨g5, 0, none⟩ = some (.pointer (some ⟨pp, 0, none⟩)) := cell_at HX4.out.2.1 rfl
  clear hT4 HX3
  go_wp2_with (go_at_call 10; fail)
  refine (HP.out w4 (HPS.out w4 HX4.out.1)).mono ?_
  rintro e w5 ⟨vk, rfl, hrk, hb5, hnk⟩
  obtain ⟨ak, ck, rfl, -⟩ := hrk.form
  have HX5 : Hid (Sm w w5 ∧ (RowAt w5 36 45 (.slice al n cl) n (flatL ptL L) ∧ RowAt w5 36 45 (.slice am n cm) n (flatL ptL L) ∧ RowAt w5 36 45 (.slice ak n ck) n (flatL ptL L)) ∧ (∀ g, (Value.slice al n cl).ownBlock = some g → w.heap.size ≤ g ∧ (Value.slice am n cm).ownBlock ≠ some g ∧ (Value.slice ak n ck).ownBlock ≠ some g) ∧ ∀ g, (Value.slice ak n ck).ownBlock = some g → w.heap.size ≤ g) :=
    ⟨HX4.out.1.trans (Sm.of_below hb5), ⟨HX4.out.2.2.1.1.ty (Ty.of_below hb5 fun _ => True) trivial, HX4.out.2.2.1.2.ty (Ty.of_below hb5 fun _ => True) trivial, hrk⟩, fun g hg => ⟨HX4.out.2.2.2.1 g hg, HX4.out.2.2.2.2 g hg, fun e => by have := (HX4.out.2.2.1.1.lt hg).1; have := hnk g e; omega⟩, fun g hg => Nat.le_trans HX4.out.1.size (hnk g hg)⟩
  clear c0 hrk hb5 hnk HX4
  go_upto_region 10 with fail
  go_loopw [16] (fun x16 wr => ∃ i : Nat, i ≤ n ∧ x16 = .int .i64 (i : Int) ∧ Hid (Sm w5 wr)) (fun x16 _ => n - (intOf x16).toNat)
  case atStart => exact ⟨0, Nat.zero_le _, rfl, Sm.refl _⟩
  case round =>
    obtain ⟨i, hi, rfl, HD⟩ := hrel
    by_cases hlt : i < n
    · have hlt' : (i : Int) < (n : Int) := by omega
      have hiw : IntKind.i64.wrap ((i : Int) + 1) = (i : Int) + 1 := by rw [IntKind.wrap_i64]; omega
      obtain ⟨p, hp⟩ : ∃ p, L[i]? = some p := ⟨_, List.getElem?_eq_getElem (by rw [HLn.out]; exact hlt)⟩
      obtain ⟨gl, ol, rfl⟩ := row_pos HX5.out.2.1.1 (by omega)
      obtain ⟨gm, om, rfl⟩ := row_pos HX5.out.2.1.2.1 (by omega)
      obtain ⟨gk, ok, rfl⟩ := row_pos HX5.out.2.1.2.2 (by omega)
      have HR1 : Hid (wr.rangeAt gl (ol + i * 45) (ptL p)) := row_pt (HX5.out.2.1.1.ty HD.out.ty trivial) hp
      have HR2 : Hid (wr.rangeAt gm (om + i * 45) (ptL p)) := row_pt (HX5.out.2.1.2.1.ty HD.out.ty trivial) hp
      have HR3 : Hid (wr.rangeAt gk (ok + i * 45) (ptL p)) := row_pt (HX5.out.2.1.2.2.ty HD.out.ty trivial) hp
      clear hp
      go_upto_region 12 with fail
      refine wp_region_quiet_lit (by kernel_rfl) (by kernel_rfl) ?_
      iterate 3 (go_big_quiet_step (fail))
      refine quiet_runTo (by kernel_rfl) (some 77) rfl (.agg (ptL p).toArray) (fun w' hw => by obtain ⟨q, rfl⟩ := hw; exact loadPt_run (w := wr.drewN q) HR1.out (.tmp 76) rfl (by kernel_rfl)) ?_
      simp only [Act.put, List.setIfInBounds_toArray, List.set_cons_zero, List.set_cons_succ]
      iterate 3 (go_big_quiet_step (fail))
      refine quiet_runTo (by kernel_rfl) (some 81) rfl (.agg (ptL p).toArray) (fun w' hw => by obtain ⟨q, rfl⟩ := hw; exact loadPt_run (w := wr.drewN q) HR2.out (.tmp 80) rfl (by kernel_rfl)) ?_
      simp only [Act.put, List.setIfInBounds_toArray, List.set_cons_zero, List.set_cons_succ]
      refine quiet_runTo (by kernel_rfl) (some 82) rfl (.bool false) (fun w' hw => by exact neqP_any p p (.tmp 77) (.tmp 81) rfl (by kernel_rfl) (by kernel_rfl) false (by simp) w') ?_
      simp only [Act.put, List.setIfInBounds_toArray, List.set_cons_zero, List.set_cons_succ]
      iterate 4 (go_big_quiet_step (fail))
      refine quiet_runTo (by kernel_rfl) (some 87) rfl (.agg (ptL p).toArray) (fun w' hw => by obtain ⟨q, rfl⟩ := hw; exact loadPt_run (w := wr.drewN q) HR3.out (.tmp 86) rfl (by kernel_rfl)) ?_
      simp only [Act.put, List.setIfInBounds_toArray, List.set_cons_zero, List.set_cons_succ]
      iterate 3 (go_big_quiet_step (fail))
      refine quiet_runTo (by kernel_rfl) (some 91) rfl (.agg (ptL p).toArray) (fun w' hw => by obtain ⟨q, rfl⟩ := hw; exact loadPt_run (w := wr.drewN q) HR2.out (.tmp 90) rfl (by kernel_rfl)) ?_
      simp only [Act.put, List.setIfInBounds_toArray, List.set_cons_zero, List.set_cons_succ]
      refine quiet_runTo (by kernel_rfl) (some 92) rfl (.bool false) (fun w' hw => by exact neqP_any p p (.tmp 87) (.tmp 91) rfl (by kernel_rfl) (by kernel_rfl) false (by simp) w') ?_
      simp only [Act.put, List.setIfInBounds_toArray, List.set_cons_zero, List.set_cons_succ]
      iterate 1 (go_big_quiet_step (fail))
      refine wpQuiet_nil ?_
      intro _ hw'
      obtain ⟨nq2, hw''⟩ := hw'
      subst hw''
      generalize (ptL p).toArray = pa at *
      clear HR1 HR2 HR3
      go_wp2
      first
        | exact ⟨⟨i + 1, by omega, by go_num, HD.out.drewN nq2⟩, by simp [intOf]; omega⟩
        | (go_roundw
           case rel => exact ⟨i + 1, by omega, by go_num, HD.out.drewN nq2⟩
           case measure => simp [intOf]; omega)
    · obtain rfl : i = n := by omega
      have hws := HW.out.1.ty (HX5.out.1.trans HD.out).ty
      have hfree : ∀ x, x ∈ hs → ∀ r, r ∈ x.rows → ∀ g, r.ownBlock = some g → g < w.heap.size := fun x hx r hr g hg => by
        obtain ⟨k, hk⟩ := (HW.out.1.hs x hx).each r hr
        exact (RowAt.lt hk hg).1
      have HF : Hid _ := hfree
      have hT := takes_any hws (HX5.out.2.1.1.ty HD.out.ty trivial) HLn.out hL (by have := HW.out.2; omega) (fun x hx r hr g hg e => by have := hfree x hx r hr g hg; have := (HX5.out.2.2.1 g e).1; omega)
      clear hfree
      have HWR : Hid (WsAt wr pw ps hs vP vH N ∧ Sm w wr ∧ (RowAt wr 36 45 (.slice al i cl) i (flatL ptL L) ∧ RowAt wr 36 45 (.slice am i cm) i (flatL ptL L) ∧ RowAt wr 36 45 (.slice ak i ck) i (flatL ptL L))) := ⟨hws, HX5.out.1.trans HD.out, HX5.out.2.1.1.ty HD.out.ty trivial, HX5.out.2.1.2.1.ty HD.out.ty trivial, HX5.out.2.1.2.2.ty HD.out.ty trivial⟩
      clear hws
      go_wp2_with (go_at_call 37; fail)
      refine hT.mono ?_
      rintro e w6 ⟨rfl, x, vH', hws6, hf6, hnew6, hnw6⟩
      have HW6 : Hid (WsAt w6 pw ps (hs ++ [x]) vP vH' N ∧ Ty w w6 (fun e => e ≠ 36 ∧ e ≠ 73 ∧ e ≠ 51) ∧ (RowAt w6 36 45 (.slice am i cm) i (flatL ptL L) ∧ RowAt w6 36 45 (.slice ak i ck) i (flatL ptL L)) ∧ (∀ y, y ∈ hs ++ [x] → ∀ r, r ∈ y.rows → ∀ g, r.ownBlock = some g → (Value.slice ak i ck).ownBlock ≠ some g) ∧ Fr w w6 (fun b => b = pw ∨ vH.ownBlock = some b) ∧ newer w vH vH' ∧ ∀ g, (Value.slice ak i ck).ownBlock = some g → w.heap.size ≤ g) := by
        refine ⟨hws6, (HWR.out.2.1.ty.mono fun _ _ => trivial).trans (takes_ty HWR.out.1 HWR.out.2.2.1 hf6), ⟨takes_row (n := i) (xs := []) HWR.out.1 HWR.out.2.2.2.1 (fun g hg => (HX5.out.2.2.1 g hg).2.1) hf6, takes_row (n := i) (xs := []) HWR.out.1 HWR.out.2.2.2.2 (fun g hg => (HX5.out.2.2.1 g hg).2.2) hf6⟩, fun y hy r hr g hg e => ?_, Fr.trans HWR.out.2.1 hf6 fun b hb q => ?_, ?_, HX5.out.2.2.2⟩
        rcases List.mem_append.1 hy with hy | hy
        · have := HF.out y hy r hr g hg; have := HX5.out.2.2.2 g e; omega
        · obtain rfl := List.mem_singleton.1 hy
          rcases hnew6 r hr with q | ⟨g', q, hg'⟩
          · rw [q] at hg; exact (HX5.out.2.2.1 g hg).2.2 e
          · rw [q] at hg; injection hg with hg; have := (HWR.out.2.2.2.2.lt e).1; omega
        · rcases q with q | q | q
          · exact q.elim
          · have := (HX5.out.2.2.1 b q).1; omega
          · exact q
        · rcases hnw6 with q | ⟨g, q, hg⟩
          · exact .inl q
          · exact .inr ⟨g, q, Nat.le_trans HWR.out.2.1.size hg⟩
      clear hnw6
      clear hws6 hf6 hnew6 hT HWR HX5 HD
      go_upto_region 16 with fail
      go_loopw [17] (fun x17 wr => ∃ j : Nat, j ≤ i ∧ x17 = .int .i64 (j : Int) ∧ Hid (Sm w6 wr)) (fun x17 _ => i - (intOf x17).toNat)
      case atStart => exact ⟨0, Nat.zero_le _, rfl, Sm.refl _⟩
      case round =>
        obtain ⟨j, hj, rfl, HD⟩ := hrel
        by_cases hlt2 : j < i
        · have hlt2' : (j : Int) < (i : Int) := by omega
          have hjw : IntKind.i64.wrap ((j : Int) + 1) = (j : Int) + 1 := by rw [IntKind.wrap_i64]; omega
          obtain ⟨p, hp⟩ : ∃ p, L[j]? = some p := ⟨_, List.getElem?_eq_getElem (by rw [HLn.out]; exact hlt2)⟩
          obtain ⟨gm, om, rfl⟩ := row_pos HW6.out.2.2.1.1 (by omega)
          obtain ⟨gk, ok, rfl⟩ := row_pos HW6.out.2.2.1.2 (by omega)
          have HR2 : Hid (wr.rangeAt gm (om + j * 45) (ptL p)) := row_pt (HW6.out.2.2.1.1.ty HD.out.ty trivial) hp
          have HR3 : Hid (wr.rangeAt gk (ok + j * 45) (ptL p)) := row_pt (HW6.out.2.2.1.2.ty HD.out.ty trivial) hp
          clear hp
          go_upto_region 18 with fail
          refine wp_region_quiet_lit (by kernel_rfl) (by kernel_rfl) ?_
          iterate 3 (go_big_quiet_step (fail))
          refine quiet_runTo (by kernel_rfl) (some 106) rfl (.agg (ptL p).toArray) (fun w' hw => by obtain ⟨q, rfl⟩ := hw; exact loadPt_run (w := wr.drewN q) HR3.out (.tmp 105) rfl (by kernel_rfl)) ?_
          simp only [Act.put, List.setIfInBounds_toArray, List.set_cons_zero, List.set_cons_succ]
          iterate 3 (go_big_quiet_step (fail))
          refine quiet_runTo (by kernel_rfl) (some 110) rfl (.agg (ptL p).toArray) (fun w' hw => by obtain ⟨q, rfl⟩ := hw; exact loadPt_run (w := wr.drewN q) HR2.out (.tmp 109) rfl (by kernel_rfl)) ?_
          simp only [Act.put, List.setIfInBounds_toArray, List.set_cons_zero, List.set_cons_succ]
          refine quiet_runTo (by kernel_rfl) (some 111) rfl (.bool false) (fun w' hw => by exact neqP_any p p (.tmp 106) (.tmp 110) rfl (by kernel_rfl) (by kernel_rfl) false (by simp) w') ?_
          simp only [Act.put, List.setIfInBounds_toArray, List.set_cons_zero, List.set_cons_succ]
          refine wpQuiet_nil ?_
          intro _ hw'
          obtain ⟨nq2, hw''⟩ := hw'
          subst hw''
          generalize (ptL p).toArray = pa at *
          clear HR2 HR3
          go_wp2
          first
            | exact ⟨⟨j + 1, by omega, by go_num, HD.out.drewN nq2⟩, by simp [intOf]; omega⟩
            | (go_roundw
               case rel => exact ⟨j + 1, by omega, by go_num, HD.out.drewN nq2⟩
               case measure => simp [intOf]; omega)
        · obtain rfl : j = i := by omega
          have hws := HW6.out.1.ty HD.out.ty
          have hT := takes_any hws (HW6.out.2.2.1.2.ty HD.out.ty trivial) HLn.out hL (by rw [List.length_append]; have := HW.out.2; simp; omega) HW6.out.2.2.2.1
          have HWR : Hid (WsAt wr pw ps (hs ++ [x]) vP vH' N ∧ Ty w wr (fun e => e ≠ 36 ∧ e ≠ 73 ∧ e ≠ 51) ∧ RowAt wr 36 45 (.slice ak j ck) j (flatL ptL L)) := ⟨hws, HW6.out.2.1.trans (HD.out.ty.mono fun _ _ => trivial), HW6.out.2.2.1.2.ty HD.out.ty trivial⟩
          clear hws
          go_wp2_with (go_at_call 37; fail)
          refine hT.mono ?_
          rintro e w7 ⟨rfl, y, vH2, hws7, hf7, -, hnw7⟩
          have HW7 : Hid (WsAt w7 pw ps (hs ++ [x] ++ [y]) vP vH2 N ∧ Ty w w7 (fun e => e ≠ 36 ∧ e ≠ 73 ∧ e ≠ 51) ∧ Fr w w7 (fun b => b = pw ∨ vH.ownBlock = some b) ∧ newer w vH vH2) := by
            have hsz : w.heap.size ≤ wr.heap.size := Nat.le_trans HW6.out.2.2.2.2.1.size HD.out.size
            refine ⟨hws7, HWR.out.2.1.trans (takes_ty HWR.out.1 HWR.out.2.2 hf7), Fr.trans (Fr.trans HW6.out.2.2.2.2.1 HD.out (e3 := fun b => b = pw ∨ vH.ownBlock = some b) fun b _ q => ?_) hf7 fun b hb q => ?_, ?_⟩
            · rcases q with q | q
              · exact q
              · exact q.elim
            · rcases q with q | q | q | q
              · exact q
              · have := HW6.out.2.2.2.2.2.2 b q; omega
              · exact .inl q
              · rcases HW6.out.2.2.2.2.2.1 with q2 | ⟨g, q2, hg⟩
                · rw [q2] at q; exact .inr q
                · rw [q2] at q; injection q with q; omega
            · rcases hnw7 with q | ⟨g, q, hg⟩
              · rcases HW6.out.2.2.2.2.2.1 with q2 | ⟨g, q2, hg⟩
                · exact .inl (q.trans q2)
                · exact .inr ⟨g, q.trans q2, hg⟩
              · exact .inr ⟨g, q, by omega⟩
          clear hnw7 hws7 hf7 hT HWR
          go_wp2
          go_ret
          exact ⟨rfl, _, _, HW7.out.1, by simp, HW7.out.2⟩
end Go.Proofs.Ytekkckfoikpljaa
