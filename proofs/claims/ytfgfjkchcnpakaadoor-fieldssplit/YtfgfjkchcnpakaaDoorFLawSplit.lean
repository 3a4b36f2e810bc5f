/-
  FieldsSplit: the walk.
-/
import Derived.Test.YtfgfjkchcnpakaaDoorFFaults
import Derived.Test.YtfgfjkchcnpakaaDoorFFill2
import Derived.Deep.DeepCutAuto
import Derived.Laws.AppendOwnNone
namespace Go.Proofs.YtfgfjkchcnpakaaDoor
set_option linter.unusedVariables false
open Go.RowKit

/-- What owner.fill does with three lists, of an owner that knows none yet. -/
def FillDoes (B : Nat) : Prop := ∀ (p gl : Nat) (u1 u2 u3 : Value) (f1 f2 f3 : List Fld) (w : World), B ≤ p → w.heap[p]? = some (.cells #[.slice none 0 0] 48 (0, 0)) → w.heap[gl]? = some (.cells #[u1, u2, u3] 22 (0, 0)) → B ≤ gl →
  OwnF w B u1 f1 → OwnF w B u2 f2 → OwnF w B u3 f3 → f1.length ≤ 1024 → f2.length ≤ 1024 → f3.length ≤ 1024 → Ap u1 u2 → Ap u1 u3 → Ap u2 u3 →
  Calls Tryd.prog 19 #[.pointer (some ⟨p, 0, none⟩), .slice (some ⟨gl, 0, none⟩) 3 3] w fun e w' => e = .returned (.tuple #[]) ∧ Below B w w' ∧ ∃ E, E.length ≤ 1048576 ∧ OwnrAt w' p E
theorem fill_does (B : Nat) : FillDoes B := by
  intro p gl u1 u2 u3 f1 f2 f3 w hp hpb hgl hBg o1 o2 o3 n1 n2 n3 a12 a13 a23
  have hpl : p < w.heap.size := lt_of_heap hpb
  have get : ∀ (j : Nat) u fs, ([(u1, f1), (u2, f2), (u3, f3)] : List (Value × List Fld))[j]? = some (u, fs) → (j = 0 ∧ u = u1 ∧ fs = f1) ∨ (j = 1 ∧ u = u2 ∧ fs = f2) ∨ (j = 2 ∧ u = u3 ∧ fs = f3) := fun j u fs h => by
    match j with
    | 0 => simp at h; exact .inl ⟨rfl, h.1.symm, h.2.symm⟩
    | 1 => simp at h; exact .inr (.inl ⟨rfl, h.1.symm, h.2.symm⟩)
    | 2 => simp at h; exact .inr (.inr ⟨rfl, h.1.symm, h.2.symm⟩)
    | j + 3 => simp at h
  have hfs : FS B w w p (.slice none 0 0) [] [(u1, f1), (u2, f2), (u3, f3)] (fun _ _ => False) := by
    refine ⟨Below.refl _ _, by omega, hpb, hp, World.ownsRow_nil _ _ _ _, fun i v n h => by simp at h, fun j u fs h => ?_, fun i j u fs v gs h1 h2 hne => ?_, fun i v n j u fs h => by simp at h, fun k o h _ _ _ => h⟩
    · rcases get j u fs h with ⟨_, rfl, rfl⟩ | ⟨_, rfl, rfl⟩ | ⟨_, rfl, rfl⟩
      · exact o1
      · exact o2
      · exact o3
    · rcases get i u fs h1 with ⟨e1, rfl, rfl⟩ | ⟨e1, rfl, rfl⟩ | ⟨e1, rfl, rfl⟩ <;> rcases get j v gs h2 with ⟨e2, rfl, rfl⟩ | ⟨e2, rfl, rfl⟩ | ⟨e2, rfl, rfl⟩
      · omega
      · exact a12
      · exact a13
      · exact a12.symm
      · omega
      · exact a23
      · exact a13.symm
      · exact a23.symm
      · omega
  have hlv : LV w (some ⟨gl, 0, none⟩) 3 [(u1, f1), (u2, f2), (u3, f3)] := by
    refine ⟨by simp, fun j u fs _ h => ⟨gl, _, rfl, hgl, ?_⟩⟩
    rcases get j u fs h with ⟨rfl, rfl, rfl⟩ | ⟨rfl, rfl, rfl⟩ | ⟨rfl, rfl, rfl⟩ <;> rfl
  refine (fill_any B p _ [] _ (some ⟨gl, 0, none⟩) 3 3 w hfs hlv 0 rfl (by decide) (fun j u fs h => ?_)).mono ?_
  · rcases get j u fs h with ⟨_, rfl, rfl⟩ | ⟨_, rfl, rfl⟩ | ⟨_, rfl, rfl⟩ <;> omega
  · rintro e w' ⟨he, vo', E', us', h1, h2⟩
    exact ⟨he, h1.bel, E', by rw [h2.el]; decide, h1.ownr⟩
theorem ap_new {w0 w1 w2 : World} {B : Nat} {u v : Value} {f g : List Fld} (h1 : OwnF w1 B u f) (h2 : OwnF w2 w1.heap.size v g) : Ap u v := fun k hk e => by
  have := (h1.lt k hk).2
  have := (h2.lt k e).1
  omega
theorem splice_take (cur : List Value) (l1 l2 : List UInt8) (k : Nat) (hk : k ≤ l1.length) (hk2 : k ≤ l2.length) (h : cur.take (l1.length * 1) = bcs l1) : (splice cur 0 (bcs (l2.take k))).take (l1.length * 1) = bcs (l2.take k ++ l1.drop k) := by
  have hl : (bcs (l2.take k)).length = k := by rw [bcs_length, List.length_take]; omega
  unfold splice
  rw [List.take_zero, List.nil_append, Nat.zero_add, hl, List.take_append, hl, List.take_of_length_le (by rw [hl]; omega), bcs_app]
  congr 1
  have e : bcs (l1.drop k) = (bcs l1).drop k := by unfold bcs; rw [List.map_drop]
  rw [e, ← h, List.drop_take, Nat.mul_one]
theorem copy_over (v2 : Value) (l1 l2 : List UInt8) (g cap B : Nat) (W w0 : World) (ho : OwnB W B (.slice (some ⟨g, 0, none⟩) l1.length cap) l1) (hs : SrcB W v2 l2) (hb : Below B w0 W) :
    ∃ (lx : List UInt8) (q : Nat) (W2 : World), lx.length = l1.length ∧ (Builtin.copy_ #[23, 23] 3 #[.slice (some ⟨g, 0, none⟩) l1.length cap, v2]).run Tryd.prog W = .ok (.int .i64 (q : Int)) W2 ∧ OwnB W2 B (.slice (some ⟨g, 0, none⟩) l1.length cap) lx ∧ Below B w0 W2 := by
  rcases ho.2 with ⟨e, _⟩ | ⟨g', cap', cur, e, r1, r2, r3, r4, r5, r6⟩
  · cases e
  injection e with e1 _ e3
  injection e1 with e1
  injection e1 with e1
  subst e1 e3
  obtain ⟨ao, c2, rfl, hc2, hh⟩ := hs
  obtain ⟨k, hk⟩ : ∃ k, k = Nat.min l2.length l1.length := ⟨_, rfl⟩
  have hk1 : k ≤ l1.length := by rw [hk]; exact Nat.min_le_right _ _
  have hk2 : k ≤ l2.length := by rw [hk]; exact Nat.min_le_left _ _
  have hcl : (bcs (l2.take k)).length = k := by rw [bcs_length, List.length_take]; omega
  by_cases h0 : k = 0
  · have h := run_copy_none (P := Tryd.prog) W 23 23 3 5 (some ⟨g, 0, none⟩) ao l1.length cap l2.length c2 Tryd.underlying23 size5 (by rw [← hk]; exact h0)
    exact ⟨l1, 0, W, rfl, by simpa [goInt] using h, ho, hb⟩
  · rcases hh with h0' | ⟨b, off, rfl, hr⟩
    · rw [h0'] at hk2; simp at hk2; omega
    have hcs : ∀ (j : Nat) (u : Value), (bcs (l2.take k))[j]? = some u → W.cell? ((⟨b, off, none⟩ : Addr).add j) = some u := fun j x hj => by
      rw [addr_add]
      unfold bcs at hj
      rw [List.getElem?_map, List.getElem?_take] at hj
      split at hj
      · cases hq : l2[j]? with
        | none => rw [hq] at hj; cases hj
        | some c => rw [hq] at hj; injection hj with hj; rw [← hj]; exact hr j c hq
      · cases hj
    have h := run_copy_row (P := Tryd.prog) W 23 23 3 5 g 0 l1.length cap ⟨b, off, none⟩ l2.length c2 cur 5 (bcs (l2.take k)) Tryd.underlying23 size5 r2 (by rw [hcl, hk]) hcs (by rw [hcl]; omega) (bcs_one _)
    have hll : (l2.take k ++ l1.drop k).length = l1.length := by rw [List.length_append, List.length_take, List.length_drop]; omega
    refine ⟨l2.take k ++ l1.drop k, k, _, hll, by simpa [goInt, hcl] using h, ?_, below_setRow hb r1 _⟩
    unfold OwnB
    rw [hll]
    refine ⟨by rw [bcs_length, hll]; omega, .inr ⟨g, cap, _, rfl, r1, setRow_heap W g _ _ 5 (0, 0) r2, r3, r4, ?_, ?_⟩⟩
    · simp only [List.size_toArray, List.length_append, List.length_drop, Array.length_toList, hcl]
      omega
    · have e := splice_take cur.toList l1 l2 k hk1 hk2 r6
      unfold splice at e
      rw [List.take_zero, List.nil_append, Nat.zero_add, hcl] at e
      exact e
theorem ErrAt.zero {w : World} {B : Nat} {ev : Value} {l : List UInt8} (h : ErrAt w B ev l) : ErrAt w 0 ev l := by
  unfold ErrAt at h ⊢
  cases hj : splitL l with
  | ok fs => rw [hj] at h; exact h
  | error y =>
    obtain ⟨e, a⟩ := y
    rw [hj] at h
    obtain ⟨g, hg, h1, h2⟩ := h
    exact ⟨g, Nat.zero_le _, h1, h2⟩
set_option maxRecDepth 100000 in
set_option maxHeartbeats 4000000 in
theorem FieldsSplit_law (v1 v2 : Value) (l1 l2 : List UInt8) (w : World) (hv1 : SrcB w v1 l1) (hv2 : SrcB w v2 l2) (hn1 : l1.length ≤ 140737488351232) (hn2 : l2.length ≤ 140737488351232) (hp : Pow w) (hz1 : ∀ n c, v1 = .slice none n c → c = 0) :
    Calls Tryd.prog 7 #[v1, v2] w fun e w' => e = .returned (.bool true) ∧ Below w.heap.size w w' := by
  have HI : Hid (SrcB w v1 l1 ∧ SrcB w v2 l2 ∧ Pow w ∧ FillDoes w.heap.size) := ⟨hv1, hv2, hp, fill_does _⟩
  have h1 := shown_any w hp
  obtain ⟨i0, hi, hy0, hy1, hy2⟩ := info_parts info5
  obtain ⟨a1, c1, rfl, hc1, _⟩ := hv1
  obtain ⟨a2, c2, rfl, hc2, _⟩ := hv2
  have HZ1 : Hid (a1 = none → c1 = 0) := fun h => hz1 l1.length c1 (by rw [h])
  clear hp hz1
  have hf1 := splitF_len l1
  have hf2 := splitF_len l2
  go_enter Tryd.func7, Tryd.ntmps7
  go_wp2_with (go_at_call 8; fail)
  refine h1.mono ?_
  rintro e wa ⟨rfl, hba⟩
  have HA : Hid (Below w.heap.size w wa) := hba
  clear hba h1
  go_wp2_with (go_at_call 23; fail)
  refine (split_any _ l1 wa hn1 (HI.out.1.below HA.out) (HI.out.2.2.1.below HA.out)).mono ?_
  rintro e wb ⟨u1, rfl, ho1, hbb⟩
  have HB : Hid (Below w.heap.size w wb ∧ OwnF wb wa.heap.size u1 (splitF l1) ∧ w.heap.size ≤ wa.heap.size) := ⟨HA.out.trans (hbb.mono HA.out.size), ho1, HA.out.size⟩
  clear ho1 hbb HA
  go_wp2_with (go_at_call 23; fail)
  refine (split_any _ l2 wb hn2 (HI.out.2.1.below HB.out.1) (HI.out.2.2.1.below HB.out.1)).mono ?_
  rintro e wc ⟨u2, rfl, ho2, hbc⟩
  have HC : Hid (Below w.heap.size w wc ∧ OwnF wc w.heap.size u1 (splitF l1) ∧ OwnF wc w.heap.size u2 (splitF l2) ∧ Ap u1 u2) := ⟨HB.out.1.trans (hbc.mono HB.out.1.size), (HB.out.2.1.below hbc).mono HB.out.2.2, ho2.mono HB.out.1.size, ap_new (w0 := w) HB.out.2.1 ho2⟩
  clear ho2 hbc HB
  go_wp2_with (go_at_call 23; fail)
  refine (split_any _ l1 wc hn1 (HI.out.1.below HC.out.1) (HI.out.2.2.1.below HC.out.1)).mono ?_
  rintro e wd ⟨u3, rfl, ho3, hbd⟩
  have HD : Hid (Below w.heap.size w wd ∧ OwnF wd w.heap.size u1 (splitF l1) ∧ OwnF wd w.heap.size u2 (splitF l2) ∧ OwnF wd w.heap.size u3 (splitF l1) ∧ Ap u1 u2 ∧ Ap u1 u3 ∧ Ap u2 u3) := ⟨HC.out.1.trans (hbd.mono HC.out.1.size), HC.out.2.1.below hbd, HC.out.2.2.1.below hbd, ho3.mono HC.out.1.size, HC.out.2.2.2, ap_new (w0 := w) HC.out.2.1 ho3, ap_new (w0 := w) HC.out.2.2.1 ho3⟩
  clear ho3 hbd HC
  go_wp2_with (go_at_call 24; fail)
  refine (refSplit_any _ l1 wd (HI.out.1.below HD.out.1) (by unfold maxLen; omega)).mono ?_
  intro x we hR
  obtain ⟨vr, rfl, hor, hbe⟩ := hR.one
  have HE : Hid (Below w.heap.size w we ∧ OwnF we w.heap.size u1 (splitF l1) ∧ OwnF we w.heap.size u2 (splitF l2) ∧ OwnF we w.heap.size u3 (splitF l1) ∧ OwnF we wd.heap.size vr (splitF l1)) := ⟨HD.out.1.trans (hbe.mono HD.out.1.size), HD.out.2.1.below hbe, HD.out.2.2.1.below hbe, HD.out.2.2.2.1.below hbe, hor⟩
  have HAP : Hid (Ap u1 u2 ∧ Ap u1 u3 ∧ Ap u2 u3) := HD.out.2.2.2.2
  clear hR hor hbe HD
  go_wp2_with (go_at_call 11; fail)
  refine (same_yes _ _ (splitF l1) we (by omega) HE.out.2.1.src HE.out.2.2.2.2.src).mono ?_
  rintro x wf ⟨rfl, qf, hqf⟩
  have hbf : Below we.heap.size we wf := by rw [hqf]; exact below_drewN (Below.refl _ we) qf
  have HF : Hid (Below w.heap.size w wf ∧ OwnF wf w.heap.size u1 (splitF l1) ∧ OwnF wf w.heap.size u2 (splitF l2) ∧ OwnF wf w.heap.size u3 (splitF l1)) := ⟨HE.out.1.trans (hbf.mono HE.out.1.size), HE.out.2.1.below hbf, HE.out.2.2.1.below hbf, HE.out.2.2.2.1.below hbf⟩
  clear hqf hbf HE
  obtain ⟨b1, d1, hu1, _⟩ := HF.out.2.1.src
  obtain ⟨b2, d2, hu2, _⟩ := HF.out.2.2.1.src
  obtain ⟨b3, d3, hu3, _⟩ := HF.out.2.2.2.src
  subst hu1 hu2 hu3
  generalize (splitF l1).length = n1 at *
  generalize (splitF l2).length = n2 at *
  have hX : Below wf.heap.size wf ((wf.alloc (.cells #[.slice none 0 0] 48)).alloc (.cells #[.slice b1 n1 d1, .slice b2 n2 d2, .slice b3 n1 d3] 22)) := ((Below.refl _ wf).alloc (Nat.le_refl _) _).alloc (by simp) _
  have hXp : ((wf.alloc (.cells #[.slice none 0 0] 48)).alloc (.cells #[.slice b1 n1 d1, .slice b2 n2 d2, .slice b3 n1 d3] 22)).heap[wf.heap.size]? = some (.cells #[.slice none 0 0] 48 (0, 0)) := by
    rw [((Below.refl _ (wf.alloc (.cells #[.slice none 0 0] 48))).alloc (Nat.le_refl _) (.cells #[.slice b1 n1 d1, .slice b2 n2 d2, .slice b3 n1 d3] 22)).block wf.heap.size (by simp)]
    exact heap_alloc_new wf _
  have hXg : ((wf.alloc (.cells #[.slice none 0 0] 48)).alloc (.cells #[.slice b1 n1 d1, .slice b2 n2 d2, .slice b3 n1 d3] 22)).heap[wf.heap.size + 1]? = some (.cells #[.slice b1 n1 d1, .slice b2 n2 d2, .slice b3 n1 d3] 22 (0, 0)) := by
    have h := heap_alloc_new (wf.alloc (.cells #[.slice none 0 0] 48)) (.cells #[.slice b1 n1 d1, .slice b2 n2 d2, .slice b3 n1 d3] 22)
    simpa using h
  have hsw : w.heap.size ≤ wf.heap.size := HF.out.1.size
  have HG0 : Hid (Calls Tryd.prog 19 #[.pointer (some ⟨wf.heap.size, 0, none⟩), .slice (some ⟨wf.heap.size + 1, 0, none⟩) 3 3] ((wf.alloc (.cells #[.slice none 0 0] 48)).alloc (.cells #[.slice b1 n1 d1, .slice b2 n2 d2, .slice b3 n1 d3] 22)) fun e w' => e = .returned (.tuple #[]) ∧ Below w.heap.size w w' ∧ ∃ E, E.length ≤ 1048576 ∧ OwnrAt w' wf.heap.size E) :=
    (HI.out.2.2.2 _ _ _ _ _ (splitF l1) (splitF l2) (splitF l1) _ hsw hXp hXg (by omega) (HF.out.2.1.below hX) (HF.out.2.2.1.below hX) (HF.out.2.2.2.below hX) (splitF_len l1) (splitF_len l2) (splitF_len l1) HAP.out.1 HAP.out.2.1 HAP.out.2.2).mono fun e w' ⟨a, b, c⟩ => ⟨a, (HF.out.1.trans (hX.mono hsw)).trans b, c⟩
  clear hX hXp hXg HAP
  go_wp2_with (go_at_call 19; fail)
  refine HG0.out.mono ?_
  rintro x wg ⟨rfl, hbg, E, hE, hO⟩
  have HG : Hid (Below w.heap.size w wg ∧ OwnrAt wg wf.heap.size E ∧ E.length ≤ 1048576) := ⟨hbg, hO, hE⟩
  clear hbg hO hE HG0 HF hsw
  generalize wf.heap.size = p at *
  go_wp2_with (go_at_call 21; fail)
  refine (looks_any p E wg HG.out.2.1 HG.out.2.2).mono ?_
  rintro x wh ⟨rfl, hbh⟩
  have HH : Hid (Below w.heap.size w wh) := HG.out.1.trans (hbh.mono HG.out.1.size)
  clear hbh HG
  go_wp2_with (go_at_call 10; fail)
  refine (Split_any _ l1 wh (by omega) (HI.out.1.below HH.out) (HI.out.2.2.1.below HH.out)).mono ?_
  intro x wi hR
  obtain ⟨v3, ev1, rfl, _, hev1, hbi⟩ := hR.one
  have HJ : Hid (Below w.heap.size w wi ∧ ErrAt wi wh.heap.size ev1 l1) := ⟨HH.out.trans (hbi.mono HH.out.size), hev1⟩
  clear hR hev1 hbi HH
  go_wp2_with (go_at_call 10; fail)
  refine (Split_any _ l2 wi (by omega) (HI.out.2.1.below HJ.out.1) (HI.out.2.2.1.below HJ.out.1)).mono ?_
  intro x wj hR
  obtain ⟨v4, ev2, rfl, _, hev2, hbj⟩ := hR.one
  have hev3 : ErrAt wj wi.heap.size ev2 l2 := hev2
  have HK : Hid (Below w.heap.size w wj ∧ ErrAt wj wh.heap.size ev1 l1 ∧ ErrAt wj wi.heap.size ev2 l2) := ⟨HJ.out.1.trans (hbj.mono HJ.out.1.size), HJ.out.2.below hbj, hev3⟩
  clear hR hev2 hev3 hbj HJ
  go_wp2_with (go_at_call 25; fail)
  refine (faults_any ev1 ev2 _ _ l1 l2 0 wj HK.out.2.1.zero HK.out.2.2.zero (HI.out.1.below HK.out.1) (HI.out.2.1.below HK.out.1) hn1 hn2 (HI.out.2.2.1.below HK.out.1)).mono ?_
  rintro x wk ⟨rfl, hbk⟩
  have HL : Hid (Below w.heap.size w wk) := HK.out.1.trans (hbk.mono HK.out.1.size)
  clear hbk HK
  go_upto_region 17 with fail
  go_cut [23] (fun v wx => ∃ g cap, v = .slice (some ⟨g, 0, none⟩) l1.length cap ∧ OwnB wx w.heap.size (.slice (some ⟨g, 0, none⟩) l1.length cap) l1 ∧ Below w.heap.size w wx)
  case first =>
    have HBK : Hid (Below w.heap.size w (wk.alloc (.cells #[] 5))) := HL.out.alloc HL.out.size _
    have HOK : Hid ((wk.alloc (.cells #[] 5)).ownsRow w.heap.size 5 1 (.slice (some ⟨wk.heap.size, 0, none⟩) 0 0) 0 []) := World.ownsRow_lit wk #[] 0 HL.out.size (Nat.zero_le _) rfl
    cases a1 with
    | none =>
      have hc0 := HZ1.out rfl
      subst hc0
      have hl0 : l1 = [] := List.length_eq_zero_iff.1 (by omega)
      subst hl0
      go_wp2_with (at_builtin; refine wpList_append_own_none rfl _ _ 23 rfl w.heap.size 5 i0 1 Tryd.underlying23 hi _ 0 [] rfl HOK.out rfl ?_)
      go_meet
      exact ⟨wk.heap.size, 0, rfl, HOK.out, HBK.out⟩
    | some ad =>
      have HNW : Hid (∀ j u, (bcs l1)[j]? = some u → (wk.alloc (.cells #[] 5)).cell? (ad.add j) = some u) := fun j x hj => by
        obtain ⟨ao', cap', e1, _, h0 | ⟨b, off, e2, hr⟩⟩ := HI.out.1.below HBK.out
        · rw [h0] at hj; simp [bcs] at hj
        · injection e1 with e1
          rw [e2] at e1
          injection e1 with e1
          rw [e1, addr_add]
          unfold bcs at hj
          rw [List.getElem?_map] at hj
          cases hq : l1[j]? with
          | none => rw [hq] at hj; cases hj
          | some c => rw [hq] at hj; injection hj with hj; rw [← hj]; exact hr j c hq
      go_wp2_with (at_builtin; refine wpList_append_own _ rfl _ _ 23 rfl w.heap.size 5 i0 (.int .u8 0) 1 1 Tryd.underlying23 hi hy0 hy1 hy2 rfl (by decide) _ 0 [] rfl HOK.out ad l1.length c1 (bcs l1) rfl (by rw [bcs_length, Nat.mul_one]) HNW.out (bcs_one l1) (by unfold maxLen; omega) (by omega) (HBK.out.size) ?_; intro v' w' ho' hg' hn')
      go_meet
      have hb' : Below w.heap.size w w' := Below.grown HBK.out hg' HBK.out.size (fun q hq => (HOK.out.lt q hq).1)
      rw [Nat.zero_add, List.nil_append] at ho'
      rcases ho'.2 with ⟨e, _⟩ | ⟨g, cap, cur, e, rr⟩
      · exact absurd (hn'.1 e).1 (fun h => by cases h)
      · subst e
        exact ⟨g, cap, rfl, ⟨ho'.1, .inr ⟨g, cap, cur, rfl, rr⟩⟩, hb'⟩
  case rest =>
    obtain ⟨g, cap, rfl, ho, hb⟩ := hcut
    have HM : Hid (OwnB wc w.heap.size (.slice (some ⟨g, 0, none⟩) l1.length cap) l1 ∧ Below w.heap.size w wc) := ⟨ho, hb⟩
    clear ho hb HL
    go_wp2_with (go_at_call 10; fail)
    refine (Split_any _ l1 wc (by omega) HM.out.1.src (HI.out.2.2.1.below HM.out.2)).mono ?_
    intro x wl hR
    obtain ⟨v5, ev5, rfl, _, _, hbl⟩ := hR.one
    have ho2 := HM.out.1.below hbl
    have HN : Hid (OwnB wl w.heap.size (.slice (some ⟨g, 0, none⟩) l1.length cap) l1 ∧ Below w.heap.size w wl) := ⟨ho2, HM.out.2.trans (hbl.mono HM.out.2.size)⟩
    obtain ⟨lx, q, wm, hlx, hrun, hom, hbm⟩ := copy_over (.slice a2 l2.length c2) l1 l2 g cap w.heap.size wl w ho2 (HI.out.2.1.below HN.out.2) HN.out.2
    have HO : Hid (OwnB wm w.heap.size (.slice (some ⟨g, 0, none⟩) l1.length cap) lx ∧ Below w.heap.size w wm ∧ lx.length = l1.length) := ⟨hom, hbm, hlx⟩
    clear ho2 hom hbm hlx hR hbl HM HN
    go_upto_region 20 with fail
    clear hrun
    have hfx := splitF_len lx
    have hnx : lx.length ≤ 140737488351232 := by rw [HO.out.2.2]; exact hn1
    go_wp2_with (go_at_call 10; fail)
    refine (Split_any _ lx wm (by omega) HO.out.1.src (HI.out.2.2.1.below HO.out.2.1)).mono ?_
    intro x wn hR
    obtain ⟨v6, ev6, rfl, ho6, hev6, hbn⟩ := hR.one
    have HP6 : Hid (OwnB wn w.heap.size (.slice (some ⟨g, 0, none⟩) l1.length cap) lx ∧ Below w.heap.size w wn ∧ OwnF wn wm.heap.size v6 (splitF lx) ∧ ErrAt wn wm.heap.size ev6 lx) := ⟨HO.out.1.below hbn, HO.out.2.1.trans (hbn.mono HO.out.2.1.size), ho6, hev6⟩
    clear hR ho6 hev6 hbn
    go_wp2_with (go_at_call 24; fail)
    refine (refSplit_any _ lx wn HP6.out.1.src (by unfold maxLen; omega)).mono ?_
    intro x wo hR
    obtain ⟨vr7, rfl, hor7, hbo⟩ := hR.one
    have HQ : Hid (Below w.heap.size w wo ∧ OwnF wo wm.heap.size v6 (splitF lx) ∧ ErrAt wo wm.heap.size ev6 lx ∧ OwnF wo wn.heap.size vr7 (splitF lx)) := ⟨HP6.out.2.1.trans (hbo.mono HP6.out.2.1.size), HP6.out.2.2.1.below hbo, HP6.out.2.2.2.below hbo, hor7⟩
    clear hR hor7 hbo HP6
    have h5 := HQ.out.2.2.1.calls
    generalize (splitA lx : Int) = SA at *
    generalize splitE lx = SE at *
    go_wp2_with (go_at_call 26; fail)
    refine h5.mono ?_
    rintro x wq ⟨rfl, q5, hq5⟩
    have hb5 : Below wo.heap.size wo wq := by rw [hq5]; exact below_drewN (Below.refl _ wo) q5
    have HR5 : Hid (Below w.heap.size w wq ∧ OwnF wq wm.heap.size v6 (splitF lx) ∧ OwnF wq wn.heap.size vr7 (splitF lx)) := ⟨HQ.out.1.trans (hb5.mono HQ.out.1.size), HQ.out.2.1.below hb5, HQ.out.2.2.2.below hb5⟩
    clear hq5 hb5 h5 HQ
    go_wp2_with (go_at_call 11; fail)
    refine (same_yes _ _ (splitF lx) wq (by omega) HR5.out.2.1.src HR5.out.2.2.src).mono ?_
    rintro x ws ⟨rfl, q6, hq6⟩
    have hb6 : Below wq.heap.size wq ws := by rw [hq6]; exact below_drewN (Below.refl _ wq) q6
    have H6 : Hid (Below w.heap.size w ws) := HR5.out.1.trans (hb6.mono HR5.out.1.size)
    clear hq6 hb6 HR5
    have hse : (SE == SE) = true := by simp
    have hsa : (SA == SA) = true := by simp
    go_wp2
    go_ret
    exact ⟨rfl, H6.out⟩
end Go.Proofs.YtfgfjkchcnpakaaDoor
