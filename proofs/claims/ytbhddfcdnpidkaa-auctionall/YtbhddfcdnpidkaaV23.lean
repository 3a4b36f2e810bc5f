/-
  auction: Price.
-/
import Derived.Test.YtbhddfcdnpidkaaV22
namespace Go.Proofs.Ytbhddfcdnpidkaa
set_option linter.unusedVariables false
set_option linter.unusedSimpArgs false
open Go.RowKit Go.Great

def Rs.cs (r : Rs) : Array Value := #[.int .i64 r.price, .int .i64 r.qty, .int .i64 r.over, .int .i64 r.side]
def refN (r : Int) : Int := if 1 ≤ r ∧ r ≤ 1000000000 then r else 0
theorem refN_bd (r : Int) : 0 ≤ refN r ∧ refN r ≤ 1000000000 := by unfold refN; split <;> omega
theorem wns_p {l : List Od} : ∀ v ∈ wns l, (v.m = true ∧ v.p = 0) ∨ (v.m = false ∧ 1 ≤ v.p ∧ v.p ≤ 1000000000) := fun v hv => by
  obtain ⟨o, _, ho⟩ := List.mem_filterMap.1 hv
  unfold wnO at ho
  split at ho
  · cases ho
  · split at ho
    · injection ho with ho; subst ho; exact .inl ⟨rfl, rfl⟩
    · split at ho
      · injection ho with ho; subst ho; rename_i h; exact .inr ⟨rfl, h⟩
      · cases ho
theorem gat_mem {ref c : Int} {B S : List Wn} : c ∈ gat ref B S 2 ↔ c = ref ∨ (∃ v ∈ B, v.p = c) ∨ ∃ v ∈ S, v.p = c := by
  unfold gat
  rw [if_pos (by omega), if_pos (by omega)]
  simp only [List.mem_cons, List.mem_append, List.mem_map]
/-- Two rows in order, of two lists. -/
structure Rws (b s : List Od) (B S : List Wn) : Prop where
  pb : B.Perm (wns b)
  ps : S.Perm (wns s)
  sb : B.Pairwise leB
  ss : S.Pairwise leS
  tb : StW 1 (wns b) B
  ts : StW 2 (wns s) S
theorem Rws.cnd {b s : List Od} {B S : List Wn} (h : Rws b s B S) (ref : Int) : Cnd B S ref (cndL (gat ref B S 2)) := ⟨cndL_asc _, fun c => by
  rw [cndL_mem, gat_mem]
  have h1 : ∀ v ∈ B, (v.m = true ∧ v.p = 0) ∨ (v.m = false ∧ 1 ≤ v.p ∧ v.p ≤ 1000000000) := fun v hv => wns_p v (h.pb.mem_iff.1 hv)
  have h2 : ∀ v ∈ S, (v.m = true ∧ v.p = 0) ∨ (v.m = false ∧ 1 ≤ v.p ∧ v.p ≤ 1000000000) := fun v hv => wns_p v (h.ps.mem_iff.1 hv)
  constructor
  · rintro ⟨rfl | ⟨v, hv, rfl⟩ | ⟨v, hv, rfl⟩, h0⟩
    · exact .inl ⟨rfl, h0⟩
    · rcases h1 v hv with ⟨_, e⟩ | ⟨e, _⟩
      · exact absurd e h0
      · exact .inr (.inl ⟨v, hv, e, rfl⟩)
    · rcases h2 v hv with ⟨_, e⟩ | ⟨e, _⟩
      · exact absurd e h0
      · exact .inr (.inr ⟨v, hv, e, rfl⟩)
  · rintro (⟨rfl, h0⟩ | ⟨v, hv, e, rfl⟩ | ⟨v, hv, e, rfl⟩)
    · exact ⟨.inl rfl, h0⟩
    · refine ⟨.inr (.inl ⟨v, hv, rfl⟩), ?_⟩
      rcases h1 v hv with ⟨k, _⟩ | ⟨_, k⟩
      · rw [e] at k; cases k
      · omega
    · refine ⟨.inr (.inr ⟨v, hv, rfl⟩), ?_⟩
      rcases h2 v hv with ⟨k, _⟩ | ⟨_, k⟩
      · rw [e] at k; cases k
      · omega⟩
theorem Rws.pts {b s : List Od} {B S : List Wn} (h : Rws b s B S) (hbl : B.length ≤ 4398046511104) (hsl : S.length ≤ 4398046511104) {ref : Int} (href : 0 ≤ ref ∧ ref ≤ 1000000000) : ∀ p ∈ ptsOf B S (cndL (gat ref B S 2)), okP p ∧ inP p := fun p hp => by
  obtain ⟨c, hc, rfl⟩ := List.mem_map.1 hp
  have h1 := sumW_le (f := atB c) (l := B) fun v hv => wns_q v (h.pb.mem_iff.1 hv)
  have h2 := sumW_le (f := atS c) (l := S) fun v hv => wns_q v (h.ps.mem_iff.1 hv)
  refine ⟨⟨h1.1, by show bo B c ≤ _; unfold bo; omega, h2.1, by show so S c ≤ _; unfold so; omega⟩, ?_⟩
  show 0 ≤ c ∧ c ≤ 1000000000
  rw [cndL_mem, gat_mem] at hc
  rcases hc.1 with rfl | ⟨v, hv, rfl⟩ | ⟨v, hv, rfl⟩
  · exact href
  · rcases wns_p v (h.pb.mem_iff.1 hv) with ⟨_, e⟩ | ⟨_, e⟩ <;> omega
  · rcases wns_p v (h.ps.mem_iff.1 hv) with ⟨_, e⟩ | ⟨_, e⟩ <;> omega
theorem lenPt_run {op : Oper} {a : Act} {v : Value} {ao : Option Addr} {n c : Nat} (hv : v = .slice ao n c) (x : Operand) (ho : op.op = .call { callee := .builtin .len, args := #[x], argTypes := #[55] }) (hx : a.eval x = v) (w : World) : (execOp a.eval op).run Try.prog w = .ok (.value (.int .i64 (n : Int))) w := lenP_run hv x ho hx w
theorem infoRs : (Try.prog.info? 28).map (·.size) = some 4 := by kernel_rfl
/-- Where the result is written. -/
def PS9 (w W : World) (b8 b6 : Nat) (p : Pt) : Prop := Below w.heap.size w W ∧ Blk W b8 61 p.cs ∧ w.heap.size ≤ b6 ∧ b6 ≠ b8 ∧ ∃ r : Rs, Blk W b6 28 r.cs
theorem PS9.below {w W W' : World} {b8 b6 : Nat} {p : Pt} (h : PS9 w W b8 b6 p) (hb : Below W.heap.size W W') : PS9 w W' b8 b6 p := ⟨below_step h.1 hb, h.2.1.below hb h.2.1.lt, h.2.2.1, h.2.2.2.1, h.2.2.2.2.imp fun r hr => hr.below hb hr.lt⟩
/-- Where Price stands. -/
structure PX (w W : World) (b6 : Nat) (b s : List Od) (a a' : Option Addr) (c c' : Nat) : Prop where
  bel : Below w.heap.size w W
  lo : w.heap.size ≤ b6
  k6 : Blk W b6 28 Rs.nil.cs
theorem PX.below {w W W' : World} {b6 : Nat} {b s : List Od} {a a' : Option Addr} {c c' : Nat} (h : PX w W b6 b s a a' c c') (hb : Below W.heap.size W W') : PX w W' b6 b s a a' c c' := ⟨below_step h.bel hb, h.lo, h.k6.below hb h.k6.lt⟩
theorem bestL_le (l : List Pt) : (bestL l).length ≤ l.length := List.length_filter_le _ _
attribute [local irreducible] wpList
set_option maxRecDepth 100000 in
set_option maxHeartbeats 4000000 in
theorem Price_any {w : World} {b s : List Od} {a a' : Option Addr} {c c' : Nat} (hb : RowAt w 42 15 (.slice a b.length c) b.length (flatL (fun o => o.cs.toList) b)) (hbo : ∀ o ∈ b, o.ok) (hbl : b.length ≤ 2000000000000) (hs : RowAt w 42 15 (.slice a' s.length c') s.length (flatL (fun o => o.cs.toList) s)) (hso : ∀ o ∈ s, o.ok) (hsl : s.length ≤ 2000000000000) (ref : Int) :
    Calls Try.prog 9 #[.slice a b.length c, .slice a' s.length c', .int .i64 ref] w fun e w' => ∃ r : Rs, e = .returned (.agg r.cs) ∧ Hid (Below w.heap.size w w' ∧ ∃ B S, Rws b s B S ∧ r = resOf (refN ref) (ptsOf B S (cndL (gat (refN ref) B S 2)))) := by
  obtain ⟨nb, hnb⟩ : ∃ nb, nb = b.length := ⟨_, rfl⟩
  obtain ⟨ns, hns⟩ : ∃ ns, ns = s.length := ⟨_, rfl⟩
  have HR : Hid ((RowAt w 42 15 (.slice a nb c) nb (flatL (fun o => o.cs.toList) b) ∧ (∀ o ∈ b, o.ok) ∧ nb = b.length ∧ nb ≤ 2000000000000) ∧ RowAt w 42 15 (.slice a' ns c') ns (flatL (fun o => o.cs.toList) s) ∧ (∀ o ∈ s, o.ok) ∧ ns = s.length ∧ ns ≤ 2000000000000) := ⟨⟨by rw [hnb]; exact hb, hbo, hnb, by omega⟩, by rw [hns]; exact hs, hso, hns, by omega⟩
  rw [← hnb, ← hns]
  clear hb hbo hbl hs hso hsl hnb hns
  have HP0 : Hid (PX w (w.alloc (.cells #[.int .i64 0, .int .i64 0, .int .i64 0, .int .i64 0] 28)) w.heap.size b s a a' c c') := ⟨(Below.refl _ w).alloc (Nat.le_refl _) _, Nat.le_refl _, Blk.new w _ _⟩
  obtain ⟨rf, hrf⟩ : ∃ rf, rf = refN ref := ⟨_, rfl⟩
  have HRF : Hid (rf = refN ref ∧ 0 ≤ rf ∧ rf ≤ 1000000000) := ⟨hrf, by rw [hrf]; exact (refN_bd ref).1, by rw [hrf]; exact (refN_bd ref).2⟩
  rw [← hrf]
  clear hrf
  go_enter Try.func9, Try.ntmps9
  go_upto_region 0 with fail
  rename_i K hK
  refine wp_region_lit ?_
  refine wpList_runTo rfl (some 6) rfl (.pointer (some ⟨w.heap.size, 0, none⟩)) (w.alloc (.cells #[.int .i64 0, .int .i64 0, .int .i64 0, .int .i64 0] 28)) (by kernel_rfl) ?_
  simp only [Act.put, List.setIfInBounds_toArray, List.set_cons_zero, List.set_cons_succ]
  refine wpList_nil ?_
  refine hK _ _ ?_
  clear hK
  obtain ⟨w1, hw1⟩ : ∃ w1, w1 = w.alloc (.cells #[.int .i64 0, .int .i64 0, .int .i64 0, .int .i64 0] 28) := ⟨_, rfl⟩
  obtain ⟨b6, hb6⟩ : ∃ b6, b6 = w.heap.size := ⟨_, rfl⟩
  rw [← hw1, ← hb6] at HP0 ⊢
  clear hw1 hb6
  -- the reference
  go_upto_region 1 with fail
  rename_i K hK
  refine wp_region_lit ?_
  refine wpList_runTo rfl (some 9) rfl (.int .i64 ref) w1 (by kernel_rfl) ?_
  simp only [Act.put, List.setIfInBounds_toArray, List.set_cons_zero, List.set_cons_succ]
  refine wpList_callW rfl (some 10) rfl 23 #[.int .i64 ref] (by kernel_rfl) (isPrice_any w1 ref) ?_
  rintro e w2 ⟨rfl, ew⟩
  replace ew := ew.symm
  subst ew
  refine ⟨_, rfl, ?_⟩
  simp only [Act.put, List.setIfInBounds_toArray, List.set_cons_zero, List.set_cons_succ]
  obtain ⟨bb, hbb⟩ : ∃ bb, bb = decide (1 ≤ ref ∧ ref ≤ 1000000000) := ⟨_, rfl⟩
  have HBB : Hid (bb = decide (1 ≤ ref ∧ ref ≤ 1000000000)) := hbb
  rw [← hbb]
  clear hbb
  refine wpList_runTo rfl (some 11) rfl (.bool (!bb)) w1 (by exact not_run (.tmp 10) rfl (by kernel_rfl) _) ?_
  simp only [Act.put, List.setIfInBounds_toArray, List.set_cons_zero, List.set_cons_succ]
  refine wpList_nil ?_
  refine hK _ _ ?_
  clear hK
  go_upto_if 11 with fail
  go_cut [2] (fun x2 wx => x2 = .int .i64 rf ∧ wx = w1)
  case first =>
    cases bb with
    | true =>
      have e : rf = ref := by
        rw [HRF.out.1]
        unfold refN
        rw [if_pos (of_decide_eq_true HBB.out.symm)]
      have hnot : (!true) = false := rfl
      rw [hnot]
      go_wp2
      go_meet
      exact ⟨by rw [e], rfl⟩
    | false =>
      have e : rf = 0 := by
        rw [HRF.out.1]
        unfold refN
        rw [if_neg (of_decide_eq_false HBB.out.symm)]
      have hnot : (!false) = true := rfl
      rw [hnot]
      go_wp2
      go_meet
      exact ⟨by rw [e], rfl⟩
  case rest =>
  obtain ⟨rfl, ew⟩ := hcut
  subst ew
  clear HBB
  have hc1 : Calls Try.prog 26 #[.slice a nb c, .int .i64 1] wc fun e w' => ∃ v, e = .returned v ∧ Hid (∃ R, RO 1 wc w' v b R) := by
    have h1 := HR.out.1.1.fr (Fr.of_below HP0.out.bel (fun _ => False)) fun _ _ => id
    rw [HR.out.1.2.2.1] at h1 ⊢
    exact rowOf_any 1 h1 HR.out.1.2.1 (by have := HR.out.1.2.2; omega)
  go_upto_region 3 with fail
  rename_i K hK
  refine wp_region_lit ?_
  refine wpList_runTo rfl (some 12) rfl (.slice a nb c) wc (by kernel_rfl) ?_
  simp only [Act.put, List.setIfInBounds_toArray, List.set_cons_zero, List.set_cons_succ]
  refine wpList_callW rfl (some 13) rfl 26 #[.slice a nb c, .int .i64 1] (by kernel_rfl) hc1 ?_
  clear hc1
  rintro e w3 ⟨v3, rfl, H3⟩
  refine ⟨_, rfl, ?_⟩
  simp only [Act.put, List.setIfInBounds_toArray, List.set_cons_zero, List.set_cons_succ]
  obtain ⟨B, hB⟩ := H3.out
  have HB : Hid (RO 1 wc w3 v3 b B) := hB
  clear hB H3
  have HP3 : Hid (PX w w3 b6 b s a a' c c') := HP0.out.below HB.out.co.bel
  have hc2 : Calls Try.prog 26 #[.slice a' ns c', .int .i64 2] w3 fun e w' => ∃ v, e = .returned v ∧ Hid (∃ R, RO 2 w3 w' v s R) := by
    have h1 := HR.out.2.1.fr (Fr.of_below HP3.out.bel (fun _ => False)) fun _ _ => id
    rw [HR.out.2.2.2.1] at h1 ⊢
    exact rowOf_any 2 h1 HR.out.2.2.1 (by have := HR.out.2.2.2; omega)
  refine wpList_runTo rfl (some 14) rfl (.slice a' ns c') w3 (by kernel_rfl) ?_
  simp only [Act.put, List.setIfInBounds_toArray, List.set_cons_zero, List.set_cons_succ]
  refine wpList_callW rfl (some 15) rfl 26 #[.slice a' ns c', .int .i64 2] (by kernel_rfl) hc2 ?_
  clear hc2
  rintro e w4 ⟨v4, rfl, H4⟩
  refine ⟨_, rfl, ?_⟩
  simp only [Act.put, List.setIfInBounds_toArray, List.set_cons_zero, List.set_cons_succ]
  obtain ⟨S, hS⟩ := H4.out
  have HS : Hid (RO 2 w3 w4 v4 s S) := hS
  clear hS H4
  have HP4 : Hid (PX w w4 b6 b s a a' c c') := HP3.out.below HS.out.co.bel
  clear HP0 HP3
  obtain ⟨ab, cb, e3⟩ := HB.out.co.form
  obtain ⟨az, cz, e4⟩ := HS.out.co.form
  subst e3 e4
  have HW : Hid (Rws b s B S ∧ B.length ≤ 2000000000000 ∧ S.length ≤ 2000000000000) := by
    refine ⟨⟨HB.out.perm, HS.out.perm, HB.out.srt.imp fun h => leB_of h, HS.out.srt.imp fun h => leS_of h, HB.out.stb, HS.out.stb⟩, ?_, ?_⟩
    · rw [HB.out.perm.length_eq]
      have := List.length_filterMap_le wnO b
      have h1 := HR.out.1.2.2
      unfold wns
      omega
    · rw [HS.out.perm.length_eq]
      have := List.length_filterMap_le wnO s
      have h1 := HR.out.2.2.2
      unfold wns
      omega
  have hc3 := points_any (w := w4) (B := B) (S := S) (a := ab) (a' := az) (nb := B.length) (ns := S.length) (c := cb) (c' := cz) ⟨HB.out.co.row.fr (Fr.of_below HS.out.co.bel (fun _ => False)) (fun _ _ => id), HS.out.co.row, rfl, rfl, by have := HW.out.2; omega, by have := HW.out.2; omega, HW.out.1.sb, HW.out.1.ss, fun v hv => wns_q v (HW.out.1.pb.mem_iff.1 hv), fun v hv => wns_q v (HW.out.1.ps.mem_iff.1 hv)⟩ rf
  clear HB HS
  have HQ : Hid ((∀ p ∈ ptsOf B S (cndL (gat rf B S 2)), okP p ∧ inP p) ∧ (ptsOf B S (cndL (gat rf B S 2))).length ≤ 4000000000001) := by
    refine ⟨HW.out.1.pts (by have := HW.out.2; omega) (by have := HW.out.2; omega) HRF.out.2, ?_⟩
    unfold ptsOf
    rw [List.length_map]
    have h1 := cndL_len (gat rf B S 2)
    have h2 := gat_len rf B S 2
    have h3 := HW.out.2
    omega
  have HX : Hid (∀ r : Rs, r = resOf rf (ptsOf B S (cndL (gat rf B S 2))) → ∃ B S, Rws b s B S ∧ r = resOf rf (ptsOf B S (cndL (gat rf B S 2)))) := fun r hr => ⟨B, S, HW.out.1, hr⟩
  clear HW
  generalize ptsOf B S (cndL (gat rf B S 2)) = Q at *
  generalize B.length = lb at *
  generalize S.length = ls at *
  refine wpList_runTo rfl (some 16) rfl (.int .i64 rf) w4 (by kernel_rfl) ?_
  simp only [Act.put, List.setIfInBounds_toArray, List.set_cons_zero, List.set_cons_succ]
  refine wpList_callW rfl (some 17) rfl 25 #[.slice ab lb cb, .slice az ls cz, .int .i64 rf] (by kernel_rfl) hc3 ?_
  clear hc3
  rintro e w5 ⟨v5, rfl, H5⟩
  refine ⟨_, rfl, ?_⟩
  simp only [Act.put, List.setIfInBounds_toArray, List.set_cons_zero, List.set_cons_succ]
  obtain ⟨ap, cp, e5⟩ := H5.out.form
  subst e5
  have hc4 := bestOf_any (a := ap) (c := cp) H5.out.row (fun p hp => (HQ.out.1 p hp).1) (by have := HQ.out.2; omega)
  have HP5 : Hid (PX w w5 b6 b s a a' c c') := HP4.out.below H5.out.bel
  clear HP4 H5
  obtain ⟨lq, hlq⟩ : ∃ lq, lq = Q.length := ⟨_, rfl⟩
  rw [← hlq] at hc4 ⊢
  clear hlq
  refine wpList_callW rfl (some 18) rfl 24 #[.slice ap lq cp] (by kernel_rfl) hc4 ?_
  clear hc4
  rintro e w6 ⟨v6, rfl, H6⟩
  refine ⟨_, rfl, ?_⟩
  simp only [Act.put, List.setIfInBounds_toArray, List.set_cons_zero, List.set_cons_succ]
  obtain ⟨aq, cq, e6⟩ := H6.out.form
  subst e6
  have HP6 : Hid (PX w w6 b6 b s a a' c c') := HP5.out.below H6.out.bel
  have HD : Hid (RowAt w6 61 3 (.slice aq (bestL Q).length cq) (bestL Q).length (flatL pL (bestL Q)) ∧ (∀ p ∈ bestL Q, okP p ∧ inP p) ∧ (bestL Q).length ≤ 4000000000001) := ⟨H6.out.row, fun p hp => HQ.out.1 p (bestL_mem.1 hp).1, Nat.le_trans (bestL_le Q) HQ.out.2⟩
  clear HP5 H6 HQ
  have HX2 : Hid (∀ r : Rs, r = (match chsV rf (bestL Q) with | none => Rs.nil | some p => p.res) → ∃ B S, Rws b s B S ∧ r = resOf rf (ptsOf B S (cndL (gat rf B S 2)))) := fun r hr => HX.out r hr
  clear HX
  generalize bestL Q = D at *
  refine wpList_runTo rfl (some 7) rfl (.slice aq D.length cq) w6 (by kernel_rfl) ?_
  simp only [Act.put, List.setIfInBounds_toArray, List.set_cons_zero, List.set_cons_succ]
  refine wpList_nil ?_
  refine hK _ _ ?_
  clear hK
  cases D with
  | nil =>
    have HF : Hid (Below w.heap.size w w6 ∧ ∃ B S, Rws b s B S ∧ Rs.nil = resOf rf (ptsOf B S (cndL (gat rf B S 2)))) := ⟨HP6.out.bel, HX2.out Rs.nil (by
      show Rs.nil = match chsV rf ([] : List Pt) with | none => Rs.nil | some p => p.res
      have : chsV rf ([] : List Pt) = none := by unfold chsV; simp
      rw [this])⟩
    have HK6 : Hid (Blk w6 b6 28 Rs.nil.cs ∧ Below w.heap.size w w6 ∧ w.heap.size ≤ b6) := ⟨HP6.out.k6, HP6.out.bel, HP6.out.lo⟩
    clear HP6 HD HX2
    go_upto_region 4 with fail
    rename_i K hK
    refine wp_region_lit ?_
    refine wpList_runTo rfl (some 19) rfl (.slice aq ([] : List Pt).length cq) w6 (by kernel_rfl) ?_
    simp only [Act.put, List.setIfInBounds_toArray, List.set_cons_zero, List.set_cons_succ]
    refine wpList_runTo rfl (some 20) rfl (.int .i64 ((([] : List Pt).length : Nat) : Int)) w6 (by exact lenPt_run (v := .slice aq ([] : List Pt).length cq) (ao := aq) (n := ([] : List Pt).length) (c := cq) rfl (.tmp 19) rfl (by kernel_rfl) _) ?_
    simp only [Act.put, List.setIfInBounds_toArray, List.set_cons_zero, List.set_cons_succ]
    refine wpList_runTo rfl (some 21) rfl (.bool true) w6 (by exact eq0_run (p := 0) (.inr rfl) (.tmp 20) rfl (by kernel_rfl) (by decide) _) ?_
    simp only [Act.put, List.setIfInBounds_toArray, List.set_cons_zero, List.set_cons_succ]
    refine wpList_nil ?_
    refine hK _ _ ?_
    clear hK
    go_upto_region 5 with fail
    rename_i K hK
    refine wp_region_lit ?_
    refine wpList_runTo rfl (some 22) rfl (.agg Rs.nil.cs) w6 (by kernel_rfl) ?_
    simp only [Act.put, List.setIfInBounds_toArray, List.set_cons_zero, List.set_cons_succ]
    refine wpList_plain rfl fun K1 hK1 => ?_
    refine wp_store_row 28 (.tmp 6) (.tmp 22) rfl b6 Rs.nil.cs (by kernel_rfl) (by kernel_rfl) 28 Rs.nil.cs HK6.out.1 infoRs rfl (by simp [Rs.cs, Value.oneCell']) ?_
    refine hK1 _ _ ?_
    clear hK1
    refine wpList_nil ?_
    refine hK _ _ ?_
    clear hK
    apply wp_ret
    try simp only [Exit.inBlock, Exit.then]
    show bodyPost Try.prog Try.f9 _ Exit.ret _ _
    refine bodyPost_ret (results_cell_row (fn := Try.f9) (p := 6) (ty := 28) rfl _ _ b6 28 Rs.nil.cs (0, 0) _ (by kernel_rfl) (setRow_heap _ _ _ _ _ _ HK6.out.1) Try.underlying28 rfl infoRs) (by kernel_rfl) ⟨Rs.nil, rfl, below_setRow HK6.out.2.1 HK6.out.2.2 _, HF.out.2⟩
  | cons d0 D' =>
    obtain ⟨D, hD0⟩ : ∃ D, D = d0 :: D' := ⟨_, rfl⟩
    have hpos : 0 < D.length := by rw [hD0]; simp
    rw [← hD0] at HD HX2 ⊢
    clear hD0
    have hc5 := chosen_any (a := aq) (c := cq) HD.out.1 hpos (fun p hp => (HD.out.2.1 p hp).2) (by have := HD.out.2.2; omega) rf HRF.out.2
    obtain ⟨nd, hnd⟩ : ∃ nd, nd = D.length := ⟨_, rfl⟩
    have HND : Hid (nd = D.length) := hnd
    rw [← hnd] at hpos hc5 ⊢
    clear hnd
    have hz : ¬ ((nd : Int) = 0) := by omega
    go_upto_region 4 with fail
    rename_i K hK
    refine wp_region_lit ?_
    refine wpList_runTo rfl (some 19) rfl (.slice aq nd cq) w6 (by kernel_rfl) ?_
    simp only [Act.put, List.setIfInBounds_toArray, List.set_cons_zero, List.set_cons_succ]
    refine wpList_runTo rfl (some 20) rfl (.int .i64 (nd : Int)) w6 (by exact lenPt_run (v := .slice aq nd cq) (ao := aq) (n := nd) (c := cq) rfl (.tmp 19) rfl (by kernel_rfl) _) ?_
    simp only [Act.put, List.setIfInBounds_toArray, List.set_cons_zero, List.set_cons_succ]
    refine wpList_runTo rfl (some 21) rfl (.bool false) w6 (by exact eq0_run (p := (nd : Int)) (.inr rfl) (.tmp 20) rfl (by kernel_rfl) (decide_eq_false hz) _) ?_
    simp only [Act.put, List.setIfInBounds_toArray, List.set_cons_zero, List.set_cons_succ]
    refine wpList_nil ?_
    refine hK _ _ ?_
    clear hK
    go_upto_region 6 with fail
    rename_i K hK
    refine wp_region_lit ?_
    refine wpList_runTo rfl (some 23) rfl (.slice aq nd cq) w6 (by kernel_rfl) ?_
    simp only [Act.put, List.setIfInBounds_toArray, List.set_cons_zero, List.set_cons_succ]
    refine wpList_runTo rfl (some 24) rfl (.int .i64 rf) w6 (by kernel_rfl) ?_
    simp only [Act.put, List.setIfInBounds_toArray, List.set_cons_zero, List.set_cons_succ]
    refine wpList_callW rfl (some 25) rfl 27 #[.slice aq nd cq, .int .i64 rf] (by kernel_rfl) hc5 ?_
    clear hc5
    rintro e w7 ⟨p, rfl, H7⟩
    refine ⟨_, rfl, ?_⟩
    simp only [Act.put, List.setIfInBounds_toArray, List.set_cons_zero, List.set_cons_succ]
    have HPp : Hid (okP p ∧ ∃ B S, Rws b s B S ∧ p.res = resOf rf (ptsOf B S (cndL (gat rf B S 2)))) := by
      have hm : p ∈ D := by
        have h7 := H7.out.1
        unfold chsV at h7
        split at h7
        · exact List.mem_of_getLast? h7
        · split at h7
          · exact List.mem_of_head? h7
          · cases hd : D.head? with
            | none => rw [hd] at h7; cases h7
            | some n0 =>
              rw [hd] at h7
              injection h7 with h7
              have hn0 := List.mem_of_head? hd
              have key : ∀ (l : List Pt) (n : Pt), nearF rf l n = n ∨ nearF rf l n ∈ l := by
                intro l
                induction l with
                | nil => exact fun n => .inl rfl
                | cons q l ih =>
                  intro n
                  show nearF rf l (if far q.c rf ≤ far n.c rf then q else n) = n ∨ nearF rf l (if far q.c rf ≤ far n.c rf then q else n) ∈ q :: l
                  rcases ih (if far q.c rf ≤ far n.c rf then q else n) with h | h
                  · rw [h]
                    split
                    · exact .inr List.mem_cons_self
                    · exact .inl rfl
                  · exact .inr (List.mem_cons_of_mem _ h)
              rcases key D n0 with h | h
              · rw [← h7, h]; exact hn0
              · rw [← h7]; exact h
      exact ⟨(HD.out.2.1 p hm).1, HX2.out p.res (by rw [H7.out.1])⟩
    have HP7 : Hid (PX w w7 b6 b s a a' c c') := HP6.out.below H7.out.2
    clear HP6 H7 HD HX2
    refine wpList_runTo rfl (some 8) rfl (.pointer (some ⟨w7.heap.size, 0, none⟩)) (w7.alloc (.cells #[.int .i64 0, .int .i64 0, .int .i64 0] 61)) (by kernel_rfl) ?_
    simp only [Act.put, List.setIfInBounds_toArray, List.set_cons_zero, List.set_cons_succ]
    refine wpList_plain rfl fun K1 hK1 => ?_
    refine wp_store_row 61 (.tmp 8) (.tmp 25) rfl w7.heap.size p.cs (by kernel_rfl) (by kernel_rfl) 61 #[.int .i64 0, .int .i64 0, .int .i64 0] (heap_alloc_new w7 _) infoP rfl (by simp [Pt.cs, Value.oneCell']) ?_
    rw [World.setRow_alloc_new]
    refine hK1 _ _ ?_
    clear hK1
    refine wpList_nil ?_
    refine hK _ _ ?_
    clear hK
    have H8 : Hid (PS9 w (w7.alloc (.cells p.cs 61)).drew w7.heap.size b6 p) := by
      have hal : Below w7.heap.size w7 (w7.alloc (.cells p.cs 61)).drew := ((Below.refl _ w7).alloc (Nat.le_refl _) _).drew
      refine ⟨below_step HP7.out.bel hal, ?_, HP7.out.lo, ?_, Rs.nil, HP7.out.k6.below hal HP7.out.k6.lt⟩
      · show Blk _ _ _ _
        have := (Blk.new w7 61 p.cs)
        exact this.below (Below.refl _ (w7.alloc (.cells p.cs 61))).drew this.lt
      · have := HP7.out.k6.lt
        omega
    clear HP7
    generalize w7.alloc (.cells p.cs 61) = W at *
    generalize w7.heap.size = b8 at *
    have hpo := HPp.out.1
    have htr : ∀ W, Calls Try.prog 28 #[.agg p.cs] W fun e w' => e = .returned (.int .i64 p.tr) ∧ Below W.heap.size W w' := fun W => traded_any W p
    have hov : ∀ W, Calls Try.prog 29 #[.agg p.cs] W fun e w' => e = .returned (.int .i64 p.ov) ∧ Below W.heap.size W w' := fun W => over_any W p ⟨hpo.1, hpo.2.1⟩ hpo.2.2
    have hsd : ∀ W, Calls Try.prog 30 #[.agg p.cs] W fun e w' => e = .returned (.int .i64 p.sd) ∧ Below W.heap.size W w' := fun W => side_any W p
    clear hpo
    go_upto_region 7 with fail
    rename_i K hK
    refine wp_region_held (S := fun w' => PS9 w w' b8 b6 p) (by kernel_rfl) ?_
    change wpAnyH _ _ _ _ _ _ _ _ (World.drew _)
    have hS0 : PS9 w W.drew b8 b6 p := H8.out
    clear H8
    generalize W.drew = Z0 at *
    refine takeR (i := 0) (v := .pointer (some ⟨b8, 0, none⟩)) (some 26) rfl rfl (by kernel_rfl) (by kernel_rfl) (by kernel_rfl) (fun _ _ _ h => h) (Or.inl ⟨by kernel_rfl, fun w' hSw => by kernel_rfl⟩) hS0 ?_
    simp only [Act.put, List.setIfInBounds_toArray, List.set_cons_zero, List.set_cons_succ]
    refine takeR (i := 1) (v := .int .i64 p.c) (some 27) rfl rfl (by kernel_rfl) (by kernel_rfl) (by kernel_rfl) (fun _ _ _ h => h) (Or.inl ⟨by kernel_rfl, fun w' hSw => by exact ldN_run (.inl rfl) (.tmp 26) rfl (by kernel_rfl) (hSw.2.1.cell 0)⟩) hS0 ?_
    simp only [Act.put, List.setIfInBounds_toArray, List.set_cons_zero, List.set_cons_succ]
    refine takeR (i := 2) (v := .agg p.cs) (some 28) rfl rfl (by kernel_rfl) (by kernel_rfl) (by kernel_rfl) (fun _ _ _ h => h) (Or.inl ⟨by kernel_rfl, fun w' hSw => by exact ldA_run (blk_range hSw.2.1) Try.underlying61 rfl infoP (.tmp 8) rfl (by kernel_rfl)⟩) hS0 ?_
    simp only [Act.put, List.setIfInBounds_toArray, List.set_cons_zero, List.set_cons_succ]
    refine takeR (i := 4) (v := .agg p.cs) (some 30) rfl rfl (by kernel_rfl) (by kernel_rfl) (by kernel_rfl) (fun _ _ _ h => h) (Or.inl ⟨by kernel_rfl, fun w' hSw => by exact ldA_run (blk_range hSw.2.1) Try.underlying61 rfl infoP (.tmp 8) rfl (by kernel_rfl)⟩) hS0 ?_
    simp only [Act.put, List.setIfInBounds_toArray, List.set_cons_zero, List.set_cons_succ]
    refine takeR (i := 6) (v := .agg p.cs) (some 32) rfl rfl (by kernel_rfl) (by kernel_rfl) (by kernel_rfl) (fun _ _ _ h => h) (Or.inl ⟨by kernel_rfl, fun w' hSw => by exact ldA_run (blk_range hSw.2.1) Try.underlying61 rfl infoP (.tmp 8) rfl (by kernel_rfl)⟩) hS0 ?_
    simp only [Act.put, List.setIfInBounds_toArray, List.set_cons_zero, List.set_cons_succ]
    refine wpAnyH_ready (rs := [3]) (by kernel_rfl) (by simp) ?_
    refine AllReadyH.cons rfl (fun K1 hK1 => ?_) AllReadyH.nil
    rw [if_pos (by kernel_rfl)]
    refine callR (d := some 29) rfl 28 #[.agg p.cs] (by kernel_rfl) (htr Z0) ?_
    rintro e Z1 ⟨rfl, hb⟩
    refine ⟨_, rfl, ?_⟩
    have hS1 : PS9 w Z1 b8 b6 p := hS0.below hb
    clear hb
    refine hK1.out _ _ hS1 (fun hzz => ?_)
    clear hK1 hzz
    simp only [Act.put, List.setIfInBounds_toArray, List.set_cons_zero, List.set_cons_succ]
    refine wpAnyH_ready (rs := [5]) (by kernel_rfl) (by simp) ?_
    refine AllReadyH.cons rfl (fun K1 hK1 => ?_) AllReadyH.nil
    rw [if_pos (by kernel_rfl)]
    refine callR (d := some 31) rfl 29 #[.agg p.cs] (by kernel_rfl) (hov Z1) ?_
    rintro e Z2 ⟨rfl, hb⟩
    refine ⟨_, rfl, ?_⟩
    have hS2 : PS9 w Z2 b8 b6 p := hS1.below hb
    clear hb
    refine hK1.out _ _ hS2 (fun hzz => ?_)
    clear hK1 hzz
    simp only [Act.put, List.setIfInBounds_toArray, List.set_cons_zero, List.set_cons_succ]
    refine wpAnyH_ready (rs := [7]) (by kernel_rfl) (by simp) ?_
    refine AllReadyH.cons rfl (fun K1 hK1 => ?_) AllReadyH.nil
    rw [if_pos (by kernel_rfl)]
    refine callR (d := some 33) rfl 30 #[.agg p.cs] (by kernel_rfl) (hsd Z2) ?_
    rintro e Z3 ⟨rfl, hb⟩
    refine ⟨_, rfl, ?_⟩
    have hS3 : PS9 w Z3 b8 b6 p := hS2.below hb
    clear hb
    refine hK1.out _ _ hS3 (fun hzz => ?_)
    clear hK1 hzz
    simp only [Act.put, List.setIfInBounds_toArray, List.set_cons_zero, List.set_cons_succ]

    clear htr hov hsd
    refine takeR (i := 8) (v := .agg p.res.cs) (some 34) rfl rfl (by kernel_rfl) (by kernel_rfl) (by kernel_rfl) (fun _ _ _ h => h) (Or.inl ⟨by kernel_rfl, fun w' hSw => by kernel_rfl⟩) hS3 ?_
    simp only [Act.put, List.setIfInBounds_toArray, List.set_cons_zero, List.set_cons_succ]
    refine wpAnyH_ready (rs := [9]) (by kernel_rfl) (by simp) ?_
    refine AllReadyH.cons rfl (fun K1 hK1 => ?_) AllReadyH.nil
    rw [if_pos (by kernel_rfl)]
    obtain ⟨r0, hr0⟩ := hS3.2.2.2.2
    refine wp_store_row 28 (.tmp 6) (.tmp 34) rfl b6 p.res.cs (by kernel_rfl) (by kernel_rfl) 28 r0.cs hr0 infoRs rfl (by simp [Rs.cs, Pt.res, Value.oneCell']) ?_
    have hS4 : PS9 w (Z3.setRow b6 p.res.cs) b8 b6 p := ⟨below_setRow hS3.1 hS3.2.2.1 _, blk_other hS3.2.1 hS3.2.2.2.1 _, hS3.2.2.1, hS3.2.2.2.1, p.res, setRow_heap _ _ _ _ _ _ hr0⟩
    have hk6 : Blk (Z3.setRow b6 p.res.cs) b6 28 p.res.cs := setRow_heap _ _ _ _ _ _ hr0
    refine hK1.out _ _ hS4 (fun hzz => ?_)
    clear hK1 hzz
    simp only [Act.put, List.setIfInBounds_toArray, List.set_cons_zero, List.set_cons_succ]
    refine wpAnyH_done (by kernel_rfl) ?_ _
    refine hK _ _ ?_
    clear hK
    apply wp_ret
    try simp only [Exit.inBlock, Exit.then]
    show bodyPost Try.prog Try.f9 _ Exit.ret _ _
    refine bodyPost_ret (results_cell_row (fn := Try.f9) (p := 6) (ty := 28) rfl _ _ b6 28 p.res.cs (0, 0) _ (by kernel_rfl) hk6 Try.underlying28 rfl infoRs) (by kernel_rfl) ⟨p.res, rfl, hS4.1, HPp.out.2⟩
end Go.Proofs.Ytbhddfcdnpidkaa
