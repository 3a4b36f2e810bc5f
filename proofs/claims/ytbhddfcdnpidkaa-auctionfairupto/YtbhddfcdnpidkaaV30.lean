/-
  auction: what the law of AuctionMost asks of the plain result.
-/
import Derived.Test.YtbhddfcdnpidkaaV29
import Derived.Test.YtbhddfcdnpidkaaV7
namespace Go.Proofs.Ytbhddfcdnpidkaa
set_option linter.unusedVariables false
open Go.RowKit Go.Great

structure Gd (o : Od) : Prop where
  qt : 1 ≤ o.qt ∧ o.qt ≤ 50
  pr : 0 ≤ o.pr ∧ o.pr < 30
  ty : o.ty = 2 ↔ o.pr = 0
theorem odR_gd (id : Int) (r : Rw) : Gd (odR id r) := by
  have h1 := pk_bd r.x (n := 30) (by omega)
  have h2 := pk_bd r.y (n := 50) (by omega)
  refine ⟨?_, h1, ?_⟩
  · show 1 ≤ 1 + pk r.y 50 ∧ 1 + pk r.y 50 ≤ 50
    omega
  · show (if pk r.x 30 = 0 then (2 : Int) else 1) = 2 ↔ pk r.x 30 = 0
    split <;> simp_all
theorem odsL_gd : ∀ (l : List Rw) (f : Int), ∀ o ∈ odsL f l, Gd o
  | [], _, o, h => by simp [odsL] at h
  | r :: l, f, o, h => by
    rcases List.mem_cons.1 h with rfl | h
    · exact odR_gd _ _
    · exact odsL_gd l _ o h
theorem wns_of {l : List Od} {o : Od} (ho : o ∈ l) (hg : Gd o) (ht : o.ty ≠ 2) : ∃ v ∈ wns l, v.m = false ∧ v.p = o.pr := by
  refine ⟨⟨o.id, false, o.pr, o.qt⟩, List.mem_filterMap.2 ⟨o, ho, ?_⟩, rfl, rfl⟩
  have h1 := hg.qt
  have h2 := hg.pr
  have h3 : o.pr ≠ 0 := fun e => ht (hg.ty.2 e)
  unfold wnO
  rw [if_neg (by omega), if_neg ht, if_pos (by omega)]
theorem bare_not {l : List Od} (hg : ∀ o ∈ l, Gd o) (h : bareL l = false) : ∃ v ∈ wns l, v.m = false := by
  obtain ⟨o, ho, h2⟩ := List.all_eq_false.1 h
  obtain ⟨v, hv, hm, _⟩ := wns_of ho (hg o ho) (by simpa using h2)
  exact ⟨v, hv, hm⟩
theorem priced_in {l : List Od} (hg : ∀ o ∈ l, Gd o) {p : Int} (h : pricedL p l = true) : ∃ v ∈ wns l, v.m = false ∧ v.p = p := by
  obtain ⟨o, ho, h2⟩ := List.any_eq_true.1 h
  obtain ⟨h3, rfl⟩ := of_decide_eq_true h2
  exact wns_of ho (hg o ho) h3
structure Ans (b s : List Od) (ref : Int) (r : Rs) : Prop where
  no : ∀ p, r.qty < tr (wns b) (wns s) p → ref = 0 ∧ bareL b = true ∧ bareL s = true
  over : ∀ p, 1 ≤ p → tr (wns b) (wns s) p = r.qty → 0 < tr (wns b) (wns s) p → bo (wns b) p + so (wns s) p - 2 * tr (wns b) (wns s) p < r.over → p ≠ ref ∧ pricedL p b = false ∧ pricedL p s = false
  at' : r.price ≠ 0 → tr (wns b) (wns s) r.price = r.qty ∧ bo (wns b) r.price + so (wns s) r.price - 2 * tr (wns b) (wns s) r.price = r.over ∧ (r.side = 1 ↔ so (wns s) r.price < bo (wns b) r.price) ∧ (r.side = 2 ↔ bo (wns b) r.price < so (wns s) r.price)
  iff : 0 < r.qty ↔ 0 < r.price
theorem wns_q0 {l : List Od} : ∀ v ∈ wns l, 0 ≤ v.q := fun v hv => by
  have := wns_q v hv
  omega
theorem ans_of {b s : List Od} {B S : List Wn} {ref : Int} (hb : ∀ o ∈ b, Gd o) (hs : ∀ o ∈ s, Gd o) (h : Rws b s B S) (hr : 0 ≤ ref ∧ ref < 40) : Ans b s ref (resOf (refN ref) (ptsOf B S (cndL (gat (refN ref) B S 2)))) := by
  have hc := h.cnd (refN ref)
  have e0 : refN ref = ref := by unfold refN; split <;> omega
  rw [e0] at hc ⊢
  have eb : ∀ p, bo B p = bo (wns b) p := fun p => sumW_perm h.pb
  have es : ∀ p, so S p = so (wns s) p := fun p => sumW_perm h.ps
  have et : ∀ p, tr B S p = tr (wns b) (wns s) p := fun p => by unfold tr; rw [eb, es]
  have q1 : ∀ v ∈ B, 0 ≤ v.q := fun v hv => wns_q0 v (h.pb.mem_iff.1 hv)
  have q2 : ∀ v ∈ S, 0 ≤ v.q := fun v hv => wns_q0 v (h.ps.mem_iff.1 hv)
  have inB : ∀ p, (∃ v ∈ wns b, v.m = false ∧ v.p = p) → p ∈ cndL (gat ref B S 2) := fun p ⟨v, hv, hm, e⟩ => (hc.mem p).2 (.inr (.inl ⟨v, h.pb.mem_iff.2 hv, hm, e⟩))
  have inS : ∀ p, (∃ v ∈ wns s, v.m = false ∧ v.p = p) → p ∈ cndL (gat ref B S 2) := fun p ⟨v, hv, hm, e⟩ => (hc.mem p).2 (.inr (.inr ⟨v, h.ps.mem_iff.2 hv, hm, e⟩))
  generalize cndL (gat ref B S 2) = C at *
  refine ⟨fun p hp => ?_, fun p hp ht h0 ho => ?_, fun h0 => ?_, ?_⟩
  · have hC : C = [] := Classical.byContradiction fun hC => by
      have := most_no hc q1 q2 hC p
      rw [et] at this
      omega
    have hn : ∀ c, c ∉ C := fun c => by rw [hC]; simp
    refine ⟨Classical.byContradiction fun e => hn ref ((hc.mem ref).2 (.inl ⟨rfl, e⟩)), ?_, ?_⟩
    · cases e : bareL b with
      | true => rfl
      | false => obtain ⟨v, hv, hm⟩ := bare_not hb e; exact absurd (inB _ ⟨v, hv, hm, rfl⟩) (hn _)
    · cases e : bareL s with
      | true => rfl
      | false => obtain ⟨v, hv, hm⟩ := bare_not hs e; exact absurd (inS _ ⟨v, hv, hm, rfl⟩) (hn _)
  · have hn : p ∉ C := fun hin => by
      have := most_over hc hin (by rw [et]; exact ht) (by rw [et]; exact h0)
      rw [eb, es, et] at this
      omega
    refine ⟨fun e => hn ((hc.mem p).2 (.inl ⟨e, by omega⟩)), ?_, ?_⟩
    · cases e : pricedL p b with
      | false => rfl
      | true => exact absurd (inB _ (priced_in hb e)) hn
    · cases e : pricedL p s with
      | false => rfl
      | true => exact absurd (inS _ (priced_in hs e)) hn
  · have := most_at hc h0
    obtain ⟨_, _, h3, h4, h5, h6⟩ := this
    rw [et] at h3
    rw [eb, es, et] at h4
    rw [eb, es] at h5 h6
    exact ⟨h3, h4, h5, h6⟩
  · refine most_iff hc fun c hcm => ?_
    rcases (hc.mem c).1 hcm with ⟨e, e2⟩ | ⟨v, hv, hm, e⟩ | ⟨v, hv, hm, e⟩
    · omega
    · rcases wns_p v (h.pb.mem_iff.1 hv) with ⟨e3, _⟩ | ⟨_, e3, _⟩
      · rw [e3] at hm; cases hm
      · omega
    · rcases wns_p v (h.ps.mem_iff.1 hv) with ⟨e3, _⟩ | ⟨_, e3, _⟩
      · rw [e3] at hm; cases hm
      · omega
end Go.Proofs.Ytbhddfcdnpidkaa
