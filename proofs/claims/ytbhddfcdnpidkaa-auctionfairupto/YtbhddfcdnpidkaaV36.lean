/-
  auction: what the law of AuctionFair asks, plain; orders in another order.
-/
import Derived.Test.YtbhddfcdnpidkaaV35
import Derived.Test.YtbhddfcdnpidkaaV34
import Derived.Test.YtbhddfcdnpidkaaV31
namespace Go.Proofs.Ytbhddfcdnpidkaa
set_option linter.unusedVariables false
set_option linter.unusedSimpArgs false
open Go.RowKit Go.Great
attribute [local irreducible] wpList

theorem res_bd {b s : List Od} {B S : List Wn} (h : Rws b s B S) (hbl : B.length ≤ 4398046511104) (hsl : S.length ≤ 4398046511104) {ref : Int} (href : 0 ≤ ref ∧ ref ≤ 1000000000) {r : Rs} (hr : r = resOf ref (ptsOf B S (cndL (gat ref B S 2)))) : (0 ≤ r.qty ∧ r.qty ≤ 9223372036854775807) ∧ 0 ≤ r.price ∧ r.price ≤ 1000000000 := by
  rcases resOf_cases ref (pts_asc (h.cnd ref)) with ⟨_, e⟩ | ⟨p, hc, e⟩
  · rw [hr, e]
    show (0 ≤ (0 : Int) ∧ (0 : Int) ≤ 9223372036854775807) ∧ 0 ≤ (0 : Int) ∧ (0 : Int) ≤ 1000000000
    omega
  · obtain ⟨h1, h2, _⟩ := bestL_mem.1 hc.1
    obtain ⟨k1, k2⟩ := h.pts hbl hsl href p h1
    rw [hr, e]
    show (0 ≤ p.tr ∧ p.tr ≤ 9223372036854775807) ∧ 0 ≤ p.c ∧ p.c ≤ 1000000000
    have k3 := k1.nn
    unfold okP at k1
    unfold inP at k2
    refine ⟨⟨k3, ?_⟩, k2⟩
    unfold Pt.tr
    split <;> omega
theorem Rws.lens {b s : List Od} {B S : List Wn} (h : Rws b s B S) : B.length ≤ b.length ∧ S.length ≤ s.length := by
  have h1 : (wns b).length ≤ b.length := List.length_filterMap_le _ _
  have h2 : (wns s).length ≤ s.length := List.length_filterMap_le _ _
  rw [h.pb.length_eq, h.ps.length_eq]
  exact ⟨h1, h2⟩
/-- The same result, in whatever order. -/
theorem res_one {b b' s s' : List Od} {B B' S S' : List Wn} {ref : Int} (pb : b'.Perm b) (ps : s'.Perm s) (h : Rws b s B S) (h' : Rws b' s' B' S') : resOf ref (ptsOf B' S' (cndL (gat ref B' S' 2))) = resOf ref (ptsOf B S (cndL (gat ref B S 2))) :=
  resOf_perm ((h'.pb.trans (pb.filterMap _)).trans h.pb.symm) ((h'.ps.trans (ps.filterMap _)).trans h.ps.symm) (h'.cnd ref) (h.cnd ref)
theorem fills_len {r : Rs} {b s : List Od} {F : List Fl} (h : FV b s r F) : F.length ≤ b.length + s.length := by
  rcases h with ⟨_, rfl⟩ | ⟨h1, h2, B, S, h3, rfl⟩
  · exact Nat.zero_le _
  · have hl := h3.lens
    have l1 : (B.takeWhile (atB r.price)).length ≤ B.length := (List.takeWhile_prefix _).length_le
    have l2 : (S.takeWhile (atS r.price)).length ≤ S.length := (List.takeWhile_prefix _).length_le
    have key : ∀ (k : Nat) (left : Int) (X Y : List Wn), (fillsF r.price k left X Y).length ≤ k := fun k => by
      induction k with
      | zero => intro _ _ _; exact Nat.le_refl _
      | succ k ih =>
        intro left X Y
        cases X with
        | nil => exact Nat.zero_le _
        | cons x X =>
          cases Y with
          | nil => exact Nat.zero_le _
          | cons y Y =>
            unfold fillsF
            split
            · simp only [List.length_cons]
              have := ih (left - mnF left x y) (lessL (mnF left x y) (x :: X)) (lessL (mnF left x y) (y :: Y))
              omega
            · exact Nat.zero_le _
    have := key ((B.takeWhile (atB r.price)).length + (S.takeWhile (atS r.price)).length) r.qty (B.takeWhile (atB r.price)) (S.takeWhile (atS r.price))
    omega
/-! Orders, the last one first; and from some place on, round about. -/
def revT (D : List Od) (k : Nat) : List Od := (D.drop (D.length - k)).reverse
theorem revT_zero (D : List Od) : revT D 0 = [] := by unfold revT; rw [Nat.sub_zero, List.drop_length]; rfl
theorem revT_all (D : List Od) : revT D D.length = D.reverse := by unfold revT; rw [Nat.sub_self, List.drop_zero]
theorem revT_len {D : List Od} {k : Nat} (hk : k ≤ D.length) : (revT D k).length = k := by unfold revT; rw [List.length_reverse, List.length_drop]; omega
theorem revT_succ {D : List Od} {k : Nat} {o : Od} (hk : k < D.length) (ho : D[D.length - 1 - k]? = some o) : revT D (k + 1) = revT D k ++ [o] := by
  unfold revT
  have e : D.drop (D.length - (k + 1)) = o :: D.drop (D.length - k) := by
    have := List.drop_eq_getElem_cons (l := D) (i := D.length - (k + 1)) (by omega)
    rw [this]
    have h1 : D[D.length - (k + 1)]'(by omega) = o := by
      have h2 : D[D.length - (k + 1)]? = some o := by rw [show D.length - (k + 1) = D.length - 1 - k by omega]; exact ho
      rw [List.getElem?_eq_getElem (by omega)] at h2
      exact Option.some.inj h2
    rw [h1, show D.length - (k + 1) + 1 = D.length - k by omega]
  rw [e, List.reverse_cons]
def rotL (D : List Od) (s : Nat) : List Od := D.drop s ++ D.take s
theorem rotL_len {D : List Od} {s : Nat} (hs : s ≤ D.length) : (rotL D s).length = D.length := by unfold rotL; rw [List.length_append, List.length_drop, List.length_take]; omega
theorem rotL_perm (D : List Od) (s : Nat) : (rotL D s).Perm D := by
  unfold rotL
  exact List.perm_append_comm.trans (by rw [List.take_append_drop])
theorem rotL_get {D : List Od} {s i : Nat} (hs : s < D.length) (hi : i < D.length) : (rotL D s)[i]? = D[(i + s) % D.length]? := by
  unfold rotL
  by_cases h : i + s < D.length
  · rw [List.getElem?_append_left (by rw [List.length_drop]; omega), List.getElem?_drop, Nat.mod_eq_of_lt h, Nat.add_comm]
  · have e : (i + s) % D.length = i + s - D.length := by
      rw [Nat.mod_eq_sub_mod (by omega), Nat.mod_eq_of_lt (by omega)]
    rw [List.getElem?_append_right (by rw [List.length_drop]; omega), List.length_drop, List.getElem?_take_of_lt (by omega), e]
    congr 1
    omega
/-- An order as the law makes it. -/
def OdC (o : Od) : Prop := o = ⟨odC o.id o.ty o.pr o.qt, o.id, o.ty, o.pr, o.qt⟩
theorem odsL_odc : ∀ (l : List Rw) (f : Int), ∀ o ∈ odsL f l, OdC o
  | [], _, o, h => by simp [odsL] at h
  | r :: l, f, o, h => by
    rcases List.mem_cons.1 h with rfl | h
    · rfl
    · exact odsL_odc l _ o h
/-- What the law holds of its orders. -/
structure DD (D : List Od) : Prop where
  ok : ∀ o ∈ D, o.ok
  gd : ∀ o ∈ D, Gd o
  odc : ∀ o ∈ D, OdC o
  nd : (D.map (·.id)).Nodup
  len : D.length ≤ 2000000
theorem DD.of (l : List Rw) (f : Int) (h : l.length ≤ 2000000) : DD (odsL f l) := ⟨odsL_ok _ _, odsL_gd _ _, odsL_odc _ _, (odsL_ids l f).2, by rw [odsL_len]; exact h⟩
/-- What stands all along. -/
structure AF (w W : World) (D E : List Od) (F : List Fl) (av az af : Option Addr) (cv cs cf g : Nat) (r : Rs) : Prop where
  bel : Below w.heap.size w W
  rb : RowAt W 42 15 (.slice av D.length cv) D.length (flatL (fun o => o.cs.toList) D)
  rs : RowAt W 42 15 (.slice az E.length cs) E.length (flatL (fun o => o.cs.toList) E)
  rf : RowAt W 39 5 (.slice af F.length cf) F.length (flatL flL F)
  blk : Blk W g 28 r.cs
theorem AF.below {w W W' : World} {D E : List Od} {F : List Fl} {av az af : Option Addr} {cv cs cf g : Nat} {r : Rs} (h : AF w W D E F av az af cv cs cf g r) (hb : Below W.heap.size W W') : AF w W' D E F av az af cv cs cf g r := ⟨below_step h.bel hb, h.rb.fr (Fr.of_below hb (fun _ => False)) fun _ _ => id, h.rs.fr (Fr.of_below hb (fun _ => False)) fun _ _ => id, h.rf.fr (Fr.of_below hb (fun _ => False)) fun _ _ => id, h.blk.below hb h.blk.lt⟩
end Go.Proofs.Ytbhddfcdnpidkaa
