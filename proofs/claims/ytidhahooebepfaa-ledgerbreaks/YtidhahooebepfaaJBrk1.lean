/-
  LedgerBreaks: the steps of both ledgers.
-/
import Derived.Test.YtidhahooebepfaaJBrk0
namespace Go.Proofs.Ytidhahooebepfaa
set_option linter.unusedVariables false
set_option linter.unusedSimpArgs false
open Go.RowKit Go.Great Go.Maps

/-- The trade that does makes of numbers. -/
def trOf (d : Dd) : Tr := ⟨syOf (pickN d.s 3), accOf (pickN d.b 5), accOf (pickN d.e 5), 1 + (pickN d.p 1000000000 : Int), 1 + (pickN d.q 1000000 : Int), (pickN d.f 2001 : Int) - 1000, (pickN (d.f.tdiv 7) 2001 : Int) - 1000⟩
theorem trOf_sz (d : Dd) : (trOf d).sz := ⟨syOf_sz _, accOf_sz _, accOf_sz _⟩
theorem trOf_ok {d : Dd} (h : ∃ z : Nat, d.p = z ∧ z < 1000) : TrS mB (trOf d) := by
  obtain ⟨z, hz, hlt⟩ := h
  have e : pickN d.p 1000000000 = z := by rw [hz]; exact pickN_small (by omega)
  unfold trOf
  rw [e]
  exact trB _ _ _ _ (syOf_is _) hlt (pickN_lt _ (by omega)) (pickN_lt _ (by omega)) (pickN_lt _ (by omega))
/-- Behind the first ledger's trade. -/
structure BM (w W : World) (G H : Lg) (i : Nat) (v : Value) (gs : List Nat) (t : Tr) : Prop where
  a : GI mB ZT w W G i
  b : GI mB ZT w W H i
  ap : ∀ q, G.own q → ¬ H.own q
  rel1 : Rel G.T ((bkL t).foldl lnAdd H.T) G.ts gs
  rel2 : ∃ k, G.ts.length = k + 1 ∧ Rel G.T H.T G.ts (k :: gs) ∧ ∀ x ∈ gs, x < k
  at' : GoneAt W v gs
  low : ∀ q, v.ownBlock = some q → w.heap.size ≤ q ∧ q < W.heap.size ∧ ¬ G.own q ∧ ¬ H.own q
  eq : G.ts.length = G.bs.length
section
variable {w W W' : World} {G H G' H' : Lg} {i : Nat} {v : Value} {gs left : List Nat}
theorem BM.below {t : Tr} (h : BM w W G H i v gs t) (hb : Below W.heap.size W W') : BM w W' G H i v gs t :=
  ⟨h.a.below hb, h.b.below hb, h.ap, h.rel1, h.rel2, h.at'.fr (Fr.of_below hb (fun _ => False)) fun _ _ => id, fun q hq => ⟨(h.low q hq).1, Nat.lt_of_lt_of_le (h.low q hq).2.1 hb.size, (h.low q hq).2.2⟩, h.eq⟩
theorem mB_le {i : Nat} (hi : i < 1000) : ((i + 1 : Nat) : Int) * (3 * mB) ≤ 1000000000000000000 := by unfold mB; omega
theorem do_blk {d : Dd} {ob : Nat} (hb : Blk W ob 36 d.cs) (hn : NewG W W' G G') (ho : ¬ G.own ob) : Blk W' ob 36 d.cs ∧ ¬ G'.own ob :=
  ⟨hb.fr hn.2.1 ho, fun e => by
    rcases hn.2.2 ob e with h1 | h1
    · exact ho h1
    · have := hb.lt; omega⟩
/-- The first ledger does it. -/
theorem does_first (d : Dd) (hd : d.ok) (hk : pickN d.k 7 = 0) (hp : ∃ z : Nat, d.p = z ∧ z < 1000) (h : BI w W G H i v gs gs) (hi : i < 900) (hN : G.bs.length ≤ 300) {ob : Nat} (hb : Blk W ob 36 d.cs) (ho : ¬ G.own ob ∧ ¬ H.own ob) :
    Calls Try.prog 14 #[.pointer (some ⟨G.g, 0, none⟩), .agg d.cs, .int .i64 (G.bs.length : Int)] W fun e w' => e = .returned (.tuple #[.int .i64 ((G.bs.length + 1 : Nat) : Int), .bool true]) ∧ Hid (∃ G', G'.g = G.g ∧ G'.bs = G.bs ++ [false] ∧ BM w w' G' H (i + 1) v gs (trOf d) ∧ Blk w' ob 36 d.cs ∧ ¬ G'.own ob) := by
  refine (does_gen (P := fun X => BI w X G H i v gs gs ∧ Blk X ob 36 d.cs) (own := G.own) (N := G.bs.length) (g := G.g) (R1 := fun X => ∃ G', G'.g = G.g ∧ G'.bs = G.bs ++ [false] ∧ BM w X G' H (i + 1) v gs (trOf d) ∧ Blk X ob 36 d.cs ∧ ¬ G'.own ob) (R2 := fun X => False) d hd (fun X X' h1 h2 => ⟨h1.1.below h2, h1.2.below h2 h1.2.lt⟩) ⟨h, hb⟩ hN (fun ho => by have := h.a.lv.at'.lt ho; omega) (by omega) (fun X hX => ?_) (fun h5 => by omega)).mono fun e w' ⟨n, e1, h2⟩ => ?_
  · refine (GI.trade ZT.keeps (by decide) hX.1.a (by omega) (mB_le (by omega)) (trOf d) (trOf_sz d) (trOf_ok hp)).mono fun e w' ⟨e1, h2⟩ => ⟨e1, ?_⟩
    obtain ⟨tv, bv, h3, h4⟩ := h2.out
    have hoth := h4.other hX.1.b.lv.at' hX.1.ap
    refine ⟨⟨G.traded (trOf d) tv bv, h4.1, traded_bs _ _ _ _, ⟨h3, (hX.1.b.mem hoth.1 h3.lv.bel).same (by decide), hoth.2, ?_, ⟨G.ts.length, ?_, ?_, ?_⟩, hX.1.at'.fr h4.2.1 fun q hq => (hX.1.low q hq).2.2.1, fun q hq => ⟨(hX.1.low q hq).1, Nat.lt_of_lt_of_le (hX.1.low q hq).2.1 h4.2.1.size, fun e => ?_, (hX.1.low q hq).2.2.2⟩, ?_⟩, do_blk hX.2 h4 ho.1⟩, h4.2.1⟩
    · rw [traded_T, traded_ts]; exact hX.1.rel.both hX.1.lt _
    · rw [traded_ts, List.length_append]; rfl
    · rw [traded_T, traded_ts]; exact hX.1.rel.one hX.1.lt _
    · exact hX.1.lt
    · rcases h4.2.2 q e with h1 | h1
      · exact (hX.1.low q hq).2.2.1 h1
      · have := (hX.1.low q hq).2.1; omega
    · rw [traded_ts, traded_bs, List.length_append, List.length_append, hX.1.eq]; rfl
  · rcases h2.out with ⟨_, rfl, h3⟩ | ⟨_, _, h3⟩
    · exact ⟨e1, h3⟩
    · exact h3.elim
/-- The second one does it, too. -/
theorem does_second (d : Dd) (hd : d.ok) (hk : pickN d.k 7 = 0) (hp : ∃ z : Nat, d.p = z ∧ z < 1000) (h : BM w W G H i v gs (trOf d)) (hi : i < 900) :
    Calls Try.prog 14 #[.pointer (some ⟨H.g, 0, none⟩), .agg d.cs, .int .i64 0] W fun e w' => e = .returned (.tuple #[.int .i64 1, .bool true]) ∧ Hid (∃ H', H'.g = H.g ∧ BI w w' G H' (i + 1) v gs gs) := by
  refine (does_gen (P := fun X => BM w X G H i v gs (trOf d)) (own := H.own) (N := 0) (g := H.g) (R1 := fun X => ∃ H', H'.g = H.g ∧ BI w X G H' (i + 1) v gs gs) (R2 := fun X => False) d hd (fun X X' h1 h2 => h1.below h2) h (by omega) (fun ho => by have := h.b.lv.at'.lt ho; omega) (by omega) (fun X hX => ?_) (fun h5 => by omega)).mono fun e w' ⟨n, e1, h2⟩ => ?_
  · refine (GI.trade ZT.keeps (by decide) hX.b (by omega) (mB_le (by omega)) (trOf d) (trOf_sz d) (trOf_ok hp)).mono fun e w' ⟨e1, h2⟩ => ⟨e1, ?_⟩
    obtain ⟨tv, bv, h3, h4⟩ := h2.out
    have hoth := h4.other hX.a.lv.at' fun q h1 h2 => hX.ap q h2 h1
    refine ⟨⟨H.traded (trOf d) tv bv, h4.1, ⟨(hX.a.mem hoth.1 h3.lv.bel).same (by decide), h3, fun q h1 h2 => hoth.2 q h2 h1, ?_, fun k hk => ?_, hX.at'.fr h4.2.1 fun q hq => (hX.low q hq).2.2.2, fun q hq => ⟨(hX.low q hq).1, Nat.lt_of_lt_of_le (hX.low q hq).2.1 h4.2.1.size, (hX.low q hq).2.2.1, fun e => ?_⟩, hX.eq⟩⟩, h4.2.1⟩
    · rw [traded_T]; exact hX.rel1
    · obtain ⟨k0, h5, _, h6⟩ := hX.rel2
      have := h6 k hk; omega
    · rcases h4.2.2 q e with h1 | h1
      · exact (hX.low q hq).2.2.2 h1
      · have := (hX.low q hq).2.1; omega
  · rcases h2.out with ⟨_, rfl, h3⟩ | ⟨_, _, h3⟩
    · exact ⟨e1, h3⟩
    · exact h3.elim
theorem info3 : (Try.prog.info? 3).map (fun i => (i.zero, i.size, i.bytes)) = some (some (.int .i64 0), 1, 8) := by kernel_rfl
/-- Its number ahead of the others. -/
theorem BM.gone {t : Tr} {k : Nat} (h : BM w W G H i v gs t) (hk : G.ts.length = k + 1) (hl : gs.length ≤ 1000) (ty : TypeId) {ob : Nat} (hob : ∃ T, Blk W ob T #[.int .i64 ((k : Int) + 1)]) (how : w.heap.size ≤ ob) (ho : ¬ G.own ob ∧ ¬ H.own ob) :
    ∃ v' w', (Builtin.append_ #[45, 45] ty #[.slice (some ⟨ob, 0, none⟩) 1 1, v]).run Try.prog W = .ok v' w' ∧ BI w w' G H i v' (k :: gs) (k :: gs) := by
  obtain ⟨i0, hi0, hz0, hz1, hz2⟩ := info_parts info3
  obtain ⟨T, hob⟩ := hob
  obtain ⟨k0, h5, h6, h7⟩ := h.rel2
  have e : k0 = k := by omega
  subst e
  obtain ⟨ao, cap, rfl, hle, hat⟩ := h.at'
  have hlt : ∀ x ∈ k0 :: gs, x < G.ts.length := fun x hx => by
    rcases List.mem_cons.1 hx with rfl | hx
    · omega
    · have := h7 x hx; omega
  have c0 : W.cell? ⟨ob, 0, none⟩ = some (.int .i64 ((k0 : Int) + 1)) := hob.cell 0
  cases gs with
  | nil =>
    refine ⟨_, _, run_append_none0 W 45 ty 3 i0 Try.underlying45 hi0 (some ⟨ob, 0, none⟩) 1 1 (Nat.le_refl _) ao cap, ⟨h.a, h.b, h.ap, h6, hlt, ⟨_, _, rfl, Nat.le_refl _, .inr ⟨ob, 0, rfl, hob.lt, fun j x hj => ?_⟩⟩, fun q hq => ?_, h.eq⟩⟩
    · cases j with
      | zero =>
        have : k0 = x := by simpa using hj
        subst this
        exact c0
      | succ j => simp at hj
    · have e : ob = q := by injection hq
      subst e
      exact ⟨how, hob.lt, ho⟩
  | cons y ys =>
    rcases hat with hat | ⟨g, off, rfl, hg, hc⟩
    · cases hat
    · have hbytes : (1 + (y :: ys).length) * 8 ≤ 140737488355328 := by simp only [List.length_cons] at hl ⊢; omega
      have hmx : 1000000 < maxLen := by decide
      have hm0 : 0 < (y :: ys).length := by simp
      have hr := run_append_grow (P := Try.prog) W 45 ty 3 i0 (.int .i64 0) Try.underlying45 hi0 hz0 ⟨ob, 0, none⟩ 1 1 [.int .i64 ((k0 : Int) + 1)] (by rw [hz1]; rfl) (fun j u hj => by
        cases j with
        | zero =>
          have : .int .i64 ((k0 : Int) + 1) = u := by simpa using hj
          subst this
          rw [Addr.add_mid]; exact c0
        | succ j => simp at hj) ⟨g, off, none⟩ (y :: ys).length cap ((y :: ys).map fun (x : Nat) => Value.int .i64 ((x : Int) + 1)) (by rw [hz1, List.length_map, Nat.mul_one]) (fun j u hj => by
        rw [List.getElem?_map] at hj
        cases hx : (y :: ys)[j]? with
        | none => rw [hx] at hj; cases hj
        | some x =>
          rw [hx] at hj
          have : .int .i64 ((x : Int) + 1) = u := by simpa using hj
          subst this
          rw [Addr.add_mid]; exact hc j x hx) (by omega) (by omega) (by rw [hz2]; exact growslice_fits (by omega) hbytes)
      refine ⟨_, _, hr, ?_⟩
      have hbel : Below W.heap.size W (W.drew.alloc (.cells (([.int .i64 ((k0 : Int) + 1)] : List Value).toArray ++ ((y :: ys).map fun (x : Nat) => Value.int .i64 ((x : Int) + 1)).toArray ++ Builtin.zeroCells (Value.int .i64 0).cells (grownCap W (1 + (y :: ys).length) 1 3 - (1 + (y :: ys).length))) 3)) := ⟨rfl, rfl, rfl, by simp, fun b hb => heap_alloc_old W.drew _ hb⟩
      have hge := grownCap_ge W (1 + (y :: ys).length) 1 3
      refine ⟨h.a.below hbel, h.b.below hbel, h.ap, h6, hlt, ⟨_, _, by rw [show (k0 :: y :: ys).length = 1 + (y :: ys).length from Nat.add_comm _ _], by rw [show (k0 :: y :: ys).length = 1 + (y :: ys).length from Nat.add_comm _ _]; exact hge, .inr ⟨W.heap.size, 0, rfl, by simp, fun j x hj => ?_⟩⟩, fun q hq => ?_, h.eq⟩
      · refine (cell_of_row _ _ _ _ _ _ (heap_alloc_new W.drew _)).trans ?_
        rw [Nat.zero_add]
        cases j with
        | zero =>
          have : k0 = x := by simpa using hj
          subst this
          rw [Array.getElem?_append_left (by simp), Array.getElem?_append_left (by simp)]; rfl
        | succ j =>
          have hj' : (y :: ys)[j]? = some x := by simpa using hj
          have hjl := (List.getElem?_eq_some_iff.1 hj').1
          have e1 : ((y :: ys).map fun (x : Nat) => Value.int .i64 ((x : Int) + 1))[j]? = some (.int .i64 ((x : Int) + 1)) := by rw [List.getElem?_map, hj']; rfl
          rw [Array.getElem?_append_left (by simp at hjl ⊢; omega), Array.getElem?_append_right (by simp)]
          simpa using e1
      · have e : W.heap.size = q := by injection hq
        subst e
        refine ⟨h.a.lv.bel.size, by simp, fun ho => ?_, fun ho => ?_⟩
        · have := h.a.lv.at'.lt ho; omega
        · have := h.b.lv.at'.lt ho; omega
/-- Where the second part stands. -/
structure BP (w W : World) (G H : Lg) (i : Nat) (v : Value) (gs left : List Nat) : Prop where
  bi : BI w W G H i v gs left
  nd : left.Nodup
  fl : ∀ k ∈ left, G.bs[k]? = some false
theorem BP.back {k : Nat} (h : BP w W G H i v gs (k :: left)) (hi : i < 900) :
    Calls Try.prog 12 #[.pointer (some ⟨G.g, 0, none⟩), .int .i64 ((k : Int) + 1)] W fun e w' => e = .returned (.int .i64 0) ∧ Hid (∃ G', G'.g = G.g ∧ BP w w' G' H (i + 1) v gs left ∧ G'.bs[k]? = some true ∧ G'.bs.length ≤ 100000) := by
  have hkl := h.bi.lt k (.head _)
  have hbl := h.bi.a.bl
  have hkf := h.fl k (.head _)
  have hnd := List.nodup_cons.1 h.nd
  have hb := GI.broke ZT.keeps (by decide) h.bi.a (by omega) (mB_le (by omega)) k 0 (G.ts[k]'hkl) (by rw [Nat.zero_add]; exact h.bi.eq) (List.getElem?_eq_getElem hkl) (by rw [Nat.zero_add]; exact hkf)
  rw [Nat.zero_add] at hb
  refine hb.mono fun e w' ⟨e1, h2⟩ => ⟨e1, G.back (G.ts[k]'hkl) k, h2.out.2.1, ⟨h.bi.first h2.out.1 h2.out.2 ?_ ?_ ?_, hnd.2, fun x hx => ?_⟩, ?_, ?_⟩
  · rw [back_T, back_ts]; exact h.bi.rel.back (List.getElem?_eq_getElem hkl)
  · rw [back_ts]; exact fun x hx => h.bi.lt x (.tail _ hx)
  · rw [back_ts, back_bs, List.length_set]; exact h.bi.eq
  · rw [back_bs, List.getElem?_set_ne (fun e => hnd.1 (by rw [e]; exact hx))]; exact h.fl x (.tail _ hx)
  · rw [back_bs, List.getElem?_set_self (by rw [← h.bi.eq]; exact hkl)]
  · rw [back_bs, List.length_set]; omega
theorem BP.below (h : BP w W G H i v gs left) (hb : Below W.heap.size W W') : BP w W' G H i v gs left := ⟨h.bi.below hb, h.nd, h.fl⟩
end
end Go.Proofs.Ytidhahooebepfaa
