import Derived.Test.YtbhddfcdnpidkaaMD

namespace Go.Proofs.Ytbhddfcdnpidkaa
set_option linter.unusedVariables false
set_option linter.unusedSimpArgs false

/-- The most, so far. -/
structure Mst (T : Int → Int) (l : List Int) (m : Int) : Prop where
  nn : 0 ≤ m
  ub : ∀ c ∈ l, T c ≤ m
  at' : m = 0 ∨ ∃ c ∈ l, T c = m
theorem Mst.nil (T : Int → Int) : Mst T [] 0 := ⟨Int.le_refl _, fun c h => by simp at h, .inl rfl⟩
theorem mem_snoc {l : List Int} {c d : Int} : d ∈ l ++ [c] ↔ d ∈ l ∨ d = c := by simp
theorem Mst.yes {T : Int → Int} {l : List Int} {m c : Int} (h : Mst T l m) (hc : m < T c) : Mst T (l ++ [c]) (T c) := ⟨by have := h.nn; omega, fun d hd => by
  rcases mem_snoc.1 hd with hd | rfl
  · have := h.ub d hd; omega
  · exact Int.le_refl _, .inr ⟨c, mem_snoc.2 (.inr rfl), rfl⟩⟩
theorem Mst.no {T : Int → Int} {l : List Int} {m c : Int} (h : Mst T l m) (hc : ¬ m < T c) : Mst T (l ++ [c]) m := ⟨h.nn, fun d hd => by
  rcases mem_snoc.1 hd with hd | rfl
  · exact h.ub d hd
  · omega, h.at'.imp id fun ⟨d, h1, h2⟩ => ⟨d, mem_snoc.2 (.inl h1), h2⟩⟩
/-- The least that is over where the most is traded, so far. -/
def Lst (T O : Int → Int) (m : Int) (l : List Int) (v : Int) : Prop := (v = -1 ∧ ∀ c ∈ l, T c ≠ m) ∨ (0 ≤ v ∧ (∃ c ∈ l, T c = m ∧ O c = v) ∧ ∀ c ∈ l, T c = m → v ≤ O c)
theorem Lst.nil (T O : Int → Int) (m : Int) : Lst T O m [] (-1) := .inl ⟨rfl, fun c h => by simp at h⟩
theorem Lst.yes {T O : Int → Int} {m v c : Int} {l : List Int} (h : Lst T O m l v) (hO : 0 ≤ O c) (h1 : T c = m) (h2 : v < 0 ∨ O c < v) : Lst T O m (l ++ [c]) (O c) := .inr ⟨hO, ⟨c, mem_snoc.2 (.inr rfl), h1, rfl⟩, fun d hd k => by
  rcases mem_snoc.1 hd with hd | rfl
  · rcases h with ⟨_, h⟩ | ⟨h3, _, h4⟩
    · exact absurd k (h d hd)
    · have := h4 d hd k; omega
  · exact Int.le_refl _⟩
theorem Lst.no {T O : Int → Int} {m v c : Int} {l : List Int} (h : Lst T O m l v) (h1 : ¬ (T c = m ∧ (v < 0 ∨ O c < v))) : Lst T O m (l ++ [c]) v := by
  rcases h with ⟨h, h2⟩ | ⟨h3, ⟨d, d1, d2, d3⟩, h4⟩
  · refine .inl ⟨h, fun d hd => ?_⟩
    rcases mem_snoc.1 hd with hd | rfl
    · exact h2 d hd
    · exact fun k => h1 ⟨k, .inl (by omega)⟩
  · refine .inr ⟨h3, ⟨d, mem_snoc.2 (.inl d1), d2, d3⟩, fun e he k => ?_⟩
    rcases mem_snoc.1 he with he | rfl
    · exact h4 e he k
    · exact Int.not_lt.1 fun q => h1 ⟨k, .inr q⟩
/-- What is found among those that hit, so far. -/
structure Bst (H : Int → Prop) (X Y F : Int → Int) (l : List Int) (best high low : Int) (more less : Bool) : Prop where
  more : more = true ↔ ∀ c ∈ l, H c → Y c < X c
  less : less = true ↔ ∀ c ∈ l, H c → X c < Y c
  at' : (best = 0 ∧ high = 0 ∧ low = 0 ∧ ∀ c ∈ l, ¬ H c) ∨ (1 ≤ best ∧ 1 ≤ high ∧ 1 ≤ low ∧ (best ∈ l ∧ H best) ∧ (high ∈ l ∧ H high) ∧ (low ∈ l ∧ H low) ∧ ∀ c ∈ l, H c → c ≤ high ∧ low ≤ c ∧ (F best < F c ∨ F best = F c ∧ c ≤ best))
theorem Bst.nil (H : Int → Prop) (X Y F : Int → Int) : Bst H X Y F [] 0 0 0 true true := ⟨⟨fun _ c h => by simp at h, fun _ => rfl⟩, ⟨fun _ c h => by simp at h, fun _ => rfl⟩, .inl ⟨rfl, rfl, rfl, fun c h => by simp at h⟩⟩
theorem Bst.no {H : Int → Prop} {X Y F : Int → Int} {l : List Int} {best high low c : Int} {more less : Bool} (h : Bst H X Y F l best high low more less) (hc : ¬ H c) : Bst H X Y F (l ++ [c]) best high low more less := by
  have key : ∀ {P : Int → Prop}, (∀ d ∈ l ++ [c], H d → P d) ↔ ∀ d ∈ l, H d → P d := fun {P} => ⟨fun k d hd => k d (mem_snoc.2 (.inl hd)), fun k d hd hh => by
    rcases mem_snoc.1 hd with hd | rfl
    · exact k d hd hh
    · exact absurd hh hc⟩
  refine ⟨by rw [key]; exact h.more, by rw [key]; exact h.less, ?_⟩
  rcases h.at' with ⟨h1, h2, h3, h4⟩ | ⟨h1, h2, h3, ⟨h4, k4⟩, ⟨h5, k5⟩, ⟨h6, k6⟩, h7⟩
  · refine .inl ⟨h1, h2, h3, fun d hd => ?_⟩
    rcases mem_snoc.1 hd with hd | rfl
    · exact h4 d hd
    · exact hc
  · exact .inr ⟨h1, h2, h3, ⟨mem_snoc.2 (.inl h4), k4⟩, ⟨mem_snoc.2 (.inl h5), k5⟩, ⟨mem_snoc.2 (.inl h6), k6⟩, key.2 h7⟩
theorem Bst.yes {H : Int → Prop} {X Y F : Int → Int} {l : List Int} {best high low c : Int} {more less : Bool} (h : Bst H X Y F l best high low more less) (hc : H c) (h1 : 1 ≤ c) :
    Bst H X Y F (l ++ [c]) (if best = 0 ∨ F c < F best ∨ (F c = F best ∧ best < c) then c else best) (if high < c then c else high) (if low = 0 ∨ c < low then c else low) (more && decide (Y c < X c)) (less && decide (X c < Y c)) := by
  have key : ∀ {P : Int → Prop}, (∀ d ∈ l ++ [c], H d → P d) ↔ (∀ d ∈ l, H d → P d) ∧ P c := fun {P} => ⟨fun k => ⟨fun d hd => k d (mem_snoc.2 (.inl hd)), k c (mem_snoc.2 (.inr rfl)) hc⟩, fun k d hd hh => by
    rcases mem_snoc.1 hd with hd | rfl
    · exact k.1 d hd hh
    · exact k.2⟩
  refine ⟨by rw [key, Bool.and_eq_true, decide_eq_true_eq, h.more], by rw [key, Bool.and_eq_true, decide_eq_true_eq, h.less], .inr ?_⟩
  have inL : ∀ {d}, d ∈ l → d ∈ l ++ [c] := fun hd => mem_snoc.2 (.inl hd)
  have inC : c ∈ l ++ [c] := mem_snoc.2 (.inr rfl)
  rcases h.at' with ⟨rfl, rfl, rfl, h4⟩ | ⟨b1, g1, l1, ⟨h4, k4⟩, ⟨h5, k5⟩, ⟨h6, k6⟩, h7⟩
  · rw [if_pos (.inl rfl), if_pos (by omega), if_pos (.inl rfl)]
    refine ⟨h1, h1, h1, ⟨inC, hc⟩, ⟨inC, hc⟩, ⟨inC, hc⟩, key.2 ⟨fun d hd hh => absurd hh (h4 d hd), by omega⟩⟩
  · refine ⟨by split <;> omega, by split <;> omega, by split <;> omega, ?_, ?_, ?_, key.2 ⟨fun d hd hh => ?_, ?_⟩⟩
    · split
      · exact ⟨inC, hc⟩
      · exact ⟨inL h4, k4⟩
    · split
      · exact ⟨inC, hc⟩
      · exact ⟨inL h5, k5⟩
    · split
      · exact ⟨inC, hc⟩
      · exact ⟨inL h6, k6⟩
    · have := h7 d hd hh
      refine ⟨by split <;> omega, by split <;> omega, ?_⟩
      by_cases hb : best = 0 ∨ F c < F best ∨ (F c = F best ∧ best < c)
      · rw [if_pos hb]; omega
      · rw [if_neg hb]; omega
    · refine ⟨by split <;> omega, by split <;> omega, ?_⟩
      by_cases hb : best = 0 ∨ F c < F best ∨ (F c = F best ∧ best < c)
      · rw [if_pos hb]; omega
      · rw [if_neg hb]; omega
/-- What the reference tells of the candidates. -/
def refP (X Y : Int → Int) (most least : Int) (best high low : Int) (more less : Bool) : Rs :=
  let b := if less = true then low else if more = true then high else best
  ⟨b, most, least, if Y b < X b then 1 else if X b < Y b then 2 else 0⟩
theorem far_eq (a b : Int) : (if a < b then b - a else a - b) = far a b := by unfold far; split <;> split <;> omega
/-- It is the program's. -/
theorem ref_res {B S : List Wn} {ref : Int} {C L : List Int} (h : Cnd B S ref C) (hL : ∀ c, c ∈ L ↔ c ∈ C) {most least best high low : Int} {more less : Bool} (hm : Mst (tr B S) L most)
    (hl : Lst (tr B S) (fun c => (⟨c, bo B c, so S c⟩ : Pt).ov) most L least) (hb : Bst (fun c => tr B S c = most ∧ (⟨c, bo B c, so S c⟩ : Pt).ov = least) (bo B) (so S) (fun c => far c ref) L best high low more less) (hp : 0 < most) :
    refP (bo B) (so S) most least best high low more less = resOf ref (ptsOf B S C) := by
  obtain ⟨pt, hpt⟩ : ∃ pt : Int → Pt, pt = fun c => ⟨c, bo B c, so S c⟩ := ⟨_, rfl⟩
  have ptc : ∀ c, (pt c).c = c := fun c => by rw [hpt]
  have ptx : ∀ c, (pt c).x = bo B c := fun c => by rw [hpt]
  have pty : ∀ c, (pt c).y = so S c := fun c => by rw [hpt]
  have ptt : ∀ c, (pt c).tr = tr B S c := fun c => by rw [hpt]; rfl
  have hO : ∀ c, (⟨c, bo B c, so S c⟩ : Pt).ov = (pt c).ov := fun c => by rw [hpt]
  simp only [hO] at hl hb
  have mem : ∀ p, p ∈ ptsOf B S C ↔ ∃ c ∈ L, p = pt c := fun p => by
    unfold ptsOf
    rw [List.mem_map]
    exact ⟨fun ⟨c, hc, e⟩ => ⟨c, (hL c).2 hc, by rw [← e, hpt]⟩, fun ⟨c, hc, e⟩ => ⟨c, (hL c).1 hc, by rw [e, hpt]⟩⟩
  obtain ⟨d0, d0L, d0T⟩ := hm.at'.resolve_left (by omega)
  obtain ⟨l0, ⟨d1, d1L, d1T, d1O⟩, lub⟩ : 0 ≤ least ∧ (∃ c ∈ L, tr B S c = most ∧ (pt c).ov = least) ∧ ∀ c ∈ L, tr B S c = most → least ≤ (pt c).ov := by
    rcases hl with ⟨_, h1⟩ | h1
    · exact absurd d0T (h1 d0 d0L)
    · exact h1
  have best_iff : ∀ c, pt c ∈ bestL (ptsOf B S C) ↔ c ∈ L ∧ tr B S c = most ∧ (pt c).ov = least := fun c => by
    rw [bestL_mem, mem, ptt]
    constructor
    · rintro ⟨⟨c', hc', e⟩, h1, h2⟩
      have hcc : c = c' := by rw [← ptc c, e, ptc]
      rw [← hcc] at hc'
      have k1 := h2 (pt d0) ((mem _).2 ⟨d0, d0L, rfl⟩)
      have k2 := h2 (pt d1) ((mem _).2 ⟨d1, d1L, rfl⟩)
      unfold Pt.lt at k1 k2
      rw [ptt, ptt] at k1 k2
      have k3 := hm.ub c hc'
      have k4 : tr B S c = most := by omega
      have k5 := lub c hc' k4
      exact ⟨hc', k4, by omega⟩
    · rintro ⟨hc, h1, h2⟩
      refine ⟨⟨c, hc, rfl⟩, by omega, fun q hq => ?_⟩
      obtain ⟨d, hd, rfl⟩ := (mem q).1 hq
      unfold Pt.lt
      rw [ptt, ptt]
      have k3 := hm.ub d hd
      have k5 := lub d hd
      omega
  have all_iff : ∀ {Q : Pt → Prop}, (∀ d ∈ bestL (ptsOf B S C), Q d) ↔ ∀ c ∈ L, (tr B S c = most ∧ (pt c).ov = least) → Q (pt c) := fun {Q} => by
    constructor
    · exact fun k c hc hh => k _ ((best_iff c).2 ⟨hc, hh⟩)
    · intro k d hd
      obtain ⟨c, hc, rfl⟩ := (mem d).1 (bestL_mem.1 hd).1
      exact k c hc ((best_iff c).1 hd).2
  have sd1 : ∀ c, (pt c).sd = 1 ↔ so S c < bo B c := fun c => by
    unfold Pt.sd
    rw [ptx, pty]
    split
    · simp_all
    · split <;> simp_all
  have sd2 : ∀ c, (pt c).sd = 2 ↔ bo B c < so S c := fun c => by
    unfold Pt.sd
    rw [ptx, pty]
    split
    · simp; omega
    · split <;> simp_all
  have a1 : (∀ d ∈ bestL (ptsOf B S C), d.sd = 1) ↔ more = true := by rw [all_iff, hb.more]; simp only [sd1]
  have a2 : (∀ d ∈ bestL (ptsOf B S C), d.sd = 2) ↔ less = true := by rw [all_iff, hb.less]; simp only [sd2]
  have hat : 1 ≤ best ∧ 1 ≤ high ∧ 1 ≤ low ∧ (best ∈ L ∧ tr B S best = most ∧ (pt best).ov = least) ∧ (high ∈ L ∧ tr B S high = most ∧ (pt high).ov = least) ∧ (low ∈ L ∧ tr B S low = most ∧ (pt low).ov = least) ∧ ∀ c ∈ L, (tr B S c = most ∧ (pt c).ov = least) → c ≤ high ∧ low ≤ c ∧ (far best ref < far c ref ∨ far best ref = far c ref ∧ c ≤ best) := by
    rcases hb.at' with ⟨_, _, _, h4⟩ | h4
    · exact absurd ⟨d1T, d1O⟩ (h4 d1 d1L)
    · exact h4
  obtain ⟨_, _, _, b4, b5, b6, b7⟩ := hat
  obtain ⟨b, hbd⟩ : ∃ b, b = (if less = true then low else if more = true then high else best) := ⟨_, rfl⟩
  have bin : b ∈ L ∧ tr B S b = most ∧ (pt b).ov = least := by
    rw [hbd]
    split
    · exact b6
    · split
      · exact b5
      · exact b4
  have hch : Chs (ptsOf B S C) ref (pt b) := by
    refine ⟨(best_iff b).2 bin, fun k => ?_, fun k1 k2 => ?_, fun k1 k2 => ?_⟩
    · have hm1 := a1.1 k
      have hl1 : ¬ less = true := fun k2 => by
        have x1 := hb.more.1 hm1 d1 d1L ⟨d1T, d1O⟩
        have x2 := hb.less.1 k2 d1 d1L ⟨d1T, d1O⟩
        omega
      rw [all_iff]
      intro c hc hh
      rw [ptc, ptc, hbd, if_neg hl1, if_pos hm1]
      exact (b7 c hc hh).1
    · rw [all_iff]
      intro c hc hh
      rw [ptc, ptc, hbd, if_pos (a2.1 k2)]
      exact (b7 c hc hh).2.1
    · rw [all_iff]
      intro c hc hh
      rw [ptc, ptc, hbd, if_neg (fun q => k2 (a2.2 q)), if_neg (fun q => k1 (a1.2 q))]
      exact (b7 c hc hh).2.2
  rcases resOf_cases ref (pts_asc h) with ⟨e1, _⟩ | ⟨p, hp2, e⟩
  · have := (best_iff b).2 bin
    rw [e1] at this
    simp at this
  · have : p = pt b := Chs.uniq (fun p => Iff.rfl) hp2 hch fun p hp q hq e => by
      obtain ⟨c, _, rfl⟩ := (mem p).1 hp
      obtain ⟨d, _, rfl⟩ := (mem q).1 hq
      rw [ptc, ptc] at e
      rw [e]
    rw [e, this]
    unfold refP Pt.res
    rw [← hbd, ptc, ptt, bin.2.1, bin.2.2]
    unfold Pt.sd
    rw [ptx, pty]
/-- Nothing is traded anywhere. -/
theorem ref_nil {B S : List Wn} {ref : Int} {C L : List Int} (h : Cnd B S ref C) (hL : ∀ c, c ∈ L ↔ c ∈ C) (hm : Mst (tr B S) L 0) : Rs.nil = resOf ref (ptsOf B S C) := by
  rcases resOf_cases ref (pts_asc h) with ⟨_, e⟩ | ⟨p, hp2, e⟩
  · exact e.symm
  · exfalso
    obtain ⟨h1, h2, _⟩ := bestL_mem.1 hp2.1
    obtain ⟨c, hc, rfl⟩ := List.mem_map.1 h1
    have := hm.ub c ((hL c).2 hc)
    have h3 : 0 < tr B S c := h2
    omega
end Go.Proofs.Ytbhddfcdnpidkaa

namespace Go.Proofs.Ytbhddfcdnpidkaa
set_option linter.unusedVariables false
set_option linter.unusedSimpArgs false
open Go.RowKit Go.Great
attribute [local irreducible] wpList

theorem infoRr : (Try.prog.info? 46).map (·.size) = some 4 := by kernel_rfl
theorem ltc_run {op : Oper} {a : Act} {p : Int} {r : Bool} (x : Operand) (ho : op.op = .binOp .lss 2 x (.const (.int .i64 0)) 2) (hx : a.eval x = .int .i64 p) (hr : decide (p < 0) = r) (w : World) : (execOp a.eval op).run Try.prog w = .ok (.value (.bool r)) w := by
  have e : a.eval (.const (.int .i64 0)) = .int .i64 0 := rfl
  subst hr
  unfold execOp
  simp only [ho, hx, e]
  go_simp
theorem buildRr_run {op : Oper} {a : Act} {p q r : Int} (x y z : Operand) (ho : op.op = .build 46 #[(0, x), (1, y), (2, z)]) (hx : a.eval x = .int .i64 p) (hy : a.eval y = .int .i64 q) (hz : a.eval z = .int .i64 r) (w : World) : (execOp a.eval op).run Try.prog w = .ok (.value (.agg #[.int .i64 p, .int .i64 q, .int .i64 r, .int .i64 0])) w := by
  unfold execOp
  simp only [ho, List.map_toArray, List.map_cons, List.map_nil, hx, hy, hz]
  kernel_rfl
/-- Numbers so far. -/
structure OI (w W : World) (v : Value) (D : List Int) : Prop where
  row : RowAt W 2 1 v D.length (D.map eI)
  bel : Below w.heap.size w W
  own : ∀ q, v.ownBlock = some q → w.heap.size ≤ q
theorem OI.below {w W W' : World} {v : Value} {D : List Int} (h : OI w W v D) (hb : Below W.heap.size W W') : OI w W' v D := ⟨h.row.fr (Fr.of_below hb (fun _ => False)) fun _ _ => id, below_step h.bel hb, h.own⟩
theorem OI.app {w W W' : World} {v v' : Value} {D : List Int} {p : Int} (h : OI w W v D) (hrow : RowAt W' 2 1 v' (D.length + 1) (D.map eI ++ [eI p])) (hfr : Fr W W' (fun b => v.ownBlock = some b)) (hnew : v'.ownBlock = v.ownBlock ∨ v'.ownBlock = some W.heap.size ∧ ∀ k, k < W.heap.size → W'.heap[k]? = W.heap[k]?) : OI w W' v' (D ++ [p]) := by
  refine ⟨?_, ⟨hfr.os.trans h.bel.os, hfr.tape.trans h.bel.tape, hfr.output.trans h.bel.output, Nat.le_trans h.bel.size hfr.size, fun q hq => (hfr.block q (Nat.lt_of_lt_of_le hq h.bel.size) (fun e => by have := h.own q e; omega)).trans (h.bel.block q hq)⟩, fun q hq => ?_⟩
  · rw [List.length_append, List.map_append]
    exact hrow
  · rcases hnew with h1 | ⟨h1, _⟩
    · exact h.own q (h1 ▸ hq)
    · rw [h1] at hq
      injection hq with hq
      have := h.bel.size
      omega
/-- The prices of those that have one. -/
def prL (l : List Od) : List Int := (l.filter fun o => decide (o.ty ≠ 2)).map (·.pr)
theorem prL_take {l : List Od} {i : Nat} {o : Od} (h : l[i]? = some o) : prL (l.take (i + 1)) = prL (l.take i) ++ (if o.ty = 2 then [] else [o.pr]) := by
  unfold prL
  rw [List.take_add_one, h, List.filter_append, List.map_append]
  by_cases e : o.ty = 2 <;> simp [e]
theorem prL_len (l : List Od) (i : Nat) : (prL (l.take i)).length ≤ i := by
  unfold prL
  rw [List.length_map]
  exact Nat.le_trans (List.length_filter_le _ _) (by rw [List.length_take]; omega)
theorem prL_mem {l : List Od} {c : Int} : c ∈ prL l ↔ ∃ v ∈ l.map wnC, v.m = false ∧ v.p = c := by
  unfold prL
  simp only [List.mem_map, List.mem_filter, decide_eq_true_eq]
  constructor
  · rintro ⟨o, ⟨h1, h2⟩, rfl⟩
    exact ⟨_, ⟨o, h1, rfl⟩, by simp [wnC, h2], by simp [wnC, h2]⟩
  · rintro ⟨v, ⟨o, h1, rfl⟩, h2, h3⟩
    have h4 : o.ty ≠ 2 := by simpa [wnC] using h2
    exact ⟨o, ⟨h1, h4⟩, by simpa [wnC, h4] using h3⟩
theorem prL_bd {l : List Od} (h : ∀ o ∈ l, cntB o = true) : ∀ c ∈ prL l, 1 ≤ c ∧ c ≤ 1000000000 := fun c hc => by
  unfold prL at hc
  simp only [List.mem_map, List.mem_filter, decide_eq_true_eq] at hc
  obtain ⟨o, ⟨h1, h2⟩, rfl⟩ := hc
  have := cnt_q (h o h1)
  omega
theorem Bst.bd {H : Int → Prop} {X Y F : Int → Int} {L : List Int} {i : Nat} {best high low : Int} {more less : Bool} (h : Bst H X Y F (L.take i) best high low more less) (hl : ∀ c ∈ L, 1 ≤ c ∧ c ≤ 1000000000) : 0 ≤ best ∧ best ≤ 1000000000 := by
  rcases h.at' with ⟨rfl, _⟩ | ⟨_, _, _, ⟨h1, _⟩, _⟩
  · omega
  · have := hl best ((List.take_prefix i L).subset h1)
    omega
theorem cnd_perm {B B' S S' : List Wn} {ref : Int} {C : List Int} (pb : B'.Perm B) (ps : S'.Perm S) (h : Cnd B S ref C) : Cnd B' S' ref C := ⟨h.asc, fun c => by
  rw [h.mem]
  exact ⟨fun k => k.imp id fun k => k.imp (fun ⟨v, a, b⟩ => ⟨v, pb.mem_iff.2 a, b⟩) fun ⟨v, a, b⟩ => ⟨v, ps.mem_iff.2 a, b⟩, fun k => k.imp id fun k => k.imp (fun ⟨v, a, b⟩ => ⟨v, pb.mem_iff.1 a, b⟩) fun ⟨v, a, b⟩ => ⟨v, ps.mem_iff.1 a, b⟩⟩⟩
/-- The candidates, as the reference gathers them. -/
def lstR (ref : Int) (b s : List Od) : List Int := (if 1 ≤ ref ∧ ref ≤ 1000000000 then [ref] else []) ++ prL b ++ prL s
theorem lstR_mem {ref : Int} {b s : List Od} {C : List Int} (h : Cnd (b.map wnC) (s.map wnC) (refN ref) C) (c : Int) : c ∈ lstR ref b s ↔ c ∈ C := by
  rw [h.mem]
  unfold lstR refN
  rw [List.mem_append, List.mem_append, prL_mem, prL_mem, or_assoc]
  refine or_congr ?_ Iff.rfl
  by_cases hr : 1 ≤ ref ∧ ref ≤ 1000000000
  · rw [if_pos hr, if_pos hr, List.mem_singleton]
    exact ⟨fun e => ⟨e, by omega⟩, fun e => e.1⟩
  · rw [if_neg hr, if_neg hr]
    exact ⟨fun e => by simp at e, fun e => absurd rfl e.2⟩
set_option maxRecDepth 100000 in
set_option maxHeartbeats 16000000 in
theorem refPrice_any {w : World} {b s : List Od} {a a' : Option Addr} {c c' : Nat} (hb : RowIn w 42 15 (.slice a b.length c) b.length (flatL (fun o => o.cs.toList) b)) (hbo : ∀ o ∈ b, OdT o) (hbl : b.length ≤ 977343669105) (hs : RowIn w 42 15 (.slice a' s.length c') s.length (flatL (fun o => o.cs.toList) s)) (hso : ∀ o ∈ s, OdT o) (hsl : s.length ≤ 977343669105) (ref : Int) :
    Calls Try.prog 18 #[.slice a b.length c, .slice a' s.length c', .int .i64 ref] w fun e w' => ∃ r : Rs, e = .returned (.agg r.cs) ∧ Hid (Below w.heap.size w w' ∧ ∀ B S C, B.Perm (wns b) → S.Perm (wns s) → Cnd B S (refN ref) C → r = resOf (refN ref) (ptsOf B S C)) := by
  obtain ⟨nb, hnb⟩ : ∃ nb, nb = b.length := ⟨_, rfl⟩
  obtain ⟨ns, hns⟩ : ∃ ns, ns = s.length := ⟨_, rfl⟩
  have HR : Hid ((RowIn w 42 15 (.slice a nb c) nb (flatL (fun o => o.cs.toList) b) ∧ (∀ o ∈ b, OdT o) ∧ nb = b.length ∧ nb ≤ 977343669105) ∧ RowIn w 42 15 (.slice a' ns c') ns (flatL (fun o => o.cs.toList) s) ∧ (∀ o ∈ s, OdT o) ∧ ns = s.length ∧ ns ≤ 977343669105) := ⟨⟨by rw [hnb]; exact hb, hbo, hnb, by omega⟩, by rw [hns]; exact hs, hso, hns, by omega⟩
  rw [← hnb, ← hns]
  clear hb hbo hbl hs hso hsl hnb hns
  obtain ⟨i0, hi0, hz0, hz1, hz2⟩ := info_parts infoI
  have HI : Hid (Try.prog.info? 2 = some i0 ∧ i0.zero = some (.int .i64 0) ∧ i0.size = 1 ∧ i0.bytes = 8) := ⟨hi0, hz0, hz1, hz2⟩
  clear hi0 hz0 hz1 hz2
  have HP0 : Hid (Below w.heap.size w (w.alloc (.cells #[.int .i64 0, .int .i64 0, .int .i64 0, .int .i64 0] 46)) ∧ Blk (w.alloc (.cells #[.int .i64 0, .int .i64 0, .int .i64 0, .int .i64 0] 46)) w.heap.size 46 #[.int .i64 0, .int .i64 0, .int .i64 0, .int .i64 0]) := ⟨(Below.refl _ w).alloc (Nat.le_refl _) _, Blk.new w _ _⟩
  obtain ⟨rf, hrf⟩ : ∃ rf, rf = refN ref := ⟨_, rfl⟩
  have HRF0 : Hid (rf = refN ref ∧ 0 ≤ rf ∧ rf ≤ 1000000000) := ⟨hrf, by rw [hrf]; exact refN_bd ref⟩
  rw [← hrf]
  clear hrf
  go_enter Try.func18, Try.ntmps18
  go_upto_region 0 with fail
  rename_i K hK
  refine wp_region_lit ?_
  refine wpList_runTo rfl (some 6) rfl (.pointer (some ⟨w.heap.size, 0, none⟩)) (w.alloc (.cells #[.int .i64 0, .int .i64 0, .int .i64 0, .int .i64 0] 46)) (by kernel_rfl) ?_
  simp only [Act.put, List.setIfInBounds_toArray, List.set_cons_zero, List.set_cons_succ]
  refine wpList_nil ?_
  refine hK _ _ ?_
  clear hK
  obtain ⟨w1, hw1⟩ : ∃ w1, w1 = w.alloc (.cells #[.int .i64 0, .int .i64 0, .int .i64 0, .int .i64 0] 46) := ⟨_, rfl⟩
  obtain ⟨b6, hb6⟩ : ∃ b6, b6 = w.heap.size := ⟨_, rfl⟩
  have HP : Hid (Below w.heap.size w w1 ∧ Blk w1 b6 46 #[.int .i64 0, .int .i64 0, .int .i64 0, .int .i64 0] ∧ w.heap.size ≤ b6) := by rw [hw1, hb6]; exact ⟨HP0.out.1, HP0.out.2, Nat.le_refl _⟩
  rw [← hw1, ← hb6]
  clear hw1 hb6 HP0
  have h1 := refCounted_any (w := w1) (l := b) (a := a) (c := c) (by have := HR.out.1.1.fr (Fr.of_below HP.out.1 (fun _ => False)) fun _ _ => id; rw [HR.out.1.2.2.1] at this; exact this) HR.out.1.2.1 (by have := HR.out.1.2.2; omega)
  rw [← HR.out.1.2.2.1] at h1
  go_upto_region 1 with fail
  rename_i K hK
  refine wp_region_lit ?_
  refine wpList_runTo rfl (some 32) rfl (.slice a nb c) w1 (by kernel_rfl) ?_
  simp only [Act.put, List.setIfInBounds_toArray, List.set_cons_zero, List.set_cons_succ]
  refine wpList_callW rfl (some 33) rfl 37 #[.slice a nb c] (by kernel_rfl) h1 ?_
  clear h1
  rintro e w2 ⟨v1, rfl, H1⟩
  refine ⟨_, rfl, ?_⟩
  simp only [Act.put, List.setIfInBounds_toArray, List.set_cons_zero, List.set_cons_succ]
  refine wpList_runTo rfl (some 7) rfl (v1) w2 (by kernel_rfl) ?_
  simp only [Act.put, List.setIfInBounds_toArray, List.set_cons_zero, List.set_cons_succ]
  refine wpList_nil ?_
  refine hK _ _ ?_
  clear hK
  have h2 := refCounted_any (w := w2) (l := s) (a := a') (c := c') (by have := HR.out.2.1.fr (Fr.of_below (below_step HP.out.1 H1.out.bel) (fun _ => False)) fun _ _ => id; rw [HR.out.2.2.2.1] at this; exact this) HR.out.2.2.1 (by have := HR.out.2.2.2; omega)
  rw [← HR.out.2.2.2.1] at h2
  go_upto_region 2 with fail
  rename_i K hK
  refine wp_region_lit ?_
  refine wpList_runTo rfl (some 34) rfl (.slice a' ns c') w2 (by kernel_rfl) ?_
  simp only [Act.put, List.setIfInBounds_toArray, List.set_cons_zero, List.set_cons_succ]
  refine wpList_callW rfl (some 35) rfl 37 #[.slice a' ns c'] (by kernel_rfl) h2 ?_
  clear h2
  rintro e W0 ⟨v2, rfl, H2⟩
  refine ⟨_, rfl, ?_⟩
  simp only [Act.put, List.setIfInBounds_toArray, List.set_cons_zero, List.set_cons_succ]
  refine wpList_runTo rfl (some 8) rfl (v2) W0 (by kernel_rfl) ?_
  simp only [Act.put, List.setIfInBounds_toArray, List.set_cons_zero, List.set_cons_succ]
  refine wpList_nil ?_
  refine hK _ _ ?_
  clear hK
  obtain ⟨a1, c1, ev1, _⟩ := H1.out.row.form
  obtain ⟨a2, c2, ev2, _⟩ := H2.out.row.form
  subst ev1 ev2
  obtain ⟨Bf, hBf⟩ : ∃ Bf, Bf = b.filter cntB := ⟨_, rfl⟩
  obtain ⟨Sf, hSf⟩ : ∃ Sf, Sf = s.filter cntB := ⟨_, rfl⟩
  obtain ⟨n1, hn1⟩ : ∃ n1, n1 = Bf.length := ⟨_, rfl⟩
  obtain ⟨n2, hn2⟩ : ∃ n2, n2 = Sf.length := ⟨_, rfl⟩
  rw [← hBf, ← hSf, ← hn1, ← hn2]
  have HBS : Hid ((Below w.heap.size w W0 ∧ Blk W0 b6 46 #[.int .i64 0, .int .i64 0, .int .i64 0, .int .i64 0] ∧ w.heap.size ≤ b6) ∧ (RowAt W0 42 15 (.slice a1 n1 c1) n1 (flatL (fun o => o.cs.toList) Bf) ∧ (∀ o ∈ Bf, o.ok) ∧ (∀ o ∈ Bf, cntB o = true) ∧ n1 = Bf.length ∧ n1 ≤ 977343669105) ∧ (RowAt W0 42 15 (.slice a2 n2 c2) n2 (flatL (fun o => o.cs.toList) Sf) ∧ (∀ o ∈ Sf, o.ok) ∧ (∀ o ∈ Sf, cntB o = true) ∧ n2 = Sf.length ∧ n2 ≤ 977343669105) ∧ wns b = Bf.map wnC ∧ wns s = Sf.map wnC) := by
    have hx : Below w1.heap.size w1 W0 := below_step H1.out.bel H2.out.bel
    have l1 := List.length_filter_le cntB b
    have l2 := List.length_filter_le cntB s
    have r1 := H1.out.row.fr (Fr.of_below H2.out.bel (fun _ => False)) fun _ _ => id
    have r2 := H2.out.row
    rw [← hBf, ← hn1] at r1
    rw [← hSf, ← hn2] at r2
    refine ⟨⟨below_step HP.out.1 hx, HP.out.2.1.below hx HP.out.2.1.lt, HP.out.2.2⟩, ⟨r1, fun o ho => ?_, fun o ho => ?_, hn1, ?_⟩, ⟨r2, fun o ho => ?_, fun o ho => ?_, hn2, ?_⟩, by rw [wns_cnt, hBf], by rw [wns_cnt, hSf]⟩
    · rw [hBf] at ho
      exact (HR.out.1.2.1 o (List.mem_filter.1 ho).1).ok
    · rw [hBf] at ho
      exact (List.mem_filter.1 ho).2
    · have := HR.out.1.2.2
      rw [hn1, hBf]; omega
    · rw [hSf] at ho
      exact (HR.out.2.2.1 o (List.mem_filter.1 ho).1).ok
    · rw [hSf] at ho
      exact (List.mem_filter.1 ho).2
    · have := HR.out.2.2.2
      rw [hn2, hSf]; omega
  clear H1 H2 HP HR hBf hSf hn1 hn2
  have hb1 := HBS.out.2.1.2.2.2.2
  have hb2 := HBS.out.2.2.1.2.2.2.2
  have hip := refIsPrice_any W0 ref
  obtain ⟨pb, hpb⟩ : ∃ pb, pb = decide (1 ≤ ref ∧ ref ≤ 1000000000) := ⟨_, rfl⟩
  rw [← hpb] at hip
  have HRF : Hid (rf = refN ref ∧ pb = decide (1 ≤ ref ∧ ref ≤ 1000000000)) := ⟨HRF0.out.1, hpb⟩
  have hrfb := HRF0.out.2
  obtain ⟨L0, hL0⟩ : ∃ L0 : List Int, L0 = if 1 ≤ ref ∧ ref ≤ 1000000000 then [ref] else [] := ⟨_, rfl⟩
  have HL0 : Hid (L0 = (if 1 ≤ ref ∧ ref ≤ 1000000000 then [ref] else []) ∧ L0.length ≤ 1 ∧ ∀ c ∈ L0, 1 ≤ c ∧ c ≤ 1000000000) := ⟨hL0, by rw [hL0]; split <;> simp, fun c hc => by
    rw [hL0] at hc
    split at hc
    · rw [List.mem_singleton.1 hc]; assumption
    · simp at hc⟩
  clear hpb hL0 HRF0
  go_upto_region 4 with fail
  rename_i K hK
  refine wp_region_lit ?_
  refine wpList_runTo rfl (some 36) rfl (.int .i64 ref) W0 (by kernel_rfl) ?_
  simp only [Act.put, List.setIfInBounds_toArray, List.set_cons_zero, List.set_cons_succ]
  refine wpList_callW rfl (some 37) rfl 38 #[.int .i64 ref] (by kernel_rfl) hip ?_
  clear hip
  rintro e w' ⟨rfl, ew⟩
  replace ew := ew.symm
  subst ew
  refine ⟨_, rfl, ?_⟩
  simp only [Act.put, List.setIfInBounds_toArray, List.set_cons_zero, List.set_cons_succ]
  refine wpList_runTo rfl (some 10) rfl (.bool pb) W0 (by kernel_rfl) ?_
  simp only [Act.put, List.setIfInBounds_toArray, List.set_cons_zero, List.set_cons_succ]
  refine wpList_nil ?_
  refine hK _ _ ?_
  clear hK
  go_upto_region 5 with fail
  rename_i K hK
  refine wp_region_lit ?_
  refine wpList_runTo rfl (some 38) rfl (.bool pb) W0 (by kernel_rfl) ?_
  simp only [Act.put, List.setIfInBounds_toArray, List.set_cons_zero, List.set_cons_succ]
  refine wpList_nil ?_
  refine hK _ _ ?_
  clear hK
  go_upto_if 38 with fail
  go_cut [2, 9] (fun x2 x9 wx => x2 = .int .i64 rf ∧ ∃ v, v = x9 ∧ Hid (OI W0 wx v L0))
  case first => as_aux_lemma =>
    cases pb with
    | true =>
      have hr := of_decide_eq_true HRF.out.2.symm
      have e : rf = ref := by
        rw [HRF.out.1]
        unfold refN
        rw [if_pos hr]
      have eL : L0 = [ref] := by rw [HL0.out.1, if_pos hr]
      obtain ⟨v, hv⟩ : ∃ v : Value, v = .slice none 0 0 := ⟨_, rfl⟩
      have HO : Hid (OI W0 W0 v []) := by
        show OI W0 W0 v []
        rw [hv]
        exact ⟨RowAt.none0 _ _ _, Below.refl _ _, fun q hq => by cases hq⟩
      rw [← hv]
      clear hv
      have hone : ([] : List Int).length ≤ 1 := by decide
      go_upto_region 6 with fail
      refine wp_region_lit ?_
      refine wpList_runTo rfl (some 39) rfl (v) W0 (by kernel_rfl) ?_
      simp only [Act.put, List.setIfInBounds_toArray, List.set_cons_zero, List.set_cons_succ]
      refine wpList_runTo rfl (some 40) rfl (.int .i64 ref) W0 (by kernel_rfl) ?_
      simp only [Act.put, List.setIfInBounds_toArray, List.set_cons_zero, List.set_cons_succ]
      refine wpList_runTo rfl (some 41) rfl (.slice (some ⟨W0.heap.size, 0, none⟩) 1 1) (W0.alloc (.cells #[.int .i64 ref] 2)) (by exact buildI_run (.tmp 40) rfl (by kernel_rfl) _) ?_
      simp only [Act.put, List.setIfInBounds_toArray, List.set_cons_zero, List.set_cons_succ]
      have hrA : RowAt (W0.alloc (.cells #[.int .i64 ref] 2)) 2 1 v (([] : List Int)).length ((([] : List Int)).map eI) := HO.out.row.fr (Fr.alloc W0 _ (fun _ => False)) fun _ _ => id
      refine wpList_append_row _ rfl (.tmp 39) (.tmp 41) 73 rfl 2 i0 _ 1 8 Try.underlying73 HI.out.1 HI.out.2.1 HI.out.2.2.1 HI.out.2.2.2 (by rfl) v (([] : List Int)).length ((([] : List Int)).map eI) (by kernel_rfl) hrA ⟨W0.heap.size, 0, none⟩ 1 1 [eI ref] (by kernel_rfl) (by rfl) (fun j u hj => by rw [Addr.add_mid, Nat.zero_add, (Blk.new W0 2 #[.int .i64 ref]).cell]; simpa [eI] using hj) (fun u hu => by rw [List.mem_singleton.1 hu]; rfl) (Or.inl (by omega)) (by have := hone; unfold maxLen; omega) (by have := hone; omega) ?_
      intro v5 w5 hrow hfr hnew
      have HX : Hid (OI W0 w5 v5 (L0)) := by
        show OI W0 w5 v5 (L0)
        rw [eL]
        exact (HO.out.below ((Below.refl _ W0).alloc (Nat.le_refl _) _)).app hrow hfr hnew
      clear hrow hfr hnew hrA
      simp only [Act.put, List.setIfInBounds_toArray, List.set_cons_zero, List.set_cons_succ]
      refine wpList_runTo rfl (some 9) rfl (v5) w5 (by kernel_rfl) ?_
      simp only [Act.put, List.setIfInBounds_toArray, List.set_cons_zero, List.set_cons_succ]
      refine wpList_nil ?_
      go_wp2_with fail
      go_meet
      exact ⟨by rw [e], _, rfl, HX.out⟩
    | false =>
      have hr := of_decide_eq_false HRF.out.2.symm
      have e : rf = 0 := by
        rw [HRF.out.1]
        unfold refN
        rw [if_neg hr]
      have eL : L0 = [] := by rw [HL0.out.1, if_neg hr]
      have HX : Hid (OI W0 W0 (.slice none 0 0) L0) := by
        show OI W0 W0 _ L0
        rw [eL]
        exact ⟨RowAt.none0 _ _ _, Below.refl _ _, fun q hq => by cases hq⟩
      go_wp2_with fail
      go_meet
      exact ⟨by rw [e], _, rfl, HX.out⟩
  case rest => as_aux_lemma =>
    obtain ⟨rfl, v0, rfl, HO0⟩ := hcut
    have HRf : Hid (rf = refN ref) := HRF.out.1
    clear HRF
    go_upto_region 9 with fail
    go_loopw [9, 11] (fun x9 x11 wr => ∃ (i : Nat) (v : Value), i ≤ n1 ∧ v = x9 ∧ x11 = .int .i64 (i : Int) ∧ Hid (OI W0 wr v (L0 ++ prL (Bf.take i)))) (fun _ x11 _ => n1 - (RowKit.intOf x11).toNat)
    case atStart => exact ⟨0, _, Nat.zero_le _, rfl, rfl, by
      show OI W0 _ _ _
      rw [show L0 ++ prL (Bf.take 0) = L0 by simp [prL]]
      exact HO0.out⟩
    case round => as_aux_lemma =>
      obtain ⟨i, v, hi, rfl, rfl, HO⟩ := hrel
      generalize wr = W at *
      clear HO0
      by_cases hlt : i < n1
      · have hlt' : (i : Int) < (n1 : Int) := by omega
        obtain ⟨o, ho⟩ : ∃ o, Bf[i]? = some o := ⟨_, List.getElem?_eq_getElem (by rw [← HBS.out.2.1.2.2.2.1]; exact hlt)⟩
        have hrow := HBS.out.2.1.1.fr (Fr.of_below HO.out.bel (fun _ => False)) fun _ _ => id
        obtain ⟨g, of, cx, cur, ea, _⟩ := hrow.more (by omega)
        injection ea with ea1 _ ea2
        subst ea1 ea2
        have hok := HBS.out.2.1.2.1 o (List.mem_of_getElem? ho)
        have q5 := od_cell hrow HBS.out.2.1.2.1 ho (j := 5) (by decide) hok.c5
        have q7 := od_cell hrow HBS.out.2.1.2.1 ho (j := 7) (by decide) hok.c7
        have htk := prL_take ho
        have hln := prL_len Bf i
        have hL0l := HL0.out.2.1
        clear ho hrow hok
        generalize o.ty = ty at *
        generalize o.pr = pr at *
        by_cases hty : ty = 2
        · have e1 : (ty != 2) = false := by simp [hty]
          have HX : Hid (OI W0 W v (L0 ++ prL (Bf.take (i + 1)))) := by
            show OI W0 W v _
            rw [htk, if_pos hty, List.append_nil]
            exact HO.out
          clear HO htk hty
          go_wp2
          exact ⟨⟨i + 1, _, by omega, rfl, by go_num, HX.out⟩, by simp [RowKit.intOf]; omega⟩
        · have e1 : (ty != 2) = true := by simp [hty]
          have hll : (L0 ++ prL (Bf.take i)).length ≤ 1954687338211 := by
            rw [List.length_append]
            skip
            omega
          go_upto_region 12 with fail
          refine wp_region_lit ?_
          refine wpList_runTo rfl (some 55) rfl (v) W (by kernel_rfl) ?_
          simp only [Act.put, List.setIfInBounds_toArray, List.set_cons_zero, List.set_cons_succ]
          refine wpList_runTo rfl (some 56) rfl (.slice (some ⟨g, of, none⟩) n1 c1) W (by kernel_rfl) ?_
          simp only [Act.put, List.setIfInBounds_toArray, List.set_cons_zero, List.set_cons_succ]
          refine wpList_runTo rfl (some 57) rfl (.int .i64 (i : Int)) W (by kernel_rfl) ?_
          simp only [Act.put, List.setIfInBounds_toArray, List.set_cons_zero, List.set_cons_succ]
          refine wpList_runTo rfl (some 58) rfl (.pointer (some ⟨g, of + i * 15, none⟩)) W (by exact ixOr_run (n := n1) (c := c1) (.tmp 56) (.tmp 57) rfl (by kernel_rfl) (by kernel_rfl) hlt _) ?_
          simp only [Act.put, List.setIfInBounds_toArray, List.set_cons_zero, List.set_cons_succ]
          refine wpList_runTo rfl (some 59) rfl (.pointer (some ⟨g, of + i * 15 + 7, none⟩)) W (by kernel_rfl) ?_
          simp only [Act.put, List.setIfInBounds_toArray, List.set_cons_zero, List.set_cons_succ]
          refine wpList_runTo rfl (some 60) rfl (.int .i64 pr) W (by exact ldN_run (.inl rfl) (.tmp 59) rfl (by kernel_rfl) q7) ?_
          simp only [Act.put, List.setIfInBounds_toArray, List.set_cons_zero, List.set_cons_succ]
          refine wpList_runTo rfl (some 61) rfl (.slice (some ⟨W.heap.size, 0, none⟩) 1 1) (W.alloc (.cells #[.int .i64 pr] 2)) (by exact buildI_run (.tmp 60) rfl (by kernel_rfl) _) ?_
          simp only [Act.put, List.setIfInBounds_toArray, List.set_cons_zero, List.set_cons_succ]
          have hrA : RowAt (W.alloc (.cells #[.int .i64 pr] 2)) 2 1 v (L0 ++ prL (Bf.take i)).length ((L0 ++ prL (Bf.take i)).map eI) := HO.out.row.fr (Fr.alloc W _ (fun _ => False)) fun _ _ => id
          refine wpList_append_row _ rfl (.tmp 55) (.tmp 61) 73 rfl 2 i0 _ 1 8 Try.underlying73 HI.out.1 HI.out.2.1 HI.out.2.2.1 HI.out.2.2.2 (by rfl) v (L0 ++ prL (Bf.take i)).length ((L0 ++ prL (Bf.take i)).map eI) (by kernel_rfl) hrA ⟨W.heap.size, 0, none⟩ 1 1 [eI pr] (by kernel_rfl) (by rfl) (fun j u hj => by rw [Addr.add_mid, Nat.zero_add, (Blk.new W 2 #[.int .i64 pr]).cell]; simpa [eI] using hj) (fun u hu => by rw [List.mem_singleton.1 hu]; rfl) (Or.inl (by omega)) (by have := hll; unfold maxLen; omega) (by have := hll; omega) ?_
          intro v5 w5 hrow hfr hnew
          have HX : Hid (OI W0 w5 v5 (L0 ++ prL (Bf.take (i + 1)))) := by
            show OI W0 w5 v5 (L0 ++ prL (Bf.take (i + 1)))
            rw [htk, if_neg hty, ← List.append_assoc]
            exact (HO.out.below ((Below.refl _ W).alloc (Nat.le_refl _) _)).app hrow hfr hnew
          clear hrow hfr hnew hrA
          simp only [Act.put, List.setIfInBounds_toArray, List.set_cons_zero, List.set_cons_succ]
          refine wpList_runTo rfl (some 9) rfl (v5) w5 (by kernel_rfl) ?_
          simp only [Act.put, List.setIfInBounds_toArray, List.set_cons_zero, List.set_cons_succ]
          refine wpList_nil ?_
          clear HO htk hty q5 q7
          go_wp2
          exact ⟨⟨i + 1, _, by omega, rfl, by go_num, HX.out⟩, by simp [RowKit.intOf]; omega⟩
      · have hin : n1 = i := by omega
        subst hin
        have hlt' : ¬ (n1 : Int) < (n1 : Int) := by omega
        obtain ⟨LA, hLA⟩ : ∃ x, x = L0 ++ prL Bf := ⟨_, rfl⟩
        have HO1 : Hid (OI W0 W v LA) := by
          show OI W0 W v LA
          have h := HO.out
          rw [show Bf.take n1 = Bf from List.take_of_length_le (by have := HBS.out.2.1.2.2.2.1; omega), ← hLA] at h
          exact h
        have HLA : Hid (LA = L0 ++ prL Bf) := hLA
        clear HO hLA
        generalize v = v0 at *
        generalize W = W1 at *
        go_upto_region 14 with fail
        go_loopw [9, 12] (fun x9 x12 wr => ∃ (i : Nat) (v : Value), i ≤ n2 ∧ v = x9 ∧ x12 = .int .i64 (i : Int) ∧ Hid (OI W0 wr v (LA ++ prL (Sf.take i)))) (fun _ x12 _ => n2 - (RowKit.intOf x12).toNat)
        case atStart => exact ⟨0, _, Nat.zero_le _, rfl, rfl, by
          show OI W0 _ _ _
          rw [show LA ++ prL (Sf.take 0) = LA by simp [prL]]
          exact HO1.out⟩
        case round => as_aux_lemma =>
          obtain ⟨i, v, hi, rfl, rfl, HO⟩ := hrel
          generalize wr = W at *
          clear HO1
          by_cases hlt : i < n2
          · have hlt' : (i : Int) < (n2 : Int) := by omega
            obtain ⟨o, ho⟩ : ∃ o, Sf[i]? = some o := ⟨_, List.getElem?_eq_getElem (by rw [← HBS.out.2.2.1.2.2.2.1]; exact hlt)⟩
            have hrow := HBS.out.2.2.1.1.fr (Fr.of_below HO.out.bel (fun _ => False)) fun _ _ => id
            obtain ⟨g, of, cx, cur, ea, _⟩ := hrow.more (by omega)
            injection ea with ea1 _ ea2
            subst ea1 ea2
            have hok := HBS.out.2.2.1.2.1 o (List.mem_of_getElem? ho)
            have q5 := od_cell hrow HBS.out.2.2.1.2.1 ho (j := 5) (by decide) hok.c5
            have q7 := od_cell hrow HBS.out.2.2.1.2.1 ho (j := 7) (by decide) hok.c7
            have htk := prL_take ho
            have hln := prL_len Sf i
            have hL0l := HL0.out.2.1
            clear ho hrow hok
            generalize o.ty = ty at *
            generalize o.pr = pr at *
            by_cases hty : ty = 2
            · have e1 : (ty != 2) = false := by simp [hty]
              have HX : Hid (OI W0 W v (LA ++ prL (Sf.take (i + 1)))) := by
                show OI W0 W v _
                rw [htk, if_pos hty, List.append_nil]
                exact HO.out
              clear HO htk hty
              go_wp2
              exact ⟨⟨i + 1, _, by omega, rfl, by go_num, HX.out⟩, by simp [RowKit.intOf]; omega⟩
            · have e1 : (ty != 2) = true := by simp [hty]
              have hll : (LA ++ prL (Sf.take i)).length ≤ 1954687338211 := by
                rw [List.length_append]
                have hLA : LA.length ≤ 977343669106 := by
                  have h9 := prL_len Bf n1
                  rw [show Bf.take n1 = Bf from List.take_of_length_le (by have := HBS.out.2.1.2.2.2.1; omega)] at h9
                  rw [HLA.out, List.length_append]
                  omega
                omega
              go_upto_region 17 with fail
              refine wp_region_lit ?_
              refine wpList_runTo rfl (some 75) rfl (v) W (by kernel_rfl) ?_
              simp only [Act.put, List.setIfInBounds_toArray, List.set_cons_zero, List.set_cons_succ]
              refine wpList_runTo rfl (some 76) rfl (.slice (some ⟨g, of, none⟩) n2 c2) W (by kernel_rfl) ?_
              simp only [Act.put, List.setIfInBounds_toArray, List.set_cons_zero, List.set_cons_succ]
              refine wpList_runTo rfl (some 77) rfl (.int .i64 (i : Int)) W (by kernel_rfl) ?_
              simp only [Act.put, List.setIfInBounds_toArray, List.set_cons_zero, List.set_cons_succ]
              refine wpList_runTo rfl (some 78) rfl (.pointer (some ⟨g, of + i * 15, none⟩)) W (by exact ixOr_run (n := n2) (c := c2) (.tmp 76) (.tmp 77) rfl (by kernel_rfl) (by kernel_rfl) hlt _) ?_
              simp only [Act.put, List.setIfInBounds_toArray, List.set_cons_zero, List.set_cons_succ]
              refine wpList_runTo rfl (some 79) rfl (.pointer (some ⟨g, of + i * 15 + 7, none⟩)) W (by kernel_rfl) ?_
              simp only [Act.put, List.setIfInBounds_toArray, List.set_cons_zero, List.set_cons_succ]
              refine wpList_runTo rfl (some 80) rfl (.int .i64 pr) W (by exact ldN_run (.inl rfl) (.tmp 79) rfl (by kernel_rfl) q7) ?_
              simp only [Act.put, List.setIfInBounds_toArray, List.set_cons_zero, List.set_cons_succ]
              refine wpList_runTo rfl (some 81) rfl (.slice (some ⟨W.heap.size, 0, none⟩) 1 1) (W.alloc (.cells #[.int .i64 pr] 2)) (by exact buildI_run (.tmp 80) rfl (by kernel_rfl) _) ?_
              simp only [Act.put, List.setIfInBounds_toArray, List.set_cons_zero, List.set_cons_succ]
              have hrA : RowAt (W.alloc (.cells #[.int .i64 pr] 2)) 2 1 v (LA ++ prL (Sf.take i)).length ((LA ++ prL (Sf.take i)).map eI) := HO.out.row.fr (Fr.alloc W _ (fun _ => False)) fun _ _ => id
              refine wpList_append_row _ rfl (.tmp 75) (.tmp 81) 73 rfl 2 i0 _ 1 8 Try.underlying73 HI.out.1 HI.out.2.1 HI.out.2.2.1 HI.out.2.2.2 (by rfl) v (LA ++ prL (Sf.take i)).length ((LA ++ prL (Sf.take i)).map eI) (by kernel_rfl) hrA ⟨W.heap.size, 0, none⟩ 1 1 [eI pr] (by kernel_rfl) (by rfl) (fun j u hj => by rw [Addr.add_mid, Nat.zero_add, (Blk.new W 2 #[.int .i64 pr]).cell]; simpa [eI] using hj) (fun u hu => by rw [List.mem_singleton.1 hu]; rfl) (Or.inl (by omega)) (by have := hll; unfold maxLen; omega) (by have := hll; omega) ?_
              intro v5 w5 hrow hfr hnew
              have HX : Hid (OI W0 w5 v5 (LA ++ prL (Sf.take (i + 1)))) := by
                show OI W0 w5 v5 (LA ++ prL (Sf.take (i + 1)))
                rw [htk, if_neg hty, ← List.append_assoc]
                exact (HO.out.below ((Below.refl _ W).alloc (Nat.le_refl _) _)).app hrow hfr hnew
              clear hrow hfr hnew hrA
              simp only [Act.put, List.setIfInBounds_toArray, List.set_cons_zero, List.set_cons_succ]
              refine wpList_runTo rfl (some 9) rfl (v5) w5 (by kernel_rfl) ?_
              simp only [Act.put, List.setIfInBounds_toArray, List.set_cons_zero, List.set_cons_succ]
              refine wpList_nil ?_
              clear HO htk hty q5 q7
              go_wp2
              exact ⟨⟨i + 1, _, by omega, rfl, by go_num, HX.out⟩, by simp [RowKit.intOf]; omega⟩
          · have hin : n2 = i := by omega
            subst hin
            have hlt' : ¬ (n2 : Int) < (n2 : Int) := by omega
            obtain ⟨L, hL⟩ : ∃ x, x = LA ++ prL Sf := ⟨_, rfl⟩
            have HO1 : Hid (OI W0 W v L) := by
              show OI W0 W v L
              have h := HO.out
              rw [show Sf.take n2 = Sf from List.take_of_length_le (by have := HBS.out.2.2.1.2.2.2.1; omega), ← hL] at h
              exact h
            have HL : Hid (L = LA ++ prL Sf) := hL
            clear HO hL
            generalize v = v0 at *
            generalize W = W1 at *
            obtain ⟨al, cl, ev, _⟩ := HO1.out.row.form
            subst ev
            obtain ⟨nl, hnl⟩ : ∃ nl, nl = L.length := ⟨_, rfl⟩
            rw [← hnl]
            have HLm : Hid (L = lstR ref Bf Sf) := by
              show L = _
              rw [HL.out, HLA.out, HL0.out.1]
              rfl
            have HLL : Hid (RowAt W1 2 1 (.slice al nl cl) nl (L.map eI) ∧ nl = L.length ∧ nl ≤ 2000000000000 ∧ ∀ c ∈ L, 1 ≤ c ∧ c ≤ 1000000000) := by
              have h8 := prL_len Sf n2
              rw [show Sf.take n2 = Sf from List.take_of_length_le (by have := HBS.out.2.2.1.2.2.2.1; omega)] at h8
              have h9 := prL_len Bf n1
              rw [show Bf.take n1 = Bf from List.take_of_length_le (by have := HBS.out.2.1.2.2.2.1; omega)] at h9
              have h7 := HL0.out.2.1
              refine ⟨by rw [hnl]; exact HO1.out.row, hnl, by rw [hnl, HL.out, HLA.out, List.length_append, List.length_append]; omega, fun c hc => ?_⟩
              rw [HL.out, HLA.out] at hc
              rcases List.mem_append.1 hc with hc | hc
              · rcases List.mem_append.1 hc with hc | hc
                · exact HL0.out.2.2 c hc
                · exact prL_bd HBS.out.2.1.2.2.1 c hc
              · exact prL_bd HBS.out.2.2.1.2.2.1 c hc
            have HWW : Hid ((Below w.heap.size w W1 ∧ Blk W1 b6 46 #[.int .i64 0, .int .i64 0, .int .i64 0, .int .i64 0] ∧ w.heap.size ≤ b6)) := ⟨below_step HBS.out.1.1 HO1.out.bel, HBS.out.1.2.1.below HO1.out.bel HBS.out.1.2.1.lt, HBS.out.1.2.2⟩
            obtain ⟨X, hX⟩ : ∃ X : Int → Int, X = bo (Bf.map wnC) := ⟨_, rfl⟩
            obtain ⟨Y, hY⟩ : ∃ Y : Int → Int, Y = so (Sf.map wnC) := ⟨_, rfl⟩
            obtain ⟨TR, hTR⟩ : ∃ T : Int → Int, T = tr (Bf.map wnC) (Sf.map wnC) := ⟨_, rfl⟩
            obtain ⟨OV, hOV⟩ : ∃ O : Int → Int, O = fun c => (⟨c, bo (Bf.map wnC) c, so (Sf.map wnC) c⟩ : Pt).ov := ⟨_, rfl⟩
            have HDEF : Hid (X = bo (Bf.map wnC) ∧ Y = so (Sf.map wnC) ∧ TR = tr (Bf.map wnC) (Sf.map wnC) ∧ OV = fun c => (⟨c, bo (Bf.map wnC) c, so (Sf.map wnC) c⟩ : Pt).ov) := ⟨hX, hY, hTR, hOV⟩
            have HB : Hid ((∀ c, (0 ≤ X c ∧ X c ≤ 2000000000000000000) ∧ 0 ≤ Y c ∧ Y c ≤ 2000000000000000000) ∧ (∀ c, (if X c < Y c then X c else Y c) = TR c) ∧ ∀ c, (if X c < Y c then Y c - X c else X c - Y c) = OV c) := by
              refine ⟨fun c => ?_, fun c => ?_, fun c => ?_⟩
              · rw [hX, hY]
                have k1 := sumC_bt (f := atB c) Bf.length HBS.out.2.1.2.2.1 (by have := HBS.out.2.1.2.2.2; omega)
                have k2 := sumC_bt (f := atS c) Sf.length HBS.out.2.2.1.2.2.1 (by have := HBS.out.2.2.1.2.2.2; omega)
                rw [List.take_length] at k1 k2
                exact ⟨k1, k2⟩
              · rw [hX, hY, hTR]
                unfold tr
                split <;> split <;> omega
              · rw [hX, hY, hOV]
                show _ = (if bo (Bf.map wnC) c ≤ so (Sf.map wnC) c then so (Sf.map wnC) c else bo (Bf.map wnC) c) - (if bo (Bf.map wnC) c ≤ so (Sf.map wnC) c then bo (Bf.map wnC) c else so (Sf.map wnC) c)
                split <;> split <;> omega
            have HSU : Hid (∀ c : Int, Calls Try.prog 39 #[.slice a1 n1 c1, .slice a2 n2 c2, .int .i64 c] W1 fun e w' => e = .returned (.tuple #[.int .i64 (X c), .int .i64 (Y c)]) ∧ w' = W1) := fun c => by
              have r1 := HBS.out.2.1.1.fr (Fr.of_below HO1.out.bel (fun _ => False)) fun _ _ => id
              have r2 := HBS.out.2.2.1.1.fr (Fr.of_below HO1.out.bel (fun _ => False)) fun _ _ => id
              rw [HBS.out.2.1.2.2.2.1] at r1 ⊢
              rw [HBS.out.2.2.1.2.2.2.1] at r2 ⊢
              rw [hX, hY]
              exact refSums_any r1 HBS.out.2.1.2.1 HBS.out.2.1.2.2.1 (by have := HBS.out.2.1.2.2.2; omega) r2 HBS.out.2.2.1.2.1 HBS.out.2.2.1.2.2.1 (by have := HBS.out.2.2.1.2.2.2; omega) c
            have HEND : Hid (wns b = Bf.map wnC ∧ wns s = Sf.map wnC) := HBS.out.2.2.2
            have hnb := HLL.out.2.2.1
            clear HO1 HBS HL0 HLA HL hnl hX hY hTR hOV
            generalize W1 = W at *
            go_upto_region 20 with fail
            go_loopw [13, 14] (fun x13 x14 wr => ∃ (i : Nat) (m : Int), i ≤ nl ∧ x13 = .int .i64 m ∧ x14 = .int .i64 (i : Int) ∧ W = wr ∧ Hid (Mst TR (L.take i) m)) (fun _ x14 _ => nl - (RowKit.intOf x14).toNat)
            case atStart => exact ⟨0, 0, Nat.zero_le _, rfl, rfl, rfl, Mst.nil _⟩
            case round => as_aux_lemma =>
              obtain ⟨i, m, hi, rfl, rfl, hw, HM⟩ := hrel
              subst hw
              clear HI
              by_cases hlt : i < nl
              · have hlt' : (i : Int) < (nl : Int) := by omega
                obtain ⟨c, hc⟩ : ∃ c, L[i]? = some c := ⟨_, List.getElem?_eq_getElem (by rw [← HLL.out.2.1]; exact hlt)⟩
                obtain ⟨gl, ol, cx, cur, ea, _⟩ := HLL.out.1.more (by omega)
                injection ea with ea1 _ ea2
                subst ea1 ea2
                have qc : W.cell? ⟨gl, ol + i, none⟩ = some (.int .i64 c) := HLL.out.1.cell rfl (j := i) (u := eI c) (by rw [List.getElem?_map, hc]; rfl)
                have htk : L.take (i + 1) = L.take i ++ [c] := by rw [List.take_add_one, hc]; rfl
                have hXY := HB.out.1 c
                obtain ⟨T, hT⟩ : ∃ T, T = (if X c < Y c then X c else Y c) := ⟨_, rfl⟩
                have hTt : T = TR c := by rw [hT]; exact HB.out.2.1 c
                obtain ⟨O, hO⟩ : ∃ O, O = (if X c < Y c then Y c - X c else X c - Y c) := ⟨_, rfl⟩
                have hOo : O = OV c := by rw [hO]; exact HB.out.2.2 c
                have hTb : 0 ≤ T ∧ T ≤ 2000000000000000000 := by rw [hT]; split <;> omega
                have hOb : 0 ≤ O ∧ O ≤ 2000000000000000000 := by rw [hO]; split <;> omega
                have hle := refLesser_any W (X c) (Y c)
                rw [← hT] at hle
                have hfa := refFar_any W (X c) (Y c) (by omega) (by omega)
                rw [← hO] at hfa
                have hc1 := HLL.out.2.2.2 c (List.mem_of_getElem? hc)
                clear hT hO hc
                go_upto_region 22 with fail
                rename_i K hK
                refine wp_region_lit ?_
                refine wpList_runTo rfl (some 90) rfl (.slice a1 n1 c1) W (by kernel_rfl) ?_
                simp only [Act.put, List.setIfInBounds_toArray, List.set_cons_zero, List.set_cons_succ]
                refine wpList_runTo rfl (some 91) rfl (.slice a2 n2 c2) W (by kernel_rfl) ?_
                simp only [Act.put, List.setIfInBounds_toArray, List.set_cons_zero, List.set_cons_succ]
                refine wpList_runTo rfl (some 92) rfl (.slice (some ⟨gl, ol, none⟩) nl cl) W (by kernel_rfl) ?_
                simp only [Act.put, List.setIfInBounds_toArray, List.set_cons_zero, List.set_cons_succ]
                refine wpList_runTo rfl (some 93) rfl (.int .i64 (i : Int)) W (by kernel_rfl) ?_
                simp only [Act.put, List.setIfInBounds_toArray, List.set_cons_zero, List.set_cons_succ]
                refine wpList_runTo rfl (some 94) rfl (.pointer (some ⟨gl, ol + i, none⟩)) W (by exact ixI_run (n := nl) (c := cl) (.tmp 92) (.tmp 93) rfl (by kernel_rfl) (by kernel_rfl) hlt _) ?_
                simp only [Act.put, List.setIfInBounds_toArray, List.set_cons_zero, List.set_cons_succ]
                refine wpList_runTo rfl (some 95) rfl (.int .i64 c) W (by exact ldN_run (.inl rfl) (.tmp 94) rfl (by kernel_rfl) qc) ?_
                simp only [Act.put, List.setIfInBounds_toArray, List.set_cons_zero, List.set_cons_succ]
                refine wpList_callW rfl (some 96) rfl 39 #[.slice a1 n1 c1, .slice a2 n2 c2, .int .i64 c] (by kernel_rfl) (HSU.out c) ?_
                rintro e w' ⟨rfl, ew⟩
                replace ew := ew.symm
                subst ew
                refine ⟨_, rfl, ?_⟩
                simp only [Act.put, List.setIfInBounds_toArray, List.set_cons_zero, List.set_cons_succ]
                refine wpList_runTo rfl (some 89) rfl (.tuple #[.int .i64 (X c), .int .i64 (Y c)]) W (by kernel_rfl) ?_
                simp only [Act.put, List.setIfInBounds_toArray, List.set_cons_zero, List.set_cons_succ]
                refine wpList_runTo rfl (some 97) rfl (.int .i64 (X c)) W (by kernel_rfl) ?_
                simp only [Act.put, List.setIfInBounds_toArray, List.set_cons_zero, List.set_cons_succ]
                refine wpList_runTo rfl (some 98) rfl (.int .i64 (Y c)) W (by kernel_rfl) ?_
                simp only [Act.put, List.setIfInBounds_toArray, List.set_cons_zero, List.set_cons_succ]
                refine wpList_runTo rfl (some 15) rfl (.int .i64 (X c)) W (by kernel_rfl) ?_
                simp only [Act.put, List.setIfInBounds_toArray, List.set_cons_zero, List.set_cons_succ]
                refine wpList_runTo rfl (some 16) rfl (.int .i64 (Y c)) W (by kernel_rfl) ?_
                simp only [Act.put, List.setIfInBounds_toArray, List.set_cons_zero, List.set_cons_succ]
                refine wpList_nil ?_
                refine hK _ _ ?_
                clear hK
                by_cases hm : m < T
                · have HN : Hid (Mst TR (L.take (i + 1)) T) := by
                    show Mst TR (L.take (i + 1)) T
                    rw [htk, hTt]
                    exact HM.out.yes (by rw [← hTt]; exact hm)
                  go_upto_region 23 with fail
                  rename_i K hK
                  refine wp_region_lit ?_
                  refine wpList_runTo rfl (some 99) rfl (.int .i64 (X c)) W (by kernel_rfl) ?_
                  simp only [Act.put, List.setIfInBounds_toArray, List.set_cons_zero, List.set_cons_succ]
                  refine wpList_runTo rfl (some 100) rfl (.int .i64 (Y c)) W (by kernel_rfl) ?_
                  simp only [Act.put, List.setIfInBounds_toArray, List.set_cons_zero, List.set_cons_succ]
                  refine wpList_callW rfl (some 101) rfl 40 #[.int .i64 (X c), .int .i64 (Y c)] (by kernel_rfl) hle ?_
                  rintro e w' ⟨rfl, ew⟩
                  replace ew := ew.symm
                  subst ew
                  refine ⟨_, rfl, ?_⟩
                  simp only [Act.put, List.setIfInBounds_toArray, List.set_cons_zero, List.set_cons_succ]
                  refine wpList_runTo rfl (some 102) rfl (.int .i64 m) W (by kernel_rfl) ?_
                  simp only [Act.put, List.setIfInBounds_toArray, List.set_cons_zero, List.set_cons_succ]
                  refine wpList_runTo rfl (some 103) rfl (.bool true) W (by exact gtV_run (.tmp 101) (.tmp 102) rfl (by kernel_rfl) (by kernel_rfl) (decide_eq_true hm) _) ?_
                  simp only [Act.put, List.setIfInBounds_toArray, List.set_cons_zero, List.set_cons_succ]
                  refine wpList_nil ?_
                  refine hK _ _ ?_
                  clear hK
                  go_upto_region 24 with fail
                  refine wp_region_lit ?_
                  refine wpList_runTo rfl (some 104) rfl (.int .i64 (X c)) W (by kernel_rfl) ?_
                  simp only [Act.put, List.setIfInBounds_toArray, List.set_cons_zero, List.set_cons_succ]
                  refine wpList_runTo rfl (some 105) rfl (.int .i64 (Y c)) W (by kernel_rfl) ?_
                  simp only [Act.put, List.setIfInBounds_toArray, List.set_cons_zero, List.set_cons_succ]
                  refine wpList_callW rfl (some 106) rfl 40 #[.int .i64 (X c), .int .i64 (Y c)] (by kernel_rfl) hle ?_
                  rintro e w' ⟨rfl, ew⟩
                  replace ew := ew.symm
                  subst ew
                  refine ⟨_, rfl, ?_⟩
                  simp only [Act.put, List.setIfInBounds_toArray, List.set_cons_zero, List.set_cons_succ]
                  refine wpList_runTo rfl (some 13) rfl (.int .i64 T) W (by kernel_rfl) ?_
                  simp only [Act.put, List.setIfInBounds_toArray, List.set_cons_zero, List.set_cons_succ]
                  refine wpList_nil ?_
                  clear hle hfa HM htk hTt hOo HB
                  go_wp2
                  exact ⟨⟨i + 1, _, by omega, rfl, by go_num, by first | rfl | trivial, HN.out⟩, by simp [RowKit.intOf]; omega⟩
                · have HN : Hid (Mst TR (L.take (i + 1)) m) := by
                    show Mst TR (L.take (i + 1)) m
                    rw [htk]
                    exact HM.out.no (by rw [← hTt]; exact hm)
                  go_upto_region 23 with fail
                  rename_i K hK
                  refine wp_region_lit ?_
                  refine wpList_runTo rfl (some 99) rfl (.int .i64 (X c)) W (by kernel_rfl) ?_
                  simp only [Act.put, List.setIfInBounds_toArray, List.set_cons_zero, List.set_cons_succ]
                  refine wpList_runTo rfl (some 100) rfl (.int .i64 (Y c)) W (by kernel_rfl) ?_
                  simp only [Act.put, List.setIfInBounds_toArray, List.set_cons_zero, List.set_cons_succ]
                  refine wpList_callW rfl (some 101) rfl 40 #[.int .i64 (X c), .int .i64 (Y c)] (by kernel_rfl) hle ?_
                  rintro e w' ⟨rfl, ew⟩
                  replace ew := ew.symm
                  subst ew
                  refine ⟨_, rfl, ?_⟩
                  simp only [Act.put, List.setIfInBounds_toArray, List.set_cons_zero, List.set_cons_succ]
                  refine wpList_runTo rfl (some 102) rfl (.int .i64 m) W (by kernel_rfl) ?_
                  simp only [Act.put, List.setIfInBounds_toArray, List.set_cons_zero, List.set_cons_succ]
                  refine wpList_runTo rfl (some 103) rfl (.bool false) W (by exact gtV_run (.tmp 101) (.tmp 102) rfl (by kernel_rfl) (by kernel_rfl) (decide_eq_false hm) _) ?_
                  simp only [Act.put, List.setIfInBounds_toArray, List.set_cons_zero, List.set_cons_succ]
                  refine wpList_nil ?_
                  refine hK _ _ ?_
                  clear hK
                  clear hle hfa HM htk hTt hOo HB
                  go_wp2
                  exact ⟨⟨i + 1, _, by omega, rfl, by go_num, by first | rfl | trivial, HN.out⟩, by simp [RowKit.intOf]; omega⟩
              · have hin : nl = i := by omega
                subst hin
                have hlt' : ¬ (nl : Int) < (nl : Int) := by omega
                have htl : L.take nl = L := List.take_of_length_le (by have := HLL.out.2.1; omega)
                have HM2 : Hid (Mst TR L m) := by
                  have h := HM.out
                  rw [htl] at h
                  exact h
                clear HM htl
                have HM := HM2
                clear HM2
                by_cases hm0 : m = 0
                · have e1 : (m == 0) = true := by simp [hm0]
                  go_upto_region 26 with fail
                  rename_i K hK
                  refine wp_region_lit ?_
                  refine wpList_runTo rfl (some 109) rfl (.agg #[.int .i64 0, .int .i64 0, .int .i64 0, .int .i64 0]) W (by kernel_rfl) ?_
                  simp only [Act.put, List.setIfInBounds_toArray, List.set_cons_zero, List.set_cons_succ]
                  refine wpList_plain rfl fun K1 hK1 => ?_
                  refine wp_store_row 46 (.tmp 6) (.tmp 109) rfl b6 #[.int .i64 0, .int .i64 0, .int .i64 0, .int .i64 0] (by kernel_rfl) (by kernel_rfl) 46 #[.int .i64 0, .int .i64 0, .int .i64 0, .int .i64 0] HWW.out.2.1 infoRr rfl (by simp [Value.oneCell']) ?_
                  refine hK1 _ _ ?_
                  clear hK1
                  refine wpList_nil ?_
                  refine hK _ _ ?_
                  clear hK
                  apply wp_ret
                  try simp only [Exit.inBlock, Exit.then]
                  show bodyPost Try.prog Try.f18 _ Exit.ret _ _
                  refine bodyPost_ret (results_cell_row (fn := Try.f18) (p := 6) (ty := 46) rfl _ _ b6 46 #[.int .i64 0, .int .i64 0, .int .i64 0, .int .i64 0] (0, 0) _ (by kernel_rfl) (setRow_heap _ _ _ _ _ _ HWW.out.2.1) Try.underlying46 rfl infoRr) (by kernel_rfl) ⟨Rs.nil, rfl, below_setRow HWW.out.1 HWW.out.2.2 _, fun B S C pb ps hc => by
                    have hc2 := cnd_perm pb.symm ps.symm hc
                    rw [HEND.out.1, HEND.out.2] at hc2
                    have hmem : ∀ c, c ∈ L ↔ c ∈ C := fun c => by rw [HLm.out]; exact lstR_mem (by rw [← HRf.out]; exact hc2) c
                    have k2 := resOf_perm (C := C) (C' := C) pb ps hc (cnd_perm pb.symm ps.symm hc)
                    rw [HEND.out.1, HEND.out.2] at k2
                    rw [k2]
                    exact ref_nil hc2 hmem (by have h := HM.out; rw [HDEF.out.2.2.1, hm0] at h; exact h)⟩
                · have e1 : (m == 0) = false := by simp [hm0]
                  go_upto_region 29 with fail
                  go_loopw [17, 18] (fun x17 x18 wr => ∃ (i : Nat) (sm : Int), i ≤ nl ∧ x17 = .int .i64 sm ∧ x18 = .int .i64 (i : Int) ∧ W = wr ∧ Hid (Lst TR OV m (L.take i) sm)) (fun _ x18 _ => nl - (RowKit.intOf x18).toNat)
                  case atStart => exact ⟨0, -1, Nat.zero_le _, rfl, rfl, rfl, Lst.nil _ _ _⟩
                  case round => as_aux_lemma =>
                    obtain ⟨i, sm, hi, rfl, rfl, hw, HS⟩ := hrel
                    subst hw
                    clear hlt
                    by_cases hlt : i < nl
                    · have hlt' : (i : Int) < (nl : Int) := by omega
                      obtain ⟨c, hc⟩ : ∃ c, L[i]? = some c := ⟨_, List.getElem?_eq_getElem (by rw [← HLL.out.2.1]; exact hlt)⟩
                      obtain ⟨gl, ol, cx, cur, ea, _⟩ := HLL.out.1.more (by omega)
                      injection ea with ea1 _ ea2
                      subst ea1 ea2
                      have qc : W.cell? ⟨gl, ol + i, none⟩ = some (.int .i64 c) := HLL.out.1.cell rfl (j := i) (u := eI c) (by rw [List.getElem?_map, hc]; rfl)
                      have htk : L.take (i + 1) = L.take i ++ [c] := by rw [List.take_add_one, hc]; rfl
                      have hXY := HB.out.1 c
                      obtain ⟨T, hT⟩ : ∃ T, T = (if X c < Y c then X c else Y c) := ⟨_, rfl⟩
                      have hTt : T = TR c := by rw [hT]; exact HB.out.2.1 c
                      obtain ⟨O, hO⟩ : ∃ O, O = (if X c < Y c then Y c - X c else X c - Y c) := ⟨_, rfl⟩
                      have hOo : O = OV c := by rw [hO]; exact HB.out.2.2 c
                      have hTb : 0 ≤ T ∧ T ≤ 2000000000000000000 := by rw [hT]; split <;> omega
                      have hOb : 0 ≤ O ∧ O ≤ 2000000000000000000 := by rw [hO]; split <;> omega
                      have hle := refLesser_any W (X c) (Y c)
                      rw [← hT] at hle
                      have hfa := refFar_any W (X c) (Y c) (by omega) (by omega)
                      rw [← hO] at hfa
                      have hc1 := HLL.out.2.2.2 c (List.mem_of_getElem? hc)
                      clear hT hO hc
                      go_upto_region 31 with fail
                      rename_i K hK
                      refine wp_region_lit ?_
                      refine wpList_runTo rfl (some 117) rfl (.slice a1 n1 c1) W (by kernel_rfl) ?_
                      simp only [Act.put, List.setIfInBounds_toArray, List.set_cons_zero, List.set_cons_succ]
                      refine wpList_runTo rfl (some 118) rfl (.slice a2 n2 c2) W (by kernel_rfl) ?_
                      simp only [Act.put, List.setIfInBounds_toArray, List.set_cons_zero, List.set_cons_succ]
                      refine wpList_runTo rfl (some 119) rfl (.slice (some ⟨gl, ol, none⟩) nl cl) W (by kernel_rfl) ?_
                      simp only [Act.put, List.setIfInBounds_toArray, List.set_cons_zero, List.set_cons_succ]
                      refine wpList_runTo rfl (some 120) rfl (.int .i64 (i : Int)) W (by kernel_rfl) ?_
                      simp only [Act.put, List.setIfInBounds_toArray, List.set_cons_zero, List.set_cons_succ]
                      refine wpList_runTo rfl (some 121) rfl (.pointer (some ⟨gl, ol + i, none⟩)) W (by exact ixI_run (n := nl) (c := cl) (.tmp 119) (.tmp 120) rfl (by kernel_rfl) (by kernel_rfl) hlt _) ?_
                      simp only [Act.put, List.setIfInBounds_toArray, List.set_cons_zero, List.set_cons_succ]
                      refine wpList_runTo rfl (some 122) rfl (.int .i64 c) W (by exact ldN_run (.inl rfl) (.tmp 121) rfl (by kernel_rfl) qc) ?_
                      simp only [Act.put, List.setIfInBounds_toArray, List.set_cons_zero, List.set_cons_succ]
                      refine wpList_callW rfl (some 123) rfl 39 #[.slice a1 n1 c1, .slice a2 n2 c2, .int .i64 c] (by kernel_rfl) (HSU.out c) ?_
                      rintro e w' ⟨rfl, ew⟩
                      replace ew := ew.symm
                      subst ew
                      refine ⟨_, rfl, ?_⟩
                      simp only [Act.put, List.setIfInBounds_toArray, List.set_cons_zero, List.set_cons_succ]
                      refine wpList_runTo rfl (some 116) rfl (.tuple #[.int .i64 (X c), .int .i64 (Y c)]) W (by kernel_rfl) ?_
                      simp only [Act.put, List.setIfInBounds_toArray, List.set_cons_zero, List.set_cons_succ]
                      refine wpList_runTo rfl (some 124) rfl (.int .i64 (X c)) W (by kernel_rfl) ?_
                      simp only [Act.put, List.setIfInBounds_toArray, List.set_cons_zero, List.set_cons_succ]
                      refine wpList_runTo rfl (some 125) rfl (.int .i64 (Y c)) W (by kernel_rfl) ?_
                      simp only [Act.put, List.setIfInBounds_toArray, List.set_cons_zero, List.set_cons_succ]
                      refine wpList_runTo rfl (some 19) rfl (.int .i64 (X c)) W (by kernel_rfl) ?_
                      simp only [Act.put, List.setIfInBounds_toArray, List.set_cons_zero, List.set_cons_succ]
                      refine wpList_runTo rfl (some 20) rfl (.int .i64 (Y c)) W (by kernel_rfl) ?_
                      simp only [Act.put, List.setIfInBounds_toArray, List.set_cons_zero, List.set_cons_succ]
                      refine wpList_nil ?_
                      refine hK _ _ ?_
                      clear hK
                      by_cases hTm : T = m
                      · by_cases hs0 : sm < 0
                        · skip
                          have HN : Hid (Lst TR OV m (L.take (i + 1)) O) := by
                            show Lst TR OV m (L.take (i + 1)) O
                            rw [htk, hOo]
                            exact HS.out.yes (by rw [← hOo]; omega) (by rw [← hTt]; exact hTm) (by rw [← hOo]; omega)
                          go_upto_region 32 with fail
                          rename_i K hK
                          refine wp_region_lit ?_
                          refine wpList_runTo rfl (some 126) rfl (.int .i64 (X c)) W (by kernel_rfl) ?_
                          simp only [Act.put, List.setIfInBounds_toArray, List.set_cons_zero, List.set_cons_succ]
                          refine wpList_runTo rfl (some 127) rfl (.int .i64 (Y c)) W (by kernel_rfl) ?_
                          simp only [Act.put, List.setIfInBounds_toArray, List.set_cons_zero, List.set_cons_succ]
                          refine wpList_callW rfl (some 128) rfl 40 #[.int .i64 (X c), .int .i64 (Y c)] (by kernel_rfl) hle ?_
                          rintro e w' ⟨rfl, ew⟩
                          replace ew := ew.symm
                          subst ew
                          refine ⟨_, rfl, ?_⟩
                          simp only [Act.put, List.setIfInBounds_toArray, List.set_cons_zero, List.set_cons_succ]
                          refine wpList_runTo rfl (some 129) rfl (.int .i64 m) W (by kernel_rfl) ?_
                          simp only [Act.put, List.setIfInBounds_toArray, List.set_cons_zero, List.set_cons_succ]
                          refine wpList_runTo rfl (some 130) rfl (.bool true) W (by exact eqV_run (.inl rfl) (p := T) (q := m) (.tmp 128) (.tmp 129) rfl (by kernel_rfl) (by kernel_rfl) (decide_eq_true hTm) _) ?_
                          simp only [Act.put, List.setIfInBounds_toArray, List.set_cons_zero, List.set_cons_succ]
                          refine wpList_runTo rfl (some 131) rfl (.bool true) W (by kernel_rfl) ?_
                          simp only [Act.put, List.setIfInBounds_toArray, List.set_cons_zero, List.set_cons_succ]
                          refine wpList_runToG (by kernel_rfl) (some 132) rfl (.int .i64 sm) W (by kernel_rfl) ?_
                          simp only [Act.put, List.setIfInBounds_toArray, List.set_cons_zero, List.set_cons_succ]
                          refine wpList_runToG (by kernel_rfl) (some 133) rfl (.bool true) W (by exact ltc_run (p := sm) (.tmp 132) rfl (by kernel_rfl) (decide_eq_true hs0) _) ?_
                          simp only [Act.put, List.setIfInBounds_toArray, List.set_cons_zero, List.set_cons_succ]
                          refine wpList_runToG (by kernel_rfl) (some 134) rfl (.bool true) W (by kernel_rfl) ?_
                          simp only [Act.put, List.setIfInBounds_toArray, List.set_cons_zero, List.set_cons_succ]
                          refine wpList_skipG (by kernel_rfl) ?_
                          simp only [Act.put, List.setIfInBounds_toArray, List.set_cons_zero, List.set_cons_succ]
                          refine wpList_skipG (by kernel_rfl) ?_
                          simp only [Act.put, List.setIfInBounds_toArray, List.set_cons_zero, List.set_cons_succ]
                          refine wpList_skipG (by kernel_rfl) ?_
                          simp only [Act.put, List.setIfInBounds_toArray, List.set_cons_zero, List.set_cons_succ]
                          refine wpList_skipG (by kernel_rfl) ?_
                          simp only [Act.put, List.setIfInBounds_toArray, List.set_cons_zero, List.set_cons_succ]
                          refine wpList_skipG (by kernel_rfl) ?_
                          simp only [Act.put, List.setIfInBounds_toArray, List.set_cons_zero, List.set_cons_succ]
                          refine wpList_runToG (by kernel_rfl) (some 140) rfl (.bool true) W (by kernel_rfl) ?_
                          simp only [Act.put, List.setIfInBounds_toArray, List.set_cons_zero, List.set_cons_succ]
                          refine wpList_runTo rfl (some 141) rfl (.bool true) W (by exact pick_run (c := true) (.tmp 131) (.tmp 140) rfl (by kernel_rfl) (by kernel_rfl) _) ?_
                          simp only [Act.put, List.setIfInBounds_toArray, List.set_cons_zero, List.set_cons_succ]
                          refine wpList_nil ?_
                          refine hK _ _ ?_
                          clear hK
                          go_upto_region 33 with fail
                          refine wp_region_lit ?_
                          refine wpList_runTo rfl (some 142) rfl (.int .i64 (X c)) W (by kernel_rfl) ?_
                          simp only [Act.put, List.setIfInBounds_toArray, List.set_cons_zero, List.set_cons_succ]
                          refine wpList_runTo rfl (some 143) rfl (.int .i64 (Y c)) W (by kernel_rfl) ?_
                          simp only [Act.put, List.setIfInBounds_toArray, List.set_cons_zero, List.set_cons_succ]
                          refine wpList_callW rfl (some 144) rfl 41 #[.int .i64 (X c), .int .i64 (Y c)] (by kernel_rfl) hfa ?_
                          rintro e w' ⟨rfl, ew⟩
                          replace ew := ew.symm
                          subst ew
                          refine ⟨_, rfl, ?_⟩
                          simp only [Act.put, List.setIfInBounds_toArray, List.set_cons_zero, List.set_cons_succ]
                          refine wpList_runTo rfl (some 17) rfl (.int .i64 O) W (by kernel_rfl) ?_
                          simp only [Act.put, List.setIfInBounds_toArray, List.set_cons_zero, List.set_cons_succ]
                          refine wpList_nil ?_
                          clear hle hfa HS htk hTt hOo HB
                          go_wp2
                          exact ⟨⟨i + 1, _, by omega, rfl, by go_num, by first | rfl | trivial, HN.out⟩, by simp [RowKit.intOf]; omega⟩
                        · by_cases hOs : O < sm
                          · skip
                            have HN : Hid (Lst TR OV m (L.take (i + 1)) O) := by
                              show Lst TR OV m (L.take (i + 1)) O
                              rw [htk, hOo]
                              exact HS.out.yes (by rw [← hOo]; omega) (by rw [← hTt]; exact hTm) (by rw [← hOo]; omega)
                            go_upto_region 32 with fail
                            rename_i K hK
                            refine wp_region_lit ?_
                            refine wpList_runTo rfl (some 126) rfl (.int .i64 (X c)) W (by kernel_rfl) ?_
                            simp only [Act.put, List.setIfInBounds_toArray, List.set_cons_zero, List.set_cons_succ]
                            refine wpList_runTo rfl (some 127) rfl (.int .i64 (Y c)) W (by kernel_rfl) ?_
                            simp only [Act.put, List.setIfInBounds_toArray, List.set_cons_zero, List.set_cons_succ]
                            refine wpList_callW rfl (some 128) rfl 40 #[.int .i64 (X c), .int .i64 (Y c)] (by kernel_rfl) hle ?_
                            rintro e w' ⟨rfl, ew⟩
                            replace ew := ew.symm
                            subst ew
                            refine ⟨_, rfl, ?_⟩
                            simp only [Act.put, List.setIfInBounds_toArray, List.set_cons_zero, List.set_cons_succ]
                            refine wpList_runTo rfl (some 129) rfl (.int .i64 m) W (by kernel_rfl) ?_
                            simp only [Act.put, List.setIfInBounds_toArray, List.set_cons_zero, List.set_cons_succ]
                            refine wpList_runTo rfl (some 130) rfl (.bool true) W (by exact eqV_run (.inl rfl) (p := T) (q := m) (.tmp 128) (.tmp 129) rfl (by kernel_rfl) (by kernel_rfl) (decide_eq_true hTm) _) ?_
                            simp only [Act.put, List.setIfInBounds_toArray, List.set_cons_zero, List.set_cons_succ]
                            refine wpList_runTo rfl (some 131) rfl (.bool true) W (by kernel_rfl) ?_
                            simp only [Act.put, List.setIfInBounds_toArray, List.set_cons_zero, List.set_cons_succ]
                            refine wpList_runToG (by kernel_rfl) (some 132) rfl (.int .i64 sm) W (by kernel_rfl) ?_
                            simp only [Act.put, List.setIfInBounds_toArray, List.set_cons_zero, List.set_cons_succ]
                            refine wpList_runToG (by kernel_rfl) (some 133) rfl (.bool false) W (by exact ltc_run (p := sm) (.tmp 132) rfl (by kernel_rfl) (decide_eq_false hs0) _) ?_
                            simp only [Act.put, List.setIfInBounds_toArray, List.set_cons_zero, List.set_cons_succ]
                            refine wpList_runToG (by kernel_rfl) (some 134) rfl (.bool false) W (by kernel_rfl) ?_
                            simp only [Act.put, List.setIfInBounds_toArray, List.set_cons_zero, List.set_cons_succ]
                            refine wpList_runToG (by kernel_rfl) (some 135) rfl (.int .i64 (X c)) W (by kernel_rfl) ?_
                            simp only [Act.put, List.setIfInBounds_toArray, List.set_cons_zero, List.set_cons_succ]
                            refine wpList_runToG (by kernel_rfl) (some 136) rfl (.int .i64 (Y c)) W (by kernel_rfl) ?_
                            simp only [Act.put, List.setIfInBounds_toArray, List.set_cons_zero, List.set_cons_succ]
                            refine wpList_callG (by kernel_rfl) (some 137) rfl 41 #[.int .i64 (X c), .int .i64 (Y c)] (by kernel_rfl) hfa ?_
                            rintro e w' ⟨rfl, ew⟩
                            replace ew := ew.symm
                            subst ew
                            refine ⟨_, rfl, ?_⟩
                            simp only [Act.put, List.setIfInBounds_toArray, List.set_cons_zero, List.set_cons_succ]
                            refine wpList_runToG (by kernel_rfl) (some 138) rfl (.int .i64 sm) W (by kernel_rfl) ?_
                            simp only [Act.put, List.setIfInBounds_toArray, List.set_cons_zero, List.set_cons_succ]
                            refine wpList_runToG (by kernel_rfl) (some 139) rfl (.bool true) W (by exact ltV_run (p := O) (q := sm) (.tmp 137) (.tmp 138) rfl (by kernel_rfl) (by kernel_rfl) (decide_eq_true hOs) _) ?_
                            simp only [Act.put, List.setIfInBounds_toArray, List.set_cons_zero, List.set_cons_succ]
                            refine wpList_runToG (by kernel_rfl) (some 140) rfl (.bool true) W (by exact pickN_run (c := true) (.tmp 134) (.tmp 139) rfl (by kernel_rfl) (by kernel_rfl) _) ?_
                            simp only [Act.put, List.setIfInBounds_toArray, List.set_cons_zero, List.set_cons_succ]
                            refine wpList_runTo rfl (some 141) rfl (.bool true) W (by exact pick_run (c := true) (.tmp 131) (.tmp 140) rfl (by kernel_rfl) (by kernel_rfl) _) ?_
                            simp only [Act.put, List.setIfInBounds_toArray, List.set_cons_zero, List.set_cons_succ]
                            refine wpList_nil ?_
                            refine hK _ _ ?_
                            clear hK
                            go_upto_region 33 with fail
                            refine wp_region_lit ?_
                            refine wpList_runTo rfl (some 142) rfl (.int .i64 (X c)) W (by kernel_rfl) ?_
                            simp only [Act.put, List.setIfInBounds_toArray, List.set_cons_zero, List.set_cons_succ]
                            refine wpList_runTo rfl (some 143) rfl (.int .i64 (Y c)) W (by kernel_rfl) ?_
                            simp only [Act.put, List.setIfInBounds_toArray, List.set_cons_zero, List.set_cons_succ]
                            refine wpList_callW rfl (some 144) rfl 41 #[.int .i64 (X c), .int .i64 (Y c)] (by kernel_rfl) hfa ?_
                            rintro e w' ⟨rfl, ew⟩
                            replace ew := ew.symm
                            subst ew
                            refine ⟨_, rfl, ?_⟩
                            simp only [Act.put, List.setIfInBounds_toArray, List.set_cons_zero, List.set_cons_succ]
                            refine wpList_runTo rfl (some 17) rfl (.int .i64 O) W (by kernel_rfl) ?_
                            simp only [Act.put, List.setIfInBounds_toArray, List.set_cons_zero, List.set_cons_succ]
                            refine wpList_nil ?_
                            clear hle hfa HS htk hTt hOo HB
                            go_wp2
                            exact ⟨⟨i + 1, _, by omega, rfl, by go_num, by first | rfl | trivial, HN.out⟩, by simp [RowKit.intOf]; omega⟩
                          · skip
                            have HN : Hid (Lst TR OV m (L.take (i + 1)) sm) := by
                              show Lst TR OV m (L.take (i + 1)) sm
                              rw [htk]
                              exact HS.out.no (by rw [← hTt, ← hOo]; omega)
                            go_upto_region 32 with fail
                            rename_i K hK
                            refine wp_region_lit ?_
                            refine wpList_runTo rfl (some 126) rfl (.int .i64 (X c)) W (by kernel_rfl) ?_
                            simp only [Act.put, List.setIfInBounds_toArray, List.set_cons_zero, List.set_cons_succ]
                            refine wpList_runTo rfl (some 127) rfl (.int .i64 (Y c)) W (by kernel_rfl) ?_
                            simp only [Act.put, List.setIfInBounds_toArray, List.set_cons_zero, List.set_cons_succ]
                            refine wpList_callW rfl (some 128) rfl 40 #[.int .i64 (X c), .int .i64 (Y c)] (by kernel_rfl) hle ?_
                            rintro e w' ⟨rfl, ew⟩
                            replace ew := ew.symm
                            subst ew
                            refine ⟨_, rfl, ?_⟩
                            simp only [Act.put, List.setIfInBounds_toArray, List.set_cons_zero, List.set_cons_succ]
                            refine wpList_runTo rfl (some 129) rfl (.int .i64 m) W (by kernel_rfl) ?_
                            simp only [Act.put, List.setIfInBounds_toArray, List.set_cons_zero, List.set_cons_succ]
                            refine wpList_runTo rfl (some 130) rfl (.bool true) W (by exact eqV_run (.inl rfl) (p := T) (q := m) (.tmp 128) (.tmp 129) rfl (by kernel_rfl) (by kernel_rfl) (decide_eq_true hTm) _) ?_
                            simp only [Act.put, List.setIfInBounds_toArray, List.set_cons_zero, List.set_cons_succ]
                            refine wpList_runTo rfl (some 131) rfl (.bool true) W (by kernel_rfl) ?_
                            simp only [Act.put, List.setIfInBounds_toArray, List.set_cons_zero, List.set_cons_succ]
                            refine wpList_runToG (by kernel_rfl) (some 132) rfl (.int .i64 sm) W (by kernel_rfl) ?_
                            simp only [Act.put, List.setIfInBounds_toArray, List.set_cons_zero, List.set_cons_succ]
                            refine wpList_runToG (by kernel_rfl) (some 133) rfl (.bool false) W (by exact ltc_run (p := sm) (.tmp 132) rfl (by kernel_rfl) (decide_eq_false hs0) _) ?_
                            simp only [Act.put, List.setIfInBounds_toArray, List.set_cons_zero, List.set_cons_succ]
                            refine wpList_runToG (by kernel_rfl) (some 134) rfl (.bool false) W (by kernel_rfl) ?_
                            simp only [Act.put, List.setIfInBounds_toArray, List.set_cons_zero, List.set_cons_succ]
                            refine wpList_runToG (by kernel_rfl) (some 135) rfl (.int .i64 (X c)) W (by kernel_rfl) ?_
                            simp only [Act.put, List.setIfInBounds_toArray, List.set_cons_zero, List.set_cons_succ]
                            refine wpList_runToG (by kernel_rfl) (some 136) rfl (.int .i64 (Y c)) W (by kernel_rfl) ?_
                            simp only [Act.put, List.setIfInBounds_toArray, List.set_cons_zero, List.set_cons_succ]
                            refine wpList_callG (by kernel_rfl) (some 137) rfl 41 #[.int .i64 (X c), .int .i64 (Y c)] (by kernel_rfl) hfa ?_
                            rintro e w' ⟨rfl, ew⟩
                            replace ew := ew.symm
                            subst ew
                            refine ⟨_, rfl, ?_⟩
                            simp only [Act.put, List.setIfInBounds_toArray, List.set_cons_zero, List.set_cons_succ]
                            refine wpList_runToG (by kernel_rfl) (some 138) rfl (.int .i64 sm) W (by kernel_rfl) ?_
                            simp only [Act.put, List.setIfInBounds_toArray, List.set_cons_zero, List.set_cons_succ]
                            refine wpList_runToG (by kernel_rfl) (some 139) rfl (.bool false) W (by exact ltV_run (p := O) (q := sm) (.tmp 137) (.tmp 138) rfl (by kernel_rfl) (by kernel_rfl) (decide_eq_false hOs) _) ?_
                            simp only [Act.put, List.setIfInBounds_toArray, List.set_cons_zero, List.set_cons_succ]
                            refine wpList_runToG (by kernel_rfl) (some 140) rfl (.bool false) W (by exact pickN_run (c := false) (.tmp 134) (.tmp 139) rfl (by kernel_rfl) (by kernel_rfl) _) ?_
                            simp only [Act.put, List.setIfInBounds_toArray, List.set_cons_zero, List.set_cons_succ]
                            refine wpList_runTo rfl (some 141) rfl (.bool false) W (by exact pick_run (c := false) (.tmp 131) (.tmp 140) rfl (by kernel_rfl) (by kernel_rfl) _) ?_
                            simp only [Act.put, List.setIfInBounds_toArray, List.set_cons_zero, List.set_cons_succ]
                            refine wpList_nil ?_
                            refine hK _ _ ?_
                            clear hK
                            clear hle hfa HS htk hTt hOo HB
                            go_wp2
                            exact ⟨⟨i + 1, _, by omega, rfl, by go_num, by first | rfl | trivial, HN.out⟩, by simp [RowKit.intOf]; omega⟩
                      · skip
                        have HN : Hid (Lst TR OV m (L.take (i + 1)) sm) := by
                          show Lst TR OV m (L.take (i + 1)) sm
                          rw [htk]
                          exact HS.out.no (by rw [← hTt, ← hOo]; omega)
                        go_upto_region 32 with fail
                        rename_i K hK
                        refine wp_region_lit ?_
                        refine wpList_runTo rfl (some 126) rfl (.int .i64 (X c)) W (by kernel_rfl) ?_
                        simp only [Act.put, List.setIfInBounds_toArray, List.set_cons_zero, List.set_cons_succ]
                        refine wpList_runTo rfl (some 127) rfl (.int .i64 (Y c)) W (by kernel_rfl) ?_
                        simp only [Act.put, List.setIfInBounds_toArray, List.set_cons_zero, List.set_cons_succ]
                        refine wpList_callW rfl (some 128) rfl 40 #[.int .i64 (X c), .int .i64 (Y c)] (by kernel_rfl) hle ?_
                        rintro e w' ⟨rfl, ew⟩
                        replace ew := ew.symm
                        subst ew
                        refine ⟨_, rfl, ?_⟩
                        simp only [Act.put, List.setIfInBounds_toArray, List.set_cons_zero, List.set_cons_succ]
                        refine wpList_runTo rfl (some 129) rfl (.int .i64 m) W (by kernel_rfl) ?_
                        simp only [Act.put, List.setIfInBounds_toArray, List.set_cons_zero, List.set_cons_succ]
                        refine wpList_runTo rfl (some 130) rfl (.bool false) W (by exact eqV_run (.inl rfl) (p := T) (q := m) (.tmp 128) (.tmp 129) rfl (by kernel_rfl) (by kernel_rfl) (decide_eq_false hTm) _) ?_
                        simp only [Act.put, List.setIfInBounds_toArray, List.set_cons_zero, List.set_cons_succ]
                        refine wpList_runTo rfl (some 131) rfl (.bool false) W (by kernel_rfl) ?_
                        simp only [Act.put, List.setIfInBounds_toArray, List.set_cons_zero, List.set_cons_succ]
                        refine wpList_skipG (by kernel_rfl) ?_
                        simp only [Act.put, List.setIfInBounds_toArray, List.set_cons_zero, List.set_cons_succ]
                        refine wpList_skipG (by kernel_rfl) ?_
                        simp only [Act.put, List.setIfInBounds_toArray, List.set_cons_zero, List.set_cons_succ]
                        refine wpList_skipG (by kernel_rfl) ?_
                        simp only [Act.put, List.setIfInBounds_toArray, List.set_cons_zero, List.set_cons_succ]
                        refine wpList_skipG (by kernel_rfl) ?_
                        simp only [Act.put, List.setIfInBounds_toArray, List.set_cons_zero, List.set_cons_succ]
                        refine wpList_skipG (by kernel_rfl) ?_
                        simp only [Act.put, List.setIfInBounds_toArray, List.set_cons_zero, List.set_cons_succ]
                        refine wpList_skipG (by kernel_rfl) ?_
                        simp only [Act.put, List.setIfInBounds_toArray, List.set_cons_zero, List.set_cons_succ]
                        refine wpList_skipG (by kernel_rfl) ?_
                        simp only [Act.put, List.setIfInBounds_toArray, List.set_cons_zero, List.set_cons_succ]
                        refine wpList_skipG (by kernel_rfl) ?_
                        simp only [Act.put, List.setIfInBounds_toArray, List.set_cons_zero, List.set_cons_succ]
                        refine wpList_skipG (by kernel_rfl) ?_
                        simp only [Act.put, List.setIfInBounds_toArray, List.set_cons_zero, List.set_cons_succ]
                        refine wpList_runTo rfl (some 141) rfl (.bool false) W (by kernel_rfl) ?_
                        simp only [Act.put, List.setIfInBounds_toArray, List.set_cons_zero, List.set_cons_succ]
                        refine wpList_nil ?_
                        refine hK _ _ ?_
                        clear hK
                        clear hle hfa HS htk hTt hOo HB
                        go_wp2
                        exact ⟨⟨i + 1, _, by omega, rfl, by go_num, by first | rfl | trivial, HN.out⟩, by simp [RowKit.intOf]; omega⟩
                    · have hin : nl = i := by omega
                      subst hin
                      have hlt' : ¬ (nl : Int) < (nl : Int) := by omega
                      have htl : L.take nl = L := List.take_of_length_le (by have := HLL.out.2.1; omega)
                      have HS4 : Hid (Lst TR OV m L sm) := by
                        have h := HS.out
                        rw [htl] at h
                        exact h
                      clear HS htl
                      go_upto_region 40 with fail
                      go_loopw [21, 22, 23, 24, 25, 26] (fun x21 x22 x23 x24 x25 x26 wr => ∃ (i : Nat) (best high low : Int) (more less : Bool), i ≤ nl ∧ x21 = .int .i64 best ∧ x22 = .int .i64 high ∧ x23 = .int .i64 low ∧ x24 = .bool more ∧ x25 = .bool less ∧ x26 = .int .i64 (i : Int) ∧ W = wr ∧ Hid (Bst (fun c => TR c = m ∧ OV c = sm) X Y (fun c => far c rf) (L.take i) best high low more less)) (fun _ _ _ _ _ x26 _ => nl - (RowKit.intOf x26).toNat)
                      case atStart => exact ⟨0, 0, 0, 0, true, true, Nat.zero_le _, rfl, rfl, rfl, rfl, rfl, rfl, rfl, Bst.nil _ _ _ _⟩
                      case round => as_aux_lemma =>
                        obtain ⟨i, best, high, low, more, less, hi, rfl, rfl, rfl, rfl, rfl, rfl, hw, HS⟩ := hrel
                        subst hw
                        clear hlt
                        by_cases hlt : i < nl
                        · have hlt' : (i : Int) < (nl : Int) := by omega
                          obtain ⟨c, hc⟩ : ∃ c, L[i]? = some c := ⟨_, List.getElem?_eq_getElem (by rw [← HLL.out.2.1]; exact hlt)⟩
                          obtain ⟨gl, ol, cx, cur, ea, _⟩ := HLL.out.1.more (by omega)
                          injection ea with ea1 _ ea2
                          subst ea1 ea2
                          have qc : W.cell? ⟨gl, ol + i, none⟩ = some (.int .i64 c) := HLL.out.1.cell rfl (j := i) (u := eI c) (by rw [List.getElem?_map, hc]; rfl)
                          have htk : L.take (i + 1) = L.take i ++ [c] := by rw [List.take_add_one, hc]; rfl
                          have hXY := HB.out.1 c
                          obtain ⟨T, hT⟩ : ∃ T, T = (if X c < Y c then X c else Y c) := ⟨_, rfl⟩
                          have hTt : T = TR c := by rw [hT]; exact HB.out.2.1 c
                          obtain ⟨O, hO⟩ : ∃ O, O = (if X c < Y c then Y c - X c else X c - Y c) := ⟨_, rfl⟩
                          have hOo : O = OV c := by rw [hO]; exact HB.out.2.2 c
                          have hTb : 0 ≤ T ∧ T ≤ 2000000000000000000 := by rw [hT]; split <;> omega
                          have hOb : 0 ≤ O ∧ O ≤ 2000000000000000000 := by rw [hO]; split <;> omega
                          have hle := refLesser_any W (X c) (Y c)
                          rw [← hT] at hle
                          have hfa := refFar_any W (X c) (Y c) (by omega) (by omega)
                          rw [← hO] at hfa
                          have hc1 := HLL.out.2.2.2 c (List.mem_of_getElem? hc)
                          clear hT hO hc
                          go_upto_region 42 with fail
                          rename_i K hK
                          refine wp_region_lit ?_
                          refine wpList_runTo rfl (some 152) rfl (.slice a1 n1 c1) W (by kernel_rfl) ?_
                          simp only [Act.put, List.setIfInBounds_toArray, List.set_cons_zero, List.set_cons_succ]
                          refine wpList_runTo rfl (some 153) rfl (.slice a2 n2 c2) W (by kernel_rfl) ?_
                          simp only [Act.put, List.setIfInBounds_toArray, List.set_cons_zero, List.set_cons_succ]
                          refine wpList_runTo rfl (some 154) rfl (.slice (some ⟨gl, ol, none⟩) nl cl) W (by kernel_rfl) ?_
                          simp only [Act.put, List.setIfInBounds_toArray, List.set_cons_zero, List.set_cons_succ]
                          refine wpList_runTo rfl (some 155) rfl (.int .i64 (i : Int)) W (by kernel_rfl) ?_
                          simp only [Act.put, List.setIfInBounds_toArray, List.set_cons_zero, List.set_cons_succ]
                          refine wpList_runTo rfl (some 156) rfl (.pointer (some ⟨gl, ol + i, none⟩)) W (by exact ixI_run (n := nl) (c := cl) (.tmp 154) (.tmp 155) rfl (by kernel_rfl) (by kernel_rfl) hlt _) ?_
                          simp only [Act.put, List.setIfInBounds_toArray, List.set_cons_zero, List.set_cons_succ]
                          refine wpList_runTo rfl (some 157) rfl (.int .i64 c) W (by exact ldN_run (.inl rfl) (.tmp 156) rfl (by kernel_rfl) qc) ?_
                          simp only [Act.put, List.setIfInBounds_toArray, List.set_cons_zero, List.set_cons_succ]
                          refine wpList_callW rfl (some 158) rfl 39 #[.slice a1 n1 c1, .slice a2 n2 c2, .int .i64 c] (by kernel_rfl) (HSU.out c) ?_
                          rintro e w' ⟨rfl, ew⟩
                          replace ew := ew.symm
                          subst ew
                          refine ⟨_, rfl, ?_⟩
                          simp only [Act.put, List.setIfInBounds_toArray, List.set_cons_zero, List.set_cons_succ]
                          refine wpList_runTo rfl (some 151) rfl (.tuple #[.int .i64 (X c), .int .i64 (Y c)]) W (by kernel_rfl) ?_
                          simp only [Act.put, List.setIfInBounds_toArray, List.set_cons_zero, List.set_cons_succ]
                          refine wpList_runTo rfl (some 159) rfl (.int .i64 (X c)) W (by kernel_rfl) ?_
                          simp only [Act.put, List.setIfInBounds_toArray, List.set_cons_zero, List.set_cons_succ]
                          refine wpList_runTo rfl (some 160) rfl (.int .i64 (Y c)) W (by kernel_rfl) ?_
                          simp only [Act.put, List.setIfInBounds_toArray, List.set_cons_zero, List.set_cons_succ]
                          refine wpList_runTo rfl (some 27) rfl (.int .i64 (X c)) W (by kernel_rfl) ?_
                          simp only [Act.put, List.setIfInBounds_toArray, List.set_cons_zero, List.set_cons_succ]
                          refine wpList_runTo rfl (some 28) rfl (.int .i64 (Y c)) W (by kernel_rfl) ?_
                          simp only [Act.put, List.setIfInBounds_toArray, List.set_cons_zero, List.set_cons_succ]
                          refine wpList_nil ?_
                          refine hK _ _ ?_
                          clear hK
                          by_cases hTm : T = m
                          · by_cases hOs : O = sm
                            · skip
                              have HSb : Hid (0 ≤ best ∧ best ≤ 1000000000) := HS.out.bd HLL.out.2.2.2
                              go_upto_region 43 with fail
                              rename_i K hK
                              refine wp_region_lit ?_
                              refine wpList_runTo rfl (some 161) rfl (.int .i64 (X c)) W (by kernel_rfl) ?_
                              simp only [Act.put, List.setIfInBounds_toArray, List.set_cons_zero, List.set_cons_succ]
                              refine wpList_runTo rfl (some 162) rfl (.int .i64 (Y c)) W (by kernel_rfl) ?_
                              simp only [Act.put, List.setIfInBounds_toArray, List.set_cons_zero, List.set_cons_succ]
                              refine wpList_callW rfl (some 163) rfl 40 #[.int .i64 (X c), .int .i64 (Y c)] (by kernel_rfl) hle ?_
                              rintro e w' ⟨rfl, ew⟩
                              replace ew := ew.symm
                              subst ew
                              refine ⟨_, rfl, ?_⟩
                              simp only [Act.put, List.setIfInBounds_toArray, List.set_cons_zero, List.set_cons_succ]
                              refine wpList_runTo rfl (some 164) rfl (.int .i64 m) W (by kernel_rfl) ?_
                              simp only [Act.put, List.setIfInBounds_toArray, List.set_cons_zero, List.set_cons_succ]
                              refine wpList_runTo rfl (some 165) rfl (.bool false) W (by exact neV_run (.inl rfl) (p := T) (q := m) (.tmp 163) (.tmp 164) rfl (by kernel_rfl) (by kernel_rfl) (decide_eq_false (fun h => h hTm)) _) ?_
                              simp only [Act.put, List.setIfInBounds_toArray, List.set_cons_zero, List.set_cons_succ]
                              refine wpList_runTo rfl (some 166) rfl (.bool false) W (by kernel_rfl) ?_
                              simp only [Act.put, List.setIfInBounds_toArray, List.set_cons_zero, List.set_cons_succ]
                              refine wpList_runToG (by kernel_rfl) (some 167) rfl (.int .i64 (X c)) W (by kernel_rfl) ?_
                              simp only [Act.put, List.setIfInBounds_toArray, List.set_cons_zero, List.set_cons_succ]
                              refine wpList_runToG (by kernel_rfl) (some 168) rfl (.int .i64 (Y c)) W (by kernel_rfl) ?_
                              simp only [Act.put, List.setIfInBounds_toArray, List.set_cons_zero, List.set_cons_succ]
                              refine wpList_callG (by kernel_rfl) (some 169) rfl 41 #[.int .i64 (X c), .int .i64 (Y c)] (by kernel_rfl) hfa ?_
                              rintro e w' ⟨rfl, ew⟩
                              replace ew := ew.symm
                              subst ew
                              refine ⟨_, rfl, ?_⟩
                              simp only [Act.put, List.setIfInBounds_toArray, List.set_cons_zero, List.set_cons_succ]
                              refine wpList_runToG (by kernel_rfl) (some 170) rfl (.int .i64 sm) W (by kernel_rfl) ?_
                              simp only [Act.put, List.setIfInBounds_toArray, List.set_cons_zero, List.set_cons_succ]
                              refine wpList_runToG (by kernel_rfl) (some 171) rfl (.bool false) W (by exact neV_run (.inl rfl) (p := O) (q := sm) (.tmp 169) (.tmp 170) rfl (by kernel_rfl) (by kernel_rfl) (decide_eq_false (fun h => h hOs)) _) ?_
                              simp only [Act.put, List.setIfInBounds_toArray, List.set_cons_zero, List.set_cons_succ]
                              refine wpList_runTo rfl (some 172) rfl (.bool false) W (by exact pickN_run (c := false) (.tmp 166) (.tmp 171) rfl (by kernel_rfl) (by kernel_rfl) _) ?_
                              simp only [Act.put, List.setIfInBounds_toArray, List.set_cons_zero, List.set_cons_succ]
                              refine wpList_nil ?_
                              refine hK _ _ ?_
                              clear hK
                              go_upto_region 44 with fail
                              go_cut [24] (fun x wx => x = .bool (more && decide (Y c < X c)) ∧ wx = W)
                              case first => as_aux_lemma =>
                                rename_i K hK
                                clear HS htk hTt hOo HB hle hfa
                                cases more with
                                | true =>
                                  refine wp_region_lit ?_
                                  refine wpList_runTo rfl (some 173) rfl (.bool true) W (by kernel_rfl) ?_
                                  simp only [Act.put, List.setIfInBounds_toArray, List.set_cons_zero, List.set_cons_succ]
                                  refine wpList_runTo rfl (some 174) rfl (.bool true) W (by kernel_rfl) ?_
                                  simp only [Act.put, List.setIfInBounds_toArray, List.set_cons_zero, List.set_cons_succ]
                                  refine wpList_runToG (by kernel_rfl) (some 175) rfl (.int .i64 (X c)) W (by kernel_rfl) ?_
                                  simp only [Act.put, List.setIfInBounds_toArray, List.set_cons_zero, List.set_cons_succ]
                                  refine wpList_runToG (by kernel_rfl) (some 176) rfl (.int .i64 (Y c)) W (by kernel_rfl) ?_
                                  simp only [Act.put, List.setIfInBounds_toArray, List.set_cons_zero, List.set_cons_succ]
                                  refine wpList_runToG (by kernel_rfl) (some 177) rfl (.bool (decide (Y c < X c))) W (by exact gtV_run (p := X c) (q := Y c) (.tmp 175) (.tmp 176) rfl (by kernel_rfl) (by kernel_rfl) rfl _) ?_
                                  simp only [Act.put, List.setIfInBounds_toArray, List.set_cons_zero, List.set_cons_succ]
                                  refine wpList_runTo rfl (some 178) rfl (.bool (decide (Y c < X c))) W (by exact pick_run (c := decide (Y c < X c)) (.tmp 174) (.tmp 177) rfl (by kernel_rfl) (by kernel_rfl) _) ?_
                                  simp only [Act.put, List.setIfInBounds_toArray, List.set_cons_zero, List.set_cons_succ]
                                  refine wpList_runTo rfl (some 24) rfl (.bool (decide (Y c < X c))) W (by kernel_rfl) ?_
                                  simp only [Act.put, List.setIfInBounds_toArray, List.set_cons_zero, List.set_cons_succ]
                                  refine wpList_nil ?_
                                  refine hK _ _ ?_
                                  clear hK
                                  go_meet
                                  exact ⟨by rw [Bool.true_and], rfl⟩
                                | false =>
                                  refine wp_region_lit ?_
                                  refine wpList_runTo rfl (some 173) rfl (.bool false) W (by kernel_rfl) ?_
                                  simp only [Act.put, List.setIfInBounds_toArray, List.set_cons_zero, List.set_cons_succ]
                                  refine wpList_runTo rfl (some 174) rfl (.bool false) W (by kernel_rfl) ?_
                                  simp only [Act.put, List.setIfInBounds_toArray, List.set_cons_zero, List.set_cons_succ]
                                  refine wpList_skipG (by kernel_rfl) ?_
                                  simp only [Act.put, List.setIfInBounds_toArray, List.set_cons_zero, List.set_cons_succ]
                                  refine wpList_skipG (by kernel_rfl) ?_
                                  simp only [Act.put, List.setIfInBounds_toArray, List.set_cons_zero, List.set_cons_succ]
                                  refine wpList_skipG (by kernel_rfl) ?_
                                  simp only [Act.put, List.setIfInBounds_toArray, List.set_cons_zero, List.set_cons_succ]
                                  refine wpList_runTo rfl (some 178) rfl (.bool false) W (by kernel_rfl) ?_
                                  simp only [Act.put, List.setIfInBounds_toArray, List.set_cons_zero, List.set_cons_succ]
                                  refine wpList_runTo rfl (some 24) rfl (.bool false) W (by kernel_rfl) ?_
                                  simp only [Act.put, List.setIfInBounds_toArray, List.set_cons_zero, List.set_cons_succ]
                                  refine wpList_nil ?_
                                  refine hK _ _ ?_
                                  clear hK
                                  go_meet
                                  exact ⟨by rw [Bool.false_and], rfl⟩
                              case rest => as_aux_lemma =>
                                obtain ⟨rfl, ew⟩ := hcut
                                replace ew := ew.symm
                                subst ew
                                obtain ⟨moreN, hmoreN⟩ : ∃ x, x = (more && decide (Y c < X c)) := ⟨_, rfl⟩
                                have HmoreN : Hid (moreN = (more && decide (Y c < X c))) := hmoreN
                                rw [← hmoreN]
                                clear hmoreN
                                go_upto_region 45 with fail
                                go_cut [25] (fun x wx => x = .bool (less && decide (X c < Y c)) ∧ wx = W)
                                case first => as_aux_lemma =>
                                  rename_i K hK
                                  clear HS htk hTt hOo HB hle hfa
                                  cases less with
                                  | true =>
                                    refine wp_region_lit ?_
                                    refine wpList_runTo rfl (some 179) rfl (.bool true) W (by kernel_rfl) ?_
                                    simp only [Act.put, List.setIfInBounds_toArray, List.set_cons_zero, List.set_cons_succ]
                                    refine wpList_runTo rfl (some 180) rfl (.bool true) W (by kernel_rfl) ?_
                                    simp only [Act.put, List.setIfInBounds_toArray, List.set_cons_zero, List.set_cons_succ]
                                    refine wpList_runToG (by kernel_rfl) (some 181) rfl (.int .i64 (X c)) W (by kernel_rfl) ?_
                                    simp only [Act.put, List.setIfInBounds_toArray, List.set_cons_zero, List.set_cons_succ]
                                    refine wpList_runToG (by kernel_rfl) (some 182) rfl (.int .i64 (Y c)) W (by kernel_rfl) ?_
                                    simp only [Act.put, List.setIfInBounds_toArray, List.set_cons_zero, List.set_cons_succ]
                                    refine wpList_runToG (by kernel_rfl) (some 183) rfl (.bool (decide (X c < Y c))) W (by exact ltV_run (p := X c) (q := Y c) (.tmp 181) (.tmp 182) rfl (by kernel_rfl) (by kernel_rfl) rfl _) ?_
                                    simp only [Act.put, List.setIfInBounds_toArray, List.set_cons_zero, List.set_cons_succ]
                                    refine wpList_runTo rfl (some 184) rfl (.bool (decide (X c < Y c))) W (by exact pick_run (c := decide (X c < Y c)) (.tmp 180) (.tmp 183) rfl (by kernel_rfl) (by kernel_rfl) _) ?_
                                    simp only [Act.put, List.setIfInBounds_toArray, List.set_cons_zero, List.set_cons_succ]
                                    refine wpList_runTo rfl (some 25) rfl (.bool (decide (X c < Y c))) W (by kernel_rfl) ?_
                                    simp only [Act.put, List.setIfInBounds_toArray, List.set_cons_zero, List.set_cons_succ]
                                    refine wpList_nil ?_
                                    refine hK _ _ ?_
                                    clear hK
                                    go_meet
                                    exact ⟨by rw [Bool.true_and], rfl⟩
                                  | false =>
                                    refine wp_region_lit ?_
                                    refine wpList_runTo rfl (some 179) rfl (.bool false) W (by kernel_rfl) ?_
                                    simp only [Act.put, List.setIfInBounds_toArray, List.set_cons_zero, List.set_cons_succ]
                                    refine wpList_runTo rfl (some 180) rfl (.bool false) W (by kernel_rfl) ?_
                                    simp only [Act.put, List.setIfInBounds_toArray, List.set_cons_zero, List.set_cons_succ]
                                    refine wpList_skipG (by kernel_rfl) ?_
                                    simp only [Act.put, List.setIfInBounds_toArray, List.set_cons_zero, List.set_cons_succ]
                                    refine wpList_skipG (by kernel_rfl) ?_
                                    simp only [Act.put, List.setIfInBounds_toArray, List.set_cons_zero, List.set_cons_succ]
                                    refine wpList_skipG (by kernel_rfl) ?_
                                    simp only [Act.put, List.setIfInBounds_toArray, List.set_cons_zero, List.set_cons_succ]
                                    refine wpList_runTo rfl (some 184) rfl (.bool false) W (by kernel_rfl) ?_
                                    simp only [Act.put, List.setIfInBounds_toArray, List.set_cons_zero, List.set_cons_succ]
                                    refine wpList_runTo rfl (some 25) rfl (.bool false) W (by kernel_rfl) ?_
                                    simp only [Act.put, List.setIfInBounds_toArray, List.set_cons_zero, List.set_cons_succ]
                                    refine wpList_nil ?_
                                    refine hK _ _ ?_
                                    clear hK
                                    go_meet
                                    exact ⟨by rw [Bool.false_and], rfl⟩
                                case rest => as_aux_lemma =>
                                  obtain ⟨rfl, ew⟩ := hcut
                                  replace ew := ew.symm
                                  subst ew
                                  obtain ⟨lessN, hlessN⟩ : ∃ x, x = (less && decide (X c < Y c)) := ⟨_, rfl⟩
                                  have HlessN : Hid (lessN = (less && decide (X c < Y c))) := hlessN
                                  rw [← hlessN]
                                  clear hlessN
                                  obtain ⟨hc46, hhc46⟩ : ∃ x, x = decide (high < c) := ⟨_, rfl⟩
                                  have Hhc46 : Hid (hc46 = decide (high < c)) := hhc46
                                  clear hhc46
                                  go_upto_region 46 with fail
                                  rename_i K hK
                                  refine wp_region_lit ?_
                                  refine wpList_runTo rfl (some 185) rfl (.slice (some ⟨gl, ol, none⟩) nl cl) W (by kernel_rfl) ?_
                                  simp only [Act.put, List.setIfInBounds_toArray, List.set_cons_zero, List.set_cons_succ]
                                  refine wpList_runTo rfl (some 186) rfl (.int .i64 (i : Int)) W (by kernel_rfl) ?_
                                  simp only [Act.put, List.setIfInBounds_toArray, List.set_cons_zero, List.set_cons_succ]
                                  refine wpList_runTo rfl (some 187) rfl (.pointer (some ⟨gl, ol + i, none⟩)) W (by exact ixI_run (n := nl) (c := cl) (.tmp 185) (.tmp 186) rfl (by kernel_rfl) (by kernel_rfl) hlt _) ?_
                                  simp only [Act.put, List.setIfInBounds_toArray, List.set_cons_zero, List.set_cons_succ]
                                  refine wpList_runTo rfl (some 188) rfl (.int .i64 c) W (by exact ldN_run (.inl rfl) (.tmp 187) rfl (by kernel_rfl) qc) ?_
                                  simp only [Act.put, List.setIfInBounds_toArray, List.set_cons_zero, List.set_cons_succ]
                                  refine wpList_runTo rfl (some 189) rfl (.int .i64 high) W (by kernel_rfl) ?_
                                  simp only [Act.put, List.setIfInBounds_toArray, List.set_cons_zero, List.set_cons_succ]
                                  refine wpList_runTo rfl (some 190) rfl (.bool hc46) W (by exact gtV_run (p := c) (q := high) (.tmp 188) (.tmp 189) rfl (by kernel_rfl) (by kernel_rfl) Hhc46.out.symm _) ?_
                                  simp only [Act.put, List.setIfInBounds_toArray, List.set_cons_zero, List.set_cons_succ]
                                  refine wpList_nil ?_
                                  refine hK _ _ ?_
                                  clear hK
                                  go_upto_if 190 with fail
                                  go_cut [22] (fun x wx => x = .int .i64 (if hc46 = true then c else high) ∧ wx = W)
                                  case first => as_aux_lemma =>
                                    clear HS htk hTt hOo HB hle hfa Hhc46
                                    cases hc46 with
                                    | true =>
                                      go_upto_region 47 with fail
                                      refine wp_region_lit ?_
                                      refine wpList_runTo rfl (some 191) rfl (.slice (some ⟨gl, ol, none⟩) nl cl) W (by kernel_rfl) ?_
                                      simp only [Act.put, List.setIfInBounds_toArray, List.set_cons_zero, List.set_cons_succ]
                                      refine wpList_runTo rfl (some 192) rfl (.int .i64 (i : Int)) W (by kernel_rfl) ?_
                                      simp only [Act.put, List.setIfInBounds_toArray, List.set_cons_zero, List.set_cons_succ]
                                      refine wpList_runTo rfl (some 193) rfl (.pointer (some ⟨gl, ol + i, none⟩)) W (by exact ixI_run (n := nl) (c := cl) (.tmp 191) (.tmp 192) rfl (by kernel_rfl) (by kernel_rfl) hlt _) ?_
                                      simp only [Act.put, List.setIfInBounds_toArray, List.set_cons_zero, List.set_cons_succ]
                                      refine wpList_runTo rfl (some 194) rfl (.int .i64 c) W (by exact ldN_run (.inl rfl) (.tmp 193) rfl (by kernel_rfl) qc) ?_
                                      simp only [Act.put, List.setIfInBounds_toArray, List.set_cons_zero, List.set_cons_succ]
                                      refine wpList_runTo rfl (some 22) rfl (.int .i64 c) W (by kernel_rfl) ?_
                                      simp only [Act.put, List.setIfInBounds_toArray, List.set_cons_zero, List.set_cons_succ]
                                      refine wpList_nil ?_
                                      go_wp2_with fail
                                      go_meet
                                      exact ⟨rfl, rfl⟩
                                    | false =>
                                      go_wp2_with fail
                                      go_meet
                                      exact ⟨rfl, rfl⟩
                                  case rest => as_aux_lemma =>
                                    obtain ⟨rfl, ew⟩ := hcut
                                    replace ew := ew.symm
                                    subst ew
                                    obtain ⟨highN, hhighN⟩ : ∃ x, x = (if hc46 = true then c else high) := ⟨_, rfl⟩
                                    have HhighN : Hid (highN = (if high < c then c else high)) := by
                                      show _ = _
                                      rw [hhighN, Hhc46.out]
                                      simp only [decide_eq_true_eq]
                                    rw [← hhighN]
                                    clear hhighN Hhc46
                                    obtain ⟨hc48, hhc48⟩ : ∃ x, x = decide (low = 0 ∨ c < low) := ⟨_, rfl⟩
                                    have Hhc48 : Hid (hc48 = decide (low = 0 ∨ c < low)) := hhc48
                                    clear hhc48
                                    go_upto_region 48 with fail
                                    go_cut [204] (fun x wx => x = .bool hc48 ∧ wx = W)
                                    case first => as_aux_lemma =>
                                      rename_i K hK
                                      clear HS htk hTt hOo HB hle hfa
                                      by_cases h0 : low = 0
                                      · skip
                                        refine wp_region_lit ?_
                                        refine wpList_runTo rfl (some 195) rfl (.int .i64 low) W (by kernel_rfl) ?_
                                        simp only [Act.put, List.setIfInBounds_toArray, List.set_cons_zero, List.set_cons_succ]
                                        refine wpList_runTo rfl (some 196) rfl (.bool true) W (by exact eq0_run (.inl rfl) (p := low) (.tmp 195) rfl (by kernel_rfl) (decide_eq_true h0) _) ?_
                                        simp only [Act.put, List.setIfInBounds_toArray, List.set_cons_zero, List.set_cons_succ]
                                        refine wpList_runTo rfl (some 197) rfl (.bool true) W (by kernel_rfl) ?_
                                        simp only [Act.put, List.setIfInBounds_toArray, List.set_cons_zero, List.set_cons_succ]
                                        refine wpList_skipG (by kernel_rfl) ?_
                                        simp only [Act.put, List.setIfInBounds_toArray, List.set_cons_zero, List.set_cons_succ]
                                        refine wpList_skipG (by kernel_rfl) ?_
                                        simp only [Act.put, List.setIfInBounds_toArray, List.set_cons_zero, List.set_cons_succ]
                                        refine wpList_skipG (by kernel_rfl) ?_
                                        simp only [Act.put, List.setIfInBounds_toArray, List.set_cons_zero, List.set_cons_succ]
                                        refine wpList_skipG (by kernel_rfl) ?_
                                        simp only [Act.put, List.setIfInBounds_toArray, List.set_cons_zero, List.set_cons_succ]
                                        refine wpList_skipG (by kernel_rfl) ?_
                                        simp only [Act.put, List.setIfInBounds_toArray, List.set_cons_zero, List.set_cons_succ]
                                        refine wpList_skipG (by kernel_rfl) ?_
                                        simp only [Act.put, List.setIfInBounds_toArray, List.set_cons_zero, List.set_cons_succ]
                                        refine wpList_runTo rfl (some 204) rfl (.bool true) W (by kernel_rfl) ?_
                                        simp only [Act.put, List.setIfInBounds_toArray, List.set_cons_zero, List.set_cons_succ]
                                        refine wpList_nil ?_
                                        refine hK _ _ ?_
                                        clear hK
                                        go_meet
                                        exact ⟨by rw [Hhc48.out, decide_eq_true (by omega)], rfl⟩
                                      · by_cases h1 : c < low
                                        · skip
                                          refine wp_region_lit ?_
                                          refine wpList_runTo rfl (some 195) rfl (.int .i64 low) W (by kernel_rfl) ?_
                                          simp only [Act.put, List.setIfInBounds_toArray, List.set_cons_zero, List.set_cons_succ]
                                          refine wpList_runTo rfl (some 196) rfl (.bool false) W (by exact eq0_run (.inl rfl) (p := low) (.tmp 195) rfl (by kernel_rfl) (decide_eq_false h0) _) ?_
                                          simp only [Act.put, List.setIfInBounds_toArray, List.set_cons_zero, List.set_cons_succ]
                                          refine wpList_runTo rfl (some 197) rfl (.bool false) W (by kernel_rfl) ?_
                                          simp only [Act.put, List.setIfInBounds_toArray, List.set_cons_zero, List.set_cons_succ]
                                          refine wpList_runToG (by kernel_rfl) (some 198) rfl (.slice (some ⟨gl, ol, none⟩) nl cl) W (by kernel_rfl) ?_
                                          simp only [Act.put, List.setIfInBounds_toArray, List.set_cons_zero, List.set_cons_succ]
                                          refine wpList_runToG (by kernel_rfl) (some 199) rfl (.int .i64 (i : Int)) W (by kernel_rfl) ?_
                                          simp only [Act.put, List.setIfInBounds_toArray, List.set_cons_zero, List.set_cons_succ]
                                          refine wpList_runToG (by kernel_rfl) (some 200) rfl (.pointer (some ⟨gl, ol + i, none⟩)) W (by exact ixI_run (n := nl) (c := cl) (.tmp 198) (.tmp 199) rfl (by kernel_rfl) (by kernel_rfl) hlt _) ?_
                                          simp only [Act.put, List.setIfInBounds_toArray, List.set_cons_zero, List.set_cons_succ]
                                          refine wpList_runToG (by kernel_rfl) (some 201) rfl (.int .i64 c) W (by exact ldN_run (.inl rfl) (.tmp 200) rfl (by kernel_rfl) qc) ?_
                                          simp only [Act.put, List.setIfInBounds_toArray, List.set_cons_zero, List.set_cons_succ]
                                          refine wpList_runToG (by kernel_rfl) (some 202) rfl (.int .i64 low) W (by kernel_rfl) ?_
                                          simp only [Act.put, List.setIfInBounds_toArray, List.set_cons_zero, List.set_cons_succ]
                                          refine wpList_runToG (by kernel_rfl) (some 203) rfl (.bool true) W (by exact ltV_run (p := c) (q := low) (.tmp 201) (.tmp 202) rfl (by kernel_rfl) (by kernel_rfl) (decide_eq_true h1) _) ?_
                                          simp only [Act.put, List.setIfInBounds_toArray, List.set_cons_zero, List.set_cons_succ]
                                          refine wpList_runTo rfl (some 204) rfl (.bool true) W (by exact pickN_run (c := true) (.tmp 197) (.tmp 203) rfl (by kernel_rfl) (by kernel_rfl) _) ?_
                                          simp only [Act.put, List.setIfInBounds_toArray, List.set_cons_zero, List.set_cons_succ]
                                          refine wpList_nil ?_
                                          refine hK _ _ ?_
                                          clear hK
                                          go_meet
                                          exact ⟨by rw [Hhc48.out, decide_eq_true (by omega)], rfl⟩
                                        · skip
                                          refine wp_region_lit ?_
                                          refine wpList_runTo rfl (some 195) rfl (.int .i64 low) W (by kernel_rfl) ?_
                                          simp only [Act.put, List.setIfInBounds_toArray, List.set_cons_zero, List.set_cons_succ]
                                          refine wpList_runTo rfl (some 196) rfl (.bool false) W (by exact eq0_run (.inl rfl) (p := low) (.tmp 195) rfl (by kernel_rfl) (decide_eq_false h0) _) ?_
                                          simp only [Act.put, List.setIfInBounds_toArray, List.set_cons_zero, List.set_cons_succ]
                                          refine wpList_runTo rfl (some 197) rfl (.bool false) W (by kernel_rfl) ?_
                                          simp only [Act.put, List.setIfInBounds_toArray, List.set_cons_zero, List.set_cons_succ]
                                          refine wpList_runToG (by kernel_rfl) (some 198) rfl (.slice (some ⟨gl, ol, none⟩) nl cl) W (by kernel_rfl) ?_
                                          simp only [Act.put, List.setIfInBounds_toArray, List.set_cons_zero, List.set_cons_succ]
                                          refine wpList_runToG (by kernel_rfl) (some 199) rfl (.int .i64 (i : Int)) W (by kernel_rfl) ?_
                                          simp only [Act.put, List.setIfInBounds_toArray, List.set_cons_zero, List.set_cons_succ]
                                          refine wpList_runToG (by kernel_rfl) (some 200) rfl (.pointer (some ⟨gl, ol + i, none⟩)) W (by exact ixI_run (n := nl) (c := cl) (.tmp 198) (.tmp 199) rfl (by kernel_rfl) (by kernel_rfl) hlt _) ?_
                                          simp only [Act.put, List.setIfInBounds_toArray, List.set_cons_zero, List.set_cons_succ]
                                          refine wpList_runToG (by kernel_rfl) (some 201) rfl (.int .i64 c) W (by exact ldN_run (.inl rfl) (.tmp 200) rfl (by kernel_rfl) qc) ?_
                                          simp only [Act.put, List.setIfInBounds_toArray, List.set_cons_zero, List.set_cons_succ]
                                          refine wpList_runToG (by kernel_rfl) (some 202) rfl (.int .i64 low) W (by kernel_rfl) ?_
                                          simp only [Act.put, List.setIfInBounds_toArray, List.set_cons_zero, List.set_cons_succ]
                                          refine wpList_runToG (by kernel_rfl) (some 203) rfl (.bool false) W (by exact ltV_run (p := c) (q := low) (.tmp 201) (.tmp 202) rfl (by kernel_rfl) (by kernel_rfl) (decide_eq_false h1) _) ?_
                                          simp only [Act.put, List.setIfInBounds_toArray, List.set_cons_zero, List.set_cons_succ]
                                          refine wpList_runTo rfl (some 204) rfl (.bool false) W (by exact pickN_run (c := false) (.tmp 197) (.tmp 203) rfl (by kernel_rfl) (by kernel_rfl) _) ?_
                                          simp only [Act.put, List.setIfInBounds_toArray, List.set_cons_zero, List.set_cons_succ]
                                          refine wpList_nil ?_
                                          refine hK _ _ ?_
                                          clear hK
                                          go_meet
                                          exact ⟨by rw [Hhc48.out, decide_eq_false (by omega)], rfl⟩
                                    case rest => as_aux_lemma =>
                                      obtain ⟨rfl, ew⟩ := hcut
                                      replace ew := ew.symm
                                      subst ew
                                      go_upto_if 204 with fail
                                      go_cut [23] (fun x wx => x = .int .i64 (if hc48 = true then c else low) ∧ wx = W)
                                      case first => as_aux_lemma =>
                                        clear HS htk hTt hOo HB hle hfa Hhc48
                                        cases hc48 with
                                        | true =>
                                          go_upto_region 49 with fail
                                          refine wp_region_lit ?_
                                          refine wpList_runTo rfl (some 205) rfl (.slice (some ⟨gl, ol, none⟩) nl cl) W (by kernel_rfl) ?_
                                          simp only [Act.put, List.setIfInBounds_toArray, List.set_cons_zero, List.set_cons_succ]
                                          refine wpList_runTo rfl (some 206) rfl (.int .i64 (i : Int)) W (by kernel_rfl) ?_
                                          simp only [Act.put, List.setIfInBounds_toArray, List.set_cons_zero, List.set_cons_succ]
                                          refine wpList_runTo rfl (some 207) rfl (.pointer (some ⟨gl, ol + i, none⟩)) W (by exact ixI_run (n := nl) (c := cl) (.tmp 205) (.tmp 206) rfl (by kernel_rfl) (by kernel_rfl) hlt _) ?_
                                          simp only [Act.put, List.setIfInBounds_toArray, List.set_cons_zero, List.set_cons_succ]
                                          refine wpList_runTo rfl (some 208) rfl (.int .i64 c) W (by exact ldN_run (.inl rfl) (.tmp 207) rfl (by kernel_rfl) qc) ?_
                                          simp only [Act.put, List.setIfInBounds_toArray, List.set_cons_zero, List.set_cons_succ]
                                          refine wpList_runTo rfl (some 23) rfl (.int .i64 c) W (by kernel_rfl) ?_
                                          simp only [Act.put, List.setIfInBounds_toArray, List.set_cons_zero, List.set_cons_succ]
                                          refine wpList_nil ?_
                                          go_wp2_with fail
                                          go_meet
                                          exact ⟨rfl, rfl⟩
                                        | false =>
                                          go_wp2_with fail
                                          go_meet
                                          exact ⟨rfl, rfl⟩
                                      case rest => as_aux_lemma =>
                                        obtain ⟨rfl, ew⟩ := hcut
                                        replace ew := ew.symm
                                        subst ew
                                        obtain ⟨lowN, hlowN⟩ : ∃ x, x = (if hc48 = true then c else low) := ⟨_, rfl⟩
                                        have HlowN : Hid (lowN = (if low = 0 ∨ c < low then c else low)) := by
                                          show _ = _
                                          rw [hlowN, Hhc48.out]
                                          simp only [decide_eq_true_eq]
                                        rw [← hlowN]
                                        clear hlowN Hhc48
                                        have hbb := HSb.out
                                        obtain ⟨fc, hfc⟩ : ∃ x, x = far c rf := ⟨_, rfl⟩
                                        obtain ⟨fb, hfb⟩ : ∃ x, x = far best rf := ⟨_, rfl⟩
                                        have HFe : Hid (fc = far c rf ∧ fb = far best rf) := ⟨hfc, hfb⟩
                                        have HF1 : Hid (Calls Try.prog 41 #[.int .i64 c, .int .i64 rf] W fun e w' => e = .returned (.int .i64 fc) ∧ w' = W) := by
                                          show Calls _ _ _ _ _
                                          rw [hfc, ← far_eq]
                                          exact refFar_any W c rf (by omega) (by omega)
                                        have HF2 : Hid (Calls Try.prog 41 #[.int .i64 best, .int .i64 rf] W fun e w' => e = .returned (.int .i64 fb) ∧ w' = W) := by
                                          show Calls _ _ _ _ _
                                          rw [hfb, ← far_eq]
                                          exact refFar_any W best rf (by omega) (by omega)
                                        clear hfc hfb hbb
                                        obtain ⟨hc50, hhc50⟩ : ∃ x, x = decide (best = 0 ∨ fc < fb ∨ (fc = fb ∧ best < c)) := ⟨_, rfl⟩
                                        have Hhc50 : Hid (hc50 = decide (best = 0 ∨ fc < fb ∨ (fc = fb ∧ best < c))) := hhc50
                                        clear hhc50
                                        go_upto_region 50 with fail
                                        go_cut [242] (fun x wx => x = .bool hc50 ∧ wx = W)
                                        case first => as_aux_lemma =>
                                          rename_i K hK
                                          clear HS htk hTt hOo HB hle hfa
                                          by_cases h0 : best = 0
                                          · skip
                                            refine wp_region_lit ?_
                                            refine wpList_runTo rfl (some 209) rfl (.int .i64 best) W (by kernel_rfl) ?_
                                            simp only [Act.put, List.setIfInBounds_toArray, List.set_cons_zero, List.set_cons_succ]
                                            refine wpList_runTo rfl (some 210) rfl (.bool true) W (by exact eq0_run (.inl rfl) (p := best) (.tmp 209) rfl (by kernel_rfl) (decide_eq_true h0) _) ?_
                                            simp only [Act.put, List.setIfInBounds_toArray, List.set_cons_zero, List.set_cons_succ]
                                            refine wpList_runTo rfl (some 211) rfl (.bool true) W (by kernel_rfl) ?_
                                            simp only [Act.put, List.setIfInBounds_toArray, List.set_cons_zero, List.set_cons_succ]
                                            refine wpList_skipG (by kernel_rfl) ?_
                                            simp only [Act.put, List.setIfInBounds_toArray, List.set_cons_zero, List.set_cons_succ]
                                            refine wpList_skipG (by kernel_rfl) ?_
                                            simp only [Act.put, List.setIfInBounds_toArray, List.set_cons_zero, List.set_cons_succ]
                                            refine wpList_skipG (by kernel_rfl) ?_
                                            simp only [Act.put, List.setIfInBounds_toArray, List.set_cons_zero, List.set_cons_succ]
                                            refine wpList_skipG (by kernel_rfl) ?_
                                            simp only [Act.put, List.setIfInBounds_toArray, List.set_cons_zero, List.set_cons_succ]
                                            refine wpList_skipG (by kernel_rfl) ?_
                                            simp only [Act.put, List.setIfInBounds_toArray, List.set_cons_zero, List.set_cons_succ]
                                            refine wpList_skipG (by kernel_rfl) ?_
                                            simp only [Act.put, List.setIfInBounds_toArray, List.set_cons_zero, List.set_cons_succ]
                                            refine wpList_skipG (by kernel_rfl) ?_
                                            simp only [Act.put, List.setIfInBounds_toArray, List.set_cons_zero, List.set_cons_succ]
                                            refine wpList_skipG (by kernel_rfl) ?_
                                            simp only [Act.put, List.setIfInBounds_toArray, List.set_cons_zero, List.set_cons_succ]
                                            refine wpList_skipG (by kernel_rfl) ?_
                                            simp only [Act.put, List.setIfInBounds_toArray, List.set_cons_zero, List.set_cons_succ]
                                            refine wpList_skipG (by kernel_rfl) ?_
                                            simp only [Act.put, List.setIfInBounds_toArray, List.set_cons_zero, List.set_cons_succ]
                                            refine wpList_runTo rfl (some 222) rfl (.bool true) W (by kernel_rfl) ?_
                                            simp only [Act.put, List.setIfInBounds_toArray, List.set_cons_zero, List.set_cons_succ]
                                            refine wpList_runTo rfl (some 223) rfl (.bool true) W (by kernel_rfl) ?_
                                            simp only [Act.put, List.setIfInBounds_toArray, List.set_cons_zero, List.set_cons_succ]
                                            refine wpList_skipG (by kernel_rfl) ?_
                                            simp only [Act.put, List.setIfInBounds_toArray, List.set_cons_zero, List.set_cons_succ]
                                            refine wpList_skipG (by kernel_rfl) ?_
                                            simp only [Act.put, List.setIfInBounds_toArray, List.set_cons_zero, List.set_cons_succ]
                                            refine wpList_skipG (by kernel_rfl) ?_
                                            simp only [Act.put, List.setIfInBounds_toArray, List.set_cons_zero, List.set_cons_succ]
                                            refine wpList_skipG (by kernel_rfl) ?_
                                            simp only [Act.put, List.setIfInBounds_toArray, List.set_cons_zero, List.set_cons_succ]
                                            refine wpList_skipG (by kernel_rfl) ?_
                                            simp only [Act.put, List.setIfInBounds_toArray, List.set_cons_zero, List.set_cons_succ]
                                            refine wpList_skipG (by kernel_rfl) ?_
                                            simp only [Act.put, List.setIfInBounds_toArray, List.set_cons_zero, List.set_cons_succ]
                                            refine wpList_skipG (by kernel_rfl) ?_
                                            simp only [Act.put, List.setIfInBounds_toArray, List.set_cons_zero, List.set_cons_succ]
                                            refine wpList_skipG (by kernel_rfl) ?_
                                            simp only [Act.put, List.setIfInBounds_toArray, List.set_cons_zero, List.set_cons_succ]
                                            refine wpList_skipG (by kernel_rfl) ?_
                                            simp only [Act.put, List.setIfInBounds_toArray, List.set_cons_zero, List.set_cons_succ]
                                            refine wpList_skipG (by kernel_rfl) ?_
                                            simp only [Act.put, List.setIfInBounds_toArray, List.set_cons_zero, List.set_cons_succ]
                                            refine wpList_skipG (by kernel_rfl) ?_
                                            simp only [Act.put, List.setIfInBounds_toArray, List.set_cons_zero, List.set_cons_succ]
                                            refine wpList_skipG (by kernel_rfl) ?_
                                            simp only [Act.put, List.setIfInBounds_toArray, List.set_cons_zero, List.set_cons_succ]
                                            refine wpList_skipG (by kernel_rfl) ?_
                                            simp only [Act.put, List.setIfInBounds_toArray, List.set_cons_zero, List.set_cons_succ]
                                            refine wpList_skipG (by kernel_rfl) ?_
                                            simp only [Act.put, List.setIfInBounds_toArray, List.set_cons_zero, List.set_cons_succ]
                                            refine wpList_skipG (by kernel_rfl) ?_
                                            simp only [Act.put, List.setIfInBounds_toArray, List.set_cons_zero, List.set_cons_succ]
                                            refine wpList_skipG (by kernel_rfl) ?_
                                            simp only [Act.put, List.setIfInBounds_toArray, List.set_cons_zero, List.set_cons_succ]
                                            refine wpList_skipG (by kernel_rfl) ?_
                                            simp only [Act.put, List.setIfInBounds_toArray, List.set_cons_zero, List.set_cons_succ]
                                            refine wpList_skipG (by kernel_rfl) ?_
                                            simp only [Act.put, List.setIfInBounds_toArray, List.set_cons_zero, List.set_cons_succ]
                                            refine wpList_runTo rfl (some 242) rfl (.bool true) W (by kernel_rfl) ?_
                                            simp only [Act.put, List.setIfInBounds_toArray, List.set_cons_zero, List.set_cons_succ]
                                            refine wpList_nil ?_
                                            refine hK _ _ ?_
                                            clear hK
                                            go_meet
                                            exact ⟨by rw [Hhc50.out, decide_eq_true (by omega)], rfl⟩
                                          · by_cases h1 : fc < fb
                                            · skip
                                              refine wp_region_lit ?_
                                              refine wpList_runTo rfl (some 209) rfl (.int .i64 best) W (by kernel_rfl) ?_
                                              simp only [Act.put, List.setIfInBounds_toArray, List.set_cons_zero, List.set_cons_succ]
                                              refine wpList_runTo rfl (some 210) rfl (.bool false) W (by exact eq0_run (.inl rfl) (p := best) (.tmp 209) rfl (by kernel_rfl) (decide_eq_false h0) _) ?_
                                              simp only [Act.put, List.setIfInBounds_toArray, List.set_cons_zero, List.set_cons_succ]
                                              refine wpList_runTo rfl (some 211) rfl (.bool false) W (by kernel_rfl) ?_
                                              simp only [Act.put, List.setIfInBounds_toArray, List.set_cons_zero, List.set_cons_succ]
                                              refine wpList_runToG (by kernel_rfl) (some 212) rfl (.slice (some ⟨gl, ol, none⟩) nl cl) W (by kernel_rfl) ?_
                                              simp only [Act.put, List.setIfInBounds_toArray, List.set_cons_zero, List.set_cons_succ]
                                              refine wpList_runToG (by kernel_rfl) (some 213) rfl (.int .i64 (i : Int)) W (by kernel_rfl) ?_
                                              simp only [Act.put, List.setIfInBounds_toArray, List.set_cons_zero, List.set_cons_succ]
                                              refine wpList_runToG (by kernel_rfl) (some 214) rfl (.pointer (some ⟨gl, ol + i, none⟩)) W (by exact ixI_run (n := nl) (c := cl) (.tmp 212) (.tmp 213) rfl (by kernel_rfl) (by kernel_rfl) hlt _) ?_
                                              simp only [Act.put, List.setIfInBounds_toArray, List.set_cons_zero, List.set_cons_succ]
                                              refine wpList_runToG (by kernel_rfl) (some 215) rfl (.int .i64 c) W (by exact ldN_run (.inl rfl) (.tmp 214) rfl (by kernel_rfl) qc) ?_
                                              simp only [Act.put, List.setIfInBounds_toArray, List.set_cons_zero, List.set_cons_succ]
                                              refine wpList_runToG (by kernel_rfl) (some 216) rfl (.int .i64 rf) W (by kernel_rfl) ?_
                                              simp only [Act.put, List.setIfInBounds_toArray, List.set_cons_zero, List.set_cons_succ]
                                              refine wpList_callG (by kernel_rfl) (some 217) rfl 41 #[.int .i64 c, .int .i64 rf] (by kernel_rfl) (HF1.out) ?_
                                              rintro e w' ⟨rfl, ew⟩
                                              replace ew := ew.symm
                                              subst ew
                                              refine ⟨_, rfl, ?_⟩
                                              simp only [Act.put, List.setIfInBounds_toArray, List.set_cons_zero, List.set_cons_succ]
                                              refine wpList_runToG (by kernel_rfl) (some 218) rfl (.int .i64 best) W (by kernel_rfl) ?_
                                              simp only [Act.put, List.setIfInBounds_toArray, List.set_cons_zero, List.set_cons_succ]
                                              refine wpList_runToG (by kernel_rfl) (some 219) rfl (.int .i64 rf) W (by kernel_rfl) ?_
                                              simp only [Act.put, List.setIfInBounds_toArray, List.set_cons_zero, List.set_cons_succ]
                                              refine wpList_callG (by kernel_rfl) (some 220) rfl 41 #[.int .i64 best, .int .i64 rf] (by kernel_rfl) (HF2.out) ?_
                                              rintro e w' ⟨rfl, ew⟩
                                              replace ew := ew.symm
                                              subst ew
                                              refine ⟨_, rfl, ?_⟩
                                              simp only [Act.put, List.setIfInBounds_toArray, List.set_cons_zero, List.set_cons_succ]
                                              refine wpList_runToG (by kernel_rfl) (some 221) rfl (.bool true) W (by exact ltV_run (p := fc) (q := fb) (.tmp 217) (.tmp 220) rfl (by kernel_rfl) (by kernel_rfl) (decide_eq_true h1) _) ?_
                                              simp only [Act.put, List.setIfInBounds_toArray, List.set_cons_zero, List.set_cons_succ]
                                              refine wpList_runTo rfl (some 222) rfl (.bool true) W (by exact pickN_run (c := true) (.tmp 211) (.tmp 221) rfl (by kernel_rfl) (by kernel_rfl) _) ?_
                                              simp only [Act.put, List.setIfInBounds_toArray, List.set_cons_zero, List.set_cons_succ]
                                              refine wpList_runTo rfl (some 223) rfl (.bool true) W (by kernel_rfl) ?_
                                              simp only [Act.put, List.setIfInBounds_toArray, List.set_cons_zero, List.set_cons_succ]
                                              refine wpList_skipG (by kernel_rfl) ?_
                                              simp only [Act.put, List.setIfInBounds_toArray, List.set_cons_zero, List.set_cons_succ]
                                              refine wpList_skipG (by kernel_rfl) ?_
                                              simp only [Act.put, List.setIfInBounds_toArray, List.set_cons_zero, List.set_cons_succ]
                                              refine wpList_skipG (by kernel_rfl) ?_
                                              simp only [Act.put, List.setIfInBounds_toArray, List.set_cons_zero, List.set_cons_succ]
                                              refine wpList_skipG (by kernel_rfl) ?_
                                              simp only [Act.put, List.setIfInBounds_toArray, List.set_cons_zero, List.set_cons_succ]
                                              refine wpList_skipG (by kernel_rfl) ?_
                                              simp only [Act.put, List.setIfInBounds_toArray, List.set_cons_zero, List.set_cons_succ]
                                              refine wpList_skipG (by kernel_rfl) ?_
                                              simp only [Act.put, List.setIfInBounds_toArray, List.set_cons_zero, List.set_cons_succ]
                                              refine wpList_skipG (by kernel_rfl) ?_
                                              simp only [Act.put, List.setIfInBounds_toArray, List.set_cons_zero, List.set_cons_succ]
                                              refine wpList_skipG (by kernel_rfl) ?_
                                              simp only [Act.put, List.setIfInBounds_toArray, List.set_cons_zero, List.set_cons_succ]
                                              refine wpList_skipG (by kernel_rfl) ?_
                                              simp only [Act.put, List.setIfInBounds_toArray, List.set_cons_zero, List.set_cons_succ]
                                              refine wpList_skipG (by kernel_rfl) ?_
                                              simp only [Act.put, List.setIfInBounds_toArray, List.set_cons_zero, List.set_cons_succ]
                                              refine wpList_skipG (by kernel_rfl) ?_
                                              simp only [Act.put, List.setIfInBounds_toArray, List.set_cons_zero, List.set_cons_succ]
                                              refine wpList_skipG (by kernel_rfl) ?_
                                              simp only [Act.put, List.setIfInBounds_toArray, List.set_cons_zero, List.set_cons_succ]
                                              refine wpList_skipG (by kernel_rfl) ?_
                                              simp only [Act.put, List.setIfInBounds_toArray, List.set_cons_zero, List.set_cons_succ]
                                              refine wpList_skipG (by kernel_rfl) ?_
                                              simp only [Act.put, List.setIfInBounds_toArray, List.set_cons_zero, List.set_cons_succ]
                                              refine wpList_skipG (by kernel_rfl) ?_
                                              simp only [Act.put, List.setIfInBounds_toArray, List.set_cons_zero, List.set_cons_succ]
                                              refine wpList_skipG (by kernel_rfl) ?_
                                              simp only [Act.put, List.setIfInBounds_toArray, List.set_cons_zero, List.set_cons_succ]
                                              refine wpList_skipG (by kernel_rfl) ?_
                                              simp only [Act.put, List.setIfInBounds_toArray, List.set_cons_zero, List.set_cons_succ]
                                              refine wpList_skipG (by kernel_rfl) ?_
                                              simp only [Act.put, List.setIfInBounds_toArray, List.set_cons_zero, List.set_cons_succ]
                                              refine wpList_runTo rfl (some 242) rfl (.bool true) W (by kernel_rfl) ?_
                                              simp only [Act.put, List.setIfInBounds_toArray, List.set_cons_zero, List.set_cons_succ]
                                              refine wpList_nil ?_
                                              refine hK _ _ ?_
                                              clear hK
                                              go_meet
                                              exact ⟨by rw [Hhc50.out, decide_eq_true (by omega)], rfl⟩
                                            · by_cases h2 : fc = fb
                                              · by_cases h3 : best < c
                                                · skip
                                                  refine wp_region_lit ?_
                                                  refine wpList_runTo rfl (some 209) rfl (.int .i64 best) W (by kernel_rfl) ?_
                                                  simp only [Act.put, List.setIfInBounds_toArray, List.set_cons_zero, List.set_cons_succ]
                                                  refine wpList_runTo rfl (some 210) rfl (.bool false) W (by exact eq0_run (.inl rfl) (p := best) (.tmp 209) rfl (by kernel_rfl) (decide_eq_false h0) _) ?_
                                                  simp only [Act.put, List.setIfInBounds_toArray, List.set_cons_zero, List.set_cons_succ]
                                                  refine wpList_runTo rfl (some 211) rfl (.bool false) W (by kernel_rfl) ?_
                                                  simp only [Act.put, List.setIfInBounds_toArray, List.set_cons_zero, List.set_cons_succ]
                                                  refine wpList_runToG (by kernel_rfl) (some 212) rfl (.slice (some ⟨gl, ol, none⟩) nl cl) W (by kernel_rfl) ?_
                                                  simp only [Act.put, List.setIfInBounds_toArray, List.set_cons_zero, List.set_cons_succ]
                                                  refine wpList_runToG (by kernel_rfl) (some 213) rfl (.int .i64 (i : Int)) W (by kernel_rfl) ?_
                                                  simp only [Act.put, List.setIfInBounds_toArray, List.set_cons_zero, List.set_cons_succ]
                                                  refine wpList_runToG (by kernel_rfl) (some 214) rfl (.pointer (some ⟨gl, ol + i, none⟩)) W (by exact ixI_run (n := nl) (c := cl) (.tmp 212) (.tmp 213) rfl (by kernel_rfl) (by kernel_rfl) hlt _) ?_
                                                  simp only [Act.put, List.setIfInBounds_toArray, List.set_cons_zero, List.set_cons_succ]
                                                  refine wpList_runToG (by kernel_rfl) (some 215) rfl (.int .i64 c) W (by exact ldN_run (.inl rfl) (.tmp 214) rfl (by kernel_rfl) qc) ?_
                                                  simp only [Act.put, List.setIfInBounds_toArray, List.set_cons_zero, List.set_cons_succ]
                                                  refine wpList_runToG (by kernel_rfl) (some 216) rfl (.int .i64 rf) W (by kernel_rfl) ?_
                                                  simp only [Act.put, List.setIfInBounds_toArray, List.set_cons_zero, List.set_cons_succ]
                                                  refine wpList_callG (by kernel_rfl) (some 217) rfl 41 #[.int .i64 c, .int .i64 rf] (by kernel_rfl) (HF1.out) ?_
                                                  rintro e w' ⟨rfl, ew⟩
                                                  replace ew := ew.symm
                                                  subst ew
                                                  refine ⟨_, rfl, ?_⟩
                                                  simp only [Act.put, List.setIfInBounds_toArray, List.set_cons_zero, List.set_cons_succ]
                                                  refine wpList_runToG (by kernel_rfl) (some 218) rfl (.int .i64 best) W (by kernel_rfl) ?_
                                                  simp only [Act.put, List.setIfInBounds_toArray, List.set_cons_zero, List.set_cons_succ]
                                                  refine wpList_runToG (by kernel_rfl) (some 219) rfl (.int .i64 rf) W (by kernel_rfl) ?_
                                                  simp only [Act.put, List.setIfInBounds_toArray, List.set_cons_zero, List.set_cons_succ]
                                                  refine wpList_callG (by kernel_rfl) (some 220) rfl 41 #[.int .i64 best, .int .i64 rf] (by kernel_rfl) (HF2.out) ?_
                                                  rintro e w' ⟨rfl, ew⟩
                                                  replace ew := ew.symm
                                                  subst ew
                                                  refine ⟨_, rfl, ?_⟩
                                                  simp only [Act.put, List.setIfInBounds_toArray, List.set_cons_zero, List.set_cons_succ]
                                                  refine wpList_runToG (by kernel_rfl) (some 221) rfl (.bool false) W (by exact ltV_run (p := fc) (q := fb) (.tmp 217) (.tmp 220) rfl (by kernel_rfl) (by kernel_rfl) (decide_eq_false h1) _) ?_
                                                  simp only [Act.put, List.setIfInBounds_toArray, List.set_cons_zero, List.set_cons_succ]
                                                  refine wpList_runTo rfl (some 222) rfl (.bool false) W (by exact pickN_run (c := false) (.tmp 211) (.tmp 221) rfl (by kernel_rfl) (by kernel_rfl) _) ?_
                                                  simp only [Act.put, List.setIfInBounds_toArray, List.set_cons_zero, List.set_cons_succ]
                                                  refine wpList_runTo rfl (some 223) rfl (.bool false) W (by kernel_rfl) ?_
                                                  simp only [Act.put, List.setIfInBounds_toArray, List.set_cons_zero, List.set_cons_succ]
                                                  refine wpList_runToG (by kernel_rfl) (some 224) rfl (.slice (some ⟨gl, ol, none⟩) nl cl) W (by kernel_rfl) ?_
                                                  simp only [Act.put, List.setIfInBounds_toArray, List.set_cons_zero, List.set_cons_succ]
                                                  refine wpList_runToG (by kernel_rfl) (some 225) rfl (.int .i64 (i : Int)) W (by kernel_rfl) ?_
                                                  simp only [Act.put, List.setIfInBounds_toArray, List.set_cons_zero, List.set_cons_succ]
                                                  refine wpList_runToG (by kernel_rfl) (some 226) rfl (.pointer (some ⟨gl, ol + i, none⟩)) W (by exact ixI_run (n := nl) (c := cl) (.tmp 224) (.tmp 225) rfl (by kernel_rfl) (by kernel_rfl) hlt _) ?_
                                                  simp only [Act.put, List.setIfInBounds_toArray, List.set_cons_zero, List.set_cons_succ]
                                                  refine wpList_runToG (by kernel_rfl) (some 227) rfl (.int .i64 c) W (by exact ldN_run (.inl rfl) (.tmp 226) rfl (by kernel_rfl) qc) ?_
                                                  simp only [Act.put, List.setIfInBounds_toArray, List.set_cons_zero, List.set_cons_succ]
                                                  refine wpList_runToG (by kernel_rfl) (some 228) rfl (.int .i64 rf) W (by kernel_rfl) ?_
                                                  simp only [Act.put, List.setIfInBounds_toArray, List.set_cons_zero, List.set_cons_succ]
                                                  refine wpList_callG (by kernel_rfl) (some 229) rfl 41 #[.int .i64 c, .int .i64 rf] (by kernel_rfl) (HF1.out) ?_
                                                  rintro e w' ⟨rfl, ew⟩
                                                  replace ew := ew.symm
                                                  subst ew
                                                  refine ⟨_, rfl, ?_⟩
                                                  simp only [Act.put, List.setIfInBounds_toArray, List.set_cons_zero, List.set_cons_succ]
                                                  refine wpList_runToG (by kernel_rfl) (some 230) rfl (.int .i64 best) W (by kernel_rfl) ?_
                                                  simp only [Act.put, List.setIfInBounds_toArray, List.set_cons_zero, List.set_cons_succ]
                                                  refine wpList_runToG (by kernel_rfl) (some 231) rfl (.int .i64 rf) W (by kernel_rfl) ?_
                                                  simp only [Act.put, List.setIfInBounds_toArray, List.set_cons_zero, List.set_cons_succ]
                                                  refine wpList_callG (by kernel_rfl) (some 232) rfl 41 #[.int .i64 best, .int .i64 rf] (by kernel_rfl) (HF2.out) ?_
                                                  rintro e w' ⟨rfl, ew⟩
                                                  replace ew := ew.symm
                                                  subst ew
                                                  refine ⟨_, rfl, ?_⟩
                                                  simp only [Act.put, List.setIfInBounds_toArray, List.set_cons_zero, List.set_cons_succ]
                                                  refine wpList_runToG (by kernel_rfl) (some 233) rfl (.bool true) W (by exact eqV_run (.inl rfl) (p := fc) (q := fb) (.tmp 229) (.tmp 232) rfl (by kernel_rfl) (by kernel_rfl) (decide_eq_true h2) _) ?_
                                                  simp only [Act.put, List.setIfInBounds_toArray, List.set_cons_zero, List.set_cons_succ]
                                                  refine wpList_runToG (by kernel_rfl) (some 234) rfl (.bool true) W (by kernel_rfl) ?_
                                                  simp only [Act.put, List.setIfInBounds_toArray, List.set_cons_zero, List.set_cons_succ]
                                                  refine wpList_runToG (by kernel_rfl) (some 235) rfl (.slice (some ⟨gl, ol, none⟩) nl cl) W (by kernel_rfl) ?_
                                                  simp only [Act.put, List.setIfInBounds_toArray, List.set_cons_zero, List.set_cons_succ]
                                                  refine wpList_runToG (by kernel_rfl) (some 236) rfl (.int .i64 (i : Int)) W (by kernel_rfl) ?_
                                                  simp only [Act.put, List.setIfInBounds_toArray, List.set_cons_zero, List.set_cons_succ]
                                                  refine wpList_runToG (by kernel_rfl) (some 237) rfl (.pointer (some ⟨gl, ol + i, none⟩)) W (by exact ixI_run (n := nl) (c := cl) (.tmp 235) (.tmp 236) rfl (by kernel_rfl) (by kernel_rfl) hlt _) ?_
                                                  simp only [Act.put, List.setIfInBounds_toArray, List.set_cons_zero, List.set_cons_succ]
                                                  refine wpList_runToG (by kernel_rfl) (some 238) rfl (.int .i64 c) W (by exact ldN_run (.inl rfl) (.tmp 237) rfl (by kernel_rfl) qc) ?_
                                                  simp only [Act.put, List.setIfInBounds_toArray, List.set_cons_zero, List.set_cons_succ]
                                                  refine wpList_runToG (by kernel_rfl) (some 239) rfl (.int .i64 best) W (by kernel_rfl) ?_
                                                  simp only [Act.put, List.setIfInBounds_toArray, List.set_cons_zero, List.set_cons_succ]
                                                  refine wpList_runToG (by kernel_rfl) (some 240) rfl (.bool true) W (by exact gtV_run (p := c) (q := best) (.tmp 238) (.tmp 239) rfl (by kernel_rfl) (by kernel_rfl) (decide_eq_true h3) _) ?_
                                                  simp only [Act.put, List.setIfInBounds_toArray, List.set_cons_zero, List.set_cons_succ]
                                                  refine wpList_runToG (by kernel_rfl) (some 241) rfl (.bool true) W (by exact pick_run (c := true) (.tmp 234) (.tmp 240) rfl (by kernel_rfl) (by kernel_rfl) _) ?_
                                                  simp only [Act.put, List.setIfInBounds_toArray, List.set_cons_zero, List.set_cons_succ]
                                                  refine wpList_runTo rfl (some 242) rfl (.bool true) W (by exact pickN_run (c := true) (.tmp 223) (.tmp 241) rfl (by kernel_rfl) (by kernel_rfl) _) ?_
                                                  simp only [Act.put, List.setIfInBounds_toArray, List.set_cons_zero, List.set_cons_succ]
                                                  refine wpList_nil ?_
                                                  refine hK _ _ ?_
                                                  clear hK
                                                  go_meet
                                                  exact ⟨by rw [Hhc50.out, decide_eq_true (by omega)], rfl⟩
                                                · skip
                                                  refine wp_region_lit ?_
                                                  refine wpList_runTo rfl (some 209) rfl (.int .i64 best) W (by kernel_rfl) ?_
                                                  simp only [Act.put, List.setIfInBounds_toArray, List.set_cons_zero, List.set_cons_succ]
                                                  refine wpList_runTo rfl (some 210) rfl (.bool false) W (by exact eq0_run (.inl rfl) (p := best) (.tmp 209) rfl (by kernel_rfl) (decide_eq_false h0) _) ?_
                                                  simp only [Act.put, List.setIfInBounds_toArray, List.set_cons_zero, List.set_cons_succ]
                                                  refine wpList_runTo rfl (some 211) rfl (.bool false) W (by kernel_rfl) ?_
                                                  simp only [Act.put, List.setIfInBounds_toArray, List.set_cons_zero, List.set_cons_succ]
                                                  refine wpList_runToG (by kernel_rfl) (some 212) rfl (.slice (some ⟨gl, ol, none⟩) nl cl) W (by kernel_rfl) ?_
                                                  simp only [Act.put, List.setIfInBounds_toArray, List.set_cons_zero, List.set_cons_succ]
                                                  refine wpList_runToG (by kernel_rfl) (some 213) rfl (.int .i64 (i : Int)) W (by kernel_rfl) ?_
                                                  simp only [Act.put, List.setIfInBounds_toArray, List.set_cons_zero, List.set_cons_succ]
                                                  refine wpList_runToG (by kernel_rfl) (some 214) rfl (.pointer (some ⟨gl, ol + i, none⟩)) W (by exact ixI_run (n := nl) (c := cl) (.tmp 212) (.tmp 213) rfl (by kernel_rfl) (by kernel_rfl) hlt _) ?_
                                                  simp only [Act.put, List.setIfInBounds_toArray, List.set_cons_zero, List.set_cons_succ]
                                                  refine wpList_runToG (by kernel_rfl) (some 215) rfl (.int .i64 c) W (by exact ldN_run (.inl rfl) (.tmp 214) rfl (by kernel_rfl) qc) ?_
                                                  simp only [Act.put, List.setIfInBounds_toArray, List.set_cons_zero, List.set_cons_succ]
                                                  refine wpList_runToG (by kernel_rfl) (some 216) rfl (.int .i64 rf) W (by kernel_rfl) ?_
                                                  simp only [Act.put, List.setIfInBounds_toArray, List.set_cons_zero, List.set_cons_succ]
                                                  refine wpList_callG (by kernel_rfl) (some 217) rfl 41 #[.int .i64 c, .int .i64 rf] (by kernel_rfl) (HF1.out) ?_
                                                  rintro e w' ⟨rfl, ew⟩
                                                  replace ew := ew.symm
                                                  subst ew
                                                  refine ⟨_, rfl, ?_⟩
                                                  simp only [Act.put, List.setIfInBounds_toArray, List.set_cons_zero, List.set_cons_succ]
                                                  refine wpList_runToG (by kernel_rfl) (some 218) rfl (.int .i64 best) W (by kernel_rfl) ?_
                                                  simp only [Act.put, List.setIfInBounds_toArray, List.set_cons_zero, List.set_cons_succ]
                                                  refine wpList_runToG (by kernel_rfl) (some 219) rfl (.int .i64 rf) W (by kernel_rfl) ?_
                                                  simp only [Act.put, List.setIfInBounds_toArray, List.set_cons_zero, List.set_cons_succ]
                                                  refine wpList_callG (by kernel_rfl) (some 220) rfl 41 #[.int .i64 best, .int .i64 rf] (by kernel_rfl) (HF2.out) ?_
                                                  rintro e w' ⟨rfl, ew⟩
                                                  replace ew := ew.symm
                                                  subst ew
                                                  refine ⟨_, rfl, ?_⟩
                                                  simp only [Act.put, List.setIfInBounds_toArray, List.set_cons_zero, List.set_cons_succ]
                                                  refine wpList_runToG (by kernel_rfl) (some 221) rfl (.bool false) W (by exact ltV_run (p := fc) (q := fb) (.tmp 217) (.tmp 220) rfl (by kernel_rfl) (by kernel_rfl) (decide_eq_false h1) _) ?_
                                                  simp only [Act.put, List.setIfInBounds_toArray, List.set_cons_zero, List.set_cons_succ]
                                                  refine wpList_runTo rfl (some 222) rfl (.bool false) W (by exact pickN_run (c := false) (.tmp 211) (.tmp 221) rfl (by kernel_rfl) (by kernel_rfl) _) ?_
                                                  simp only [Act.put, List.setIfInBounds_toArray, List.set_cons_zero, List.set_cons_succ]
                                                  refine wpList_runTo rfl (some 223) rfl (.bool false) W (by kernel_rfl) ?_
                                                  simp only [Act.put, List.setIfInBounds_toArray, List.set_cons_zero, List.set_cons_succ]
                                                  refine wpList_runToG (by kernel_rfl) (some 224) rfl (.slice (some ⟨gl, ol, none⟩) nl cl) W (by kernel_rfl) ?_
                                                  simp only [Act.put, List.setIfInBounds_toArray, List.set_cons_zero, List.set_cons_succ]
                                                  refine wpList_runToG (by kernel_rfl) (some 225) rfl (.int .i64 (i : Int)) W (by kernel_rfl) ?_
                                                  simp only [Act.put, List.setIfInBounds_toArray, List.set_cons_zero, List.set_cons_succ]
                                                  refine wpList_runToG (by kernel_rfl) (some 226) rfl (.pointer (some ⟨gl, ol + i, none⟩)) W (by exact ixI_run (n := nl) (c := cl) (.tmp 224) (.tmp 225) rfl (by kernel_rfl) (by kernel_rfl) hlt _) ?_
                                                  simp only [Act.put, List.setIfInBounds_toArray, List.set_cons_zero, List.set_cons_succ]
                                                  refine wpList_runToG (by kernel_rfl) (some 227) rfl (.int .i64 c) W (by exact ldN_run (.inl rfl) (.tmp 226) rfl (by kernel_rfl) qc) ?_
                                                  simp only [Act.put, List.setIfInBounds_toArray, List.set_cons_zero, List.set_cons_succ]
                                                  refine wpList_runToG (by kernel_rfl) (some 228) rfl (.int .i64 rf) W (by kernel_rfl) ?_
                                                  simp only [Act.put, List.setIfInBounds_toArray, List.set_cons_zero, List.set_cons_succ]
                                                  refine wpList_callG (by kernel_rfl) (some 229) rfl 41 #[.int .i64 c, .int .i64 rf] (by kernel_rfl) (HF1.out) ?_
                                                  rintro e w' ⟨rfl, ew⟩
                                                  replace ew := ew.symm
                                                  subst ew
                                                  refine ⟨_, rfl, ?_⟩
                                                  simp only [Act.put, List.setIfInBounds_toArray, List.set_cons_zero, List.set_cons_succ]
                                                  refine wpList_runToG (by kernel_rfl) (some 230) rfl (.int .i64 best) W (by kernel_rfl) ?_
                                                  simp only [Act.put, List.setIfInBounds_toArray, List.set_cons_zero, List.set_cons_succ]
                                                  refine wpList_runToG (by kernel_rfl) (some 231) rfl (.int .i64 rf) W (by kernel_rfl) ?_
                                                  simp only [Act.put, List.setIfInBounds_toArray, List.set_cons_zero, List.set_cons_succ]
                                                  refine wpList_callG (by kernel_rfl) (some 232) rfl 41 #[.int .i64 best, .int .i64 rf] (by kernel_rfl) (HF2.out) ?_
                                                  rintro e w' ⟨rfl, ew⟩
                                                  replace ew := ew.symm
                                                  subst ew
                                                  refine ⟨_, rfl, ?_⟩
                                                  simp only [Act.put, List.setIfInBounds_toArray, List.set_cons_zero, List.set_cons_succ]
                                                  refine wpList_runToG (by kernel_rfl) (some 233) rfl (.bool true) W (by exact eqV_run (.inl rfl) (p := fc) (q := fb) (.tmp 229) (.tmp 232) rfl (by kernel_rfl) (by kernel_rfl) (decide_eq_true h2) _) ?_
                                                  simp only [Act.put, List.setIfInBounds_toArray, List.set_cons_zero, List.set_cons_succ]
                                                  refine wpList_runToG (by kernel_rfl) (some 234) rfl (.bool true) W (by kernel_rfl) ?_
                                                  simp only [Act.put, List.setIfInBounds_toArray, List.set_cons_zero, List.set_cons_succ]
                                                  refine wpList_runToG (by kernel_rfl) (some 235) rfl (.slice (some ⟨gl, ol, none⟩) nl cl) W (by kernel_rfl) ?_
                                                  simp only [Act.put, List.setIfInBounds_toArray, List.set_cons_zero, List.set_cons_succ]
                                                  refine wpList_runToG (by kernel_rfl) (some 236) rfl (.int .i64 (i : Int)) W (by kernel_rfl) ?_
                                                  simp only [Act.put, List.setIfInBounds_toArray, List.set_cons_zero, List.set_cons_succ]
                                                  refine wpList_runToG (by kernel_rfl) (some 237) rfl (.pointer (some ⟨gl, ol + i, none⟩)) W (by exact ixI_run (n := nl) (c := cl) (.tmp 235) (.tmp 236) rfl (by kernel_rfl) (by kernel_rfl) hlt _) ?_
                                                  simp only [Act.put, List.setIfInBounds_toArray, List.set_cons_zero, List.set_cons_succ]
                                                  refine wpList_runToG (by kernel_rfl) (some 238) rfl (.int .i64 c) W (by exact ldN_run (.inl rfl) (.tmp 237) rfl (by kernel_rfl) qc) ?_
                                                  simp only [Act.put, List.setIfInBounds_toArray, List.set_cons_zero, List.set_cons_succ]
                                                  refine wpList_runToG (by kernel_rfl) (some 239) rfl (.int .i64 best) W (by kernel_rfl) ?_
                                                  simp only [Act.put, List.setIfInBounds_toArray, List.set_cons_zero, List.set_cons_succ]
                                                  refine wpList_runToG (by kernel_rfl) (some 240) rfl (.bool false) W (by exact gtV_run (p := c) (q := best) (.tmp 238) (.tmp 239) rfl (by kernel_rfl) (by kernel_rfl) (decide_eq_false h3) _) ?_
                                                  simp only [Act.put, List.setIfInBounds_toArray, List.set_cons_zero, List.set_cons_succ]
                                                  refine wpList_runToG (by kernel_rfl) (some 241) rfl (.bool false) W (by exact pick_run (c := false) (.tmp 234) (.tmp 240) rfl (by kernel_rfl) (by kernel_rfl) _) ?_
                                                  simp only [Act.put, List.setIfInBounds_toArray, List.set_cons_zero, List.set_cons_succ]
                                                  refine wpList_runTo rfl (some 242) rfl (.bool false) W (by exact pickN_run (c := false) (.tmp 223) (.tmp 241) rfl (by kernel_rfl) (by kernel_rfl) _) ?_
                                                  simp only [Act.put, List.setIfInBounds_toArray, List.set_cons_zero, List.set_cons_succ]
                                                  refine wpList_nil ?_
                                                  refine hK _ _ ?_
                                                  clear hK
                                                  go_meet
                                                  exact ⟨by rw [Hhc50.out, decide_eq_false (by omega)], rfl⟩
                                              · skip
                                                refine wp_region_lit ?_
                                                refine wpList_runTo rfl (some 209) rfl (.int .i64 best) W (by kernel_rfl) ?_
                                                simp only [Act.put, List.setIfInBounds_toArray, List.set_cons_zero, List.set_cons_succ]
                                                refine wpList_runTo rfl (some 210) rfl (.bool false) W (by exact eq0_run (.inl rfl) (p := best) (.tmp 209) rfl (by kernel_rfl) (decide_eq_false h0) _) ?_
                                                simp only [Act.put, List.setIfInBounds_toArray, List.set_cons_zero, List.set_cons_succ]
                                                refine wpList_runTo rfl (some 211) rfl (.bool false) W (by kernel_rfl) ?_
                                                simp only [Act.put, List.setIfInBounds_toArray, List.set_cons_zero, List.set_cons_succ]
                                                refine wpList_runToG (by kernel_rfl) (some 212) rfl (.slice (some ⟨gl, ol, none⟩) nl cl) W (by kernel_rfl) ?_
                                                simp only [Act.put, List.setIfInBounds_toArray, List.set_cons_zero, List.set_cons_succ]
                                                refine wpList_runToG (by kernel_rfl) (some 213) rfl (.int .i64 (i : Int)) W (by kernel_rfl) ?_
                                                simp only [Act.put, List.setIfInBounds_toArray, List.set_cons_zero, List.set_cons_succ]
                                                refine wpList_runToG (by kernel_rfl) (some 214) rfl (.pointer (some ⟨gl, ol + i, none⟩)) W (by exact ixI_run (n := nl) (c := cl) (.tmp 212) (.tmp 213) rfl (by kernel_rfl) (by kernel_rfl) hlt _) ?_
                                                simp only [Act.put, List.setIfInBounds_toArray, List.set_cons_zero, List.set_cons_succ]
                                                refine wpList_runToG (by kernel_rfl) (some 215) rfl (.int .i64 c) W (by exact ldN_run (.inl rfl) (.tmp 214) rfl (by kernel_rfl) qc) ?_
                                                simp only [Act.put, List.setIfInBounds_toArray, List.set_cons_zero, List.set_cons_succ]
                                                refine wpList_runToG (by kernel_rfl) (some 216) rfl (.int .i64 rf) W (by kernel_rfl) ?_
                                                simp only [Act.put, List.setIfInBounds_toArray, List.set_cons_zero, List.set_cons_succ]
                                                refine wpList_callG (by kernel_rfl) (some 217) rfl 41 #[.int .i64 c, .int .i64 rf] (by kernel_rfl) (HF1.out) ?_
                                                rintro e w' ⟨rfl, ew⟩
                                                replace ew := ew.symm
                                                subst ew
                                                refine ⟨_, rfl, ?_⟩
                                                simp only [Act.put, List.setIfInBounds_toArray, List.set_cons_zero, List.set_cons_succ]
                                                refine wpList_runToG (by kernel_rfl) (some 218) rfl (.int .i64 best) W (by kernel_rfl) ?_
                                                simp only [Act.put, List.setIfInBounds_toArray, List.set_cons_zero, List.set_cons_succ]
                                                refine wpList_runToG (by kernel_rfl) (some 219) rfl (.int .i64 rf) W (by kernel_rfl) ?_
                                                simp only [Act.put, List.setIfInBounds_toArray, List.set_cons_zero, List.set_cons_succ]
                                                refine wpList_callG (by kernel_rfl) (some 220) rfl 41 #[.int .i64 best, .int .i64 rf] (by kernel_rfl) (HF2.out) ?_
                                                rintro e w' ⟨rfl, ew⟩
                                                replace ew := ew.symm
                                                subst ew
                                                refine ⟨_, rfl, ?_⟩
                                                simp only [Act.put, List.setIfInBounds_toArray, List.set_cons_zero, List.set_cons_succ]
                                                refine wpList_runToG (by kernel_rfl) (some 221) rfl (.bool false) W (by exact ltV_run (p := fc) (q := fb) (.tmp 217) (.tmp 220) rfl (by kernel_rfl) (by kernel_rfl) (decide_eq_false h1) _) ?_
                                                simp only [Act.put, List.setIfInBounds_toArray, List.set_cons_zero, List.set_cons_succ]
                                                refine wpList_runTo rfl (some 222) rfl (.bool false) W (by exact pickN_run (c := false) (.tmp 211) (.tmp 221) rfl (by kernel_rfl) (by kernel_rfl) _) ?_
                                                simp only [Act.put, List.setIfInBounds_toArray, List.set_cons_zero, List.set_cons_succ]
                                                refine wpList_runTo rfl (some 223) rfl (.bool false) W (by kernel_rfl) ?_
                                                simp only [Act.put, List.setIfInBounds_toArray, List.set_cons_zero, List.set_cons_succ]
                                                refine wpList_runToG (by kernel_rfl) (some 224) rfl (.slice (some ⟨gl, ol, none⟩) nl cl) W (by kernel_rfl) ?_
                                                simp only [Act.put, List.setIfInBounds_toArray, List.set_cons_zero, List.set_cons_succ]
                                                refine wpList_runToG (by kernel_rfl) (some 225) rfl (.int .i64 (i : Int)) W (by kernel_rfl) ?_
                                                simp only [Act.put, List.setIfInBounds_toArray, List.set_cons_zero, List.set_cons_succ]
                                                refine wpList_runToG (by kernel_rfl) (some 226) rfl (.pointer (some ⟨gl, ol + i, none⟩)) W (by exact ixI_run (n := nl) (c := cl) (.tmp 224) (.tmp 225) rfl (by kernel_rfl) (by kernel_rfl) hlt _) ?_
                                                simp only [Act.put, List.setIfInBounds_toArray, List.set_cons_zero, List.set_cons_succ]
                                                refine wpList_runToG (by kernel_rfl) (some 227) rfl (.int .i64 c) W (by exact ldN_run (.inl rfl) (.tmp 226) rfl (by kernel_rfl) qc) ?_
                                                simp only [Act.put, List.setIfInBounds_toArray, List.set_cons_zero, List.set_cons_succ]
                                                refine wpList_runToG (by kernel_rfl) (some 228) rfl (.int .i64 rf) W (by kernel_rfl) ?_
                                                simp only [Act.put, List.setIfInBounds_toArray, List.set_cons_zero, List.set_cons_succ]
                                                refine wpList_callG (by kernel_rfl) (some 229) rfl 41 #[.int .i64 c, .int .i64 rf] (by kernel_rfl) (HF1.out) ?_
                                                rintro e w' ⟨rfl, ew⟩
                                                replace ew := ew.symm
                                                subst ew
                                                refine ⟨_, rfl, ?_⟩
                                                simp only [Act.put, List.setIfInBounds_toArray, List.set_cons_zero, List.set_cons_succ]
                                                refine wpList_runToG (by kernel_rfl) (some 230) rfl (.int .i64 best) W (by kernel_rfl) ?_
                                                simp only [Act.put, List.setIfInBounds_toArray, List.set_cons_zero, List.set_cons_succ]
                                                refine wpList_runToG (by kernel_rfl) (some 231) rfl (.int .i64 rf) W (by kernel_rfl) ?_
                                                simp only [Act.put, List.setIfInBounds_toArray, List.set_cons_zero, List.set_cons_succ]
                                                refine wpList_callG (by kernel_rfl) (some 232) rfl 41 #[.int .i64 best, .int .i64 rf] (by kernel_rfl) (HF2.out) ?_
                                                rintro e w' ⟨rfl, ew⟩
                                                replace ew := ew.symm
                                                subst ew
                                                refine ⟨_, rfl, ?_⟩
                                                simp only [Act.put, List.setIfInBounds_toArray, List.set_cons_zero, List.set_cons_succ]
                                                refine wpList_runToG (by kernel_rfl) (some 233) rfl (.bool false) W (by exact eqV_run (.inl rfl) (p := fc) (q := fb) (.tmp 229) (.tmp 232) rfl (by kernel_rfl) (by kernel_rfl) (decide_eq_false h2) _) ?_
                                                simp only [Act.put, List.setIfInBounds_toArray, List.set_cons_zero, List.set_cons_succ]
                                                refine wpList_runToG (by kernel_rfl) (some 234) rfl (.bool false) W (by kernel_rfl) ?_
                                                simp only [Act.put, List.setIfInBounds_toArray, List.set_cons_zero, List.set_cons_succ]
                                                refine wpList_skipG (by kernel_rfl) ?_
                                                simp only [Act.put, List.setIfInBounds_toArray, List.set_cons_zero, List.set_cons_succ]
                                                refine wpList_skipG (by kernel_rfl) ?_
                                                simp only [Act.put, List.setIfInBounds_toArray, List.set_cons_zero, List.set_cons_succ]
                                                refine wpList_skipG (by kernel_rfl) ?_
                                                simp only [Act.put, List.setIfInBounds_toArray, List.set_cons_zero, List.set_cons_succ]
                                                refine wpList_skipG (by kernel_rfl) ?_
                                                simp only [Act.put, List.setIfInBounds_toArray, List.set_cons_zero, List.set_cons_succ]
                                                refine wpList_skipG (by kernel_rfl) ?_
                                                simp only [Act.put, List.setIfInBounds_toArray, List.set_cons_zero, List.set_cons_succ]
                                                refine wpList_skipG (by kernel_rfl) ?_
                                                simp only [Act.put, List.setIfInBounds_toArray, List.set_cons_zero, List.set_cons_succ]
                                                refine wpList_runToG (by kernel_rfl) (some 241) rfl (.bool false) W (by kernel_rfl) ?_
                                                simp only [Act.put, List.setIfInBounds_toArray, List.set_cons_zero, List.set_cons_succ]
                                                refine wpList_runTo rfl (some 242) rfl (.bool false) W (by exact pickN_run (c := false) (.tmp 223) (.tmp 241) rfl (by kernel_rfl) (by kernel_rfl) _) ?_
                                                simp only [Act.put, List.setIfInBounds_toArray, List.set_cons_zero, List.set_cons_succ]
                                                refine wpList_nil ?_
                                                refine hK _ _ ?_
                                                clear hK
                                                go_meet
                                                exact ⟨by rw [Hhc50.out, decide_eq_false (by omega)], rfl⟩
                                        case rest => as_aux_lemma =>
                                          obtain ⟨rfl, ew⟩ := hcut
                                          replace ew := ew.symm
                                          subst ew
                                          cases hc50 with
                                          | true =>
                                            have HN : Hid (Bst (fun c => TR c = m ∧ OV c = sm) X Y (fun c => far c rf) (L.take (i + 1)) c highN lowN moreN lessN) := by
                                              show Bst _ _ _ _ _ _ _ _ _ _
                                              have h := HS.out.yes (c := c) ⟨by rw [← hTt]; exact hTm, by rw [← hOo]; exact hOs⟩ hc1.1
                                              rw [← HFe.out.1, ← HFe.out.2, if_pos (of_decide_eq_true Hhc50.out.symm), ← HhighN.out, ← HlowN.out, ← HmoreN.out, ← HlessN.out] at h
                                              rw [htk]
                                              exact h
                                            go_upto_region 51 with fail
                                            refine wp_region_lit ?_
                                            refine wpList_runTo rfl (some 243) rfl (.slice (some ⟨gl, ol, none⟩) nl cl) W (by kernel_rfl) ?_
                                            simp only [Act.put, List.setIfInBounds_toArray, List.set_cons_zero, List.set_cons_succ]
                                            refine wpList_runTo rfl (some 244) rfl (.int .i64 (i : Int)) W (by kernel_rfl) ?_
                                            simp only [Act.put, List.setIfInBounds_toArray, List.set_cons_zero, List.set_cons_succ]
                                            refine wpList_runTo rfl (some 245) rfl (.pointer (some ⟨gl, ol + i, none⟩)) W (by exact ixI_run (n := nl) (c := cl) (.tmp 243) (.tmp 244) rfl (by kernel_rfl) (by kernel_rfl) hlt _) ?_
                                            simp only [Act.put, List.setIfInBounds_toArray, List.set_cons_zero, List.set_cons_succ]
                                            refine wpList_runTo rfl (some 246) rfl (.int .i64 c) W (by exact ldN_run (.inl rfl) (.tmp 245) rfl (by kernel_rfl) qc) ?_
                                            simp only [Act.put, List.setIfInBounds_toArray, List.set_cons_zero, List.set_cons_succ]
                                            refine wpList_runTo rfl (some 21) rfl (.int .i64 c) W (by kernel_rfl) ?_
                                            simp only [Act.put, List.setIfInBounds_toArray, List.set_cons_zero, List.set_cons_succ]
                                            refine wpList_nil ?_
                                            clear hle hfa HS htk hTt hOo HB HF1 HF2 HFe HhighN HlowN HmoreN HlessN Hhc50
                                            go_wp2
                                            exact ⟨⟨i + 1, _, _, _, _, _, by omega, rfl, rfl, rfl, rfl, rfl, by go_num, by first | rfl | trivial, HN.out⟩, by simp [RowKit.intOf]; omega⟩
                                          | false =>
                                            have HN : Hid (Bst (fun c => TR c = m ∧ OV c = sm) X Y (fun c => far c rf) (L.take (i + 1)) best highN lowN moreN lessN) := by
                                              show Bst _ _ _ _ _ _ _ _ _ _
                                              have h := HS.out.yes (c := c) ⟨by rw [← hTt]; exact hTm, by rw [← hOo]; exact hOs⟩ hc1.1
                                              rw [← HFe.out.1, ← HFe.out.2, if_neg (of_decide_eq_false Hhc50.out.symm), ← HhighN.out, ← HlowN.out, ← HmoreN.out, ← HlessN.out] at h
                                              rw [htk]
                                              exact h
                                            clear hle hfa HS htk hTt hOo HB HF1 HF2 HFe HhighN HlowN HmoreN HlessN Hhc50
                                            go_wp2
                                            exact ⟨⟨i + 1, _, _, _, _, _, by omega, rfl, rfl, rfl, rfl, rfl, by go_num, by first | rfl | trivial, HN.out⟩, by simp [RowKit.intOf]; omega⟩
                            · skip
                              have HN : Hid (Bst (fun c => TR c = m ∧ OV c = sm) X Y (fun c => far c rf) (L.take (i + 1)) best high low more less) := by
                                show Bst _ _ _ _ _ _ _ _ _ _
                                rw [htk]
                                exact HS.out.no (by rw [← hTt, ← hOo]; omega)
                              go_upto_region 43 with fail
                              rename_i K hK
                              refine wp_region_lit ?_
                              refine wpList_runTo rfl (some 161) rfl (.int .i64 (X c)) W (by kernel_rfl) ?_
                              simp only [Act.put, List.setIfInBounds_toArray, List.set_cons_zero, List.set_cons_succ]
                              refine wpList_runTo rfl (some 162) rfl (.int .i64 (Y c)) W (by kernel_rfl) ?_
                              simp only [Act.put, List.setIfInBounds_toArray, List.set_cons_zero, List.set_cons_succ]
                              refine wpList_callW rfl (some 163) rfl 40 #[.int .i64 (X c), .int .i64 (Y c)] (by kernel_rfl) hle ?_
                              rintro e w' ⟨rfl, ew⟩
                              replace ew := ew.symm
                              subst ew
                              refine ⟨_, rfl, ?_⟩
                              simp only [Act.put, List.setIfInBounds_toArray, List.set_cons_zero, List.set_cons_succ]
                              refine wpList_runTo rfl (some 164) rfl (.int .i64 m) W (by kernel_rfl) ?_
                              simp only [Act.put, List.setIfInBounds_toArray, List.set_cons_zero, List.set_cons_succ]
                              refine wpList_runTo rfl (some 165) rfl (.bool false) W (by exact neV_run (.inl rfl) (p := T) (q := m) (.tmp 163) (.tmp 164) rfl (by kernel_rfl) (by kernel_rfl) (decide_eq_false (fun h => h hTm)) _) ?_
                              simp only [Act.put, List.setIfInBounds_toArray, List.set_cons_zero, List.set_cons_succ]
                              refine wpList_runTo rfl (some 166) rfl (.bool false) W (by kernel_rfl) ?_
                              simp only [Act.put, List.setIfInBounds_toArray, List.set_cons_zero, List.set_cons_succ]
                              refine wpList_runToG (by kernel_rfl) (some 167) rfl (.int .i64 (X c)) W (by kernel_rfl) ?_
                              simp only [Act.put, List.setIfInBounds_toArray, List.set_cons_zero, List.set_cons_succ]
                              refine wpList_runToG (by kernel_rfl) (some 168) rfl (.int .i64 (Y c)) W (by kernel_rfl) ?_
                              simp only [Act.put, List.setIfInBounds_toArray, List.set_cons_zero, List.set_cons_succ]
                              refine wpList_callG (by kernel_rfl) (some 169) rfl 41 #[.int .i64 (X c), .int .i64 (Y c)] (by kernel_rfl) hfa ?_
                              rintro e w' ⟨rfl, ew⟩
                              replace ew := ew.symm
                              subst ew
                              refine ⟨_, rfl, ?_⟩
                              simp only [Act.put, List.setIfInBounds_toArray, List.set_cons_zero, List.set_cons_succ]
                              refine wpList_runToG (by kernel_rfl) (some 170) rfl (.int .i64 sm) W (by kernel_rfl) ?_
                              simp only [Act.put, List.setIfInBounds_toArray, List.set_cons_zero, List.set_cons_succ]
                              refine wpList_runToG (by kernel_rfl) (some 171) rfl (.bool true) W (by exact neV_run (.inl rfl) (p := O) (q := sm) (.tmp 169) (.tmp 170) rfl (by kernel_rfl) (by kernel_rfl) (decide_eq_true hOs) _) ?_
                              simp only [Act.put, List.setIfInBounds_toArray, List.set_cons_zero, List.set_cons_succ]
                              refine wpList_runTo rfl (some 172) rfl (.bool true) W (by exact pickN_run (c := true) (.tmp 166) (.tmp 171) rfl (by kernel_rfl) (by kernel_rfl) _) ?_
                              simp only [Act.put, List.setIfInBounds_toArray, List.set_cons_zero, List.set_cons_succ]
                              refine wpList_nil ?_
                              refine hK _ _ ?_
                              clear hK
                              clear hle hfa HS htk hTt hOo HB
                              go_wp2
                              exact ⟨⟨i + 1, _, _, _, _, _, by omega, rfl, rfl, rfl, rfl, rfl, by go_num, by first | rfl | trivial, HN.out⟩, by simp [RowKit.intOf]; omega⟩
                          · skip
                            have HN : Hid (Bst (fun c => TR c = m ∧ OV c = sm) X Y (fun c => far c rf) (L.take (i + 1)) best high low more less) := by
                              show Bst _ _ _ _ _ _ _ _ _ _
                              rw [htk]
                              exact HS.out.no (by rw [← hTt, ← hOo]; omega)
                            go_upto_region 43 with fail
                            rename_i K hK
                            refine wp_region_lit ?_
                            refine wpList_runTo rfl (some 161) rfl (.int .i64 (X c)) W (by kernel_rfl) ?_
                            simp only [Act.put, List.setIfInBounds_toArray, List.set_cons_zero, List.set_cons_succ]
                            refine wpList_runTo rfl (some 162) rfl (.int .i64 (Y c)) W (by kernel_rfl) ?_
                            simp only [Act.put, List.setIfInBounds_toArray, List.set_cons_zero, List.set_cons_succ]
                            refine wpList_callW rfl (some 163) rfl 40 #[.int .i64 (X c), .int .i64 (Y c)] (by kernel_rfl) hle ?_
                            rintro e w' ⟨rfl, ew⟩
                            replace ew := ew.symm
                            subst ew
                            refine ⟨_, rfl, ?_⟩
                            simp only [Act.put, List.setIfInBounds_toArray, List.set_cons_zero, List.set_cons_succ]
                            refine wpList_runTo rfl (some 164) rfl (.int .i64 m) W (by kernel_rfl) ?_
                            simp only [Act.put, List.setIfInBounds_toArray, List.set_cons_zero, List.set_cons_succ]
                            refine wpList_runTo rfl (some 165) rfl (.bool true) W (by exact neV_run (.inl rfl) (p := T) (q := m) (.tmp 163) (.tmp 164) rfl (by kernel_rfl) (by kernel_rfl) (decide_eq_true hTm) _) ?_
                            simp only [Act.put, List.setIfInBounds_toArray, List.set_cons_zero, List.set_cons_succ]
                            refine wpList_runTo rfl (some 166) rfl (.bool true) W (by kernel_rfl) ?_
                            simp only [Act.put, List.setIfInBounds_toArray, List.set_cons_zero, List.set_cons_succ]
                            refine wpList_skipG (by kernel_rfl) ?_
                            simp only [Act.put, List.setIfInBounds_toArray, List.set_cons_zero, List.set_cons_succ]
                            refine wpList_skipG (by kernel_rfl) ?_
                            simp only [Act.put, List.setIfInBounds_toArray, List.set_cons_zero, List.set_cons_succ]
                            refine wpList_skipG (by kernel_rfl) ?_
                            simp only [Act.put, List.setIfInBounds_toArray, List.set_cons_zero, List.set_cons_succ]
                            refine wpList_skipG (by kernel_rfl) ?_
                            simp only [Act.put, List.setIfInBounds_toArray, List.set_cons_zero, List.set_cons_succ]
                            refine wpList_skipG (by kernel_rfl) ?_
                            simp only [Act.put, List.setIfInBounds_toArray, List.set_cons_zero, List.set_cons_succ]
                            refine wpList_runTo rfl (some 172) rfl (.bool true) W (by kernel_rfl) ?_
                            simp only [Act.put, List.setIfInBounds_toArray, List.set_cons_zero, List.set_cons_succ]
                            refine wpList_nil ?_
                            refine hK _ _ ?_
                            clear hK
                            clear hle hfa HS htk hTt hOo HB
                            go_wp2
                            exact ⟨⟨i + 1, _, _, _, _, _, by omega, rfl, rfl, rfl, rfl, rfl, by go_num, by first | rfl | trivial, HN.out⟩, by simp [RowKit.intOf]; omega⟩
                        · have hin : nl = i := by omega
                          subst hin
                          have hlt' : ¬ (nl : Int) < (nl : Int) := by omega
                          have htl : L.take nl = L := List.take_of_length_le (by have := HLL.out.2.1; omega)
                          have HN : Hid (Bst (fun c => TR c = m ∧ OV c = sm) X Y (fun c => far c rf) L best high low more less) := by
                            have h := HS.out
                            rw [htl] at h
                            exact h
                          clear HS htl
                          obtain ⟨bF, hbF⟩ : ∃ x, x = (if less = true then low else if more = true then high else best) := ⟨_, rfl⟩
                          have HBF : Hid (bF = (if less = true then low else if more = true then high else best)) := hbF
                          go_upto_region 52 with fail
                          rename_i K hK
                          refine wp_region_lit ?_
                          refine wpList_runTo rfl (some 247) rfl (.bool more) W (by kernel_rfl) ?_
                          simp only [Act.put, List.setIfInBounds_toArray, List.set_cons_zero, List.set_cons_succ]
                          refine wpList_nil ?_
                          refine hK _ _ ?_
                          clear hK
                          go_upto_if 247 with fail
                          go_cut [21] (fun x wx => x = .int .i64 (if more = true then high else best) ∧ wx = W)
                          case first => as_aux_lemma =>
                            cases more with
                            | true =>
                              go_wp2_with fail
                              go_meet
                              exact ⟨rfl, rfl⟩
                            | false =>
                              go_wp2_with fail
                              go_meet
                              exact ⟨rfl, rfl⟩
                          case rest => as_aux_lemma =>
                            obtain ⟨rfl, ew⟩ := hcut
                            replace ew := ew.symm
                            subst ew
                            obtain ⟨b1, hb1⟩ : ∃ x, x = (if more = true then high else best) := ⟨_, rfl⟩
                            rw [← hb1] at hbF ⊢
                            clear hb1
                            go_upto_region 54 with fail
                            rename_i K hK
                            refine wp_region_lit ?_
                            refine wpList_runTo rfl (some 249) rfl (.bool less) W (by kernel_rfl) ?_
                            simp only [Act.put, List.setIfInBounds_toArray, List.set_cons_zero, List.set_cons_succ]
                            refine wpList_nil ?_
                            refine hK _ _ ?_
                            clear hK
                            go_upto_if 249 with fail
                            go_cut [21] (fun x wx => x = .int .i64 bF ∧ wx = W)
                            case first => as_aux_lemma =>
                              cases less with
                              | true =>
                                go_wp2_with fail
                                go_meet
                                exact ⟨by rw [hbF]; rfl, rfl⟩
                              | false =>
                                go_wp2_with fail
                                go_meet
                                exact ⟨by rw [hbF]; rfl, rfl⟩
                            case rest => as_aux_lemma =>
                              obtain ⟨rfl, ew⟩ := hcut
                              replace ew := ew.symm
                              subst ew
                              clear hbF
                              have HRS : Hid (∀ B S C, B.Perm (wns b) → S.Perm (wns s) → Cnd B S rf C → (⟨bF, m, sm, if Y bF < X bF then 1 else if X bF < Y bF then 2 else 0⟩ : Rs) = resOf rf (ptsOf B S C)) := fun B S C pb ps hc => by
                                have hc2 := cnd_perm pb.symm ps.symm hc
                                rw [HEND.out.1, HEND.out.2] at hc2
                                have hmem : ∀ c, c ∈ L ↔ c ∈ C := fun c => by rw [HLm.out]; exact lstR_mem (by rw [← HRf.out]; exact hc2) c
                                have k2 := resOf_perm (C := C) (C' := C) pb ps hc (cnd_perm pb.symm ps.symm hc)
                                rw [HEND.out.1, HEND.out.2] at k2
                                rw [k2]
                                have k := ref_res hc2 hmem (most := m) (least := sm) (best := best) (high := high) (low := low) (more := more) (less := less) (by rw [← HDEF.out.2.2.1]; exact HM.out) (by have := HS4.out; rw [HDEF.out.2.2.1, HDEF.out.2.2.2] at this; exact this) (by have := HN.out; rw [HDEF.out.1, HDEF.out.2.1, HDEF.out.2.2.1, HDEF.out.2.2.2] at this; exact this) (by have := HM.out.nn; omega)
                                rw [← HDEF.out.1, ← HDEF.out.2.1] at k
                                rw [← k, HBF.out]
                                rfl
                              clear HN HBF HM HS4 HDEF HLm HEND HRf HB HLL
                              go_upto_region 56 with fail
                              rename_i K hK
                              refine wp_region_lit ?_
                              refine wpList_runTo rfl (some 252) rfl (.slice a1 n1 c1) W (by kernel_rfl) ?_
                              simp only [Act.put, List.setIfInBounds_toArray, List.set_cons_zero, List.set_cons_succ]
                              refine wpList_runTo rfl (some 253) rfl (.slice a2 n2 c2) W (by kernel_rfl) ?_
                              simp only [Act.put, List.setIfInBounds_toArray, List.set_cons_zero, List.set_cons_succ]
                              refine wpList_runTo rfl (some 254) rfl (.int .i64 bF) W (by kernel_rfl) ?_
                              simp only [Act.put, List.setIfInBounds_toArray, List.set_cons_zero, List.set_cons_succ]
                              refine wpList_callW rfl (some 255) rfl 39 #[.slice a1 n1 c1, .slice a2 n2 c2, .int .i64 bF] (by kernel_rfl) (HSU.out bF) ?_
                              rintro e w' ⟨rfl, ew⟩
                              replace ew := ew.symm
                              subst ew
                              refine ⟨_, rfl, ?_⟩
                              simp only [Act.put, List.setIfInBounds_toArray, List.set_cons_zero, List.set_cons_succ]
                              refine wpList_runTo rfl (some 251) rfl (.tuple #[.int .i64 (X bF), .int .i64 (Y bF)]) W (by kernel_rfl) ?_
                              simp only [Act.put, List.setIfInBounds_toArray, List.set_cons_zero, List.set_cons_succ]
                              refine wpList_runTo rfl (some 256) rfl (.int .i64 (X bF)) W (by kernel_rfl) ?_
                              simp only [Act.put, List.setIfInBounds_toArray, List.set_cons_zero, List.set_cons_succ]
                              refine wpList_runTo rfl (some 257) rfl (.int .i64 (Y bF)) W (by kernel_rfl) ?_
                              simp only [Act.put, List.setIfInBounds_toArray, List.set_cons_zero, List.set_cons_succ]
                              refine wpList_runTo rfl (some 29) rfl (.int .i64 (X bF)) W (by kernel_rfl) ?_
                              simp only [Act.put, List.setIfInBounds_toArray, List.set_cons_zero, List.set_cons_succ]
                              refine wpList_runTo rfl (some 30) rfl (.int .i64 (Y bF)) W (by kernel_rfl) ?_
                              simp only [Act.put, List.setIfInBounds_toArray, List.set_cons_zero, List.set_cons_succ]
                              refine wpList_nil ?_
                              refine hK _ _ ?_
                              clear hK
                              clear HSU
                              generalize X bF = xb at *
                              generalize Y bF = yb at *
                              go_upto_region 57 with fail
                              rename_i K hK
                              refine wp_region_lit ?_
                              refine wpList_runTo rfl (some 258) rfl (.int .i64 bF) W (by kernel_rfl) ?_
                              simp only [Act.put, List.setIfInBounds_toArray, List.set_cons_zero, List.set_cons_succ]
                              refine wpList_runTo rfl (some 259) rfl (.int .i64 m) W (by kernel_rfl) ?_
                              simp only [Act.put, List.setIfInBounds_toArray, List.set_cons_zero, List.set_cons_succ]
                              refine wpList_runTo rfl (some 260) rfl (.int .i64 sm) W (by kernel_rfl) ?_
                              simp only [Act.put, List.setIfInBounds_toArray, List.set_cons_zero, List.set_cons_succ]
                              refine wpList_runTo rfl (some 261) rfl (.agg #[.int .i64 bF, .int .i64 m, .int .i64 sm, .int .i64 0]) W (by exact buildRr_run (.tmp 258) (.tmp 259) (.tmp 260) rfl (by kernel_rfl) (by kernel_rfl) (by kernel_rfl) _) ?_
                              simp only [Act.put, List.setIfInBounds_toArray, List.set_cons_zero, List.set_cons_succ]
                              refine wpList_runTo rfl (some 31) rfl (.pointer (some ⟨W.heap.size, 0, none⟩)) (W.alloc (.cells #[.int .i64 0, .int .i64 0, .int .i64 0, .int .i64 0] 46)) (by kernel_rfl) ?_
                              simp only [Act.put, List.setIfInBounds_toArray, List.set_cons_zero, List.set_cons_succ]
                              refine wpList_plain rfl fun K1 hK1 => ?_
                              refine wp_store_row 46 (.tmp 31) (.tmp 261) rfl W.heap.size #[.int .i64 bF, .int .i64 m, .int .i64 sm, .int .i64 0] (by kernel_rfl) (by kernel_rfl) 46 #[.int .i64 0, .int .i64 0, .int .i64 0, .int .i64 0] (heap_alloc_new W _) infoRr rfl (by simp [Value.oneCell']) ?_
                              rw [World.setRow_alloc_new]
                              refine hK1 _ _ ?_
                              clear hK1
                              refine wpList_nil ?_
                              refine hK _ _ ?_
                              clear hK
                              have HW2 : Hid (Below w.heap.size w (W.alloc (.cells #[.int .i64 bF, .int .i64 m, .int .i64 sm, .int .i64 0] 46)) ∧ Blk (W.alloc (.cells #[.int .i64 bF, .int .i64 m, .int .i64 sm, .int .i64 0] 46)) b6 46 #[.int .i64 0, .int .i64 0, .int .i64 0, .int .i64 0] ∧ w.heap.size ≤ b6 ∧ Blk (W.alloc (.cells #[.int .i64 bF, .int .i64 m, .int .i64 sm, .int .i64 0] 46)) W.heap.size 46 #[.int .i64 bF, .int .i64 m, .int .i64 sm, .int .i64 0] ∧ w.heap.size ≤ W.heap.size ∧ W.heap.size ≠ b6) := ⟨below_step HWW.out.1 ((Below.refl _ W).alloc (Nat.le_refl _) _), HWW.out.2.1.alloc _, HWW.out.2.2, Blk.new _ _ _, HWW.out.1.size, fun e => by have := HWW.out.2.1.lt; omega⟩
                              clear HWW
                              generalize W.alloc (.cells #[.int .i64 bF, .int .i64 m, .int .i64 sm, .int .i64 0] 46) = WW at *
                              generalize W.heap.size = g31 at *
                              by_cases hyx : yb < xb
                              · have hxy : ¬ xb < yb := by omega
                                rw [if_pos hyx] at HRS
                                go_upto_region 58 with fail
                                rename_i K hK
                                refine wp_region_lit ?_
                                refine wpList_runTo rfl (some 262) rfl (.int .i64 xb) WW (by kernel_rfl) ?_
                                simp only [Act.put, List.setIfInBounds_toArray, List.set_cons_zero, List.set_cons_succ]
                                refine wpList_runTo rfl (some 263) rfl (.int .i64 yb) WW (by kernel_rfl) ?_
                                simp only [Act.put, List.setIfInBounds_toArray, List.set_cons_zero, List.set_cons_succ]
                                refine wpList_runTo rfl (some 264) rfl (.bool true) WW (by exact gtV_run (p := xb) (q := yb) (.tmp 262) (.tmp 263) rfl (by kernel_rfl) (by kernel_rfl) (decide_eq_true hyx) _) ?_
                                simp only [Act.put, List.setIfInBounds_toArray, List.set_cons_zero, List.set_cons_succ]
                                refine wpList_nil ?_
                                refine hK _ _ ?_
                                clear hK
                                go_upto_region 59 with fail
                                refine wp_region_lit ?_
                                refine wpList_runTo rfl (some 265) rfl (.pointer (some ⟨g31, 3, none⟩)) WW (by kernel_rfl) ?_
                                simp only [Act.put, List.setIfInBounds_toArray, List.set_cons_zero, List.set_cons_succ]
                                refine wpList_skipW rfl none rfl (w' := WW.setCell ⟨g31, 3, none⟩ (.int .i64 1)) (stN_run (.inr rfl) (.tmp 265) (.const (.int .i64 1)) rfl (by kernel_rfl) rfl (HW2.out.2.2.2.1.cell 3) (HW2.out.2.2.2.1.frozen 3)) ?_
                                simp only [Act.put, List.setIfInBounds_toArray, List.set_cons_zero, List.set_cons_succ]
                                have HW3 : Hid (Below w.heap.size w (WW.setCell ⟨g31, 3, none⟩ (.int .i64 1)) ∧ Blk (WW.setCell ⟨g31, 3, none⟩ (.int .i64 1)) b6 46 #[.int .i64 0, .int .i64 0, .int .i64 0, .int .i64 0] ∧ w.heap.size ≤ b6 ∧ Blk (WW.setCell ⟨g31, 3, none⟩ (.int .i64 1)) g31 46 #[.int .i64 bF, .int .i64 m, .int .i64 sm, .int .i64 1] ∧ True) := ⟨below_set HW2.out.1 HW2.out.2.2.2.2.1 _ _, HW2.out.2.1.other (fun e => HW2.out.2.2.2.2.2 e.symm) _ _, HW2.out.2.2.1, HW2.out.2.2.2.1.set 3 (.int .i64 1), trivial⟩
                                clear HW2
                                generalize WW.setCell ⟨g31, 3, none⟩ (.int .i64 1) = W3 at *
                                refine wpList_nil ?_
                                go_upto_region 60 with fail
                                rename_i K hK
                                refine wp_region_lit ?_
                                refine wpList_runTo rfl (some 266) rfl (.int .i64 xb) W3 (by kernel_rfl) ?_
                                simp only [Act.put, List.setIfInBounds_toArray, List.set_cons_zero, List.set_cons_succ]
                                refine wpList_runTo rfl (some 267) rfl (.int .i64 yb) W3 (by kernel_rfl) ?_
                                simp only [Act.put, List.setIfInBounds_toArray, List.set_cons_zero, List.set_cons_succ]
                                refine wpList_runTo rfl (some 268) rfl (.bool false) W3 (by exact ltV_run (p := xb) (q := yb) (.tmp 266) (.tmp 267) rfl (by kernel_rfl) (by kernel_rfl) (decide_eq_false hxy) _) ?_
                                simp only [Act.put, List.setIfInBounds_toArray, List.set_cons_zero, List.set_cons_succ]
                                refine wpList_nil ?_
                                refine hK _ _ ?_
                                clear hK
                                go_upto_region 62 with fail
                                rename_i K hK
                                refine wp_region_lit ?_
                                refine wpList_runTo rfl (some 270) rfl (.agg #[.int .i64 bF, .int .i64 m, .int .i64 sm, .int .i64 1]) W3 (by exact ldA_run (blk_range HW3.out.2.2.2.1) Try.underlying46 rfl infoRr (.tmp 31) rfl (by kernel_rfl)) ?_
                                simp only [Act.put, List.setIfInBounds_toArray, List.set_cons_zero, List.set_cons_succ]
                                refine wpList_plain rfl fun K1 hK1 => ?_
                                refine wp_store_row 46 (.tmp 6) (.tmp 270) rfl b6 #[.int .i64 bF, .int .i64 m, .int .i64 sm, .int .i64 1] (by kernel_rfl) (by kernel_rfl) 46 #[.int .i64 0, .int .i64 0, .int .i64 0, .int .i64 0] HW3.out.2.1 infoRr rfl (by simp [Value.oneCell']) ?_
                                refine hK1 _ _ ?_
                                clear hK1
                                refine wpList_nil ?_
                                refine hK _ _ ?_
                                clear hK
                                apply wp_ret
                                try simp only [Exit.inBlock, Exit.then]
                                show bodyPost Try.prog Try.f18 _ Exit.ret _ _
                                refine bodyPost_ret (results_cell_row (fn := Try.f18) (p := 6) (ty := 46) rfl _ _ b6 46 #[.int .i64 bF, .int .i64 m, .int .i64 sm, .int .i64 1] (0, 0) _ (by kernel_rfl) (setRow_heap _ _ _ _ _ _ HW3.out.2.1) Try.underlying46 rfl infoRr) (by kernel_rfl) ⟨⟨bF, m, sm, 1⟩, rfl, below_setRow HW3.out.1 HW3.out.2.2.1 _, HRS.out⟩
                              · rw [if_neg hyx] at HRS
                                by_cases hxy : xb < yb
                                · rw [if_pos hxy] at HRS
                                  go_upto_region 58 with fail
                                  rename_i K hK
                                  refine wp_region_lit ?_
                                  refine wpList_runTo rfl (some 262) rfl (.int .i64 xb) WW (by kernel_rfl) ?_
                                  simp only [Act.put, List.setIfInBounds_toArray, List.set_cons_zero, List.set_cons_succ]
                                  refine wpList_runTo rfl (some 263) rfl (.int .i64 yb) WW (by kernel_rfl) ?_
                                  simp only [Act.put, List.setIfInBounds_toArray, List.set_cons_zero, List.set_cons_succ]
                                  refine wpList_runTo rfl (some 264) rfl (.bool false) WW (by exact gtV_run (p := xb) (q := yb) (.tmp 262) (.tmp 263) rfl (by kernel_rfl) (by kernel_rfl) (decide_eq_false hyx) _) ?_
                                  simp only [Act.put, List.setIfInBounds_toArray, List.set_cons_zero, List.set_cons_succ]
                                  refine wpList_nil ?_
                                  refine hK _ _ ?_
                                  clear hK
                                  go_upto_region 60 with fail
                                  rename_i K hK
                                  refine wp_region_lit ?_
                                  refine wpList_runTo rfl (some 266) rfl (.int .i64 xb) WW (by kernel_rfl) ?_
                                  simp only [Act.put, List.setIfInBounds_toArray, List.set_cons_zero, List.set_cons_succ]
                                  refine wpList_runTo rfl (some 267) rfl (.int .i64 yb) WW (by kernel_rfl) ?_
                                  simp only [Act.put, List.setIfInBounds_toArray, List.set_cons_zero, List.set_cons_succ]
                                  refine wpList_runTo rfl (some 268) rfl (.bool true) WW (by exact ltV_run (p := xb) (q := yb) (.tmp 266) (.tmp 267) rfl (by kernel_rfl) (by kernel_rfl) (decide_eq_true hxy) _) ?_
                                  simp only [Act.put, List.setIfInBounds_toArray, List.set_cons_zero, List.set_cons_succ]
                                  refine wpList_nil ?_
                                  refine hK _ _ ?_
                                  clear hK
                                  go_upto_region 61 with fail
                                  refine wp_region_lit ?_
                                  refine wpList_runTo rfl (some 269) rfl (.pointer (some ⟨g31, 3, none⟩)) WW (by kernel_rfl) ?_
                                  simp only [Act.put, List.setIfInBounds_toArray, List.set_cons_zero, List.set_cons_succ]
                                  refine wpList_skipW rfl none rfl (w' := WW.setCell ⟨g31, 3, none⟩ (.int .i64 2)) (stN_run (.inr rfl) (.tmp 269) (.const (.int .i64 2)) rfl (by kernel_rfl) rfl (HW2.out.2.2.2.1.cell 3) (HW2.out.2.2.2.1.frozen 3)) ?_
                                  simp only [Act.put, List.setIfInBounds_toArray, List.set_cons_zero, List.set_cons_succ]
                                  have HW3 : Hid (Below w.heap.size w (WW.setCell ⟨g31, 3, none⟩ (.int .i64 2)) ∧ Blk (WW.setCell ⟨g31, 3, none⟩ (.int .i64 2)) b6 46 #[.int .i64 0, .int .i64 0, .int .i64 0, .int .i64 0] ∧ w.heap.size ≤ b6 ∧ Blk (WW.setCell ⟨g31, 3, none⟩ (.int .i64 2)) g31 46 #[.int .i64 bF, .int .i64 m, .int .i64 sm, .int .i64 2] ∧ True) := ⟨below_set HW2.out.1 HW2.out.2.2.2.2.1 _ _, HW2.out.2.1.other (fun e => HW2.out.2.2.2.2.2 e.symm) _ _, HW2.out.2.2.1, HW2.out.2.2.2.1.set 3 (.int .i64 2), trivial⟩
                                  clear HW2
                                  generalize WW.setCell ⟨g31, 3, none⟩ (.int .i64 2) = W3 at *
                                  refine wpList_nil ?_
                                  go_upto_region 62 with fail
                                  rename_i K hK
                                  refine wp_region_lit ?_
                                  refine wpList_runTo rfl (some 270) rfl (.agg #[.int .i64 bF, .int .i64 m, .int .i64 sm, .int .i64 2]) W3 (by exact ldA_run (blk_range HW3.out.2.2.2.1) Try.underlying46 rfl infoRr (.tmp 31) rfl (by kernel_rfl)) ?_
                                  simp only [Act.put, List.setIfInBounds_toArray, List.set_cons_zero, List.set_cons_succ]
                                  refine wpList_plain rfl fun K1 hK1 => ?_
                                  refine wp_store_row 46 (.tmp 6) (.tmp 270) rfl b6 #[.int .i64 bF, .int .i64 m, .int .i64 sm, .int .i64 2] (by kernel_rfl) (by kernel_rfl) 46 #[.int .i64 0, .int .i64 0, .int .i64 0, .int .i64 0] HW3.out.2.1 infoRr rfl (by simp [Value.oneCell']) ?_
                                  refine hK1 _ _ ?_
                                  clear hK1
                                  refine wpList_nil ?_
                                  refine hK _ _ ?_
                                  clear hK
                                  apply wp_ret
                                  try simp only [Exit.inBlock, Exit.then]
                                  show bodyPost Try.prog Try.f18 _ Exit.ret _ _
                                  refine bodyPost_ret (results_cell_row (fn := Try.f18) (p := 6) (ty := 46) rfl _ _ b6 46 #[.int .i64 bF, .int .i64 m, .int .i64 sm, .int .i64 2] (0, 0) _ (by kernel_rfl) (setRow_heap _ _ _ _ _ _ HW3.out.2.1) Try.underlying46 rfl infoRr) (by kernel_rfl) ⟨⟨bF, m, sm, 2⟩, rfl, below_setRow HW3.out.1 HW3.out.2.2.1 _, HRS.out⟩
                                · rw [if_neg hxy] at HRS
                                  go_upto_region 58 with fail
                                  rename_i K hK
                                  refine wp_region_lit ?_
                                  refine wpList_runTo rfl (some 262) rfl (.int .i64 xb) WW (by kernel_rfl) ?_
                                  simp only [Act.put, List.setIfInBounds_toArray, List.set_cons_zero, List.set_cons_succ]
                                  refine wpList_runTo rfl (some 263) rfl (.int .i64 yb) WW (by kernel_rfl) ?_
                                  simp only [Act.put, List.setIfInBounds_toArray, List.set_cons_zero, List.set_cons_succ]
                                  refine wpList_runTo rfl (some 264) rfl (.bool false) WW (by exact gtV_run (p := xb) (q := yb) (.tmp 262) (.tmp 263) rfl (by kernel_rfl) (by kernel_rfl) (decide_eq_false hyx) _) ?_
                                  simp only [Act.put, List.setIfInBounds_toArray, List.set_cons_zero, List.set_cons_succ]
                                  refine wpList_nil ?_
                                  refine hK _ _ ?_
                                  clear hK
                                  go_upto_region 60 with fail
                                  rename_i K hK
                                  refine wp_region_lit ?_
                                  refine wpList_runTo rfl (some 266) rfl (.int .i64 xb) WW (by kernel_rfl) ?_
                                  simp only [Act.put, List.setIfInBounds_toArray, List.set_cons_zero, List.set_cons_succ]
                                  refine wpList_runTo rfl (some 267) rfl (.int .i64 yb) WW (by kernel_rfl) ?_
                                  simp only [Act.put, List.setIfInBounds_toArray, List.set_cons_zero, List.set_cons_succ]
                                  refine wpList_runTo rfl (some 268) rfl (.bool false) WW (by exact ltV_run (p := xb) (q := yb) (.tmp 266) (.tmp 267) rfl (by kernel_rfl) (by kernel_rfl) (decide_eq_false hxy) _) ?_
                                  simp only [Act.put, List.setIfInBounds_toArray, List.set_cons_zero, List.set_cons_succ]
                                  refine wpList_nil ?_
                                  refine hK _ _ ?_
                                  clear hK
                                  go_upto_region 62 with fail
                                  rename_i K hK
                                  refine wp_region_lit ?_
                                  refine wpList_runTo rfl (some 270) rfl (.agg #[.int .i64 bF, .int .i64 m, .int .i64 sm, .int .i64 0]) WW (by exact ldA_run (blk_range HW2.out.2.2.2.1) Try.underlying46 rfl infoRr (.tmp 31) rfl (by kernel_rfl)) ?_
                                  simp only [Act.put, List.setIfInBounds_toArray, List.set_cons_zero, List.set_cons_succ]
                                  refine wpList_plain rfl fun K1 hK1 => ?_
                                  refine wp_store_row 46 (.tmp 6) (.tmp 270) rfl b6 #[.int .i64 bF, .int .i64 m, .int .i64 sm, .int .i64 0] (by kernel_rfl) (by kernel_rfl) 46 #[.int .i64 0, .int .i64 0, .int .i64 0, .int .i64 0] HW2.out.2.1 infoRr rfl (by simp [Value.oneCell']) ?_
                                  refine hK1 _ _ ?_
                                  clear hK1
                                  refine wpList_nil ?_
                                  refine hK _ _ ?_
                                  clear hK
                                  apply wp_ret
                                  try simp only [Exit.inBlock, Exit.then]
                                  show bodyPost Try.prog Try.f18 _ Exit.ret _ _
                                  refine bodyPost_ret (results_cell_row (fn := Try.f18) (p := 6) (ty := 46) rfl _ _ b6 46 #[.int .i64 bF, .int .i64 m, .int .i64 sm, .int .i64 0] (0, 0) _ (by kernel_rfl) (setRow_heap _ _ _ _ _ _ HW2.out.2.1) Try.underlying46 rfl infoRr) (by kernel_rfl) ⟨⟨bF, m, sm, 0⟩, rfl, below_setRow HW2.out.1 HW2.out.2.2.1 _, HRS.out⟩
end Go.Proofs.Ytbhddfcdnpidkaa
