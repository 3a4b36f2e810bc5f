/-
  ArbiterOrder: what is plain of it, each call as a step.
-/
import Derived.Test.YtdncemecnbglaaaA12
namespace Go.Proofs.Ytdncemecnbglaaa
set_option linter.unusedVariables false
set_option linter.unusedSimpArgs false
open Go.RowKit Go.Great Go.Maps

/-- Rows of three numbers that came in. -/
def SrcR (w : World) (a : Option Addr) (n : Nat) (d : Nat → Nat → Int) : Prop := n = 0 ∨ ∃ b off, a = some ⟨b, off, none⟩ ∧ ∀ j, j < n → ∀ c, c < 3 → w.cell? ⟨b, off + j * 3 + c, none⟩ = some (.int .i64 (d j c)) ∧ -9223372036854775808 ≤ d j c ∧ d j c ≤ 9223372036854775807
theorem SrcR.below {w w' : World} {a : Option Addr} {n : Nat} {d : Nat → Nat → Int} (h : SrcR w a n d) (hb : Below w.heap.size w w') : SrcR w' a n d := by
  rcases h with h | ⟨b, off, e, h⟩
  · exact .inl h
  · exact .inr ⟨b, off, e, fun j hj c hc => ⟨(hb.cell (World.block_lt_of_cell? _ _ (h j hj c hc).1)).trans (h j hj c hc).1, (h j hj c hc).2⟩⟩
/-- What has come, by number and line. -/
def boolsN (N : Nat) (cm : Nat → Bool) : Array Value := ((List.range N).map fun i => Value.bool (cm i)).toArray
theorem boolsN_get (N : Nat) (cm : Nat → Bool) {i : Nat} (h : i < N) : (boolsN N cm)[i]? = some (.bool (cm i)) := by
  unfold boolsN
  rw [List.getElem?_toArray, List.getElem?_map, List.getElem?_range h]
  rfl
theorem boolsN_set (N : Nat) (cm : Nat → Bool) (i : Nat) : (boolsN N cm).setIfInBounds i (.bool true) = boolsN N (fun j => if j = i then true else cm j) := by
  unfold boolsN
  rw [List.setIfInBounds_toArray]
  congr 1
  apply List.ext_getElem
  · simp
  · intro j h1 h2
    simp only [List.getElem_set, List.getElem_map, List.getElem_range]
    by_cases e : i = j
    · simp [e]
    · have e' : ¬ j = i := fun q => e q.symm
      simp [e, e']
def boolsA (cm : Nat → Bool) : Array Value := boolsN 600 cm
theorem boolsA_get (cm : Nat → Bool) {i : Nat} (h : i < 600) : (boolsA cm)[i]? = some (.bool (cm i)) := boolsN_get 600 cm h
theorem boolsA_set (cm : Nat → Bool) (i : Nat) : (boolsA cm).setIfInBounds i (.bool true) = boolsA (fun j => if j = i then true else cm j) := boolsN_set 600 cm i
/-- A packet that came over a line. -/
def OkP (cm : Nat → Bool) (k : Kp) : Prop := 1 ≤ k.n ∧ k.n ≤ 299 ∧ ∃ x, x < 2 ∧ k.l = pkF k.n x ∧ cm (k.n * 2 + x) = true
theorem OkP.mono {cm cm' : Nat → Bool} {k : Kp} (h : OkP cm k) (hc : ∀ i, cm i = true → cm' i = true) : OkP cm' k := by
  obtain ⟨h1, h2, x, h3, h4, h5⟩ := h
  exact ⟨h1, h2, x, h3, h4, hc _ h5⟩
theorem givR_pair {ks out ks' : List Kp} {nx nx' : Nat} (h : GivR ks nx out ks' nx') : out.Pairwise (fun p q => p.n < q.n) ∧ ∀ q ∈ out, q ∈ ks ∧ nx ≤ q.n ∧ q.n < nx' := by
  refine ⟨?_, fun q hq => ?_⟩
  · rw [List.pairwise_iff_getElem]
    intro i j hi hj hij
    have h1 := (h.at_ i _ (List.getElem?_eq_getElem hi)).2
    have h2 := (h.at_ j _ (List.getElem?_eq_getElem hj)).2
    omega
  · obtain ⟨j, hj, e⟩ := List.mem_iff_getElem.1 hq
    have h1 := h.at_ j q (by rw [List.getElem?_eq_getElem hj, e])
    have := h.nxe
    exact ⟨h1.1, by omega, by omega⟩
theorem givR_left {ks out ks' : List Kp} {nx nx' : Nat} (h : GivR ks nx out ks' nx') : ∀ q ∈ ks', q ∈ ks := fun q hq => by
  rw [h.left] at hq
  exact (List.mem_filter.1 hq).1
/-- What Hear does with a right packet. -/
theorem Hd.rising {a a' : Ab} {line : Nat} {now : Int} {l : List Nat} {lo n : Nat} {out : List Kp} {er : Int} {cm : Nat → Bool} (hd : Hd a line now l lo out a' er) (hrt : rt l = some n) (hk : ∀ k ∈ a.ks, OkP cm k) (hn : ∀ k : Kp, k.n = n → k.l = l → OkP cm k) : er = 0 ∧ (∀ k ∈ a'.ks, OkP cm k) ∧ out.Pairwise (fun p q => p.n < q.n) ∧ (∀ q ∈ out, OkP cm q ∧ a.nx ≤ q.n ∧ q.n < a'.nx) ∧ a.nx ≤ a'.nx := by
  unfold Hd at hd
  rw [hrt] at hd
  obtain ⟨e, ⟨_, rfl, rfl⟩ | ⟨_, _, rfl, rfl⟩ | ⟨_, _, k, h1, h2, _, hg, ha⟩⟩ := hd
  · exact ⟨e, hk, List.Pairwise.nil, fun q hq => absurd hq List.not_mem_nil, Nat.le_refl _⟩
  · exact ⟨e, hk, List.Pairwise.nil, fun q hq => absurd hq List.not_mem_nil, Nat.le_refl _⟩
  · have hg' : GivR (k :: a.ks) a.nx out a'.ks a'.nx := hg
    have hall : ∀ q ∈ k :: a.ks, OkP cm q := fun q hq => by
      rcases List.mem_cons.1 hq with e | e
      · rw [e]; exact hn k h1 h2
      · exact hk q e
    obtain ⟨p1, p2⟩ := givR_pair hg'
    exact ⟨e, fun q hq => hall q (givR_left hg' q hq), p1, fun q hq => ⟨hall q (p2 q hq).1, (p2 q hq).2⟩, by rw [hg'.nxe]; omega⟩
theorem Tk.rising {a a' : Ab} {now : Int} {out : List Kp} {cm : Nat → Bool} (h : Tk a now out a') (hk : ∀ k ∈ a.ks, OkP cm k) (hg : ∀ k ∈ a.ks, a.nx < k.n) : (∀ k ∈ a'.ks, OkP cm k) ∧ out.Pairwise (fun p q => p.n < q.n) ∧ (∀ q ∈ out, OkP cm q ∧ a.nx ≤ q.n ∧ q.n < a'.nx) ∧ a.nx ≤ a'.nx := by
  rcases h with ⟨_, rfl, rfl⟩ | ⟨_, m, ⟨k, hk1, hk2⟩, _, hgv, _⟩
  · exact ⟨hk, List.Pairwise.nil, fun q hq => absurd hq List.not_mem_nil, Nat.le_refl _⟩
  · obtain ⟨p1, p2⟩ := givR_pair hgv
    have hm := hg k hk1
    exact ⟨fun q hq => hk q (givR_left hgv q hq), p1, fun q hq => ⟨hk q (p2 q hq).1, by have := (p2 q hq).2.1; omega, (p2 q hq).2.2⟩, by rw [hgv.nxe]; omega⟩
/-- Where ArbiterOrder stands. -/
def OSt (w W : World) (g b cb last cx : Nat) : Prop := ∃ a c cm, SH w W g b a c ∧ c ≤ cx ∧ last < a.nx ∧ (∀ k ∈ a.ks, OkP cm k) ∧ Blk W cb 30 (boolsA cm) ∧ w.heap.size ≤ cb
theorem OSt.below {w W W' : World} {g b cb last cx : Nat} (h : OSt w W g b cb last cx) (hb : Below W.heap.size W W') : OSt w W' g b cb last cx := by
  obtain ⟨a, c, cm, h1, h2, h3, h4, h5, h6⟩ := h
  exact ⟨a, c, cm, h1.below hb, h2, h3, h4, h5.below hb h5.lt, h6⟩
theorem OSt.bel {w W : World} {g b cb last cx : Nat} (h : OSt w W g b cb last cx) : Below w.heap.size w W := by
  obtain ⟨a, c, cm, h1, _⟩ := h
  exact h1.bel
/-- The same, with a row of packets that came out. -/
def OX (w W : World) (g b cb last cx : Nat) (L : List Kp) (v : Value) : Prop := ∃ a c cm, SH w W g b a c ∧ c ≤ cx ∧ last < a.nx ∧ (∀ k ∈ a.ks, OkP cm k) ∧ Blk W cb 30 (boolsA cm) ∧ w.heap.size ≤ cb ∧ RowAt W 35 1 v L.length (L.map (·.v)) ∧ (∀ q, v.ownBlock = some q → w.heap.size ≤ q) ∧ (∀ q ∈ L, PkAt W q) ∧ L.Pairwise (fun p q => p.n < q.n) ∧ (∀ q ∈ L, OkP cm q ∧ last < q.n ∧ q.n < a.nx) ∧ L.length ≤ 4000000000000
theorem OX.below {w W W' : World} {g b cb last cx : Nat} {L : List Kp} {v : Value} (h : OX w W g b cb last cx L v) (hb : Below W.heap.size W W') : OX w W' g b cb last cx L v := by
  obtain ⟨a, c, cm, h1, h2, h3, h4, h5, h6, h7, h8, h9, h10⟩ := h
  exact ⟨a, c, cm, h1.below hb, h2, h3, h4, h5.below hb h5.lt, h6, h7.fr (Fr.of_below hb (fun _ => False)) fun _ _ => id, h8, fun q hq => (h9 q hq).fr (Fr.of_below hb (fun _ => False)) fun _ _ => id, h10⟩
/-- A packet comes over a line. -/
theorem OSt.put {w W : World} {g b cb last cx : Nat} (h : OSt w W g b cb last cx) {n line : Nat} (h1 : 1 ≤ n) (h2 : n ≤ 299) (hl : line < 2) : (∃ bo : Bool, W.cell? ⟨cb, n * 2 + line, none⟩ = some (.bool bo)) ∧ W.frozen? ⟨cb, n * 2 + line, none⟩ = false ∧ ∃ cm, cm (n * 2 + line) = true ∧ ∃ a c, SH w (W.setCell ⟨cb, n * 2 + line, none⟩ (.bool true)) g b a c ∧ c ≤ cx ∧ last < a.nx ∧ (∀ k ∈ a.ks, OkP cm k) ∧ Blk (W.setCell ⟨cb, n * 2 + line, none⟩ (.bool true)) cb 30 (boolsA cm) ∧ w.heap.size ≤ cb := by
  obtain ⟨a, c, cm, k1, k2, k3, k4, k5, k6⟩ := h
  have hi : n * 2 + line < 600 := by omega
  refine ⟨⟨cm (n * 2 + line), by rw [k5.cell]; exact boolsA_get cm hi⟩, k5.frozen _, fun j => if j = n * 2 + line then true else cm j, by simp, a, c, ?_, k2, k3, fun k hk => (k4 k hk).mono fun i hi => by show (if i = n * 2 + line then true else cm i) = true; split <;> first | rfl | exact hi, ?_, k6⟩
  · have hf : Fr W (W.setCell ⟨cb, n * 2 + line, none⟩ (.bool true)) (fun x => x = cb) := Fr.setCell W ⟨cb, n * 2 + line, none⟩ _ _ rfl
    have hne : ∀ {T : TypeId} {cs : Array Value} {x : Nat}, Blk W x T cs → T ≠ 30 → x ≠ cb := fun {T cs x} hx hT e => by
      subst e
      unfold Blk at hx k5
      rw [k5] at hx
      injection hx with hx
      injection hx with _ hx _
      exact hT hx.symm
    refine ⟨k1.ab.fr hf (hne k1.ab.blk (by decide)) (fun e => ?_) (fun k hk q hq e => ?_), k1.gt, k1.bel.trans (hf.below k1.bel.size fun q hq e => by omega), k1.lg, k1.lb, k1.cb⟩
    · obtain ⟨es, cc, hm⟩ := k1.ab.map.is
      rw [e] at hm
      unfold Blk at k5
      rw [k5] at hm
      cases hm
    · obtain ⟨_, cur, hc⟩ := (k1.ab.pk k hk).1.lt hq
      exact hne hc (by decide) e
  · have := k5.set (n * 2 + line) (.bool true)
    rw [boolsA_set] at this
    exact this
theorem RowAt.arb {w : World} {v : Value} {n : Nat} {xs : List Value} {g b : Nat} {a : Ab} (h : RowAt w 35 1 v n xs) (hab : AbAt w g b a) : ∀ q, v.ownBlock = some q → ¬ (q = g ∨ q = b) := fun q hq e => by
  obtain ⟨_, cur, hc⟩ := h.lt hq
  rcases e with rfl | rfl
  · exact h.ne_type hab.blk (by decide) hq
  · obtain ⟨es, c, hm⟩ := hab.map.is
    rw [hm] at hc
    cases hc
theorem Blk.arb {w : World} {cb : Nat} {cs : Array Value} {g b : Nat} {a : Ab} (h : Blk w cb 30 cs) (hab : AbAt w g b a) : ¬ (cb = g ∨ cb = b) := fun e => by
  unfold Blk at h
  rcases e with rfl | rfl
  · have := hab.blk
    unfold Blk at this
    rw [h] at this
    injection this with this
    injection this with _ this _
    exact absurd this (by decide)
  · obtain ⟨es, c, hm⟩ := hab.map.is
    rw [hm] at h
    cases h
/-- Packets behind packets. -/
theorem app_rows {w : World} {v1 v2 : Value} {n1 n2 : Nat} {xs ys : List Value} (h1 : RowAt w 35 1 v1 n1 xs) (h2 : RowAt w 35 1 v2 n2 ys) (ho : ∀ u ∈ ys, u.oneCell' = true) (hn : n1 + n2 ≤ 5000000000000) (ty : TypeId) : ∃ v' w', (Builtin.append_ #[32, 32] ty #[v1, v2]).run Try.prog w = .ok v' w' ∧ RowAt w' 35 1 v' (n1 + n2) (xs ++ ys) ∧ Fr w w' (fun x => v1.ownBlock = some x) ∧ (v'.ownBlock = v1.ownBlock ∨ v'.ownBlock = some w.heap.size) := by
  obtain ⟨i, z, q2, q3, q4, q5, q6⟩ := infoB
  have hl := h2.1
  by_cases h0 : n2 = 0
  · obtain ⟨a1, c1, rfl, hc1⟩ := h1.form
    obtain ⟨a2, c2, rfl, _⟩ := h2.form
    subst h0
    have e : ys = [] := List.eq_nil_of_length_eq_zero (by omega)
    subst e
    exact ⟨_, w, run_append_none0 w 32 ty 35 i Try.underlying32 q2 a1 n1 c1 hc1 a2 c2, by rw [List.append_nil, Nat.add_zero]; exact h1, Fr.refl _ _, .inl rfl⟩
  · obtain ⟨g, off, cap, cur, e1, _⟩ := h2.more (by omega)
    obtain ⟨v', w', k1, k2, k3, k4⟩ := run_append_row w 32 ty 35 i z 1 24 Try.underlying32 q2 q3 q4 q5 q6 v1 n1 xs h1 ⟨g, off, none⟩ n2 cap ys (by omega) (fun j u hj => by rw [Addr.add_mid]; exact h2.cell e1 hj) ho (.inl (by omega)) (by unfold maxLen; omega) (by omega)
    refine ⟨v', w', by rw [e1]; exact k1, k2, k3, ?_⟩
    rcases k4 with k4 | k4
    · exact .inl k4
    · exact .inr k4.1
theorem pk_one {w : World} {L : List Kp} (h : ∀ q ∈ L, PkAt w q) : ∀ u ∈ L.map (·.v), u.oneCell' = true := fun u hu => by
  obtain ⟨k, hk, rfl⟩ := List.mem_map.1 hu
  obtain ⟨a, c, e, _⟩ := (h k hk).1.form
  rw [e]; rfl
end Go.Proofs.Ytdncemecnbglaaa
