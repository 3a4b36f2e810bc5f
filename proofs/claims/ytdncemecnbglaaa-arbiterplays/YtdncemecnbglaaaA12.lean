/-
  ArbiterWhole: what is plain of it; numbers that came in.
-/
import Derived.Test.YtdncemecnbglaaaA11
namespace Go.Proofs.Ytdncemecnbglaaa
set_option linter.unusedVariables false
set_option linter.unusedSimpArgs false
open Go.RowKit Go.Great Go.Maps

def SrcI (w : World) (a : Option Addr) (n : Nat) (d : Nat → Int) : Prop := n = 0 ∨ ∃ b off, a = some ⟨b, off, none⟩ ∧ ∀ j, j < n → w.cell? ⟨b, off + j, none⟩ = some (.int .i64 (d j)) ∧ -9223372036854775808 ≤ d j ∧ d j ≤ 9223372036854775807
theorem SrcI.below {w w' : World} {a : Option Addr} {n : Nat} {d : Nat → Int} (h : SrcI w a n d) (hb : Below w.heap.size w w') : SrcI w' a n d := by
  rcases h with h | ⟨b, off, e, h⟩
  · exact .inl h
  · exact .inr ⟨b, off, e, fun j hj => ⟨(hb.cell (World.block_lt_of_cell? _ _ (h j hj).1)).trans (h j hj).1, (h j hj).2⟩⟩
/-- The arbiter behind the numbers C that have come. -/
structure WInv (a : Ab) (C : Nat → Prop) : Prop where
  one : 1 ≤ a.nx
  inn : ∀ m, 1 ≤ m → m < a.nx → C m
  out : ¬ C a.nx
  ks : ∀ m, (∃ k ∈ a.ks, k.n = m) ↔ C m ∧ a.nx ≤ m
  pk : ∀ k ∈ a.ks, k.l = pkF k.n 9
theorem WInv.congr {a : Ab} {C C' : Nat → Prop} (h : WInv a C) (e : ∀ m, C m ↔ C' m) : WInv a C' := ⟨h.one, fun m h1 h2 => (e m).1 (h.inn m h1 h2), fun q => h.out ((e _).2 q), fun m => by rw [h.ks m, e m], h.pk⟩
theorem WInv.hear {a a' : Ab} {C : Nat → Prop} {line : Nat} {now : Int} {l : List Nat} {lo n : Nat} {out : List Kp} {er : Int} (h : WInv a C) (hd : Hd a line now l lo out a' er) (hl : l = pkF n 9) (h1 : 1 ≤ n) (h2 : n ≤ 999999999) (hn : n < a.nx + a.win) : er = 0 ∧ WInv a' (fun m => C m ∨ m = n) ∧ a'.nx = a.nx + out.length ∧ (∀ j k, out[j]? = some k → k.n = a.nx + j ∧ k.l = pkF k.n 9) ∧ a'.win = a.win := by
  have hrt : rt l = some n := by rw [hl]; exact rt_pk h1 h2 (by decide)
  by_cases hc : (∃ k ∈ a.ks, k.n = n) ∨ n < a.nx
  · obtain ⟨e1, e2, e3⟩ := hd.late hrt hc
    have hC : C n := by
      rcases hc with hc | hc
      · exact ((h.ks n).1 hc).1
      · exact h.inn n h1 hc
    rw [e2, e3]
    refine ⟨e1, ?_, rfl, fun j k hj => by simp at hj, rfl⟩
    have : WInv ((a.came line now).cnt (4 * line + 2)) C := ⟨h.one, h.inn, h.out, h.ks, h.pk⟩
    refine this.congr fun m => ⟨.inl, fun q => ?_⟩
    rcases q with q | q
    · exact q
    · rw [q]; exact hC
  · have hc1 : ∀ k ∈ a.ks, k.n ≠ n := fun k hk e => hc (.inl ⟨k, hk, e⟩)
    have hc2 : a.nx ≤ n := Nat.le_of_not_lt fun e => hc (.inr e)
    obtain ⟨e1, k, hk, hkl, _, hg, ha⟩ := hd.fresh hrt hc1 hc2 hn
    have hg' : GivR (k :: a.ks) a.nx out a'.ks a'.nx := hg
    have hall : ∀ m, (∃ q ∈ k :: a.ks, q.n = m) ↔ (C m ∨ m = n) ∧ a.nx ≤ m := fun m => by
      constructor
      · rintro ⟨q, hq, e⟩
        rcases List.mem_cons.1 hq with rfl | hq
        · have e' : m = n := by rw [← e, hk]
          exact ⟨.inr e', by rw [e']; exact hc2⟩
        · have := (h.ks m).1 ⟨q, hq, e⟩
          exact ⟨.inl this.1, this.2⟩
      · rintro ⟨q | q, hm⟩
        · obtain ⟨k', hk', e⟩ := (h.ks m).2 ⟨q, hm⟩
          exact ⟨k', List.mem_cons_of_mem _ hk', e⟩
        · exact ⟨k, List.mem_cons_self, by rw [hk, q]⟩
    have hpk : ∀ q ∈ k :: a.ks, q.l = pkF q.n 9 := fun q hq => by
      rcases List.mem_cons.1 hq with rfl | hq
      · rw [hkl, hk, hl]
      · exact h.pk q hq
    have hnx := hg'.nxe
    refine ⟨e1, ⟨by have := h.one; omega, fun m m1 m2 => ?_, fun q => ?_, fun m => ?_, fun q hq => ?_⟩, hnx, fun j q hj => ?_, by rw [ha]; rfl⟩
    · by_cases hm : m < a.nx
      · exact .inl (h.inn m m1 hm)
      · obtain ⟨q, hq⟩ : ∃ q, out[m - a.nx]? = some q := ⟨_, List.getElem?_eq_getElem (by omega)⟩
        obtain ⟨q1, q2⟩ := hg'.at_ _ q hq
        exact ((hall m).1 ⟨q, q1, by omega⟩).1
    · obtain ⟨q', hq', e⟩ := (hall a'.nx).2 ⟨q, by omega⟩
      have : q' ∈ a'.ks := by
        rw [hg'.left]
        exact List.mem_filter.2 ⟨hq', by simp [e]⟩
      exact hg'.gap q' this e
    · constructor
      · rintro ⟨q, hq, e⟩
        rw [hg'.left] at hq
        obtain ⟨q1, q2⟩ := List.mem_filter.1 hq
        have := (hall m).1 ⟨q, q1, e⟩
        refine ⟨this.1, ?_⟩
        have q2 : a'.nx ≤ q.n := by simpa using q2
        omega
      · rintro ⟨q, hm⟩
        obtain ⟨q', hq', e⟩ := (hall m).2 ⟨q, by omega⟩
        refine ⟨q', ?_, e⟩
        rw [hg'.left]
        exact List.mem_filter.2 ⟨hq', by simp; omega⟩
    · rw [hg'.left] at hq
      exact hpk q (List.mem_filter.1 hq).1
    · obtain ⟨q1, q2⟩ := hg'.at_ j q hj
      exact ⟨q2, hpk q q1⟩
/-- What has come at the i-th moment, ahead of the number k. -/
def Cik (NN : Nat) (lat : Nat → Nat) (i k m : Nat) : Prop := 1 ≤ m ∧ m ≤ NN ∧ (m + lat m < i ∨ m + lat m = i ∧ m < k)
/-- Likewise, ahead of a side. -/
def Csd (NN : Nat) (lat : Nat → Nat) (i k ln s m : Nat) : Prop := Cik NN lat i k m ∨ m = k ∧ (1 ≤ s ∧ ln ≠ 0 ∨ 2 ≤ s ∧ ln ≠ 1)
/-- Where ArbiterWhole stands. -/
def WS (w W : World) (g b ww nx cm : Nat) (C : Nat → Prop) : Prop := ∃ a c, SH w W g b a c ∧ c ≤ cm ∧ a.nx = nx ∧ a.win = ww ∧ WInv a C
theorem WS.congr {w W : World} {g b ww nx cm cm' : Nat} {C C' : Nat → Prop} (h : WS w W g b ww nx cm C) (hc : cm ≤ cm') (e : ∀ m, C m ↔ C' m) : WS w W g b ww nx cm' C' := by
  obtain ⟨a, c, h1, h2, h3, h4, h5⟩ := h
  exact ⟨a, c, h1, Nat.le_trans h2 hc, h3, h4, h5.congr e⟩
theorem WS.below {w W W' : World} {g b ww nx cm : Nat} {C : Nat → Prop} (h : WS w W g b ww nx cm C) (hb : Below W.heap.size W W') : WS w W' g b ww nx cm C := by
  obtain ⟨a, c, h1, h2, h3, h4, h5⟩ := h
  exact ⟨a, c, h1.below hb, h2, h3, h4, h5⟩
theorem WS.bel {w W : World} {g b ww nx cm : Nat} {C : Nat → Prop} (h : WS w W g b ww nx cm C) : Below w.heap.size w W := by
  obtain ⟨a, c, h1, _⟩ := h
  exact h1.bel
theorem WS.nb {w W : World} {g b ww nx cm : Nat} {C : Nat → Prop} (h : WS w W g b ww nx cm C) : nx ≤ 1000000000 := by
  obtain ⟨a, c, h1, _, h2, _⟩ := h
  rw [← h2]; exact h1.ab.bd.nx
theorem Cik.skip {NN i k : Nat} {lat : Nat → Nat} (h : k + lat k ≠ i) (m : Nat) : Cik NN lat i k m ↔ Cik NN lat i (k + 1) m := by
  unfold Cik
  constructor
  · rintro ⟨h1, h2, h3 | h3⟩
    · exact ⟨h1, h2, .inl h3⟩
    · exact ⟨h1, h2, .inr ⟨h3.1, by omega⟩⟩
  · rintro ⟨h1, h2, h3 | h3⟩
    · exact ⟨h1, h2, .inl h3⟩
    · refine ⟨h1, h2, .inr ⟨h3.1, ?_⟩⟩
      by_cases e : m = k
      · rw [e] at h3; exact absurd h3.1 h
      · omega
theorem Csd.zero {NN i k ln : Nat} {lat : Nat → Nat} (m : Nat) : Cik NN lat i k m ↔ Csd NN lat i k ln 0 m := by
  unfold Csd
  constructor
  · exact .inl
  · rintro (h | ⟨_, h | h⟩)
    · exact h
    · omega
    · omega
theorem Csd.lost {NN i k ln s : Nat} {lat : Nat → Nat} (hs : s < 2) (h : ln = s) (m : Nat) : Csd NN lat i k ln s m ↔ Csd NN lat i k ln (s + 1) m := by
  unfold Csd
  constructor
  · rintro (q | ⟨q, r | r⟩)
    · exact .inl q
    · exact .inr ⟨q, .inl ⟨by omega, r.2⟩⟩
    · exact .inr ⟨q, .inr ⟨by omega, r.2⟩⟩
  · rintro (q | ⟨q, r | r⟩)
    · exact .inl q
    · exact .inr ⟨q, .inl ⟨by omega, r.2⟩⟩
    · exact .inr ⟨q, .inr ⟨by omega, r.2⟩⟩
theorem Csd.heard {NN i k ln s : Nat} {lat : Nat → Nat} (hs : s < 2) (h : ln ≠ s) (m : Nat) : (Csd NN lat i k ln s m ∨ m = k) ↔ Csd NN lat i k ln (s + 1) m := by
  unfold Csd
  constructor
  · rintro ((q | ⟨q, r | r⟩) | q)
    · exact .inl q
    · exact .inr ⟨q, .inl ⟨by omega, r.2⟩⟩
    · exact .inr ⟨q, .inr ⟨by omega, r.2⟩⟩
    · have : s = 0 ∨ s = 1 := by omega
      rcases this with rfl | rfl
      · exact .inr ⟨q, .inl ⟨by omega, h⟩⟩
      · exact .inr ⟨q, .inr ⟨by omega, h⟩⟩
  · rintro (q | ⟨q, _⟩)
    · exact .inl (.inl q)
    · exact .inr q
theorem Csd.two {NN i k ln : Nat} {lat : Nat → Nat} (hk1 : 1 ≤ k) (hk2 : k ≤ NN) (h : k + lat k = i) (m : Nat) : Csd NN lat i k ln 2 m ↔ Cik NN lat i (k + 1) m := by
  unfold Csd Cik
  constructor
  · rintro (⟨h1, h2, h3 | h3⟩ | ⟨q, _⟩)
    · exact ⟨h1, h2, .inl h3⟩
    · exact ⟨h1, h2, .inr ⟨h3.1, by omega⟩⟩
    · subst q
      exact ⟨hk1, hk2, .inr ⟨h, by omega⟩⟩
  · rintro ⟨h1, h2, h3 | h3⟩
    · exact .inl ⟨h1, h2, .inl h3⟩
    · by_cases e : m = k
      · exact .inr ⟨e, by omega⟩
      · exact .inl ⟨h1, h2, .inr ⟨h3.1, by omega⟩⟩
/-- A round of moments begins, and ends. -/
theorem Cik.start {NN i lo ww : Nat} {lat : Nat → Nat} (hl : ∀ m, lat m < ww) (hlo : lo ≤ 1 ∨ lo + ww ≤ i + 1) (m : Nat) : Cik NN lat i 0 m ↔ Cik NN lat i lo m := by
  unfold Cik
  have := hl m
  constructor
  · rintro ⟨h1, h2, h3 | h3⟩
    · exact ⟨h1, h2, .inl h3⟩
    · omega
  · rintro ⟨h1, h2, h3 | h3⟩
    · exact ⟨h1, h2, .inl h3⟩
    · omega
theorem Cik.stop {NN i k : Nat} {lat : Nat → Nat} (hk : ¬ (k ≤ i ∧ k ≤ NN)) (m : Nat) : Cik NN lat i k m ↔ Cik NN lat (i + 1) 0 m := by
  unfold Cik
  constructor
  · rintro ⟨h1, h2, h3 | h3⟩
    · exact ⟨h1, h2, .inl (by omega)⟩
    · exact ⟨h1, h2, .inl (by omega)⟩
  · rintro ⟨h1, h2, h3 | h3⟩
    · refine ⟨h1, h2, ?_⟩
      by_cases e : m + lat m < i
      · exact .inl e
      · exact .inr ⟨by omega, by omega⟩
    · omega
/-- A number that comes is within the window. -/
theorem WInv.near {a : Ab} {NN i k ln s ww : Nat} {lat : Nat → Nat} (h : WInv a (Csd NN lat i k ln s)) (hl : ∀ m, lat m < ww) (hk : k ≤ i) (hkN : k ≤ NN) : k < a.nx + ww := by
  have h1 := h.out
  have h2 := h.one
  have h3 := hl a.nx
  by_cases hx : a.nx ≤ NN
  · have : ¬ (a.nx + lat a.nx < i) := fun e => h1 (.inl ⟨h2, hx, .inl e⟩)
    omega
  · omega
/-- In the end all has come. -/
theorem WInv.all {a : Ab} {NN i ww : Nat} {lat : Nat → Nat} (h : WInv a (Cik NN lat i 0)) (hl : ∀ m, lat m < ww) (hi : NN + ww < i) : a.nx = NN + 1 ∧ a.ks = [] := by
  have hC : ∀ m, 1 ≤ m → m ≤ NN → Cik NN lat i 0 m := fun m h1 h2 => ⟨h1, h2, .inl (by have := hl m; omega)⟩
  have h1 : a.nx = NN + 1 := by
    have h2 : ¬ a.nx ≤ NN := fun e => h.out (hC _ h.one e)
    have h3 : a.nx ≤ NN + 1 := Nat.le_of_not_lt fun e => by
      have := (h.inn (NN + 1) (by omega) e).2.1
      omega
    omega
  refine ⟨h1, ?_⟩
  cases hk : a.ks with
  | nil => rfl
  | cons k r =>
    have := (h.ks k.n).1 ⟨k, by rw [hk]; exact List.mem_cons_self, rfl⟩
    have h4 := this.1.2.1
    omega
end Go.Proofs.Ytdncemecnbglaaa
