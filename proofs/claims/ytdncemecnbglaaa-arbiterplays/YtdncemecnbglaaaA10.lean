/-
  arbiter's laws: where they stand, each call as a step.
-/
import Derived.Test.YtdncemecnbglaaaA9
namespace Go.Proofs.Ytdncemecnbglaaa
set_option linter.unusedVariables false
set_option linter.unusedSimpArgs false
open Go.RowKit Go.Great Go.Maps

/-- An arbiter of a law's own; c bounds what is counted. -/
structure SH (w W : World) (g b : Nat) (a : Ab) (c : Nat) : Prop where
  ab : AbAt W g b a
  gt : ∀ k ∈ a.ks, a.nx < k.n
  bel : Below w.heap.size w W
  lg : w.heap.size ≤ g
  lb : w.heap.size ≤ b
  cb : ∀ i, a.cn i ≤ c
theorem GivR.gt {ks out ks' : List Kp} {nx nx' : Nat} (h : GivR ks nx out ks' nx') : ∀ k ∈ ks', nx' < k.n := fun k hk => by
  have h1 := h.gap k hk
  have h2 : nx' ≤ k.n := by
    rw [h.left] at hk
    simpa using (List.mem_filter.1 hk).2
  omega
/-- How many are given. -/
theorem GivR.len {ks out ks' : List Kp} {nx nx' : Nat} (h : GivR ks nx out ks' nx') (m : Nat) (h1 : ∀ j, j < m → ∃ k ∈ ks, k.n = nx + j) (h2 : ∀ k ∈ ks, k.n ≠ nx + m) : out.length = m := by
  by_cases h3 : out.length < m
  · obtain ⟨k, hk, e⟩ := h1 _ h3
    have : k ∈ ks' := by
      rw [h.left]
      exact List.mem_filter.2 ⟨hk, by rw [h.nxe, e]; simp⟩
    exact absurd (by rw [h.nxe, e]) (h.gap k this)
  · by_cases h4 : m < out.length
    · obtain ⟨k, hk⟩ : ∃ k, out[m]? = some k := ⟨_, List.getElem?_eq_getElem h4⟩
      obtain ⟨e1, e2⟩ := h.at_ m k hk
      exact absurd e2 (h2 k e1)
    · omega
theorem Hd.gt {a a' : Ab} {line : Nat} {now : Int} {l : List Nat} {lo : Nat} {out : List Kp} {er : Int} (h : Hd a line now l lo out a' er) (hg : ∀ k ∈ a.ks, a.nx < k.n) : ∀ k ∈ a'.ks, a'.nx < k.n := by
  unfold Hd at h
  split at h
  · obtain ⟨_, _, rfl⟩ := h
    exact hg
  · obtain ⟨_, ⟨_, _, rfl⟩ | ⟨_, _, _, rfl⟩ | ⟨_, _, k, _, _, _, h1, _⟩⟩ := h
    · exact hg
    · exact hg
    · exact h1.gt
theorem Hd.cn {a a' : Ab} {line : Nat} {now : Int} {l : List Nat} {lo : Nat} {out : List Kp} {er : Int} (h : Hd a line now l lo out a' er) (i : Nat) : a'.cn i ≤ a.cn i + 2 := by
  have h0 := (bmp_le a.cn (4 * line) i).2
  have h1 : ∀ j, bmp (bmp a.cn (4 * line)) j i ≤ a.cn i + 2 := fun j => by
    have := (bmp_le (bmp a.cn (4 * line)) j i).2
    omega
  unfold Hd at h
  split at h
  · obtain ⟨_, _, rfl⟩ := h
    exact h1 _
  · obtain ⟨_, ⟨_, _, rfl⟩ | ⟨_, _, _, rfl⟩ | ⟨_, _, k, _, _, _, _, h2⟩⟩ := h
    · exact h1 _
    · show bmp a.cn (4 * line) i ≤ _
      omega
    · rw [h2]
      exact h1 _
theorem Tk.gt {a a' : Ab} {now : Int} {out : List Kp} (h : Tk a now out a') (hg : ∀ k ∈ a.ks, a.nx < k.n) : ∀ k ∈ a'.ks, a'.nx < k.n := by
  rcases h with ⟨_, _, rfl⟩ | ⟨_, m, _, _, h1, _⟩
  · exact hg
  · exact h1.gt
theorem Tk.cn {a a' : Ab} {now : Int} {out : List Kp} (h : Tk a now out a') (i : Nat) : a'.cn i = a.cn i := by
  rcases h with ⟨_, _, rfl⟩ | ⟨_, m, _, _, _, h1⟩
  · rfl
  · rw [h1]; rfl
section
variable {w W W' : World} {g b : Nat} {a a' : Ab} {c c' : Nat} {v : Value} {out : List Kp}
theorem SH.below (h : SH w W g b a c) (hb : Below W.heap.size W W') : SH w W' g b a c := ⟨h.ab.below hb, h.gt, below_step h.bel hb, h.lg, h.lb, h.cb⟩
theorem SH.to (h : SH w W g b a c) (ht : TkO W W' g b v out a') (hg : ∀ k ∈ a'.ks, a'.nx < k.n) (hc : ∀ i, a'.cn i ≤ c') : SH w W' g b a' c' := by
  refine ⟨ht.ab, hg, h.bel.trans (ht.fr.below h.bel.size fun q hq e => ?_), h.lg, h.lb, hc⟩
  have := h.lg
  have := h.lb
  omega
theorem SH.mono (h : SH w W g b a c) (hc : c ≤ c') : SH w W g b a c' := ⟨h.ab, h.gt, h.bel, h.lg, h.lb, fun i => Nat.le_trans (h.cb i) hc⟩
theorem SH.hear (h : SH w W g b a c) (hc : c + 2 ≤ 1000000000000) (line : Nat) (hline : line < 2) (now : Int) (hn0 : 0 ≤ now) (hn1 : now ≤ 253402300799999) {l : List Nat} (hv : By W v l) (hl : l.length ≤ 140737488351232) : Calls Try.prog 9 #[.pointer (some ⟨g, 0, none⟩), .int .i64 (line : Int), v, .int .i64 now] W fun e w' => ∃ v' er, e = .returned (.tuple #[v', .int .i64 er]) ∧ Hid (∃ out a', SH w w' g b a' (c + 2) ∧ TkO W w' g b v' out a' ∧ Hd a line now l W.heap.size out a' er) := by
  refine (Hear_any h.ab line hline now hn0 hn1 hv hl h.gt (fun i => by have := h.cb i; omega)).mono fun e w' ⟨v', er, e1, h2⟩ => ⟨v', er, e1, ?_⟩
  obtain ⟨out, a', h3, h4⟩ := h2.out
  exact ⟨out, a', h.to h3 (h4.gt h.gt) (fun i => by have := h4.cn i; have := h.cb i; omega), h3, h4⟩
theorem SH.ticks (h : SH w W g b a c) (now : Int) (hn0 : 0 ≤ now) (hn1 : now ≤ 253402300799999) : Calls Try.prog 11 #[.pointer (some ⟨g, 0, none⟩), .int .i64 now] W fun e w' => ∃ v', e = .returned v' ∧ Hid (∃ out a', SH w w' g b a' c ∧ TkO W w' g b v' out a' ∧ Tk a now out a') := by
  refine (Tick_any h.ab now hn0 hn1).mono fun e w' ⟨v', e1, h2⟩ => ⟨v', e1, ?_⟩
  obtain ⟨out, a', h3, h4⟩ := h2.out
  exact ⟨out, a', h.to h3 (h4.gt h.gt) (fun i => by rw [h4.cn i]; exact h.cb i), h3, h4⟩
end
theorem Hd.fresh {a a' : Ab} {line : Nat} {now : Int} {l : List Nat} {lo n : Nat} {out : List Kp} {er : Int} (h : Hd a line now l lo out a' er) (hr : rt l = some n) (h1 : ∀ k ∈ a.ks, k.n ≠ n) (h2 : a.nx ≤ n) (h3 : n < a.nx + a.win) : er = 0 ∧ ∃ k, k.n = n ∧ k.l = l ∧ (∀ q, k.v.ownBlock = some q → lo ≤ q) ∧ TkR ((a.came line now).cnt (4 * line + 1)) k out a' := by
  have hh : hrB a n = false := by unfold hrB; rw [fnd_of h1]; simp; omega
  unfold Hd at h
  rw [hr] at h
  obtain ⟨e, ⟨h4, _⟩ | ⟨_, h4, _⟩ | ⟨_, _, h4⟩⟩ := h
  · rw [hh] at h4; cases h4
  · omega
  · exact ⟨e, h4⟩
theorem Hd.late {a a' : Ab} {line : Nat} {now : Int} {l : List Nat} {lo n : Nat} {out : List Kp} {er : Int} (h : Hd a line now l lo out a' er) (hr : rt l = some n) (h1 : (∃ k ∈ a.ks, k.n = n) ∨ n < a.nx) : er = 0 ∧ out = [] ∧ a' = (a.came line now).cnt (4 * line + 2) := by
  have hh : hrB a n = true := by
    unfold hrB
    rcases h1 with h1 | h1
    · obtain ⟨k, hk⟩ := fnd_is h1
      rw [hk]; rfl
    · simp [h1]
  unfold Hd at h
  rw [hr] at h
  obtain ⟨e, ⟨_, h4⟩ | ⟨h4, _⟩ | ⟨h4, _⟩⟩ := h
  · exact ⟨e, h4⟩
  · rw [hh] at h4; cases h4
  · rw [hh] at h4; cases h4
theorem Hd.far {a a' : Ab} {line : Nat} {now : Int} {l : List Nat} {lo n : Nat} {out : List Kp} {er : Int} (h : Hd a line now l lo out a' er) (hr : rt l = some n) (h1 : ∀ k ∈ a.ks, k.n ≠ n) (h3 : a.nx + a.win ≤ n) (hw : 1 ≤ a.win) : er = 0 ∧ out = [] ∧ a' = a.came line now := by
  have hh : hrB a n = false := by unfold hrB; rw [fnd_of h1]; simp; omega
  unfold Hd at h
  rw [hr] at h
  obtain ⟨e, ⟨h4, _⟩ | ⟨_, _, h4⟩ | ⟨_, h4, _⟩⟩ := h
  · rw [hh] at h4; cases h4
  · exact ⟨e, h4⟩
  · omega
/-- The packet is given, and as many behind it. -/
theorem TkR.exact {a a' : Ab} {k : Kp} {out : List Kp} (h : TkR a k out a') (m : Nat) (h1 : ∀ j, j < m → ∃ q ∈ k :: a.ks, q.n = a.nx + j) (h2 : ∀ q ∈ k :: a.ks, q.n ≠ a.nx + m) : out.length = m ∧ a' = { a with nx := a.nx + m, ks := (k :: a.ks).filter (fun q => decide (a.nx + m ≤ q.n)), si := if k.n = a.nx ∨ a.ks = [] then a.la else a.si } := by
  have hl := h.1.len m h1 h2
  refine ⟨hl, ?_⟩
  have e1 := h.1.nxe
  have e2 := h.1.left
  rw [e1, hl] at e2
  rw [hl] at e1
  rw [h.2]
  rw [e1, e2]
end Go.Proofs.Ytdncemecnbglaaa
