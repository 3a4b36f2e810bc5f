import Derived.Test.YtdncemecnbglaaaAXe

namespace Go.Proofs.Ytdncemecnbglaaa
set_option linter.unusedVariables false
set_option linter.unusedSimpArgs false
open Go.RowKit Go.Great Go.Maps

/-- The colours, but for some blocks. -/
structure Rcl (G : Gh) (S : Nat → Prop) (c : Nat × Nat) (G' : Gh) : Prop where
  yes : ∀ q, S q → G' q = c
  no : ∀ q, ¬ S q → G' q = G q
theorem Rcl.ex (G : Gh) (S : Nat → Prop) (c : Nat × Nat) : ∃ G', Rcl G S c G' := by
  classical
  exact ⟨fun q => if S q then c else G q, fun q h => if_pos h, fun q h => if_neg h⟩
section
variable {s : Nat} {ex : Nat → Prop} {G G1 : Gh} {w w1 : World}
theorem Stp.turnS (gi : Gi G w) {S : Nat → Prop} (hS : ∀ q, S q → Sc s (G q)) (c : Nat × Nat) (hc : ∀ m, c ≠ (3, m)) {G' : Gh} (hr : Rcl G S c G') : Stp s (fun _ => False) G w G' w := by
  refine ⟨rfl, rfl, rfl, Nat.le_refl _, gi, ⟨fun x hx => ?_, fun x k hx => ?_⟩, fun x hx => ?_, fun _ _ _ h => h.elim, fun _ _ _ => .inl rfl⟩
  · by_cases e : S x
    · refine gi.ty x fun e2 => ?_
      have := (hS x e).1
      rw [e2] at this; simp at this
    · rw [hr.no _ e] at hx; exact gi.ty x hx
  · by_cases e : S x
    · rw [hr.yes _ e] at hx; exact absurd hx (hc k)
    · rw [hr.no _ e] at hx; exact gi.inn x k hx
  · by_cases e : S x
    · exact .inr (hS x e)
    · exact .inl (hr.no _ e)
theorem Stp.paintS (h : Stp s ex G w G1 w1) {S : Nat → Prop} (hS : ∀ q, S q → w.heap.size ≤ q ∧ G1 q = (0, 0) ∧ ∃ cur T, w1.heap[q]? = some (.cells cur T (0, 0)) ∧ hotT T) (c : Nat × Nat) (hc : ∀ m, c ≠ (3, m)) {G' : Gh} (hr : Rcl G1 S c G') : Stp s ex G w G' w1 := by
  have h3 : ∀ x m, G1 x = (3, m) → G' x = (3, m) := fun x m hx => by
    rw [hr.no _ fun e => by rw [(hS x e).2.1] at hx; simp at hx]
    exact hx
  refine ⟨h.os, h.tape, h.output, h.size, h.gi0, ⟨fun x hx => ?_, fun x m hx => ?_⟩, fun x hx => ?_, h.exT, fun x hx hn => ?_⟩
  · by_cases e : S x
    · exact (hS x e).2.2
    · rw [hr.no _ e] at hx; exact h.gi.ty x hx
  · by_cases e : S x
    · rw [hr.yes _ e] at hx; exact absurd hx (hc m)
    · rw [hr.no _ e] at hx; exact h.gi.inn x m hx
  · rw [hr.no _ fun e => by have := (hS x e).1; omega]; exact h.col x hx
  · rw [hr.no _ fun e => by have := (hS x e).1; omega]
    rcases h.block x hx hn with a | ⟨m, c0, c1, U, g1, a1, a2, a3, a4⟩
    · exact .inl a
    · exact .inr ⟨m, c0, c1, U, g1, a1, a2, a3, fun j y hy => (a4 j y hy).imp id fun z => z.to h3⟩
end
/-- Packets of other numbers lie in other blocks. -/
def KD (ks : List Kp) : Prop := ∀ x ∈ ks, ∀ y ∈ ks, x.n ≠ y.n → x.v.ownBlock ≠ y.v.ownBlock
/-- A pair. -/
structure PR where
  p : Nat
  g : Nat
  b : Nat
  h : Nat
  a : Ab
  r : Ab
  kv : Value
  c : PC
  es : List En
  os : List (Value × Nat)
  rs : List (Value × Nat)
  ws : List Kp
  dn : Nat
def PR.own (P : PR) (q : Nat) : Prop := q = P.p ∨ q = P.g ∨ q = P.b ∨ rOwn P.h P.kv q ∨ P.c.k.ownBlock = some q ∨ P.c.o.ownBlock = some q ∨ P.c.r.ownBlock = some q ∨ P.c.s.ownBlock = some q
structure PrAt (s : Nat) (G : Gh) (w : World) (P : PR) (N : Nat) : Prop where
  gi : Gi G w
  ca : P.c.a = .pointer (some ⟨P.g, 0, none⟩)
  cb : P.c.b = .pointer (some ⟨P.h, 0, none⟩)
  blk : Blk w P.p 54 P.c.cs
  ab : AbAt w P.g P.b P.a
  gt : ∀ k ∈ P.a.ks, P.a.nx < k.n
  rb : RbAt w P.h P.kv P.r
  rel : Rel P.a P.r
  hs : Hs w G P.c.k P.es
  os : Ls 32 35 1 w G P.c.o P.os
  rs : Ls 59 61 2 w G P.c.r P.rs
  wt : Wt (2 * s + 1) G w P.c.w P.ws
  sr : RowAt w 9 1 P.c.s P.ws.length (sV P.ws)
  dk : MkA w G 5 1 300 P.c.d P.dn
  kc : ∀ k ∈ P.a.ks, ∀ q, k.v.ownBlock = some q → G q = (1, 2 * s)
  kd : KD P.a.ks
  rc : ∀ k ∈ P.r.ks, ∀ q, k.v.ownBlock = some q → G q = (0, 0)
  kl : ∀ k ∈ P.a.ks, k.l.length ≤ 140737488351232
  wl : ∀ k ∈ P.ws, k.l.length ≤ 140737488351232
  cn : ∀ i, P.a.cn i ≤ 2 * N
  eb : P.es.length + 4 * P.ws.length ≤ 4 * P.a.nx
  o4 : P.os.length % 4 = 0
  r4 : P.rs.length % 4 = 0
  ob : P.os.length ≤ 8 * N
  rb8 : P.rs.length ≤ 8 * N
section
variable {s t N : Nat} {G G' : Gh} {w w' : World} {P Q : PR} {ex : Nat → Prop}
/-- None of a pair's own blocks is one that is marked. -/
theorem PrAt.exT (h : PrAt s G w P N) : ∀ q cur T, P.own q → w.heap[q]? = some (.cells cur T (0, 0)) → ¬ hotT T := fun q cur T hq hc => by
  rcases hq with rfl | rfl | rfl | hq | hq | hq | hq | hq
  · exact h.blk.nh nhP hc
  · exact h.ab.blk.nh (by unfold hotT; decide) hc
  · obtain ⟨es, c, hm⟩ := h.ab.map.is
    rw [hm] at hc; cases hc
  · rcases hq with rfl | hq
    · exact h.rb.blk.nh (by unfold hotT; decide) hc
    · exact h.rb.row.nh (by unfold hotT; decide) hq hc
  · exact h.hs.row.nh nhH hq hc
  · exact h.os.row.nh nhO hq hc
  · exact h.rs.row.nh nhR hq hc
  · exact h.sr.nh nh9 hq hc
theorem PrAt.own_lt (h : PrAt s G w P N) {q : Nat} (hq : P.own q) : q < w.heap.size := by
  rcases hq with rfl | rfl | rfl | hq | hq | hq | hq | hq
  · exact h.blk.lt
  · exact h.ab.blk.lt
  · exact h.ab.map.lt
  · rcases hq with rfl | hq
    · exact h.rb.blk.lt
    · exact (h.rb.row.lt hq).1
  · exact (h.hs.row.lt hq).1
  · exact (h.os.row.lt hq).1
  · exact (h.rs.row.lt hq).1
  · exact (h.sr.lt hq).1
/-- Whatever leaves a pair's own blocks and colours leaves the pair. -/
theorem PrAt.keep (h : PrAt s G w P N) (k : Stp t ex G w G' w') (hex : ∀ q, P.own q → ¬ ex q) (hc : ∀ q, (G q).1 = 0 ∨ G q = (1, 2 * s) ∨ G q = (1, 2 * s + 1) → q < w.heap.size → G' q = G q) : PrAt s G' w' P N := by
  have hz : ∀ q m, G q = (1, 2 * s) ∨ G q = (1, 2 * s + 1) → q < w.heap.size → G' q ≠ (2, m) := fun q m hq hl e => by
    rw [hc q (.inr hq) hl] at e
    rcases hq with hq | hq <;> rw [hq] at e <;> simp at e
  refine ⟨k.gi, h.ca, h.cb, h.blk.stp k nhP (hex _ (.inl rfl)), h.ab.stp k (hex _ (.inr (.inl rfl))) (hex _ (.inr (.inr (.inl rfl)))) (fun x hx q hq m => hz q m (.inl (h.kc x hx q hq)) ((h.ab.pk x hx).1.lt hq).1), h.gt,
    h.rb.stp k (fun q hq => hex q (.inr (.inr (.inr (.inl hq))))) (fun x hx q hq m e => ?_), h.rel, h.hs.stp k fun q hq => hex q (.inr (.inr (.inr (.inr (.inl hq))))), h.os.stp nhO k fun q hq => hex q (.inr (.inr (.inr (.inr (.inr (.inl hq)))))), h.rs.stp nhR k fun q hq => hex q (.inr (.inr (.inr (.inr (.inr (.inr (.inl hq))))))),
    ⟨h.wt.row.stpC k (.inr (.inr rfl)) fun q hq m => hz q m (.inr (h.wt.col q hq)) (h.wt.row.lt hq).1, fun q hq => ?_, fun x hx => (h.wt.pk x hx).stp k fun q hq m => hz q m (.inr (h.wt.pc x hx q hq)) ((h.wt.pk x hx).1.lt hq).1, fun x hx q hq => ?_, h.wt.dis⟩, h.sr.stpO k nh9 fun q hq => hex q (.inr (.inr (.inr (.inr (.inr (.inr (.inr hq))))))), h.dk.stp k, fun x hx q hq => ?_, h.kd, fun x hx q hq => ?_, h.kl, h.wl, h.cn, h.eb, h.o4, h.r4, h.ob, h.rb8⟩
  · have h0 := h.rc x hx q hq
    rw [hc q (.inl (by rw [h0])) ((h.rb.pk x hx).1.lt hq).1, h0] at e
    simp at e
  · rw [hc q (.inr (.inr (h.wt.col q hq))) (h.wt.row.lt hq).1]; exact h.wt.col q hq
  · rw [hc q (.inr (.inr (h.wt.pc x hx q hq))) ((h.wt.pk x hx).1.lt hq).1]; exact h.wt.pc x hx q hq
  · rw [hc q (.inr (.inl (h.kc x hx q hq))) ((h.ab.pk x hx).1.lt hq).1]; exact h.kc x hx q hq
  · rw [hc q (.inl (by rw [h.rc x hx q hq])) ((h.rb.pk x hx).1.lt hq).1]; exact h.rc x hx q hq
/-- The other pair stands as it did. -/
theorem PrAt.other (h : PrAt s G w P N) (k : Stp (1000 + t) ex G w G' w') (hst : s ≠ t) (hs : s < 400) (ht : t < 400) (hex : ∀ q, P.own q → ¬ ex q) : PrAt s G' w' P N := h.keep k hex fun q hq hl => by
  rcases k.col q hl with e | ⟨e1, e2⟩
  · exact e
  · exfalso
    rcases hq with hq | hq | hq
    · omega
    · rw [hq] at e2; simp at e2; omega
    · rw [hq] at e2; simp at e2; omega
theorem PrAt.below (h : PrAt s G w P N) (hb : Below w.heap.size w w') : PrAt s G w' P N := h.keep (Stp.below (s := 0) h.gi hb) (fun _ _ => id) fun _ _ _ => rfl
theorem PrAt.mono {M : Nat} (h : PrAt s G w P N) (hM : N ≤ M) : PrAt s G w P M := ⟨h.gi, h.ca, h.cb, h.blk, h.ab, h.gt, h.rb, h.rel, h.hs, h.os, h.rs, h.wt, h.sr, h.dk, h.kc, h.kd, h.rc, h.kl, h.wl, fun i => by have := h.cn i; omega, h.eb, h.o4, h.r4, by have := h.ob; omega, by have := h.rb8; omega⟩
/-- What a step leaves. -/
def StepR (s : Nat) (G : Gh) (w : World) (P : PR) (N : Nat) (w' : World) : Prop := ∃ G' P', PrAt s G' w' P' N ∧ P'.p = P.p ∧ Stp (1000 + s) P.own G w G' w' ∧ ∀ q, P'.own q → P.own q ∨ w.heap.size ≤ q
theorem PrAt.stay (h : PrAt s G w P N) (hb : Below w.heap.size w w') : StepR s G w P N w' := ⟨G, P, h.below hb, rfl, (Stp.below (s := 1000 + s) h.gi hb).mono (fun _ _ e => e.elim) h.exT, fun q hq => .inl hq⟩
end
/-- What was given and what is left, of a list of packets. -/
structure Gvn (L out ks : List Kp) : Prop where
  om : ∀ k ∈ out, k ∈ L
  km : ∀ k ∈ ks, k ∈ L
  pw : out.Pairwise fun a b => a.n ≠ b.n
  ne : ∀ x ∈ out, ∀ y ∈ ks, x.n ≠ y.n
theorem Gvn.none {L ks : List Kp} (h : ∀ k ∈ ks, k ∈ L) : Gvn L [] ks := ⟨fun k hk => (by cases hk), h, .nil, fun x hx => (by cases hx)⟩
theorem GivR.gvn {L out ks : List Kp} {nx nx' : Nat} (h : GivR L nx out ks nx') : Gvn L out ks := by
  refine ⟨fun k hk => ?_, fun k hk => ?_, ?_, fun x hx y hy e => ?_⟩
  · obtain ⟨j, hj⟩ := List.getElem?_of_mem hk
    exact (h.at_ j k hj).1
  · rw [h.left] at hk; exact (List.mem_filter.1 hk).1
  · rw [List.pairwise_iff_getElem]
    intro i j hi hj hij e
    have h1 := (h.at_ i _ (List.getElem?_eq_getElem hi)).2
    have h2 := (h.at_ j _ (List.getElem?_eq_getElem hj)).2
    omega
  · obtain ⟨j, hj⟩ := List.getElem?_of_mem hx
    have h1 := (h.at_ j x hj).2
    have hl : j < out.length := (List.getElem?_eq_some_iff.1 hj).1
    rw [h.left] at hy
    have h2 := (List.mem_filter.1 hy).2
    simp at h2
    have := h.nxe
    omega
/-- Tick gives of what is kept. -/
theorem Tk.gvn {a a' : Ab} {now : Int} {out : List Kp} (h : Tk a now out a') (hg : ∀ k ∈ a.ks, a.nx < k.n) : Gvn a.ks out a'.ks ∧ a.nx + out.length ≤ a'.nx := by
  rcases h with ⟨_, rfl, rfl⟩ | ⟨_, m, ⟨k, hk, hm⟩, _, h2, _⟩
  · exact ⟨Gvn.none fun _ h => h, Nat.le_refl _⟩
  · have := hg k hk
    have := h2.nxe
    exact ⟨h2.gvn, by omega⟩
/-- Hear gives of what is kept and of what came. -/
theorem Hd.gvn {a a' : Ab} {line lo : Nat} {now : Int} {l : List Nat} {out : List Kp} {er : Int} (h : Hd a line now l lo out a' er) : ∃ nk : List Kp, (∀ k ∈ nk, k.l = l ∧ (∀ q, k.v.ownBlock = some q → lo ≤ q) ∧ ∀ x ∈ a.ks, x.n ≠ k.n) ∧ (nk = [] ∨ ∃ k, nk = [k]) ∧ Gvn (nk ++ a.ks) out a'.ks ∧ a.nx + out.length ≤ a'.nx := by
  unfold Hd at h
  split at h
  · obtain ⟨_, rfl, rfl⟩ := h
    exact ⟨[], fun k hk => (by cases hk), .inl rfl, Gvn.none fun _ h => h, Nat.le_refl _⟩
  · rename_i n hn
    obtain ⟨_, h⟩ := h
    rcases h with ⟨_, rfl, rfl⟩ | ⟨_, _, rfl, rfl⟩ | ⟨hb, _, k, hkn, hkl, hlo, h1, h2⟩
    · exact ⟨[], fun k hk => (by cases hk), .inl rfl, Gvn.none fun _ h => h, Nat.le_refl _⟩
    · exact ⟨[], fun k hk => (by cases hk), .inl rfl, Gvn.none fun _ h => h, Nat.le_refl _⟩
    · refine ⟨[k], fun x hx => ?_, .inr ⟨k, rfl⟩, h1.gvn, by have h3 := h1.nxe; exact Nat.le_of_eq h3.symm⟩
      have e : x = k := by simpa using hx
      subst e
      refine ⟨hkl, hlo, fun y hy => ?_⟩
      unfold hrB at hb
      have h5 := (Bool.or_eq_false_iff.1 hb).1
      have hno : fnd a.ks n = none := by
        cases e3 : fnd a.ks n with
        | none => rfl
        | some x => rw [e3] at h5; cases h5
      rw [hkn]
      exact fnd_none hno y hy
theorem RTk.mem {a a' : Ab} {now : Int} {out : List Kp} (h : RTk a now out a') : ∀ x ∈ a'.ks, x ∈ a.ks := by
  rcases h with ⟨_, _, rfl⟩ | ⟨_, m, _, _, h2, _⟩
  · exact fun x hx => hx
  · exact fun x hx => by rw [h2.left] at hx; exact (List.mem_filter.1 hx).1
theorem RHd.mem {a a' : Ab} {line lo : Nat} {now : Int} {l : List Nat} {out : List Kp} {er : Int} (h : RHd a line now l lo out a' er) : ∀ x ∈ a'.ks, x ∈ a.ks ∨ ∀ q, x.v.ownBlock = some q → lo ≤ q := by
  unfold RHd at h
  split at h
  · obtain ⟨_, _, rfl⟩ := h
    exact fun x hx => .inl hx
  · obtain ⟨_, h⟩ := h
    rcases h with ⟨_, _, rfl⟩ | ⟨_, _, _, rfl⟩ | ⟨_, _, k, _, _, hlo, h1⟩
    · exact fun x hx => .inl hx
    · exact fun x hx => .inl hx
    · intro x hx
      rcases h1 with ⟨_, h1, _⟩ | ⟨_, _, h1, _⟩
      · rw [h1.left] at hx
        rcases List.mem_cons.1 (List.mem_filter.1 hx).1 with rfl | hx
        · exact .inr hlo
        · exact .inl hx
      · rcases List.mem_cons.1 (h1.mem_iff.1 hx) with rfl | hx
        · exact .inr hlo
        · exact .inl hx
end Go.Proofs.Ytdncemecnbglaaa

namespace Go.Proofs.Ytdncemecnbglaaa
set_option linter.unusedVariables false
set_option linter.unusedSimpArgs false
open Go.RowKit Go.Great Go.Maps

def gbh (P : PR) (q : Nat) : Prop := q = P.g ∨ q = P.b ∨ q = P.h
/-- Both have answered. -/
structure Md (s : Nat) (G : Gh) (w : World) (P : PR) (N : Nat) (G2 : Gh) (W : World) (a r : Ab) (kv av bv : Value) (out out2 L : List Kp) : Prop where
  cin : CIn (2 * s + 1) G2 W P.p P.c P.es P.os P.ws av bv out out2
  st : Stp (1000 + s) P.own G w G2 W
  ab : AbAt W P.g P.b a
  gt : ∀ k ∈ a.ks, a.nx < k.n
  rb : RbAt W P.h kv r
  kvo : ∀ q, kv.ownBlock = some q → P.kv.ownBlock = some q ∨ w.heap.size ≤ q
  rel : Rel a r
  rs : Ls 59 61 2 W G2 P.c.r P.rs
  dk : MkA W G2 5 1 300 P.c.d P.dn
  col : ∀ q, av.ownBlock = some q → G2 q = (1, 2 * s)
  lc : ∀ k ∈ out ++ a.ks, ∀ q, k.v.ownBlock = some q → G2 q = (1, 2 * s)
  kd : KD L
  gv : Gvn L out a.ks
  rc : ∀ k ∈ r.ks, ∀ q, k.v.ownBlock = some q → G2 q = (0, 0)
  ll : ∀ k ∈ L, k.l.length ≤ 140737488351232
  nx : P.a.nx + out.length ≤ a.nx
  cn : ∀ i, a.cn i ≤ 2 * (N + 1)
theorem nhA : ¬ hotT 67 := by unfold hotT; decide
theorem nhB : ¬ hotT 85 := by unfold hotT; decide
theorem PrAt.mid {s N : Nat} {G : Gh} {w W0 W1 W2 : World} {P : PR} {a r : Ab} {kv av bv : Value} {out out2 nk : List Kp} (h : PrAt s G w P N) (hs : s < 400) (hN : N ≤ 1000) (ht : TkO w W0 P.g P.b av out a) (hd : Stp (1000 + s) (fun _ => False) G W0 G W1) (hk : RkO W1 W2 P.h P.kv kv bv out2 r)
    (hnk : ∀ k ∈ nk, k.l.length ≤ 140737488351232 ∧ (∀ q, k.v.ownBlock = some q → w.heap.size ≤ q) ∧ ∀ x ∈ P.a.ks, x.n ≠ k.n) (hn1 : nk = [] ∨ ∃ k, nk = [k]) (hg : Gvn (nk ++ P.a.ks) out a.ks) (hnx : P.a.nx + out.length ≤ a.nx) (hrm : ∀ x ∈ r.ks, x ∈ P.r.ks ∨ ∀ q, x.v.ownBlock = some q → W1.heap.size ≤ q)
    (hgt : ∀ k ∈ a.ks, a.nx < k.n) (hrel : Rel a r) (hl : out.map (·.l) = out2.map (·.l)) (hcn : ∀ i, a.cn i ≤ 2 * (N + 1)) : ∃ G2, Md s G w P N G2 W2 a r kv av bv out out2 (nk ++ P.a.ks) := by
  have hgn : P.g ≠ P.h := fun e => by
    have h1 := h.ab.blk
    rw [e] at h1
    exact Blk.neT h1 h.rb.blk (by decide)
  have hbn : P.b ≠ P.h := fun e => by
    obtain ⟨es, c, hm⟩ := h.ab.map.is
    have h1 := h.rb.blk
    unfold Blk at h1
    rw [e, h1] at hm
    cases hm
  have hx : ∀ q cur T, gbh P q → w.heap[q]? = some (.cells cur T (0, 0)) → ¬ hotT T := fun q cur T hq hc => h.exT q cur T (by
    rcases hq with e | e | e
    · exact .inr (.inl e)
    · exact .inr (.inr (.inl e))
    · exact .inr (.inr (.inr (.inl (.inl e))))) hc
  have hst1 : Stp (1000 + s) (gbh P) G w G W0 := Stp.of_fr h.gi (ht.fr.mono fun q _ e => e.elim .inl fun e => .inr (.inl e)) hx
  have hst2 := hst1.trans0 hd
  have hh0 : Blk W0 P.h 85 (P.r.rcs P.kv) := h.rb.blk.fr ht.fr fun e => e.elim (fun e => hgn e.symm) fun e => hbn e.symm
  have hh1 : Blk W1 P.h 85 (P.r.rcs P.kv) := hh0.stp hd nhB id
  have hgc : ∀ k ∈ out ++ a.ks, ∀ q, k.v.ownBlock = some q → ∀ m, G q ≠ (2, m) := fun k hk1 q hq m e => by
    have hm : k ∈ nk ++ P.a.ks := by
      rcases List.mem_append.1 hk1 with m | m
      · exact hg.om k m
      · exact hg.km k m
    rcases List.mem_append.1 hm with m | m
    · rw [h.gi.zero ((hnk k m).2.1 q hq)] at e; simp at e
    · rw [h.kc k m q hq] at e; simp at e
  have hrow1 : RowAt W1 35 1 av out.length (out.map (·.v)) := ht.row.stpC hd (.inr (.inr rfl)) fun q hq m e => by
    rw [h.gi.zero (ht.low q hq)] at e; simp at e
  have hpk1 : ∀ k ∈ out ++ a.ks, PkAt W1 k := fun k hk1 => by
    refine PkAt.stp ?_ hd fun q hq => hgc k hk1 q hq
    rcases List.mem_append.1 hk1 with m | m
    · exact ht.pk k m
    · exact ht.ab.pk k m
  have hab1 : AbAt W1 P.g P.b a := ht.ab.stp hd id id fun k hk1 q hq => hgc k (List.mem_append_right _ hk1) q hq
  have hst3 : Stp (1000 + s) (fun q => q = P.h) G W1 G W2 := Stp.of_fr hst2.gi hk.fr fun q cur T hq hc => by subst hq; exact hh1.nh nhB hc
  have hst0 : Stp (1000 + s) (gbh P) G w G W2 := hst2.trans hst3 fun q _ e => .inr (.inr e)
  have hrowW2 : RowAt W2 35 1 av out.length (out.map (·.v)) := hrow1.fr hk.fr fun q hq e => by
    subst e
    exact hrow1.ne_type hh1 (by decide) hq
  have hpkW2 : ∀ k, PkAt W1 k → PkAt W2 k := fun k hk1 => hk1.fr hk.fr fun q hq e => by
    subst e
    exact hk1.1.ne_type hh1 (by decide) hq
  have hab2 : AbAt W2 P.g P.b a := hab1.fr hk.fr hgn hbn fun k hk1 q hq e => by
    subst e
    exact (hab1.pk k hk1).1.ne_type hh1 (by decide) hq
  obtain ⟨G2, hr⟩ := Rcl.ex G (fun q => av.ownBlock = some q ∨ ∃ k ∈ out ++ a.ks, k.v.ownBlock = some q ∧ w.heap.size ≤ q) (1, 2 * s)
  have hlt1 : ∀ q, (av.ownBlock = some q ∨ ∃ k ∈ out ++ a.ks, k.v.ownBlock = some q ∧ w.heap.size ≤ q) → w.heap.size ≤ q ∧ q < W1.heap.size := fun q hq => by
    rcases hq with hq | ⟨k, hk1, hq, hle⟩
    · exact ⟨ht.low q hq, (hrow1.lt hq).1⟩
    · exact ⟨hle, ((hpk1 k hk1).1.lt hq).1⟩
  have hst : Stp (1000 + s) (gbh P) G w G2 W2 := hst0.paintS (fun q hq => by
    refine ⟨(hlt1 q hq).1, h.gi.zero (hlt1 q hq).1, ?_⟩
    rcases hq with hq | ⟨k, hk1, hq, hle⟩
    · obtain ⟨_, cur, hc⟩ := hrowW2.lt hq
      exact ⟨cur, _, hc, .inr (.inr rfl)⟩
    · obtain ⟨_, cur, hc⟩ := (hpkW2 k (hpk1 k hk1)).1.lt hq
      exact ⟨cur, _, hc, .inl rfl⟩) (1, 2 * s) (fun m e => by simp at e) hr
  have hold : ∀ q, q < w.heap.size → G2 q = G q := fun q hq => hr.no q fun e => by have := (hlt1 q e).1; omega
  have hz : ∀ q, q < w.heap.size → (G q).1 ≠ 2 → ∀ m, G2 q ≠ (2, m) := fun q hq hn m e => by
    rw [hold q hq] at e; rw [e] at hn; simp at hn
  have hlc : ∀ k ∈ out ++ a.ks, ∀ q, k.v.ownBlock = some q → G2 q = (1, 2 * s) := fun k hk1 q hq => by
    by_cases hle : w.heap.size ≤ q
    · exact hr.yes q (.inr ⟨k, hk1, hq, hle⟩)
    · have hm : k ∈ nk ++ P.a.ks := by
        rcases List.mem_append.1 hk1 with m | m
        · exact hg.om k m
        · exact hg.km k m
      rcases List.mem_append.1 hm with m | m
      · exact absurd ((hnk k m).2.1 q hq) hle
      · rw [hold q (by omega)]; exact h.kc k m q hq
  have hcol : ∀ q, av.ownBlock = some q → G2 q = (1, 2 * s) := fun q hq => hr.yes q (.inl hq)
  have hne12 : ∀ q, G2 q = (1, 2 * s) → G2 q ≠ (1, 2 * s + 1) ∧ (G2 q).1 ≠ 2 := fun q hq => by
    rw [hq]
    refine ⟨fun e => ?_, by simp⟩
    injection e with _ e
    omega
  have hex : ∀ q, gbh P q → ∀ {cur : Array Value} {T : TypeId}, w.heap[q]? = some (.cells cur T (0, 0)) → T = 67 ∨ T = 85 := fun q hq cur T hc => by
    rcases hq with rfl | rfl | rfl
    · have := h.ab.blk
      unfold Blk at this
      rw [this] at hc
      injection hc with hc
      injection hc with _ hc _
      exact .inl hc.symm
    · obtain ⟨es, c, hm⟩ := h.ab.map.is
      rw [hm] at hc; cases hc
    · have := h.rb.blk
      unfold Blk at this
      rw [this] at hc
      injection hc with hc
      injection hc with _ hc _
      exact .inr hc.symm
  have hrowx : ∀ {e : TypeId} {size n : Nat} {v : Value} {xs : List Value}, RowAt w e size v n xs → e ≠ 67 → e ≠ 85 → ∀ q, v.ownBlock = some q → ¬ gbh P q := fun r h1 h2 q hq e => by
    obtain ⟨_, cur, hc⟩ := r.lt hq
    rcases hex q e hc with e | e
    · exact h1 e
    · exact h2 e
  have hnxb : a.nx ≤ 1000000000 := ht.ab.bd.nx
  refine ⟨G2, ⟨⟨hst.gi, by omega, h.blk.stp hst nhP fun e => by
      rcases hex _ e h.blk with e | e <;> exact absurd e (by decide), h.hs.stp hst (hrowx h.hs.row (by decide) (by decide)), h.os.stp nhO hst (hrowx h.os.row (by decide) (by decide)),
      ⟨h.wt.row.stpC hst (.inr (.inr rfl)) fun q hq => hz q (h.wt.row.lt hq).1 (by rw [h.wt.col q hq]; simp), fun q hq => by rw [hold q (h.wt.row.lt hq).1]; exact h.wt.col q hq, fun k hk1 => (h.wt.pk k hk1).stp hst fun q hq => hz q ((h.wt.pk k hk1).1.lt hq).1 (by rw [h.wt.pc k hk1 q hq]; simp), fun k hk1 q hq => by rw [hold q ((h.wt.pk k hk1).1.lt hq).1]; exact h.wt.pc k hk1 q hq, h.wt.dis⟩,
      h.sr.stpO hst nh9 (hrowx h.sr (by decide) (by decide)), hrowW2, fun q hq => hne12 q (hcol q hq), fun k hk1 => hpkW2 k (hpk1 k (List.mem_append_left _ hk1)), fun k hk1 q hq => hne12 q (hlc k (List.mem_append_left _ hk1) q hq), hk.row, hk.pk, hl, h.o4, by have := h.eb; omega, by have := h.ob; omega, h.wl, by omega⟩,
    hst.mono (fun q _ e => by
      rcases e with e | e | e
      · exact .inr (.inl e)
      · exact .inr (.inr (.inl e))
      · exact .inr (.inr (.inr (.inl (.inl e))))) h.exT, hab2, hgt, hk.ab, fun q hq => (hk.kown q hq).imp id fun e => Nat.le_trans hst2.size e, hrel, h.rs.stp nhR hst (hrowx h.rs.row (by decide) (by decide)), h.dk.stp hst, hcol, hlc, fun x hx1 y hy1 hne => ?_, hg, fun x hx1 q hq => ?_, fun k hk1 => ?_, hnx, hcn⟩⟩
  · rcases List.mem_append.1 hx1 with hx2 | hx2
    · rcases List.mem_append.1 hy1 with hy2 | hy2
      · exfalso
        rcases hn1 with rfl | ⟨k, rfl⟩
        · cases hx2
        · have e1 : x = k := by simpa using hx2
          have e2 : y = k := by simpa using hy2
          exact hne (by rw [e1, e2])
      · intro e
        obtain ⟨g1, o1, c1, _, e1, _⟩ := (h.ab.pk y hy2).1.more (List.length_pos_iff.2 (h.ab.pk y hy2).2.2)
        have hy3 : y.v.ownBlock = some g1 := by rw [e1]; rfl
        have h1 := (hnk x hx2).2.1 g1 (e.trans hy3)
        have h2 := ((h.ab.pk y hy2).1.lt hy3).1
        omega
    · rcases List.mem_append.1 hy1 with hy2 | hy2
      · intro e
        obtain ⟨g1, o1, c1, _, e1, _⟩ := (h.ab.pk x hx2).1.more (List.length_pos_iff.2 (h.ab.pk x hx2).2.2)
        have hx3 : x.v.ownBlock = some g1 := by rw [e1]; rfl
        have h1 := (hnk y hy2).2.1 g1 (e.symm.trans hx3)
        have h2 := ((h.ab.pk x hx2).1.lt hx3).1
        omega
      · exact h.kd x hx2 y hy2 hne
  · rcases hrm x hx1 with m | m
    · rw [hold q ((h.rb.pk x m).1.lt hq).1]; exact h.rc x m q hq
    · have h1 := m q hq
      rw [hr.no q fun e => by have := (hlt1 q e).2; omega]
      exact h.gi.zero (Nat.le_trans hst2.size h1)
  · rcases List.mem_append.1 hk1 with m | m
    · exact (hnk k m).1
    · exact h.kl k m
/-- The pair behind the step. -/
theorem Md.after {s N : Nat} {G G2 G3 : Gh} {w W W3 : World} {P : PR} {a r : Ab} {kv av bv : Value} {out out2 L : List Kp} {c : PC} {es : List En} {os : List (Value × Nat)} (h : PrAt s G w P N) (m : Md s G w P N G2 W a r kv av bv out out2 L) (hs : s < 400) (k : CV (2 * s + 1) G2 W P.p P.c av out G3 W3 c es os) (he : es.length = P.es.length + 4 * P.ws.length) (ho : os.length = P.os.length + 4) : StepR s G w P (N + 1) W3 := by
  have hcold : ∀ q, q < W.heap.size → (G2 q).1 ≠ 2 → G2 q ≠ (1, 2 * s + 1) → G3 q = G2 q := fun q hq h1 h2 => by
    rcases k.st.col q hq with e | ⟨e1, e2⟩
    · exact e
    · exfalso
      refine h2 (Prod.ext e1 ?_)
      rcases e2 with e2 | ⟨e2, _⟩
      · exact e2
      · omega
  have hn12 : ((1, 2 * s) : Nat × Nat) ≠ (1, 2 * s + 1) := fun e => by injection e with _ e; omega
  have hgxT : ∀ q, gx P.p P.c q → ∀ {cur : Array Value} {T : TypeId}, W.heap[q]? = some (.cells cur T (0, 0)) → T = 54 ∨ T = 89 ∨ T = 32 := fun q hq cur T hc => by
    have tp : ∀ {v : Value} {e : TypeId} {size n : Nat} {xs : List Value}, RowAt W e size v n xs → v.ownBlock = some q → T = e := fun ro hv => by
      obtain ⟨_, c2, h2⟩ := ro.lt hv
      rw [hc] at h2
      injection h2 with h2
      injection h2 with _ h2 _
    rcases hq with rfl | hq | hq
    · have := m.cin.hb
      unfold Blk at this
      rw [this] at hc
      injection hc with hc
      injection hc with _ hc _
      exact .inl hc.symm
    · exact .inr (.inl (tp m.cin.hh.row hq))
    · exact .inr (.inr (tp m.cin.ho.row hq))
  have hnx : ∀ q, gx P.p P.c q → q ≠ P.g ∧ q ≠ P.b ∧ q ≠ P.h := fun q hq => by
    refine ⟨fun e => ?_, fun e => ?_, fun e => ?_⟩
    · subst e; rcases hgxT _ hq m.ab.blk with e | e | e <;> exact absurd e (by decide)
    · subst e
      obtain ⟨es2, c2, hm⟩ := m.ab.map.is
      rcases hq with e | hq | hq
      · have h1 := m.cin.hb
        unfold Blk at h1
        rw [← e, hm] at h1
        cases h1
      · obtain ⟨_, cur, hc⟩ := m.cin.hh.row.lt hq
        rw [hm] at hc; cases hc
      · obtain ⟨_, cur, hc⟩ := m.cin.ho.row.lt hq
        rw [hm] at hc; cases hc
    · subst e; rcases hgxT _ hq m.rb.blk with e | e | e <;> exact absurd e (by decide)
  have hab3 : AbAt W3 P.g P.b a := m.ab.stp k.st (fun e => (hnx _ e).1 rfl) (fun e => (hnx _ e).2.1 rfl) fun x hx q hq z e => by
    have h1 := m.lc x (List.mem_append_right _ hx) q hq
    rw [hcold q ((m.ab.pk x hx).1.lt hq).1 (by rw [h1]; simp) (by rw [h1]; exact hn12), h1] at e
    simp at e
  have hrb3 : RbAt W3 P.h kv r := m.rb.stp k.st (fun q hq e => by
    rcases hq with rfl | hq
    · exact (hnx _ e).2.2 rfl
    · obtain ⟨_, cur, hc⟩ := m.rb.row.lt hq
      rcases hgxT _ e hc with e | e | e <;> exact absurd e (by decide)) fun x hx q hq z e => by
    have h1 := m.rc x hx q hq
    rw [hcold q ((m.rb.pk x hx).1.lt hq).1 (by rw [h1]; simp) (by rw [h1]; simp), h1] at e
    simp at e
  obtain ⟨G4, hr⟩ := Rcl.ex G3 (fun q => av.ownBlock = some q ∨ ∃ x ∈ out, x.v.ownBlock = some q) (1, 2 * s + 1)
  have hS2 : ∀ q, (av.ownBlock = some q ∨ ∃ x ∈ out, x.v.ownBlock = some q) → G2 q = (1, 2 * s) ∧ q < W.heap.size := fun q hq => by
    rcases hq with hq | ⟨x, hx, hq⟩
    · exact ⟨m.col q hq, (m.cin.ha.lt hq).1⟩
    · exact ⟨m.lc x (List.mem_append_left _ hx) q hq, ((m.cin.hap x hx).1.lt hq).1⟩
  have hS3 : ∀ q, (av.ownBlock = some q ∨ ∃ x ∈ out, x.v.ownBlock = some q) → G3 q = (1, 2 * s) := fun q hq => by
    obtain ⟨h1, h2⟩ := hS2 q hq
    rw [hcold q h2 (by rw [h1]; simp) (by rw [h1]; exact hn12), h1]
  have hst4 : Stp (1000 + s) (fun _ => False) G3 W3 G4 W3 := Stp.turnS k.st.gi (fun q hq => by
    rw [hS3 q hq]
    exact ⟨rfl, .inr ⟨by omega, by omega, .inl (by show 2 * s = _; omega)⟩⟩) (1, 2 * s + 1) (fun z e => by simp at e) hr
  have hne : ∀ x ∈ out, ∀ y ∈ a.ks, x.v.ownBlock ≠ y.v.ownBlock := fun x hx y hy => m.kd x (m.gv.om x hx) y (m.gv.km y hy) (m.gv.ne x hx y hy)
  have hkc : ∀ x ∈ a.ks, ∀ q, x.v.ownBlock = some q → G4 q = (1, 2 * s) := fun x hx q hq => by
    have h1 := m.lc x (List.mem_append_right _ hx) q hq
    rw [hr.no q fun e => ?_, hcold q ((m.ab.pk x hx).1.lt hq).1 (by rw [h1]; simp) (by rw [h1]; exact hn12), h1]
    rcases e with e | ⟨y, hy, e⟩
    · obtain ⟨_, cur, hc⟩ := (m.ab.pk x hx).1.lt hq
      exact m.cin.ha.ne_type hc (by decide) e
    · exact hne y hy x hx (e.trans hq.symm)
  have hrc : ∀ x ∈ r.ks, ∀ q, x.v.ownBlock = some q → G4 q = (0, 0) := fun x hx q hq => by
    have h1 := m.rc x hx q hq
    rw [hr.no q fun e => by rw [(hS2 q e).1] at h1; simp at h1, hcold q ((m.rb.pk x hx).1.lt hq).1 (by rw [h1]; simp) (by rw [h1]; simp), h1]
  have hdis : out.Pairwise fun x y => x.v.ownBlock ≠ y.v.ownBlock := by
    rw [List.pairwise_iff_getElem]
    intro i j hi hj hij
    exact m.kd _ (m.gv.om _ (List.getElem_mem hi)) _ (m.gv.om _ (List.getElem_mem hj)) (List.pairwise_iff_getElem.1 m.gv.pw i j hi hj hij)
  have hstw : Stp (1000 + s) (gx P.p P.c) G2 W G3 W3 := k.st.wide (.inr (.inl rfl)) hs
  have hcc := k.same
  have hcr : c.r = P.c.r := by rw [hcc]
  have hcd : c.d = P.c.d := by rw [hcc]
  have hcw : c.w = av := by rw [hcc]
  have hrs3 := (m.rs.stp nhR k.st fun q hq e => by
    obtain ⟨_, cur, hc⟩ := m.rs.row.lt hq
    rcases hgxT _ e hc with e | e | e <;> exact absurd e (by decide)).stp nhR hst4 fun _ _ => id
  refine ⟨G4, { P with a := a, r := r, kv := kv, c := c, es := es, os := os, ws := out }, ⟨hst4.gi, by show c.a = _; rw [hcc]; exact h.ca, by show c.b = _; rw [hcc]; exact h.cb, k.blk, hab3, m.gt, hrb3, m.rel, k.hs.stp hst4 fun _ _ => id, k.os.stp nhO hst4 fun _ _ => id, by show Ls _ _ _ _ _ c.r _; rw [hcr]; exact hrs3,
    by
      show Wt _ _ _ c.w _
      rw [hcw]
      exact ⟨k.row, fun q hq => hr.yes q (.inl hq), k.pk, fun x hx q hq => hr.yes q (.inr ⟨x, hx, hq⟩), hdis⟩, k.srow, by show MkA _ _ _ _ _ c.d _; rw [hcd]; exact (m.dk.stp k.st).stp hst4, hkc, fun x hx y hy hxy => m.kd x (m.gv.km x hx) y (m.gv.km y hy) hxy, hrc, fun x hx => m.ll x (m.gv.km x hx), fun x hx => m.ll x (m.gv.om x hx), m.cn, ?_, ?_, h.r4, ?_, ?_⟩, rfl, ?_, fun q hq => ?_⟩
  · show es.length + 4 * out.length ≤ 4 * a.nx
    have := m.nx
    have := h.eb
    omega
  · show os.length % 4 = 0
    have := h.o4
    omega
  · show os.length ≤ _
    have := h.ob
    omega
  · have := h.rb8
    show P.rs.length ≤ _
    omega
  · refine (m.st.trans hstw fun q hq e => ?_).trans0 hst4
    rcases e with e | e | e
    · exact .inl e
    · exact .inr (.inr (.inr (.inr (.inl e))))
    · exact .inr (.inr (.inr (.inr (.inr (.inl e)))))
  · have hsz := m.st.size
    rcases hq with e | e | e | hq | hq | hq | hq | hq
    · exact .inl (.inl e)
    · exact .inl (.inr (.inl e))
    · exact .inl (.inr (.inr (.inl e)))
    · rcases hq with e | hq
      · exact .inl (.inr (.inr (.inr (.inl (.inl e)))))
      · exact (m.kvo q hq).imp (fun e => .inr (.inr (.inr (.inl (.inr e))))) id
    · exact (k.ko q hq).imp (fun e => .inr (.inr (.inr (.inr (.inl e))))) fun e => Nat.le_trans hsz e
    · exact (k.oo q hq).imp (fun e => .inr (.inr (.inr (.inr (.inr (.inl e)))))) fun e => Nat.le_trans hsz e
    · have hq2 : P.c.r.ownBlock = some q := by rw [← hcr]; exact hq
      exact .inl (.inr (.inr (.inr (.inr (.inr (.inr (.inl hq2)))))))
    · exact .inr (Nat.le_trans hsz (k.so q hq))
end Go.Proofs.Ytdncemecnbglaaa
