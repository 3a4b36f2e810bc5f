/-
  The program's arbiter and the reference's: the same answers.
-/
import Derived.Test.YtdncemecnbglaaaA23
namespace Go.Proofs.Ytdncemecnbglaaa
set_option linter.unusedVariables false
set_option linter.unusedSimpArgs false
open Go.RowKit Go.Great Go.Maps

def Dis (ks : List Kp) : Prop := ks.Pairwise (fun p q => p.n ≠ q.n)
/-- The same bytes by the same numbers. -/
def Sam (ks qs : List Kp) : Prop := ∀ n, (fnd ks n).map (·.l) = (fnd qs n).map (·.l)
theorem Sam.symm {ks qs : List Kp} (h : Sam ks qs) : Sam qs ks := fun n => (h n).symm
theorem Dis.of_lt {ks : List Kp} (h : ks.Pairwise (fun p q => p.n < q.n)) : Dis ks := h.imp fun hlt => by omega
theorem Dis.fnd : ∀ {ks : List Kp}, Dis ks → ∀ {k : Kp}, k ∈ ks → fnd ks k.n = some k
  | x :: r, h, k, hk => by
    obtain ⟨h1, h2⟩ := List.pairwise_cons.1 h
    unfold Go.Proofs.Ytdncemecnbglaaa.fnd
    rw [List.find?_cons]
    rcases List.mem_cons.1 hk with e | hk
    · subst e
      simp
    · have e : (x.n == k.n) = false := by simpa using h1 k hk
      rw [e]
      exact Dis.fnd h2 hk
theorem Sam.some {ks qs : List Kp} (h : Sam ks qs) (hq : Dis qs) {k : Kp} (hk : k ∈ ks) : ∃ q ∈ qs, q.n = k.n := by
  have h1 := h k.n
  cases e : fnd qs k.n with
  | none =>
    rw [e] at h1
    cases e2 : fnd ks k.n with
    | none => exact absurd rfl (fnd_none e2 k hk)
    | some x => rw [e2] at h1; cases h1
  | some q => exact ⟨q, (fnd_some e).1, (fnd_some e).2⟩
theorem Sam.l {ks qs : List Kp} (h : Sam ks qs) (hd : Dis ks) (hq : Dis qs) {k q : Kp} (hk : k ∈ ks) (hqm : q ∈ qs) (hn : k.n = q.n) : k.l = q.l := by
  have h1 := h k.n
  rw [hd.fnd hk, hn, hq.fnd hqm] at h1
  simpa using h1
theorem fnd_filter (ks : List Kp) (m n : Nat) : fnd (ks.filter fun k => decide (m ≤ k.n)) n = if m ≤ n then fnd ks n else none := by
  unfold fnd
  rw [List.find?_filter]
  by_cases h : m ≤ n
  · rw [if_pos h]
    congr 1
    funext k
    by_cases hk : k.n = n
    · simp [hk, h]
    · simp [hk]
  · rw [if_neg h, List.find?_eq_none]
    intro k _
    simp
    omega
theorem GivR.le {ks qs out out2 ks' qs' : List Kp} {nx n1 n2 : Nat} (hq : Dis qs) (hk : Dis ks) (hs : Sam ks qs) (h1 : GivR ks nx out ks' n1) (h2 : GivR qs nx out2 qs' n2) : out2.length ≤ out.length := by
  by_cases hlt : out.length < out2.length
  · obtain ⟨x, hx⟩ : ∃ x, out2[out.length]? = some x := ⟨_, List.getElem?_eq_getElem hlt⟩
    obtain ⟨hm, hn⟩ := h2.at_ _ x hx
    obtain ⟨y, hy, hyn⟩ := hs.symm.some hk hm
    have hn1 := h1.nxe
    refine absurd ?_ (h1.gap y ?_)
    · omega
    · rw [h1.left]
      exact List.mem_filter.2 ⟨hy, by simp; omega⟩
  · omega
theorem GivR.same {ks qs out out2 ks' qs' : List Kp} {nx n1 n2 : Nat} (hk : Dis ks) (hq : Dis qs) (hs : Sam ks qs) (h1 : GivR ks nx out ks' n1) (h2 : GivR qs nx out2 qs' n2) : n1 = n2 ∧ out.map (·.l) = out2.map (·.l) ∧ Sam ks' qs' ∧ Dis ks' ∧ Dis qs' := by
  have e : out.length = out2.length := Nat.le_antisymm (GivR.le hk hq hs.symm h2 h1) (GivR.le hq hk hs h1 h2)
  have en : n1 = n2 := by have := h1.nxe; have := h2.nxe; omega
  refine ⟨en, List.ext_getElem (by simp [e]) fun j hj1 hj2 => ?_, fun n => ?_, ?_, ?_⟩
  · rw [List.getElem_map, List.getElem_map]
    rw [List.length_map] at hj1 hj2
    obtain ⟨a1, b1⟩ := h1.at_ j _ (List.getElem?_eq_getElem hj1)
    obtain ⟨a2, b2⟩ := h2.at_ j _ (List.getElem?_eq_getElem hj2)
    exact hs.l hk hq a1 a2 (by omega)
  · rw [h1.left, h2.left, fnd_filter, fnd_filter, en]
    split
    · exact hs n
    · rfl
  · rw [h1.left]; exact List.Pairwise.filter _ hk
  · rw [h2.left]; exact List.Pairwise.filter _ hq
theorem Sam.nil {ks qs : List Kp} (h : Sam ks qs) : ks = [] ↔ qs = [] := by
  have key : ∀ {a b : List Kp}, Sam a b → a = [] → b = [] := fun {a b} h e => by
    subst e
    cases b with
    | nil => rfl
    | cons q r =>
      have := h q.n
      simp [fnd] at this
  exact ⟨key h, key h.symm⟩
theorem Sam.cons {ks qs : List Kp} (h : Sam ks qs) {k q : Kp} (hn : k.n = q.n) (hl : k.l = q.l) : Sam (k :: ks) (q :: qs) := fun n => by
  unfold fnd
  rw [List.find?_cons, List.find?_cons, hn]
  by_cases e : q.n = n
  · simp [e, hl]
  · have e' : (q.n == n) = false := by simpa using e
    rw [e']
    exact h n
theorem fnd_perm {ks qs : List Kp} (hd : Dis ks) (hp : ks.Perm qs) (n : Nat) : fnd ks n = fnd qs n := by
  have hdq : Dis qs := (hp.pairwise_iff (fun h => Ne.symm h)).1 hd
  cases e : fnd ks n with
  | none =>
    exact (fnd_of fun q hq => fnd_none e q (hp.mem_iff.2 hq)).symm
  | some k =>
    obtain ⟨hk, hn⟩ := fnd_some e
    rw [← hn, hdq.fnd (hp.mem_iff.1 hk)]
/-- The program's arbiter and the reference's stand alike. -/
structure Rel (p r : Ab) : Prop where
  win : p.win = r.win
  pat : p.pat = r.pat
  nx : p.nx = r.nx
  la : p.la = r.la
  cn : p.cn = r.cn
  sam : Sam p.ks r.ks
  dp : Dis p.ks
  dr : Dis r.ks
  si : p.ks ≠ [] → p.si = r.si
theorem Rel.hr {p r : Ab} (h : Rel p r) (n : Nat) : hrB p n = hrB r n := by
  unfold Go.Proofs.Ytdncemecnbglaaa.hrB
  have h1 := congrArg Option.isSome (h.sam n)
  rw [Option.isSome_map, Option.isSome_map] at h1
  rw [h1, h.nx]
theorem Rel.wt {p r : Ab} (h : Rel p r) (now span : Int) : wtB p now span = wtB r now span := by
  unfold Go.Proofs.Ytdncemecnbglaaa.wtB
  by_cases e : p.ks = []
  · have e2 := h.sam.nil.1 e
    rw [e, e2]
    rfl
  · have e2 : r.ks ≠ [] := fun q => e (h.sam.nil.2 q)
    rw [h.si e, decide_eq_true (List.length_pos_iff.2 e), decide_eq_true (List.length_pos_iff.2 e2)]
theorem Rel.came {p r : Ab} (h : Rel p r) (line : Nat) (now : Int) : Rel (p.came line now) (r.came line now) := ⟨h.win, h.pat, h.nx, by show max p.la now = max r.la now; rw [h.la], by show bmp p.cn _ = bmp r.cn _; rw [h.cn], h.sam, h.dp, h.dr, h.si⟩
theorem Rel.tick {p r : Ab} (h : Rel p r) (now : Int) : Rel (p.tick now) (r.tick now) := ⟨h.win, h.pat, h.nx, by show max p.la now = max r.la now; rw [h.la], h.cn, h.sam, h.dp, h.dr, h.si⟩
theorem Rel.cnt {p r : Ab} (h : Rel p r) (i : Nat) : Rel (p.cnt i) (r.cnt i) := ⟨h.win, h.pat, h.nx, h.la, by show bmp p.cn _ = bmp r.cn _; rw [h.cn], h.sam, h.dp, h.dr, h.si⟩
theorem Rel.ticks {p r p' r' : Ab} {now : Int} {out out2 : List Kp} (h : Rel p r) (h1 : Tk p now out p') (h2 : RTk r now out2 r') : Rel p' r' ∧ out.map (·.l) = out2.map (·.l) := by
  have hw := h.wt (max p.la now) p.pat
  have hw' : wtB p (max p.la now) p.pat = wtB r (max r.la now) r.pat := by rw [hw, h.la, h.pat]
  rcases h1 with ⟨a1, rfl, rfl⟩ | ⟨a1, m1, ⟨k1, hk1, hm1⟩, hle1, g1, e1⟩
  · rcases h2 with ⟨a2, rfl, rfl⟩ | ⟨a2, _⟩
    · exact ⟨h.tick now, rfl⟩
    · rw [hw', a2] at a1; cases a1
  · rcases h2 with ⟨a2, _⟩ | ⟨a2, m2, ⟨k2, hk2, hm2⟩, hle2, g2, e2⟩
    · rw [hw', a2] at a1; cases a1
    · have hm : m1 = m2 := by
        obtain ⟨x, hx, hxn⟩ := h.sam.some h.dr hk1
        obtain ⟨y, hy, hyn⟩ := h.sam.symm.some h.dp hk2
        have := hle2 x hx
        have := hle1 y hy
        omega
      subst hm
      obtain ⟨b1, b2, b3, b4, b5⟩ := g1.same h.dp h.dr h.sam g2
      refine ⟨?_, b2⟩
      rw [e1, e2]
      refine ⟨h.win, h.pat, b1, by show max p.la now = max r.la now; rw [h.la], h.cn, b3, b4, b5, fun hne => ?_⟩
      show max p.la now = if r'.ks = [] then r.si else max r.la now
      rw [if_neg (fun q => hne (b3.nil.2 q)), h.la]
theorem Rel.takes {p r p' r' : Ab} {k q : Kp} {out out2 : List Kp} (h : Rel p r) (hn : k.n = q.n) (hl : k.l = q.l) (hno : fnd p.ks k.n = none) (hge : p.nx ≤ k.n) (hgt : ∀ x ∈ p.ks, p.nx < x.n) (h1 : TkR p k out p') (h2 : RTkR r q out2 r') : Rel p' r' ∧ out.map (·.l) = out2.map (·.l) := by
  obtain ⟨g1, e1⟩ := h1
  have hdp : Dis (k :: p.ks) := List.pairwise_cons.2 ⟨fun x hx e => fnd_none hno x hx e.symm, h.dp⟩
  have hnr : fnd r.ks q.n = none := by
    have := h.sam k.n
    rw [hno, hn] at this
    cases e : fnd r.ks q.n with
    | none => rfl
    | some x => rw [e] at this; cases this
  have hdr : Dis (q :: r.ks) := List.pairwise_cons.2 ⟨fun x hx e => fnd_none hnr x hx e.symm, h.dr⟩
  have hsc := h.sam.cons hn hl
  rcases h2 with ⟨hq, g2, e2⟩ | ⟨hq, rfl, hperm, e2⟩
  · have g2' := g2
    rw [← h.nx] at g2'
    obtain ⟨b1, b2, b3, b4, b5⟩ := g1.same hdp hdr hsc g2'
    refine ⟨?_, b2⟩
    rw [e1, e2]
    refine ⟨h.win, h.pat, b1, h.la, h.cn, b3, b4, b5, fun hne => ?_⟩
    show (if k.n = p.nx ∨ p.ks = [] then p.la else p.si) = if r'.ks = [] then r.si else r.la
    rw [if_pos (.inl (by rw [hn, hq, h.nx])), if_neg (fun x => hne (b3.nil.2 x)), h.la]
  · have hne : k.n ≠ p.nx := by rw [hn, h.nx]; exact hq
    have hout : out = [] := by
      cases out with
      | nil => rfl
      | cons x rest =>
        obtain ⟨hx, hxn⟩ := g1.at_ 0 x rfl
        rcases List.mem_cons.1 hx with rfl | hx
        · omega
        · have := hgt x hx; omega
    subst hout
    have hnx : p'.nx = p.nx := g1.nxe
    have hks : p'.ks = k :: p.ks := by
      rw [g1.left, hnx]
      refine List.filter_eq_self.2 fun x hx => ?_
      rcases List.mem_cons.1 hx with rfl | hx
      · simpa using hge
      · have := hgt x hx; simp; omega
    refine ⟨?_, rfl⟩
    have hdr' : Dis r'.ks := (hperm.pairwise_iff (fun h => Ne.symm h)).2 hdr
    rw [e1, e2, hnx, hks]
    refine ⟨h.win, h.pat, h.nx, h.la, h.cn, fun n => ?_, hdp, hdr', fun _ => ?_⟩
    · rw [fnd_perm hdr' hperm]
      exact hsc n
    · show (if k.n = p.nx ∨ p.ks = [] then p.la else p.si) = if r.ks = [] then r.la else r.si
      by_cases e : p.ks = []
      · rw [if_pos (.inr e), if_pos (h.sam.nil.1 e), h.la]
      · rw [if_neg (fun x => x.elim hne e), if_neg (fun x => e (h.sam.nil.2 x)), h.si e]
theorem Rel.hears {p r p' r' : Ab} {line lo lo2 : Nat} {now : Int} {l : List Nat} {out out2 : List Kp} {er er2 : Int} (h : Rel p r) (hgt : ∀ x ∈ p.ks, p.nx < x.n) (h1 : Hd p line now l lo out p' er) (h2 : RHd r line now l lo2 out2 r' er2) : Rel p' r' ∧ out.map (·.l) = out2.map (·.l) ∧ er = er2 := by
  unfold Hd at h1
  unfold RHd at h2
  cases e : rt l with
  | none =>
    rw [e] at h1 h2
    obtain ⟨rfl, rfl, rfl⟩ := h1
    obtain ⟨rfl, rfl, rfl⟩ := h2
    exact ⟨(h.came line now).cnt _, rfl, rfl⟩
  | some n =>
    rw [e] at h1 h2
    have hb := h.hr n
    obtain ⟨rfl, h1⟩ := h1
    obtain ⟨rfl, h2⟩ := h2
    rcases h1 with ⟨a1, rfl, rfl⟩ | ⟨a1, f1, rfl, rfl⟩ | ⟨a1, f1, k, hk, hkl, _, t1⟩ <;> rcases h2 with ⟨a2, rfl, rfl⟩ | ⟨a2, f2, rfl, rfl⟩ | ⟨a2, f2, q, hq, hql, _, t2⟩
    · exact ⟨(h.came line now).cnt _, rfl, rfl⟩
    · rw [hb, a2] at a1; cases a1
    · rw [hb, a2] at a1; cases a1
    · rw [hb, a2] at a1; cases a1
    · exact ⟨h.came line now, rfl, rfl⟩
    · have := h.nx; have := h.win; omega
    · rw [hb, a2] at a1; cases a1
    · have := h.nx; have := h.win; omega
    · have hh : (fnd p.ks n).isSome = false ∧ decide (n < p.nx) = false := by
        unfold Go.Proofs.Ytdncemecnbglaaa.hrB at a1
        exact Bool.or_eq_false_iff.1 a1
      have hno : fnd p.ks n = none := by
        cases e3 : fnd p.ks n with
        | none => rfl
        | some x => rw [e3] at hh; cases hh.1
      have hge : p.nx ≤ n := by have := hh.2; simp at this; omega
      obtain ⟨b1, b2⟩ := ((h.came line now).cnt (4 * line + 1)).takes (hk.trans hq.symm) (hkl.trans hql.symm) (by rw [hk]; exact hno) (by rw [hk]; exact hge) hgt t1 t2
      exact ⟨b1, b2, rfl⟩
/-- What Wants is to answer. -/
theorem Rel.wants {p r : Ab} (h : Rel p r) (hs : r.ks.Pairwise (fun a b => a.n < b.n)) {ns : List Nat} (hp : ns.Perm (p.ks.map (·.n))) (hn : ns.Pairwise (· ≤ ·)) : ns = r.ks.map (·.n) := by
  have hd1 : (p.ks.map (·.n)).Nodup := List.pairwise_map.2 h.dp
  have hd2 : (r.ks.map (·.n)).Nodup := List.pairwise_map.2 h.dr
  have hpp : (p.ks.map (·.n)).Perm (r.ks.map (·.n)) := (List.perm_ext_iff_of_nodup hd1 hd2).2 fun n => by
    constructor
    · intro hm
      obtain ⟨k, hk, e⟩ := List.mem_map.1 hm
      obtain ⟨q, hq, e2⟩ := h.sam.some h.dr hk
      exact List.mem_map.2 ⟨q, hq, e2.trans e⟩
    · intro hm
      obtain ⟨k, hk, e⟩ := List.mem_map.1 hm
      obtain ⟨q, hq, e2⟩ := h.sam.symm.some h.dp hk
      exact List.mem_map.2 ⟨q, hq, e2.trans e⟩
  exact (hp.trans hpp).eq_of_pairwise (le := fun a b => a ≤ b) (fun a b _ _ h1 h2 => Nat.le_antisymm h1 h2) hn (List.pairwise_map.2 (hs.imp fun hlt => Nat.le_of_lt hlt))
theorem Rel.new (win : Nat) (pat : Int) : Rel (new0 win pat) (new0 win pat) := ⟨rfl, rfl, rfl, rfl, rfl, fun _ => rfl, List.Pairwise.nil, List.Pairwise.nil, fun _ => rfl⟩
end Go.Proofs.Ytdncemecnbglaaa
