/-
  What both answer to a call, whatever its line and time.
-/
import Derived.Test.YtdncemecnbglaaaAXa
namespace Go.Proofs.Ytdncemecnbglaaa
set_option linter.unusedVariables false
set_option linter.unusedSimpArgs false
open Go.RowKit Go.Great Go.Maps

theorem tm_bd {t : Int} (h : tmB t = true) : 0 ≤ t ∧ t ≤ 253402300799999 := by unfold tmB at h; simpa using h
def TkB (a : Ab) (now : Int) (out : List Kp) (a' : Ab) : Prop := tmB now = true ∧ Tk a now out a' ∨ tmB now = false ∧ out = [] ∧ a' = a
def RTkB (a : Ab) (now : Int) (out : List Kp) (a' : Ab) : Prop := tmB now = true ∧ RTk a now out a' ∨ tmB now = false ∧ out = [] ∧ a' = a
def HdB (a : Ab) (line now : Int) (l : List Nat) (lo : Nat) (out : List Kp) (a' : Ab) (er : Int) : Prop := (∃ ln : Nat, line = (ln : Int) ∧ ln < 2 ∧ tmB now = true ∧ Hd a ln now l lo out a' er) ∨ ¬ (0 ≤ line ∧ line < 2 ∧ tmB now = true) ∧ out = [] ∧ a' = a ∧ er = 1
def RHdB (a : Ab) (line now : Int) (l : List Nat) (lo : Nat) (out : List Kp) (a' : Ab) (er : Int) : Prop := (∃ ln : Nat, line = (ln : Int) ∧ ln < 2 ∧ tmB now = true ∧ RHd a ln now l lo out a' er) ∨ ¬ (0 ≤ line ∧ line < 2 ∧ tmB now = true) ∧ out = [] ∧ a' = a ∧ er = 1
theorem tick_any {w : World} {g b : Nat} {a : Ab} (h : AbAt w g b a) (now : Int) : Calls Try.prog 11 #[.pointer (some ⟨g, 0, none⟩), .int .i64 now] w fun e w' => ∃ v', e = .returned v' ∧ Hid (∃ out a', TkO w w' g b v' out a' ∧ TkB a now out a') := by
  cases ht : tmB now with
  | true =>
    obtain ⟨h0, h1⟩ := tm_bd ht
    exact (Tick_any h now h0 h1).mono fun e w' ⟨v', e1, k⟩ => ⟨v', e1, by
      obtain ⟨out, a', k1, k2⟩ := k.out
      exact ⟨out, a', k1, .inl ⟨ht, k2⟩⟩⟩
  | false => exact (Tick_bad w g now ht).mono fun e w' ⟨e1, e2⟩ => ⟨_, e1, by
      subst e2
      exact ⟨[], a, TkO.nil h (Fr.refl _ _), .inr ⟨ht, rfl, rfl⟩⟩⟩
theorem rtick_any {w : World} {g : Nat} {kv : Value} {a : Ab} (h : RbAt w g kv a) (now : Int) : Calls Try.prog 31 #[.pointer (some ⟨g, 0, none⟩), .int .i64 now] w fun e w' => ∃ v', e = .returned v' ∧ Hid (∃ kv' out a', RkO w w' g kv kv' v' out a' ∧ RTkB a now out a') := by
  cases ht : tmB now with
  | true =>
    obtain ⟨h0, h1⟩ := tm_bd ht
    exact (rTick_any h now h0 h1).mono fun e w' ⟨v', e1, k⟩ => ⟨v', e1, by
      obtain ⟨kv', out, a', k1, k2⟩ := k.out
      exact ⟨kv', out, a', k1, .inl ⟨ht, k2⟩⟩⟩
  | false => exact (rTick_bad w g now ht).mono fun e w' ⟨e1, e2⟩ => ⟨_, e1, by
      subst e2
      exact ⟨kv, [], a, RkO.nil h (fun q hq => .inl hq) (Fr.refl _ _), .inr ⟨ht, rfl, rfl⟩⟩⟩
theorem hear_any {w : World} {g b : Nat} {a : Ab} (h : AbAt w g b a) (line now : Int) {v : Value} {l : List Nat} (hv : By w v l) (hl : l.length ≤ 140737488351232) (hgt : ∀ k ∈ a.ks, a.nx < k.n) (hcn : ∀ i, a.cn i + 2 ≤ 1000000000000) : Calls Try.prog 9 #[.pointer (some ⟨g, 0, none⟩), .int .i64 line, v, .int .i64 now] w fun e w' => ∃ v' er, e = .returned (.tuple #[v', .int .i64 er]) ∧ Hid (∃ out a', TkO w w' g b v' out a' ∧ HdB a line now l w.heap.size out a' er) := by
  by_cases hb : 0 ≤ line ∧ line < 2 ∧ tmB now = true
  · obtain ⟨h0, h1⟩ := tm_bd hb.2.2
    obtain ⟨ln, rfl⟩ := Int.eq_ofNat_of_zero_le hb.1
    exact (Hear_any h ln (by omega) now h0 h1 hv hl hgt hcn).mono fun e w' ⟨v', er, e1, k⟩ => ⟨v', er, e1, by
      obtain ⟨out, a', k1, k2⟩ := k.out
      exact ⟨out, a', k1, .inl ⟨ln, rfl, by omega, hb.2.2, k2⟩⟩⟩
  · exact (Hear_bad w g line v now hb).mono fun e w' ⟨e1, e2⟩ => ⟨_, 1, e1, by
      subst e2
      exact ⟨[], a, TkO.nil h (Fr.refl _ _), .inr ⟨hb, rfl, rfl, rfl⟩⟩⟩
theorem rhear_any {w : World} {g : Nat} {kv : Value} {a : Ab} (h : RbAt w g kv a) (line now : Int) {v : Value} {l : List Nat} (hv : By w v l) (hl : l.length ≤ 140737488351232) (hgt : ∀ k ∈ a.ks, a.nx < k.n) (hcn : ∀ i, a.cn i + 2 ≤ 1000000000000) : Calls Try.prog 40 #[.pointer (some ⟨g, 0, none⟩), .int .i64 line, v, .int .i64 now] w fun e w' => ∃ v' er, e = .returned (.tuple #[v', .int .i64 er]) ∧ Hid (∃ kv' out a', RkO w w' g kv kv' v' out a' ∧ RHdB a line now l w.heap.size out a' er) := by
  by_cases hb : 0 ≤ line ∧ line < 2 ∧ tmB now = true
  · obtain ⟨h0, h1⟩ := tm_bd hb.2.2
    obtain ⟨ln, rfl⟩ := Int.eq_ofNat_of_zero_le hb.1
    exact (rHear_any h ln (by omega) now h0 h1 hv hl hgt hcn).mono fun e w' ⟨v', er, e1, k⟩ => ⟨v', er, e1, by
      obtain ⟨kv', out, a', k1, k2⟩ := k.out
      exact ⟨kv', out, a', k1, .inl ⟨ln, rfl, by omega, hb.2.2, k2⟩⟩⟩
  · exact (rHear_bad w g line v now hb).mono fun e w' ⟨e1, e2⟩ => ⟨_, 1, e1, by
      subst e2
      exact ⟨kv, [], a, RkO.nil h (fun q hq => .inl hq) (Fr.refl _ _), .inr ⟨hb, rfl, rfl, rfl⟩⟩⟩
/-- What follows from both answers. -/
structure Fct (a r a' r' : Ab) (lo lo2 : Nat) (out out2 nk : List Kp) (l : List Nat) : Prop where
  nk0 : ∀ k ∈ nk, k.l = l ∧ (∀ q, k.v.ownBlock = some q → lo ≤ q) ∧ ∀ x ∈ a.ks, x.n ≠ k.n
  nk1 : nk = [] ∨ ∃ k, nk = [k]
  gv : Gvn (nk ++ a.ks) out a'.ks
  nx : a.nx + out.length ≤ a'.nx
  rm : ∀ x ∈ r'.ks, x ∈ r.ks ∨ ∀ q, x.v.ownBlock = some q → lo2 ≤ q
  gt : ∀ k ∈ a'.ks, a'.nx < k.n
  rel : Rel a' r'
  ll : out.map (·.l) = out2.map (·.l)
  cn : ∀ i, a'.cn i ≤ a.cn i + 2
theorem Fct.none {a r : Ab} {lo lo2 : Nat} {l : List Nat} (hr : Rel a r) (hg : ∀ k ∈ a.ks, a.nx < k.n) : Fct a r a r lo lo2 [] [] [] l :=
  ⟨fun k hk => (by cases hk), .inl rfl, Gvn.none fun _ h => h, Nat.le_refl _, fun _ h => .inl h, hg, hr, rfl, fun i => by omega⟩
theorem Fct.tick {a r a' r' : Ab} {lo lo2 : Nat} {now : Int} {out out2 : List Kp} {l : List Nat} (hr : Rel a r) (hg : ∀ k ∈ a.ks, a.nx < k.n) (h1 : TkB a now out a') (h2 : RTkB r now out2 r') : Fct a r a' r' lo lo2 out out2 [] l := by
  rcases h1 with ⟨t1, h1⟩ | ⟨t1, rfl, rfl⟩ <;> rcases h2 with ⟨t2, h2⟩ | ⟨t2, rfl, rfl⟩
  · obtain ⟨g1, g2⟩ := h1.gvn hg
    obtain ⟨r1, r2⟩ := hr.ticks h1 h2
    exact ⟨fun k hk => (by cases hk), .inl rfl, g1, g2, fun x hx => .inl (h2.mem x hx), h1.gt hg, r1, r2, fun i => by rw [h1.cn i]; omega⟩
  · rw [t1] at t2; cases t2
  · rw [t1] at t2; cases t2
  · exact Fct.none hr hg
theorem Fct.hear {a r a' r' : Ab} {lo lo2 : Nat} {line now : Int} {out out2 : List Kp} {l : List Nat} {er er2 : Int} (hr : Rel a r) (hg : ∀ k ∈ a.ks, a.nx < k.n) (h1 : HdB a line now l lo out a' er) (h2 : RHdB r line now l lo2 out2 r' er2) : ∃ nk, Fct a r a' r' lo lo2 out out2 nk l ∧ er = er2 := by
  rcases h1 with ⟨n1, e1, l1, t1, h1⟩ | ⟨t1, rfl, rfl, rfl⟩ <;> rcases h2 with ⟨n2, e2, l2, t2, h2⟩ | ⟨t2, rfl, rfl, rfl⟩
  · have e : n1 = n2 := by omega
    subst e
    obtain ⟨nk, g0, g1, g2, g3⟩ := h1.gvn
    obtain ⟨r1, r2, r3⟩ := hr.hears hg h1 h2
    exact ⟨nk, ⟨g0, g1, g2, g3, h2.mem, h1.gt hg, r1, r2, h1.cn⟩, r3⟩
  · exact absurd ⟨by omega, by omega, t1⟩ t2
  · exact absurd ⟨by omega, by omega, t2⟩ t1
  · exact ⟨[], Fct.none hr hg, rfl⟩
theorem PrAt.midF {s N : Nat} {G : Gh} {w W0 W1 W2 : World} {P : PR} {a r : Ab} {kv av bv : Value} {out out2 nk : List Kp} {l : List Nat} (h : PrAt s G w P N) (hs : s < 400) (hN : N ≤ 1000) (ht : TkO w W0 P.g P.b av out a) (hd : Stp (1000 + s) (fun _ => False) G W0 G W1) (hk : RkO W1 W2 P.h P.kv kv bv out2 r) (hf : Fct P.a P.r a r w.heap.size W1.heap.size out out2 nk l) (hl : l.length ≤ 140737488351232) : ∃ G2, Md s G w P N G2 W2 a r kv av bv out out2 (nk ++ P.a.ks) :=
  h.mid hs hN ht hd hk (fun k hk => ⟨by rw [(hf.nk0 k hk).1]; exact hl, (hf.nk0 k hk).2⟩) hf.nk1 hf.gv hf.nx hf.rm hf.gt hf.rel hf.ll fun i => by have := hf.cn i; have := h.cn i; omega
/-- What Wants answers, both alike. -/
theorem wants2 {w : World} {g b : Nat} {a : Ab} (h : AbAt w g b a) (now : Int) : Calls Try.prog 17 #[.pointer (some ⟨g, 0, none⟩), .int .i64 now] w fun e w' => ∃ rv, e = .returned rv ∧ Hid (∃ (ns : List Nat) (rs : List (Nat × Nat)), RowAt w' 61 2 rv rs.length (rV rs) ∧ (∀ q, rv.ownBlock = some q → w.heap.size ≤ q) ∧ Below w.heap.size w w' ∧ rs.length ≤ a.ks.length ∧ (tmB now = true ∧ (wtB a (max a.la now) (a.pat / 2) = false ∧ rs = [] ∨ wtB a (max a.la now) (a.pat / 2) = true ∧ ns.Perm (a.ks.map (·.n)) ∧ ns.Pairwise (· ≤ ·) ∧ rs = (wst a.nx ns).2) ∨ tmB now = false ∧ rs = [])) := by
  cases ht : tmB now with
  | true =>
    obtain ⟨h0, h1⟩ := tm_bd ht
    exact (Wants_any h now h0 h1).mono fun e w' ⟨v', e1, k⟩ => ⟨v', e1, by
      obtain ⟨ns, rs, k1, k2, k3, k4⟩ := k.out
      refine ⟨ns, rs, k1, k2, k3, ?_, .inl ⟨rfl, k4⟩⟩
      rcases k4 with ⟨_, rfl⟩ | ⟨_, hp, _, rfl⟩
      · exact Nat.zero_le _
      · have := wst_len a.nx ns
        have := hp.length_eq
        rw [List.length_map] at this
        omega⟩
  | false => exact (Wants_bad w g now ht).mono fun e w' ⟨e1, e2⟩ => ⟨_, e1, ⟨[], [], RowAt.none0 _ _ _, (fun q hq => by cases hq), e2, Nat.zero_le _, .inr ⟨rfl, rfl⟩⟩⟩
theorem rwants2 {w : World} {g : Nat} {kv : Value} {a : Ab} (h : RbAt w g kv a) (now : Int) : Calls Try.prog 32 #[.pointer (some ⟨g, 0, none⟩), .int .i64 now] w fun e w' => ∃ rv, e = .returned rv ∧ Hid (∃ (rs : List (Nat × Nat)), RowAt w' 61 2 rv rs.length (rV rs) ∧ (∀ q, rv.ownBlock = some q → w.heap.size ≤ q) ∧ Below w.heap.size w w' ∧ (tmB now = true ∧ (wtB a (max a.la now) (a.pat / 2) = false ∧ rs = [] ∨ wtB a (max a.la now) (a.pat / 2) = true ∧ rs = (wst a.nx (a.ks.map (·.n))).2) ∨ tmB now = false ∧ rs = [])) := by
  cases ht : tmB now with
  | true =>
    obtain ⟨h0, h1⟩ := tm_bd ht
    exact (rWants_any h now h0 h1).mono fun e w' ⟨v', e1, k⟩ => ⟨v', e1, by
      obtain ⟨rs, k1, k2, k3, k4⟩ := k.out
      exact ⟨rs, k1, k2, k3, .inl ⟨rfl, k4⟩⟩⟩
  | false => exact (rWants_bad h now ht).mono fun e w' ⟨e1, e2⟩ => ⟨_, e1, ⟨[], RowAt.none0 _ _ _, (fun q hq => by cases hq), e2, .inr ⟨rfl, rfl⟩⟩⟩
theorem wants_same {a r : Ab} {now : Int} {ns : List Nat} {rs rs2 : List (Nat × Nat)} (hr : Rel a r) (hs : r.ks.Pairwise (fun a b => a.n < b.n)) (h1 : tmB now = true ∧ (wtB a (max a.la now) (a.pat / 2) = false ∧ rs = [] ∨ wtB a (max a.la now) (a.pat / 2) = true ∧ ns.Perm (a.ks.map (·.n)) ∧ ns.Pairwise (· ≤ ·) ∧ rs = (wst a.nx ns).2) ∨ tmB now = false ∧ rs = []) (h2 : tmB now = true ∧ (wtB r (max r.la now) (r.pat / 2) = false ∧ rs2 = [] ∨ wtB r (max r.la now) (r.pat / 2) = true ∧ rs2 = (wst r.nx (r.ks.map (·.n))).2) ∨ tmB now = false ∧ rs2 = []) : rs = rs2 := by
  have hw := hr.wt (max a.la now) (a.pat / 2)
  rw [hr.la, hr.pat] at hw
  rcases h1 with ⟨t1, h1⟩ | ⟨t1, rfl⟩ <;> rcases h2 with ⟨t2, h2⟩ | ⟨t2, rfl⟩
  · rw [hr.la, hr.pat, hw] at h1
    rcases h1 with ⟨a1, rfl⟩ | ⟨a1, p1, p2, rfl⟩ <;> rcases h2 with ⟨a2, rfl⟩ | ⟨a2, rfl⟩
    · rfl
    · rw [a1] at a2; cases a2
    · rw [a1] at a2; cases a2
    · rw [hr.wants hs p1 p2, hr.nx]
  · rw [t1] at t2; cases t2
  · rw [t1] at t2; cases t2
  · rfl
end Go.Proofs.Ytdncemecnbglaaa
