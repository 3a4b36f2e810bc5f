/-
  LedgerDays: what was told, day by day (plain); where the law stands.
-/
import Derived.Test.YtidhahooebepfaaJCon4
namespace Go.Proofs.Ytidhahooebepfaa
set_option linter.unusedVariables false
set_option linter.unusedSimpArgs false
open Go.RowKit Go.Great Go.Maps

def isSy (x : ByteArray) : Prop := x = sX ∨ x = sY ∨ x = sXY
theorem syOf_is (k : Nat) : isSy (syOf k) := by
  unfold syOf isSy
  split <;> simp
theorem selB_app (g : Am → Int) (ac sy : ByteArray) (a b : List Bk) : selB g ac sy (a ++ b) = selB g ac sy a + selB g ac sy b := by
  induction a with
  | nil => simp [selB]
  | cons x t ih => simp only [List.cons_append, selB, ih]; omega
theorem selB_perm {g : Am → Int} {ac sy : ByteArray} {a b : List Bk} (h : a.Perm b) : selB g ac sy a = selB g ac sy b := by
  induction h with
  | nil => rfl
  | cons x _ ih => simp only [selB, ih]
  | swap x y l => simp only [selB]; omega
  | trans _ _ h1 h2 => exact h1.trans h2
theorem selB_none (g : Am → Int) (ac sy : ByteArray) : ∀ {T : List Bk}, (∀ b ∈ T, ¬ (ac = b.ac ∧ sy = b.sy)) → selB g ac sy T = 0
  | [], _ => rfl
  | b :: l, h => by
    simp only [selB]
    rw [if_neg (h b (.head _)), selB_none g ac sy fun x hx => h x (.tail _ hx)]; rfl
theorem selB_amt (g : Am → Int) (g0 : g Am.zero = 0) (ac sy : ByteArray) : ∀ {T : List Bk}, DK T → selB g ac sy T = g (amt T ac sy)
  | [], _ => g0.symm
  | b :: l, h => by
    obtain ⟨h1, h2⟩ := List.pairwise_cons.1 h
    simp only [selB]
    by_cases hk : ac = b.ac ∧ sy = b.sy
    · have e : amt (b :: l) ac sy = b.am := by
        unfold amt
        rw [List.find?_cons, show hasK ac sy b = true from hasK_iff.2 ⟨hk.1.symm, hk.2.symm⟩]; rfl
      rw [if_pos hk, e, selB_none g ac sy fun x hx e => h1 x hx ⟨hk.1.symm.trans e.1, hk.2.symm.trans e.2⟩]
      omega
    · have e : amt (b :: l) ac sy = amt l ac sy := by
        unfold amt
        rw [List.find?_cons, show hasK ac sy b = false from by
          rw [← Bool.not_eq_true]
          intro h
          have := hasK_iff.1 h
          exact hk ⟨this.1.symm, this.2.symm⟩]
      rw [if_neg hk, e, selB_amt g g0 ac sy h2]
      omega
theorem selT_three (ac : ByteArray) : ∀ {l : List Bk}, (∀ b ∈ l, isSy b.sy) → selT (fun b => b.f) ac l = selB Am.f ac sX l + selB Am.f ac sY l + selB Am.f ac sXY l
  | [], _ => rfl
  | b :: l, h => by
    have ih := selT_three ac fun x hx => h x (.tail _ hx)
    have e1 : sX ≠ sY := by decide
    have e2 : sX ≠ sXY := by decide
    have e3 : sY ≠ sXY := by decide
    have hb := h b (.head _)
    have hf : b.am.f = b.f := rfl
    simp only [selT, selB, ih, hf]
    by_cases ha : ac = b.ac
    · rcases hb with hb | hb | hb
      · rw [hb]; simp only [ha, true_and, if_true, e1.symm, e2.symm, if_false]; omega
      · rw [hb]; simp only [ha, true_and, if_true, e1, e3.symm, if_false]; omega
      · rw [hb]; simp only [ha, true_and, if_true, e2, e3, if_false]; omega
    · simp only [ha, false_and, if_false]; omega
/-- The balances are what was told, and what today's lines say. -/
structure DS (D A T : List Bk) (O : List To) : Prop where
  q : ∀ ac sy, (amt A ac sy).q = (amt T ac sy).q + selB Am.q ac sy D
  c : ∀ ac sy, (amt A ac sy).c = (amt T ac sy).c + selB Am.c ac sy D
  f : ∀ ac sy, (amt A ac sy).f = (amt T ac sy).f + selB Am.f ac sy D
  o : ∀ ac, (tot O ac).2 = (amt A ac sX).f + (amt A ac sY).f + (amt A ac sXY).f
  dk : DK T
theorem DS.start : DS [] [] [] [] := ⟨fun _ _ => rfl, fun _ _ => rfl, fun _ _ => rfl, fun _ => rfl, List.Pairwise.nil⟩
theorem DS.adds {D A T : List Bk} {O : List To} {l : List Bk} (h : DS D A T O) (hl : ∀ b ∈ l, isSy b.sy) : DS D (l.foldl lnAdd A) (l.foldl lnAdd T) (l.foldl toAdd O) := by
  refine ⟨fun ac sy => ?_, fun ac sy => ?_, fun ac sy => ?_, fun ac => ?_, h.dk.adds l⟩
  · rw [amt_adds Am.q (fun _ _ => rfl), amt_adds Am.q (fun _ _ => rfl), h.q]; omega
  · rw [amt_adds Am.c (fun _ _ => rfl), amt_adds Am.c (fun _ _ => rfl), h.c]; omega
  · rw [amt_adds Am.f (fun _ _ => rfl), amt_adds Am.f (fun _ _ => rfl), h.f]; omega
  · rw [tot_adds2, h.o, amt_adds Am.f (fun _ _ => rfl), amt_adds Am.f (fun _ _ => rfl), amt_adds Am.f (fun _ _ => rfl), selT_three ac hl]; omega
theorem DS.closed {D A T net : List Bk} {O : List To} (h : DS D A T O) (hp : net.Perm T) : DS (D ++ net) A [] O := by
  refine ⟨fun ac sy => ?_, fun ac sy => ?_, fun ac sy => ?_, h.o, List.Pairwise.nil⟩
  · rw [h.q, selB_app, selB_perm hp, selB_amt Am.q rfl ac sy h.dk]; show _ = (0 : Int) + _; omega
  · rw [h.c, selB_app, selB_perm hp, selB_amt Am.c rfl ac sy h.dk]; show _ = (0 : Int) + _; omega
  · rw [h.f, selB_app, selB_perm hp, selB_amt Am.f rfl ac sy h.dk]; show _ = (0 : Int) + _; omega
/-- Two that are told of the same lines are the same. -/
theorem net_eq {T a b : List Bk} (ha : a.Perm T) (hb : b.Perm T) (hd : DK T) (sa : a.Pairwise (fun a b => ¬ ltB b a)) (sb : b.Pairwise (fun a b => ¬ ltB b a)) : a = b := by
  refine List.Perm.eq_of_pairwise (le := fun a b => ¬ ltB b a) (fun x y hx hy h1 h2 => ?_) sa sb (ha.trans hb.symm)
  have hk := ltB_tri h2 h1
  have hx' := ha.mem_iff.1 hx
  have hy' := hb.mem_iff.1 hy
  clear ha hb sa sb hx hy h1 h2
  induction T with
  | nil => cases hx'
  | cons z l ih =>
    obtain ⟨q1, q2⟩ := List.pairwise_cons.1 hd
    rcases List.mem_cons.1 hx' with rfl | hx2
    · rcases List.mem_cons.1 hy' with rfl | hy2
      · rfl
      · exact absurd hk (q1 y hy2)
    · rcases List.mem_cons.1 hy' with rfl | hy2
      · exact absurd ⟨hk.1.symm, hk.2.symm⟩ (q1 x hx2)
      · exact ih q2 hx2 hy2
/-- Lines that say the same are the same, in some order. -/
theorem amt_mem {A : List Bk} (hd : DK A) {b : Bk} (hb : b ∈ A) : amt A b.ac b.sy = b.am := by
  induction A with
  | nil => cases hb
  | cons z l ih =>
    obtain ⟨q1, q2⟩ := List.pairwise_cons.1 hd
    by_cases hk : hasK b.ac b.sy z = true
    · have e := hasK_iff.1 hk
      unfold amt
      rw [List.find?_cons, hk]
      rcases List.mem_cons.1 hb with rfl | h2
      · rfl
      · exact absurd e (q1 b h2)
    · rcases List.mem_cons.1 hb with rfl | h2
      · exact absurd (hasK_iff.2 ⟨rfl, rfl⟩) hk
      · rw [← ih q2 h2]
        unfold amt
        rw [List.find?_cons]
        simp only [hk]
theorem mem_amt {A : List Bk} {b : Bk} (h : amt A b.ac b.sy = b.am) (hz : ¬ b.am.nil) : b ∈ A := by
  unfold amt at h
  cases hf : A.find? (hasK b.ac b.sy) with
  | none =>
    rw [hf] at h
    exact absurd (show b.am.nil by rw [← h]; exact ⟨rfl, rfl, rfl⟩) hz
  | some x =>
    rw [hf] at h
    have h1 := List.find?_some hf
    have e := hasK_iff.1 h1
    have h2 : x.am = b.am := h
    have : x = b := by
      obtain ⟨x1, x2, x3, x4, x5⟩ := x
      obtain ⟨b1, b2, b3, b4, b5⟩ := b
      obtain ⟨e1, e2⟩ := e
      simp only [Bk.am, Am.mk.injEq] at h2 e1 e2
      obtain ⟨h3, h4, h5⟩ := h2
      subst e1 e2 h3 h4 h5; rfl
    exact this ▸ List.mem_of_find?_eq_some hf
theorem amt_perm {A B : List Bk} (ha : DK A) (hb : DK B) (za : NZ A) (zb : NZ B) (h : ∀ ac sy, amt A ac sy = amt B ac sy) : A.Perm B := by
  have nd : ∀ {L : List Bk}, DK L → L.Nodup := fun h => h.imp fun {a b} h e => h ⟨by rw [e], by rw [e]⟩
  refine (List.perm_ext_iff_of_nodup (nd ha) (nd hb)).2 fun x => ⟨fun hx => ?_, fun hx => ?_⟩
  · exact mem_amt ((h _ _).symm.trans (amt_mem ha hx)) (za x hx)
  · exact mem_amt ((h _ _).trans (amt_mem hb hx)) (zb x hx)
/-- A trade as these laws make it. -/
structure TrS (M : Int) (t : Tr) : Prop where
  may : t.may = true
  inn : ∀ b ∈ bkL t, b.inn M
  sy : isSy t.sy
theorem mul_step (i : Nat) (x : Int) : ((i + 1 : Nat) : Int) * x = (i : Int) * x + x := by rw [Int.natCast_succ, Int.add_mul, Int.one_mul]
/-- Where a law stands; M: how great a booking is at most; Z: what it knows of the lines. -/
structure GI (M : Int) (Z : List Bk → List Bk → List To → Prop) (w W : World) (G : Lg) (i : Nat) : Prop where
  lv : Lv w W G
  bd : Bd G ((i : Int) * (3 * M)) (3 * i)
  bl : G.bs.length ≤ i
  le : G.ts.length ≤ G.bs.length
  ks : ∀ t ∈ G.ts, TrS M t
  zs : Z G.A G.T G.O
/-- What is known of the lines stays. -/
def Keeps (Z : List Bk → List Bk → List To → Prop) : Prop := ∀ {A T : List Bk} {O : List To} {l : List Bk}, Z A T O → (∀ b ∈ l, isSy b.sy) → Z (l.foldl lnAdd A) (l.foldl lnAdd T) (l.foldl toAdd O)
section
variable {M : Int} {Z : List Bk → List Bk → List To → Prop} {w W W' : World} {G : Lg} {i : Nat}
theorem GI.start {w0 : World} (hb : Below w.heap.size w w0) (h : Nw w0 W G) (hz : Z [] [] []) : GI M Z w W G 0 := by
  refine ⟨Lv.new hb h, ?_, by rw [h.bs]; exact Nat.le_refl _, by rw [h.bs, h.ts]; exact Nat.le_refl _, fun t ht => (by rw [h.ts] at ht; cases ht), by rw [h.A, h.T, h.O]; exact hz⟩
  have e : ((0 : Nat) : Int) * (3 * M) = 0 := Int.zero_mul _
  rw [e]; exact h.bd
theorem GI.below (h : GI M Z w W G i) (hb : Below W.heap.size W W') : GI M Z w W' G i := ⟨h.lv.below hb, h.bd, h.bl, h.le, h.ks, h.zs⟩
theorem GI.mem (h : GI M Z w W G i) (ha : LgAt W' G) (hb : Below w.heap.size w W') : GI M Z w W' G i := ⟨⟨ha, hb, h.lv.low⟩, h.bd, h.bl, h.le, h.ks, h.zs⟩
theorem GI.bdUp (hM : 0 ≤ M) (h : GI M Z w W G i) : Bd G (((i + 1 : Nat) : Int) * (3 * M)) (3 * (i + 1)) := h.bd.up (by rw [mul_step]; omega) (by omega)
theorem GI.same (hM : 0 ≤ M) (h : GI M Z w W G i) : GI M Z w W G (i + 1) := ⟨h.lv, h.bdUp hM, Nat.le_succ_of_le h.bl, h.le, h.ks, h.zs⟩
/-- Behind a call: the ledger, and what it wrote. -/
def NewG (W W' : World) (G G' : Lg) : Prop := G'.g = G.g ∧ Fr W W' G.own ∧ ∀ b, G'.own b → G.own b ∨ W.heap.size ≤ b
theorem GI.trade (hZ : Keeps Z) (hM : 0 ≤ M) (h : GI M Z w W G i) (hi : i < 100000) (hl : ((i + 1 : Nat) : Int) * (3 * M) ≤ 1000000000000000000) (t : Tr) (hz : t.sz) (ht : TrS M t) :
    Calls Try.prog 10 #[.pointer (some ⟨G.g, 0, none⟩), .string t.sy, .string t.bu, .string t.se, .int .i64 t.pr, .int .i64 t.qt, .int .i64 t.bf, .int .i64 t.sf] W fun e w' => e = .returned (.int .i64 0) ∧ Hid (∃ tv bv, GI M Z w w' (G.traded t tv bv) (i + 1) ∧ NewG W w' G (G.traded t tv bv)) := by
  have hmx : 1000000 < maxLen := by decide
  have hbl := h.bl
  have hle := h.le
  have h0 : 0 ≤ (i : Int) * (3 * M) := Int.mul_nonneg (by omega) (by omega)
  rw [mul_step] at hl
  refine (Trade_yes G t W h.lv.at' hz ht.may h.bd ht.inn hM h0 hl (by omega) (by omega) (by omega)).mono fun e w' ⟨h1, tv, bv, h2, h3, h4⟩ => ⟨h1, tv, bv, ⟨?_, ?_, ?_, ?_, ?_, ?_⟩, (addsL_same G _).1, h3, h4⟩
  · exact h.lv.step h2 h3 h4
  · have := h.bd.traded ht.inn hM tv bv
    rw [mul_step, show 3 * (i + 1) = 3 * i + 3 by omega]
    exact this
  · show ((addsL G (bkL t)).bs ++ [false]).length ≤ _
    rw [(addsL_same G _).2.2.2.2.2.1, List.length_append]; exact Nat.succ_le_succ hbl
  · show ((addsL G (bkL t)).ts ++ [t]).length ≤ ((addsL G (bkL t)).bs ++ [false]).length
    rw [(addsL_same G _).2.2.2.2.2.1, (addsL_same G _).2.2.2.2.1, List.length_append, List.length_append]; exact Nat.succ_le_succ hle
  · intro x hx
    have hx' : x ∈ (addsL G (bkL t)).ts ++ [t] := hx
    rw [(addsL_same G _).2.2.2.2.1] at hx'
    rcases List.mem_append.1 hx' with q | q
    · exact h.ks x q
    · rw [List.mem_singleton.1 q]; exact ht
  · have hz := hZ h.zs (l := bkL t) (fun b hb => by rw [bkL_sy t b hb]; exact ht.sy)
    rw [← addsL_A, ← addsL_T, ← addsL_O] at hz
    exact hz
theorem traded_bs (G : Lg) (t : Tr) (tv bv : Value) : (G.traded t tv bv).bs = G.bs ++ [false] := by
  show (addsL G (bkL t)).bs ++ [false] = _
  rw [(addsL_same G _).2.2.2.2.2.1]
theorem traded_ts (G : Lg) (t : Tr) (tv bv : Value) : (G.traded t tv bv).ts = G.ts ++ [t] := by
  show (addsL G (bkL t)).ts ++ [t] = _
  rw [(addsL_same G _).2.2.2.2.1]
theorem traded_T (G : Lg) (t : Tr) (tv bv : Value) : (G.traded t tv bv).T = (bkL t).foldl lnAdd G.T := addsL_T G _
/-- A ledger behind a trade that was taken back. -/
def Lg.back (G : Lg) (t : Tr) (k : Nat) : Lg := (addsL G ((bkL t).map Bk.opp)).brokeB k
theorem back_bs (G : Lg) (t : Tr) (k : Nat) : (G.back t k).bs = G.bs.set k true := by
  show (addsL G ((bkL t).map Bk.opp)).bs.set k true = _
  rw [(addsL_same G _).2.2.2.2.2.1]
theorem back_ts (G : Lg) (t : Tr) (k : Nat) : (G.back t k).ts = G.ts := by
  show (addsL G ((bkL t).map Bk.opp)).ts = _
  rw [(addsL_same G _).2.2.2.2.1]
theorem back_T (G : Lg) (t : Tr) (k : Nat) : (G.back t k).T = ((bkL t).map Bk.opp).foldl lnAdd G.T := addsL_T G _
/-- A trade is taken back. -/
theorem GI.broke (hZ : Keeps Z) (hM : 0 ≤ M) (h : GI M Z w W G i) (hi : i < 100000) (hl : ((i + 1 : Nat) : Int) * (3 * M) ≤ 1000000000000000000) (j c : Nat) (t : Tr) (hcc : c + G.ts.length = G.bs.length) (hj : G.ts[j]? = some t) (hb : G.bs[c + j]? = some false) :
    Calls Try.prog 12 #[.pointer (some ⟨G.g, 0, none⟩), .int .i64 (((c + j : Nat) : Int) + 1)] W fun e w' => e = .returned (.int .i64 0) ∧ Hid (GI M Z w w' (G.back t (c + j)) (i + 1) ∧ NewG W w' G (G.back t (c + j))) := by
  have hmx : 1000000 < maxLen := by decide
  have hbl := h.bl
  have hle := h.le
  have ht := h.ks _ (List.mem_of_getElem? hj)
  have h0 : 0 ≤ (i : Int) * (3 * M) := Int.mul_nonneg (by omega) (by omega)
  rw [mul_step] at hl
  refine (Break_yes j c t h.lv.at' hcc hj hb (by omega) ht.may h.bd ht.inn hM h0 hl (by omega)).mono fun e w' ⟨e1, h5⟩ => ⟨e1, ⟨?_, ?_, ?_, ?_, ?_, ?_⟩, (addsL_same G _).1, h5.out.2, fun b hb => .inl (((addsL_same G _).2.1 b).1 hb)⟩
  · exact h.lv.step h5.out.1 h5.out.2 (fun b hb => .inl (((addsL_same G _).2.1 b).1 hb))
  · have := h.bd.broken ht.inn hM (c + j)
    rw [mul_step, show 3 * (i + 1) = 3 * i + 3 by omega]
    exact this
  · rw [back_bs, List.length_set]; omega
  · rw [back_bs, back_ts, List.length_set]; exact hle
  · intro x hx
    rw [back_ts] at hx
    exact h.ks x hx
  · have hz := hZ h.zs (l := (bkL t).map Bk.opp) (fun b hb => by
      obtain ⟨x, hx, rfl⟩ := List.mem_map.1 hb
      show isSy x.sy
      rw [bkL_sy t x hx]; exact ht.sy)
    rw [← addsL_A, ← addsL_T, ← addsL_O] at hz
    exact hz
theorem NewG.refl (hW : Below W.heap.size W W') : NewG W W' G G := ⟨rfl, Fr.of_below hW _, fun b hb => .inl hb⟩
theorem GI.breaks (hZ : Keeps Z) (hM : 0 ≤ M) (h : GI M Z w W G i) (hi : i < 100000) (hl : ((i + 1 : Nat) : Int) * (3 * M) ≤ 1000000000000000000) (n : Int) (hn : 1 ≤ n) :
    Calls Try.prog 12 #[.pointer (some ⟨G.g, 0, none⟩), .int .i64 n] W fun e w' => ∃ c : Int, e = .returned (.int .i64 c) ∧ (c = 0 ∨ c = 121 ∨ c = 111 ∨ c = 2) ∧ Hid (∃ G', G'.bs.length = G.bs.length ∧ GI M Z w w' G' (i + 1) ∧ NewG W w' G G') := by
  have hbl := h.bl
  have hle := h.le
  by_cases h1 : (G.bs.length : Int) < n
  · exact (Break_none n h.lv.at' (.inr ⟨hn, h1⟩)).mono fun e w' ⟨e1, e2⟩ => ⟨121, e1, .inr (.inl rfl), G, rfl, e2 ▸ h.same hM, e2 ▸ NewG.refl (Below.refl _ _)⟩
  · obtain ⟨k, hk⟩ : ∃ k : Nat, n = (k : Int) + 1 := ⟨(n - 1).toNat, by omega⟩
    subst hk
    have hkl : k < G.bs.length := by omega
    cases hb : G.bs[k]'hkl with
    | true => exact (Break_gone k h.lv.at' (by rw [List.getElem?_eq_getElem hkl, hb]) (by omega)).mono fun e w' ⟨e1, e2⟩ => ⟨111, e1, .inr (.inr (.inl rfl)), G, rfl, e2 ▸ h.same hM, e2 ▸ NewG.refl (Below.refl _ _)⟩
    | false =>
      by_cases hc : k + 1 ≤ G.bs.length - G.ts.length
      · exact (Break_state k h.lv.at' (by rw [List.getElem?_eq_getElem hkl, hb]) (by omega) hle hc).mono fun e w' ⟨e1, m, e2⟩ => ⟨2, e1, .inr (.inr (.inr rfl)), G, rfl, e2 ▸ (h.below (below_drewN (Below.refl _ W) m)).same hM, e2 ▸ NewG.refl (below_drewN (Below.refl _ W) m)⟩
      · obtain ⟨c, hcc⟩ : ∃ c, c + G.ts.length = G.bs.length := ⟨G.bs.length - G.ts.length, by omega⟩
        obtain ⟨j, hj⟩ : ∃ j, k = c + j := ⟨k - c, by omega⟩
        subst hj
        have hjl : j < G.ts.length := by omega
        refine (GI.broke hZ hM h hi hl j c G.ts[j] hcc (List.getElem?_eq_getElem hjl) (by rw [List.getElem?_eq_getElem hkl, hb])).mono fun e w' ⟨e1, h5⟩ => ⟨0, e1, .inl rfl, _, ?_, h5.out.1, h5.out.2⟩
        rw [back_bs, List.length_set]
end
end Go.Proofs.Ytidhahooebepfaa
