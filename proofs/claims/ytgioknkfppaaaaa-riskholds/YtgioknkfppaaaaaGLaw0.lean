/-
  risk: what the statements begin with; a guard of one account.
-/
import Derived.Test.YtgioknkfppaaaaaGOpen
import Derived.Test.YtgioknkfppaaaaaGNew2
namespace Go.Proofs.Ytgioknkfppaaaaa
set_option linter.unusedVariables false
set_option linter.unusedSimpArgs false
open Go.RowKit Go.Great Go.Maps

def sA : ByteArray := ⟨#[65]⟩
def sX : ByteArray := ⟨#[88]⟩
def ordO (id sd pr q : Int) : Ord := ⟨id, ⟨#[]⟩, sA, sX, sd, 1, 0, pr, 0, q, 0, 0, 0, 0, 0⟩
set_option maxRecDepth 100000 in
theorem order_any (id sd pr q : Int) (w : World) :
    Calls Try.prog 11 #[.int .i64 id, .int .i64 sd, .int .i64 pr, .int .i64 q] w fun e w' => e = .returned (.agg (ordO id sd pr q).cs) ∧ Below w.heap.size w w' := by
  go_enter Try.func11, Try.ntmps11
  go_wp2
  try simp only [Exit.inBlock, Exit.then]
  refine bodyPost_ret (results_cell_row (fn := Try.f11) (p := 8) (ty := 35) rfl _ _ w.heap.size 35 _ (0, 0) _ (by rfl) (heap_alloc_new w _) Try.underlying35 rfl (by kernel_rfl)) rfl ?_
  exact ⟨rfl, (Below.refl _ w).alloc (Nat.le_refl _) _⟩
/-- Numbers that came in. -/
def SrcI (w : World) (a : Option Addr) (n : Nat) (d : Nat → Int) : Prop := n = 0 ∨ ∃ b off, a = some ⟨b, off, none⟩ ∧ ∀ j, j < n → w.cell? ⟨b, off + j, none⟩ = some (.int .i64 (d j)) ∧ -9223372036854775808 ≤ d j ∧ d j ≤ 9223372036854775807
theorem SrcI.below {w w' : World} {a : Option Addr} {n : Nat} {d : Nat → Int} (h : SrcI w a n d) (hb : Below w.heap.size w w') : SrcI w' a n d := by
  rcases h with h | ⟨b, off, e, h⟩
  · exact .inl h
  · exact .inr ⟨b, off, e, fun j hj => ⟨(hb.cell (World.block_lt_of_cell? _ _ (h j hj).1)).trans (h j hj).1, (h j hj).2⟩⟩
/-- Which of n things a raw number speaks of. -/
def pickN (c : Int) (n : Nat) : Nat := (if c < 0 then (-(c + 1)) % (n : Int) else c % (n : Int)).toNat
theorem pickN_lt (c : Int) {n : Nat} (h : 0 < n) : pickN c n < n := by
  unfold pickN
  have h1 := Int.emod_lt_of_pos (-(c + 1)) (show (0 : Int) < n by omega)
  have h2 := Int.emod_nonneg (-(c + 1)) (show (n : Int) ≠ 0 by omega)
  have h3 := Int.emod_lt_of_pos c (show (0 : Int) < n by omega)
  have h4 := Int.emod_nonneg c (show (n : Int) ≠ 0 by omega)
  split <;> omega
set_option maxRecDepth 100000 in
set_option maxHeartbeats 400000 in
theorem pick_any (c x : Int) (n : Nat) (hx : x = n) (w : World) (hn : 0 < n) (hn1 : n ≤ 9223372036854775807) (h0 : -9223372036854775808 ≤ c) (h1 : c ≤ 9223372036854775807) :
    Calls Try.prog 8 #[.int .i64 c, .int .i64 x] w fun e w' => e = .returned (.int .i64 (pickN c n : Int)) ∧ w' = w := by
  subst hx
  have hp := pickN_lt c hn
  have hn' : ¬ (n : Int) = 0 := by omega
  by_cases hc : c < 0
  · have e : (c + 1).tmod (n : Int) = -(pickN c n : Int) := by
      have h2 := Int.emod_nonneg (-(c + 1)) (show (n : Int) ≠ 0 by omega)
      unfold pickN
      rw [if_pos hc, Int.toNat_of_nonneg h2, ← Int.tmod_eq_emod_of_nonneg (by omega), Int.neg_tmod, Int.neg_neg]
    generalize pickN c n = p at *
    go_enter Try.func8, Try.ntmps8
    go_wp2
    go_ret
    exact ⟨rfl, rfl⟩
  · have hc' : 0 ≤ c := by omega
    have e : c % (n : Int) = (pickN c n : Int) := by
      have h2 := Int.emod_nonneg c (show (n : Int) ≠ 0 by omega)
      unfold pickN
      rw [if_neg hc, Int.toNat_of_nonneg h2]
    generalize pickN c n = p at *
    go_enter Try.func8, Try.ntmps8
    go_wp2
    go_ret
    exact ⟨rfl, rfl⟩
/-- Check, whatever comes of it. -/
theorem Check_any (G : Gd) (o : Ord) (mark now : Int) (w : World) (h : GdAt w G) (hac : o.ac.size ≤ maxLen) (hsy : o.sy.size ≤ maxLen) :
    Calls Try.prog 10 #[.pointer (some ⟨G.g, 0, none⟩), .agg o.cs, .int .i64 mark, .int .i64 now] w fun e w' => e = .returned (.int .i64 (ckE G o mark now)) ∧ GdAt w' (ckG G o mark now) ∧ Fr w w' G.own ∧ ∀ b, (ckG G o mark now).own b ↔ G.own b := by
  unfold ckE ckG
  cases hi : isoB o mark && wiB now 0 253402300799999 with
  | false =>
    simp only [if_true]
    exact (Check_bad G o mark now w h hi).mono fun e w' ⟨h1, h2⟩ => ⟨h1, h.below h2, Fr.of_below h2 _, fun _ => by first | exact Iff.rfl | trivial⟩
  | true =>
    simp only [Bool.true_eq_false, if_false]
    cases hn : G.acc o.ac with
    | none => exact (Check_none G o mark now w h hac hi hn).mono fun e w' ⟨h1, h2⟩ => ⟨h1, h.below h2, Fr.of_below h2 _, fun _ => by first | exact Iff.rfl | trivial⟩
    | some a =>
      simp only
      cases hst : a.st with
      | true =>
        simp only [if_true]
        exact (Check_kill G o mark now w h hac hi hn hst).mono fun e w' ⟨h1, h2⟩ => ⟨h1, h.below h2, Fr.of_below h2 _, fun _ => by first | exact Iff.rfl | trivial⟩
      | false =>
        simp only [Bool.false_eq_true, if_false]
        cases htk : tkB a now with
        | false =>
          simp only [if_true]
          refine (Check_rate G o mark now w h hac hi hn hst htk).mono fun e w' ⟨h1, h2⟩ => ⟨h1, ?_⟩
          rw [hst] at h2
          exact h2
        | true =>
          simp only [Bool.true_eq_false, if_false]
          refine (Check_let G o mark now w h hac hi hsy hn hst htk).mono fun e w' ⟨h1, h2⟩ => ⟨h1, ?_⟩
          rw [hst] at h2
          exact h2
/-- A guard of one account. -/
def oneG (g ma mo : Nat) (a : Ac) (O : List Oo) : Gd := ⟨g, ma, mo, [a], O⟩
theorem one_acc (g ma mo : Nat) (a : Ac) (O : List Oo) (h : a.nm = sA) : (oneG g ma mo a O).acc sA = some a := by
  unfold Gd.acc oneG
  simp only [List.find?_cons]
  rw [h, str_self]
theorem one_set (a a' : Ac) (h : a.blk = a'.blk) : setA [a] a' = [a'] := by unfold setA; simp [h]
theorem sA_size : sA.size ≤ maxLen := by decide
theorem sX_size : sX.size ≤ maxLen := by decide
theorem one_own (g ma mo : Nat) (a a' : Ac) (O O' : List Oo) (h1 : a.blk = a'.blk) (h2 : a.mp = a'.mp) (b : Nat) : (oneG g ma mo a O).own b ↔ (oneG g ma mo a' O').own b := by
  unfold Gd.own oneG
  simp [h1, h2]
theorem iso_ord {id sd pr q : Int} (hs : sd = 1 ∨ sd = 2) (hp : 0 ≤ pr ∧ pr ≤ 1000000000) (hq : 1 ≤ q ∧ q ≤ 1000000) : isoB (ordO id sd pr q) 0 = true := by
  unfold isoB ordO
  simp only [Bool.and_eq_true, wiB_iff, Bool.or_eq_true, beq_iff_eq]
  exact ⟨⟨⟨hq, hp⟩, by omega⟩, hs⟩
theorem Check_one (g ma mo : Nat) (a : Ac) (O : List Oo) (id sd pr q now : Int) (w : World) (h : GdAt w (oneG g ma mo a O)) (hnm : a.nm = sA) (hst : a.st = false) (hs : sd = 1 ∨ sd = 2) (hp : 0 ≤ pr ∧ pr ≤ 1000000000) (hq : 1 ≤ q ∧ q ≤ 1000000) (hn : 0 ≤ now ∧ now ≤ 253402300799999) :
    Calls Try.prog 10 #[.pointer (some ⟨g, 0, none⟩), .agg (ordO id sd pr q).cs, .int .i64 0, .int .i64 now] w fun e w' => e = .returned (.int .i64 (if tkB a now = false then 151 else if abB a O (ordO id sd pr q) (valI (ordO id sd pr q) 0) = true then 150 else 0)) ∧ GdAt w' (oneG g ma mo { a with due := tkD a now } O) ∧ Fr w w' (oneG g ma mo a O).own := by
  refine (Check_any (oneG g ma mo a O) (ordO id sd pr q) 0 now w h sA_size sX_size).mono fun e w' ⟨h1, h2, h3, _⟩ => ?_
  have hi : (isoB (ordO id sd pr q) 0 && wiB now 0 253402300799999) = true := by rw [iso_ord hs hp hq, wiB_iff.2 hn]; rfl
  have ha : (oneG g ma mo a O).acc (ordO id sd pr q).ac = some a := one_acc g ma mo a O hnm
  unfold ckE at h1
  unfold ckG at h2
  rw [hi, ha] at h1 h2
  simp only [hst, Bool.true_eq_false, Bool.false_eq_true, if_false] at h1 h2
  refine ⟨h1, ?_, h3⟩
  have e : ({ (oneG g ma mo a O) with A := setA (oneG g ma mo a O).A { a with due := tkD a now } } : Gd) = oneG g ma mo { a with due := tkD a now } O := by
    unfold oneG
    simp only
    rw [one_set a { a with due := tkD a now } rfl]
  rw [← e, hst]
  exact h2
/-- A guard of one account, all of whose blocks are newer than B; nothing older has turned since w. -/
structure On (B : Nat) (w W : World) (g ma mo : Nat) (a : Ac) (O : List Oo) : Prop where
  gd : GdAt W (oneG g ma mo a O)
  low : ∀ b, (oneG g ma mo a O).own b → B ≤ b
  bel : Below B w W
  le : B ≤ w.heap.size
  nm : a.nm = sA
  st : a.st = false
theorem On.fr {B : Nat} {w W W' : World} {g ma mo : Nat} {a a' : Ac} {O O' : List Oo} (h : On B w W g ma mo a O) (hg : GdAt W' (oneG g ma mo a' O')) (hf : Fr W W' (oneG g ma mo a O).own) (h1 : a.blk = a'.blk) (h2 : a.mp = a'.mp) (h3 : a'.nm = sA) (h4 : a'.st = false) : On B w W' g ma mo a' O' :=
  ⟨hg, fun b hb => h.low b ((one_own g ma mo a a' O O' h1 h2 b).2 hb), ⟨hf.os.trans h.bel.os, hf.tape.trans h.bel.tape, hf.output.trans h.bel.output, Nat.le_trans h.bel.size hf.size, fun q hq => (hf.block q (Nat.lt_of_lt_of_le hq (Nat.le_trans h.le h.bel.size)) (fun ho => by have := h.low q ho; omega)).trans (h.bel.block q hq)⟩, h.le, h3, h4⟩
theorem On.rebase {w W0 W : World} {g ma mo : Nat} {a : Ac} {O : List Oo} (h : On W0.heap.size W0 W g ma mo a O) (hb : Below w.heap.size w W0) : On w.heap.size w W g ma mo a O :=
  ⟨h.gd, fun b hx => Nat.le_trans hb.size (h.low b hx), below_step hb h.bel, Nat.le_refl _, h.nm, h.st⟩
theorem On.below {B : Nat} {w W W' : World} {g ma mo : Nat} {a : Ac} {O : List Oo} (h : On B w W g ma mo a O) (hb : Below W.heap.size W W') : On B w W' g ma mo a O := h.fr (h.gd.below hb) (Fr.of_below hb _) rfl rfl h.nm h.st
section
variable {B : Nat} {w W : World} {g ma mo : Nat} {a : Ac} {O : List Oo}
theorem Check_on (h : On B w W g ma mo a O) (id sd pr q now : Int) (hs : sd = 1 ∨ sd = 2) (hp : 0 ≤ pr ∧ pr ≤ 1000000000) (hq : 1 ≤ q ∧ q ≤ 1000000) (hn : 0 ≤ now ∧ now ≤ 253402300799999) :
    Calls Try.prog 10 #[.pointer (some ⟨g, 0, none⟩), .agg (ordO id sd pr q).cs, .int .i64 0, .int .i64 now] W fun e w' => e = .returned (.int .i64 (if tkB a now = false then 151 else if abB a O (ordO id sd pr q) (valI (ordO id sd pr q) 0) = true then 150 else 0)) ∧ On B w w' g ma mo { a with due := tkD a now } O :=
  (Check_one g ma mo a O id sd pr q now W h.gd h.nm h.st hs hp hq hn).mono fun e w' ⟨h1, h2, h3⟩ => ⟨h1, h.fr h2 h3 rfl rfl h.nm h.st⟩
theorem Check_onF (h : On B w W g ma mo a O) (id sd pr q now : Int) (hs : sd = 1 ∨ sd = 2) (hp : 0 ≤ pr ∧ pr ≤ 1000000000) (hq : 1 ≤ q ∧ q ≤ 1000000) (hn : 0 ≤ now ∧ now ≤ 253402300799999) :
    Calls Try.prog 10 #[.pointer (some ⟨g, 0, none⟩), .agg (ordO id sd pr q).cs, .int .i64 0, .int .i64 now] W fun e w' => e = .returned (.int .i64 (if tkB a now = false then 151 else if abB a O (ordO id sd pr q) (valI (ordO id sd pr q) 0) = true then 150 else 0)) ∧ On B w w' g ma mo { a with due := tkD a now } O ∧ Fr W w' (oneG g ma mo a O).own :=
  (Check_one g ma mo a O id sd pr q now W h.gd h.nm h.st hs hp hq hn).mono fun e w' ⟨h1, h2, h3⟩ => ⟨h1, h.fr h2 h3 rfl rfl h.nm h.st, h3⟩
/-- A row of things that are no account, no guard: it is none of the guard's. -/
theorem On.ne_row (h : On B w W g ma mo a O) {e : TypeId} {size n : Nat} {v : Value} {xs : List Value} (hr : RowAt W e size v n xs) (h1 : e ≠ 63) (h2 : e ≠ 72) : ∀ b, v.ownBlock = some b → ¬ (oneG g ma mo a O).own b := fun b hb ho => by
  obtain ⟨_, cur, hcur⟩ := hr.lt hb
  have hm : ∀ k L, MapL Try.prog W k b L → False := fun k L hm => by
    obtain ⟨es, c, e⟩ := hm.is
    rw [hcur] at e; cases e
  have hk : ∀ T cs, Blk W b T cs → e = T := fun T cs hk => by
    unfold Blk at hk
    rw [hcur] at hk
    injection hk with hk
    injection hk
  rcases ho with rfl | rfl | rfl | ⟨x, hx, rfl | rfl⟩
  · exact h1 (hk _ _ h.gd.blk)
  · exact hm _ _ h.gd.accs
  · exact hm _ _ h.gd.opens
  · exact h2 (hk _ _ (h.gd.acc x hx).blk)
  · exact hm _ _ (h.gd.acc x hx).mp
/-- What is not the guard's is written. -/
theorem On.keepR (h : On B w W g ma mo a O) {W' : World} {ex : Nat → Prop} (hf : Fr W W' ex) (hn : ∀ b, ex b → ¬ (oneG g ma mo a O).own b) (hB : ∀ b, ex b → B ≤ b) : On B w W' g ma mo a O :=
  ⟨h.gd.fr hf fun b hb he => hn b he hb, h.low, ⟨hf.os.trans h.bel.os, hf.tape.trans h.bel.tape, hf.output.trans h.bel.output, Nat.le_trans h.bel.size hf.size, fun q hq => (hf.block q (Nat.lt_of_lt_of_le hq (Nat.le_trans h.le h.bel.size)) (fun he => by have := hB q he; omega)).trans (h.bel.block q hq)⟩, h.le, h.nm, h.st⟩
theorem Trade_on (h : On B w W g ma mo a O) (q : Int) (q0 : q ≠ 0) (q1 : -1000000 ≤ q ∧ q ≤ 1000000) (hl : a.pos.length < maxLen) :
    Calls Try.prog 13 #[.pointer (some ⟨g, 0, none⟩), .string sA, .string sX, .int .i64 q] W fun e w' => e = .returned (.int .i64 0) ∧ On B w w' g ma mo { a with pos := mvL a sX q } O := by
  refine (Trade_yes (oneG g ma mo a O) sA sX q W h.gd sA_size sX_size (one_acc g ma mo a O h.nm) hl q0 (wiB_iff.2 q1)).mono fun e w' ⟨h1, h2, h3, _⟩ => ⟨h1, ?_⟩
  have e : ({ (oneG g ma mo a O) with A := setA (oneG g ma mo a O).A { a with pos := mvL a sX q } } : Gd) = oneG g ma mo { a with pos := mvL a sX q } O := by
    unfold oneG
    simp only
    rw [one_set a { a with pos := mvL a sX q } rfl]
  rw [e] at h2
  exact h.fr h2 h3 rfl rfl h.nm h.st
theorem Open_on (h : On B w W g ma mo a O) (id sd pr q : Int) (hs : sd = 1 ∨ sd = 2) (hp : 0 ≤ pr ∧ pr ≤ 1000000000) (hq : 1 ≤ q ∧ q ≤ 1000000) (i0 : 1 ≤ id) (i1 : id ≤ 9223372036854775807) (hat : ∀ x ∈ O, x.ac = sA) (hl : O.length < maxLen) :
    Calls Try.prog 12 #[.pointer (some ⟨g, 0, none⟩), .agg (ordO id sd pr q).cs, .int .i64 0] W fun e w' => e = .returned (.int .i64 0) ∧ On B w w' g ma mo a ((ordO id sd pr q).oo 0 :: doO O id) :=
  (Open_yes (oneG g ma mo a O) (ordO id sd pr q) 0 W h.gd sA_size (iso_ord hs hp hq) i0 i1 (one_acc g ma mo a O h.nm) (fun x hx => hat x (List.mem_of_find?_eq_some hx)) hl).mono fun e w' ⟨h1, h2, h3⟩ => ⟨h1, h.fr h2 h3 rfl rfl h.nm h.st⟩
theorem Look_on (h : On B w W g ma mo a O) :
    Calls Try.prog 15 #[.pointer (some ⟨g, 0, none⟩), .string sA, .string sX] W fun e w' => e = .returned (.tuple #[.int .i64 (ovI O sA 0), .int .i64 (posI a sX), .int .i64 0]) ∧ On B w w' g ma mo a O :=
  (Look_yes (oneG g ma mo a O) sA sX W h.gd sA_size sX_size (one_acc g ma mo a O h.nm)).mono fun e w' ⟨h1, h2⟩ => ⟨h1, h.below h2⟩
theorem Done_on (h : On B w W g ma mo a O) (id : Int) (hs : -9223372036854775808 ≤ id ∧ id ≤ 9223372036854775807) (hin : ∃ x ∈ O, x.id = id) :
    Calls Try.prog 14 #[.pointer (some ⟨g, 0, none⟩), .int .i64 id] W fun e w' => e = .returned (.int .i64 0) ∧ On B w w' g ma mo a (doO O id) := by
  refine (Done_any (oneG g ma mo a O) id W h.gd hs).mono fun e w' ⟨h1, h2, h3⟩ => ?_
  have hi : ((oneG g ma mo a O).at id).isSome = true := by
    obtain ⟨x, hx, e⟩ := hin
    unfold Gd.at oneG
    rw [List.find?_isSome]
    exact ⟨x, hx, by simp [e]⟩
  rw [hi] at h1 h2
  exact ⟨h1, h.fr h2 h3 rfl rfl h.nm h.st⟩
end
end Go.Proofs.Ytgioknkfppaaaaa
