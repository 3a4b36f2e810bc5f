/-
  NumTells: the walk.
-/
import Derived.Test.YtochdjdkfmdgeaaDoorShown
import Derived.Test.YtochdjdkfmdgeaaDoorOwn
import Derived.Test.YtochdjdkfmdgeaaDoorTells
import Derived.OpenShut
import Derived.BigRegion
namespace Go.Proofs.YtochdjdkfmdgeaaDoor
set_option linter.unusedVariables false
open Go.Shelf Go.RowKit Go.Sort Go.Lib

/-- The place that the law takes. -/
theorem at_place (a : Int) (n : Nat) (h0 : ¬ n = 0) (a0 : -9223372036854775808 ≤ a) (a1 : a ≤ 9223372036854775807) : ∃ p : Nat, p < n ∧ (a < 0 ∧ (a + 1).tmod (n : Int) = -(p : Int) ∨ 0 ≤ a ∧ a % (n : Int) = (p : Int)) := by
  by_cases h : a < 0
  · refine ⟨((-(a + 1)) % (n : Int)).toNat, ?_, .inl ⟨h, ?_⟩⟩
    · have h1 := Int.emod_lt_of_pos (-(a + 1)) (show (0 : Int) < n by omega)
      have h2 := Int.emod_nonneg (-(a + 1)) (show (n : Int) ≠ 0 by omega)
      omega
    · have h2 := Int.emod_nonneg (-(a + 1)) (show (n : Int) ≠ 0 by omega)
      rw [Int.toNat_of_nonneg h2, ← Int.tmod_eq_emod_of_nonneg (by omega), Int.neg_tmod, Int.neg_neg]
  · refine ⟨(a % (n : Int)).toNat, ?_, .inr ⟨by omega, ?_⟩⟩
    · have h1 := Int.emod_lt_of_pos a (show (0 : Int) < n by omega)
      have h2 := Int.emod_nonneg a (show (n : Int) ≠ 0 by omega)
      omega
    · have h2 := Int.emod_nonneg a (show (n : Int) ≠ 0 by omega)
      omega
/-- What was lent: the bytes and behind them the room. -/
def lentD (n : Nat) (d : Nat → Nat) : Nat → Nat := fun j => if j < n then d j else 201
/-- Where the law stands: what came in is as it was; the blocks that it has made. -/
structure St (w w' : World) (n : Nat) (gs : List (Nat × (Nat → Nat))) : Prop where
  below : Below w.heap.size w w'
  owns : ∀ q ∈ gs, w.heap.size ≤ q.1 ∧ OwnA w' q.1 (n + 8) q.2
theorem St.start {w w' : World} {n : Nat} (h : Below w.heap.size w w') : St w w' n [] := ⟨h, by simp⟩
theorem St.keep {w w1 w2 : World} {n : Nat} {gs : List (Nat × (Nat → Nat))} (h : St w w1 n gs) (hb : Below w1.heap.size w1 w2) : St w w2 n gs :=
  ⟨h.below.trans (hb.mono h.below.size), fun q hq => ⟨(h.owns q hq).1, (h.owns q hq).2.below hb (h.owns q hq).2.lt⟩⟩
theorem St.lent {w w1 w2 : World} {n : Nat} {gs : List (Nat × (Nat → Nat))} (h : St w w1 n gs) {f : Nat → Nat} (hb : Below w1.heap.size w1 w2) (ho : OwnA w2 w1.heap.size (n + 8) f) : St w w2 n ((w1.heap.size, f) :: gs) :=
  ⟨(h.keep hb).below, fun q hq => by
    rcases List.mem_cons.1 hq with rfl | hq
    · exact ⟨h.below.size, ho⟩
    · exact (h.keep hb).owns q hq⟩
theorem St.own {w w' : World} {n : Nat} {gs : List (Nat × (Nat → Nat))} (h : St w w' n gs) (g : Nat) (f : Nat → Nat) (hq : (g, f) ∈ gs) : OwnA w' g (n + 8) f := (h.owns _ hq).2
/-- One byte put into a row. -/
def putD (f : Nat → Nat) (k v : Nat) : Nat → Nat := fun j => if j = k then v else f j
/-- Bytes of a number, put over bytes in a row. -/
def byteOf (y k : Nat) : Nat := y / 2 ^ (8 * k) % 256
theorem byteOf_lt (y k : Nat) : byteOf y k < 256 := Nat.mod_lt _ (by decide)
theorem byteOf_int (y k : Nat) : (y : Int) / 2 ^ (8 * k) % 256 = (byteOf y k : Int) := by unfold byteOf; simp
def turnD (f : Nat → Nat) (y p lo hi : Nat) : Nat → Nat := fun j => if p + lo ≤ j ∧ j < p + hi then f j ^^^ byteOf y (j - p) else f j
/-- A store into the block at the head; the others are others. -/
theorem St.set {w w' : World} {n g : Nat} {f : Nat → Nat} {gs : List (Nat × (Nat → Nat))} (h : St w w' n ((g, f) :: gs)) (hne : ∀ q ∈ gs, q.1 ≠ g) (k v : Nat) (hk : k < n + 8) (hv : v < 256) : St w (w'.setCell ⟨g, k, none⟩ (.int .u8 (v : Int))) n ((g, putD f k v) :: gs) := by
  have h1 := h.owns _ (List.mem_cons_self ..)
  refine ⟨h.below.setCell h1.1 _, fun q hq => ?_⟩
  rcases List.mem_cons.1 hq with rfl | hq
  · exact ⟨h1.1, h1.2.set k v hk hv⟩
  · have h2 := h.owns q (List.mem_cons_of_mem _ hq)
    exact ⟨h2.1, h2.2.keep (Below.heap_setCell _ _ _ _ (hne q hq))⟩
theorem St.drew {w w' : World} {n : Nat} {gs : List (Nat × (Nat → Nat))} (h : St w w' n gs) : St w w'.drew n gs := ⟨h.below.drew, fun q hq => ⟨(h.owns q hq).1, (h.owns q hq).2.keep rfl⟩⟩
theorem St.ext {w w' : World} {n g : Nat} {f f' : Nat → Nat} {gs : List (Nat × (Nat → Nat))} (h : St w w' n ((g, f) :: gs)) (e : ∀ j, j < n + 8 → f j = f' j) : St w w' n ((g, f') :: gs) :=
  ⟨h.below, fun q hq => by
    rcases List.mem_cons.1 hq with rfl | hq
    · exact ⟨(h.owns _ (List.mem_cons_self ..)).1, (h.owns _ (List.mem_cons_self ..)).2.ext e⟩
    · exact h.owns q (List.mem_cons_of_mem _ hq)⟩

theorem u8_nat {x : Int} (h : (Lit.int .u8 x).wf = true) : ∃ k : Nat, x = k ∧ k < 256 := by
  simp [Lit.wf, IntKind.min, IntKind.max, IntKind.signed, IntKind.bits] at h
  exact ⟨x.toNat, by omega, by omega⟩
theorem u32_nat {x : Int} (h : (Lit.int .u32 x).wf = true) : ∃ k : Nat, x = k ∧ k < 4294967296 := by
  simp [Lit.wf, IntKind.min, IntKind.max, IntKind.signed, IntKind.bits] at h
  exact ⟨x.toNat, by omega, by omega⟩
theorem sum_own (g n z : Nat) (f : Nat → Nat) (w : World) (hz : z = w.heap.size) (hn : n ≤ 140737488351232) (ho : OwnA w g (n + 8) f) :
    Calls Tryd.prog 14 #[.slice (some ⟨z, 0, none⟩) 1 1] (w.alloc (.cells #[.slice (some ⟨g, 0, none⟩) n (n + 8)] 28)) fun e w' => e = .returned (.int .i64 (sumRow 0 f n : Int)) ∧ w' = w.alloc (.cells #[.slice (some ⟨g, 0, none⟩) n (n + 8)] 28) := hz ▸
  Sum_any w.heap.size 0 1 1 (fun _ => n) (fun _ => f) _ (by decide) ⟨fun i hi => by
    obtain rfl : i = 0 := by omega
    refine ⟨some ⟨g, 0, none⟩, n + 8, ?_, Nat.le_trans hn (by decide), .inr ⟨g, 0, rfl, (ho.below ((Below.refl _ w).alloc (Nat.le_refl _) _) ho.lt).row (by omega)⟩⟩
    have h : (w.alloc (.cells #[.slice (some ⟨g, 0, none⟩) n (n + 8)] 28)).heap[w.heap.size]? = some (.cells #[.slice (some ⟨g, 0, none⟩) n (n + 8)] 28 (0, 0)) := Array.getElem?_push_size
    simp only [World.cell?, h]
    rfl⟩
theorem crc_own (g n : Nat) (f : Nat → Nat) (w : World) (hn : n ≤ 140737488351232) (ho : OwnA w g (n + 8) f) :
    Calls Tryd.prog 15 #[.slice (some ⟨g, 0, none⟩) n (n + 8)] w fun e w' => e = .returned (.int .u32 (crcEnd (crcRow f n) : Int)) ∧ w' = w :=
  Crc_any g 0 n (n + 8) f w (Nat.le_trans hn (by decide)) (ho.row (by omega))

theorem tells_one {n p x : Nat} {f f1 : Nat → Nat} (hp : p < n) (hb : ∀ j, j < n → f j < 256) (hx : x < 256) (h1 : f1 p = f p ^^^ x) (h2 : ∀ j, j ≠ p → f1 j = f j) (h0 : x ≠ 0) : sumRow 0 f1 n ≠ sumRow 0 f n ∧ crcEnd (crcRow f1 n) ≠ crcEnd (crcRow f n) := by
  have hb1 : ∀ j, j < n → f1 j < 256 ∧ f j < 256 := fun j hj => by
    refine ⟨?_, hb j hj⟩
    by_cases e : j = p
    · rw [e, h1]; exact Nat.xor_lt_two_pow (n := 8) (hb p hp) hx
    · rw [h2 j e]; exact hb j hj
  have hne : f1 p ≠ f p := fun e => h0 (xor_right_eq (c := f p) (by rw [← h1, e, Nat.xor_zero]))
  exact ⟨sum_tells_one (by decide) hp hb1 (fun j _ e => h2 j e) hne, fun e => crc_tells_one hp hb1 (fun j _ e => h2 j e) hne (crcEnd_inj e)⟩
theorem tells_four {n p y : Nat} {f : Nat → Nat} (hp : p + 4 ≤ n) (hb : ∀ j, j < n → f j < 256) (hy : y < 4294967296) (h0 : y ≠ 0) : crcEnd (crcRow (turnD f y p 0 4) n) ≠ crcEnd (crcRow f n) := fun e => by
  have h := crc_tells_four (d := turnD f y p 0 4) (f := f) (p := p) (n := n) hp (fun j hj => ⟨by
    unfold turnD; split
    · exact Nat.xor_lt_two_pow (n := 8) (hb j hj) (byteOf_lt _ _)
    · exact hb j hj, hb j hj⟩) (fun j hj e => by unfold turnD; rw [if_neg (by omega)]) (crcEnd_inj e)
  have z : ∀ k, k < 4 → turnD f y p 0 4 (p + k) = f (p + k) → byteOf y k = 0 := fun k hk e => by
    unfold turnD at e
    rw [if_pos (by omega), show p + k - p = k by omega] at e
    exact xor_right_eq (c := f (p + k)) (by rw [e, Nat.xor_zero])
  have z0 := z 0 (by omega) h.1
  have z1 := z 1 (by omega) h.2.1
  have z2 := z 2 (by omega) h.2.2.1
  have z3 := z 3 (by omega) h.2.2.2
  unfold byteOf at z0 z1 z2 z3
  simp at z0 z1 z2 z3
  omega

set_option maxRecDepth 100000 in
set_option maxHeartbeats 1000000 in
theorem NumTells_law (a : Option Addr) (n cap : Nat) (d : Nat → Nat) (hn : n ≤ 140737488351232) (at_ : Int) (hat : (Lit.int .i64 at_).wf = true) (x : Int) (hx : (Lit.int .u8 x).wf = true) (y : Int) (hy : (Lit.int .u32 y).wf = true) (w : World) (hs : Src w a n d) (htab : TabIs Tryd.prog w "internal/strconv.uint64pow10" .u64 pow10Tab) :
    Calls Tryd.prog 4 #[.slice a n cap, .int .i64 at_, .int .u8 x, .int .u32 y] w fun e w' => e = .returned (.bool true) ∧ Below w.heap.size w w' := by
  obtain ⟨a0, a1⟩ := bounds_i64 hat
  obtain ⟨x, rfl, hx8⟩ := u8_nat hx
  obtain ⟨y, rfl, hy32⟩ := u32_nat hy
  clear hat hx hy
  go_enter Tryd.func4, Tryd.ntmps4
  go_wp2_with (go_at_call 9; fail)
  refine (shown_any _ htab).mono ?_
  rintro e w1 ⟨rfl, hb1⟩
  have HS0 : Hid (Src w a n d) := hs
  have HS1 : Hid (Src w1 a n d ∧ Below w.heap.size w w1) := ⟨hs.below hb1, hb1⟩
  clear hs hb1 htab
  by_cases h0 : n = 0
  · subst h0
    go_wp2
    go_ret
    exact ⟨rfl, HS1.out.2⟩
  · have h0' : ¬ (n : Int) = 0 := by omega
    obtain ⟨p, hp, hat⟩ := at_place at_ n h0 a0 a1
    rcases hat with ⟨hsg, hat⟩ | ⟨hsg, hat⟩
    all_goals
      go_wp2_with (go_at_call 13; fail)
      refine (lent_any a n cap d _ hn HS1.out.1).mono ?_
      rintro e w2 ⟨rfl, ho2, hb2⟩
      have HS2 : Hid (St w w2 n [(w1.heap.size, lentD n d)]) := (St.start HS1.out.2).lent hb2 ho2
      clear ho2 hb2
      have HG1 : Hid (w.heap.size ≤ w1.heap.size) := HS1.out.2.size
      generalize w1.heap.size = g1 at *
      clear HS1
      go_wp2_with (go_at_call 14; fail)
      refine (sum_own g1 n _ _ w2 rfl hn (HS2.out.own g1 (lentD n d) (by simp))).mono ?_
      rintro e w3 ⟨rfl, hw3⟩
      have HS3 : Hid (St w w3 n [(g1, lentD n d)]) := by subst hw3; exact HS2.out.keep ((Below.refl _ _).alloc (Nat.le_refl _) _)
      clear hw3 HS2
      go_wp2_with (go_at_call 15; fail)
      refine (crc_own g1 n _ w3 hn (HS3.out.own g1 (lentD n d) (by simp))).mono ?_
      rintro e w3 ⟨rfl, rfl⟩
      go_wp2_with (go_at_call 13; fail)
      refine (lent_any a n cap d _ hn (HS0.out.below HS3.out.below)).mono ?_
      rintro e w4 ⟨rfl, ho4, hb4⟩
      have HS4 : Hid (St w w4 n [(w3.heap.size, lentD n d), (g1, lentD n d)]) := HS3.out.lent hb4 ho4
      have HG2 : Hid (g1 < w3.heap.size) := (HS3.out.own g1 (lentD n d) (by simp)).lt
      clear ho4 hb4
      generalize w3.heap.size = g2 at *
      clear HS3
      have hpl : p < n + 8 := by omega
      have hpl' : (p : Int) < (n : Int) + 8 := by omega
      have HE : Hid (lentD n d p = d p ∧ lentD n d p < 256) := ⟨if_pos hp, (HS4.out.own g2 (lentD n d) (by simp)).val p hpl⟩
      have hc := (HS4.out.own g2 (lentD n d) (by simp)).cell p hpl
      have hf := (HS4.out.own g2 (lentD n d) (by simp)).froz p
      have hx1 := u8_xor_nat (lentD n d p) x HE.out.2 hx8
      have HS5 : Hid (St w (w4.setCell ⟨g2, p, none⟩ (.int .u8 ((lentD n d p ^^^ x : Nat) : Int))) n [(g2, putD (lentD n d) p (lentD n d p ^^^ x)), (g1, lentD n d)]) := HS4.out.set (fun q hq => by have := HG2.out; simp at hq; subst hq; exact Nat.ne_of_lt this) p _ hpl (Nat.xor_lt_two_pow (n := 8) HE.out.2 hx8)
      have HZ5 : Hid (w4.heap.size = (w4.setCell ⟨g2, p, none⟩ (.int .u8 ((lentD n d p ^^^ x : Nat) : Int))).heap.size) := by show _ = _; simp
      go_wp2_with (go_at_call 14; fail)
      clear hc hf HS4
      generalize w4.setCell ⟨g2, p, none⟩ (.int .u8 ((lentD n d p ^^^ x : Nat) : Int)) = w5 at *
      have HF : Hid (putD (lentD n d) p (lentD n d p ^^^ x) p = lentD n d p ^^^ x ∧ ∀ j, j ≠ p → putD (lentD n d) p (lentD n d p ^^^ x) j = lentD n d j) := ⟨if_pos rfl, fun j hj => if_neg hj⟩
      refine (sum_own g2 n _ _ w5 HZ5.out hn (HS5.out.own g2 (putD (lentD n d) p (lentD n d p ^^^ x)) (by simp))).mono ?_
      rintro e w6 ⟨rfl, hw6⟩
      have HS6 : Hid (St w w6 n [(g2, putD (lentD n d) p (lentD n d p ^^^ x)), (g1, lentD n d)]) := by subst hw6; exact HS5.out.keep ((Below.refl _ _).alloc (Nat.le_refl _) _)
      clear hw6 HS5 HZ5
      go_wp2_with (go_at_call 15; fail)
      refine (crc_own g2 n _ w6 hn (HS6.out.own g2 (putD (lentD n d) p (lentD n d p ^^^ x)) (by simp))).mono ?_
      rintro e w6 ⟨rfl, rfl⟩
      have hc := (HS6.out.own g2 (putD (lentD n d) p (lentD n d p ^^^ x)) (by simp)).cell p hpl
      rw [HF.out.1] at hc
      have hf := (HS6.out.own g2 (putD (lentD n d) p (lentD n d p ^^^ x)) (by simp)).froz p
      have hx2 : bits .xor .u8 ((lentD n d p ^^^ x : Nat) : Int) (x : Int) = (lentD n d p : Int) := by
        rw [u8_xor_nat _ x (Nat.xor_lt_two_pow (n := 8) HE.out.2 hx8) hx8, xor_back]
      have HS7 : Hid (St w (w6.setCell ⟨g2, p, none⟩ (.int .u8 (lentD n d p : Int))) n [(g2, lentD n d), (g1, lentD n d)]) := (HS6.out.set (fun q hq => by have := HG2.out; simp at hq; subst hq; exact Nat.ne_of_lt this) p _ hpl HE.out.2).ext fun j hj => by
        show (if j = p then lentD n d p else if j = p then _ else lentD n d j) = lentD n d j
        by_cases e : j = p
        · rw [if_pos e, e]
        · rw [if_neg e, if_neg e]
      generalize putD (lentD n d) p (lentD n d p ^^^ x) = f1 at *
      go_wp2_with (go_at_call 13; fail)
      clear hc hf HS6
      generalize w6.setCell ⟨g2, p, none⟩ (.int .u8 (lentD n d p : Int)) = w7 at *
      refine (lent_any a n cap d _ hn (HS0.out.below HS7.out.below)).mono ?_
      rintro e w8 ⟨rfl, ho8, hb8⟩
      have HS8 : Hid (St w w8 n [(w7.heap.size, lentD n d), (g2, lentD n d), (g1, lentD n d)]) := HS7.out.lent hb8 ho8
      have HG3 : Hid (g2 < w7.heap.size) := (HS7.out.own g2 (lentD n d) (by simp)).lt
      clear ho8 hb8
      generalize w7.heap.size = g3 at *
      clear HS7
      by_cases h4 : p + 4 ≤ n
      · have h4' : (p : Int) + 4 ≤ (n : Int) := by omega
        go_wp2
        go_loopw [17] (fun i wr => ∃ k : Nat, k ≤ 4 ∧ i = .int .i64 k ∧ St w wr n [(g3, turnD (lentD n d) y p 0 k), (g2, lentD n d), (g1, lentD n d)]) (fun i _ => 4 - (RowKit.intOf i).toNat)
        case atStart => exact ⟨0, by omega, rfl, HS8.out.ext fun j hj => by unfold turnD; rw [if_neg (by omega)]⟩
        case round =>
          obtain ⟨k, hk, rfl, hst⟩ := hrel
          clear HS8
          have HS9 : Hid (St w wr n [(g3, turnD (lentD n d) y p 0 k), (g2, lentD n d), (g1, lentD n d)]) := hst
          clear hst
          by_cases hk4 : k < 4
          · have hk4' : (k : Int) < 4 := by omega
            have hpk : (p : Int) + (k : Int) < (n : Int) + 8 := by omega
            have hc := (HS9.out.own g3 (turnD (lentD n d) y p 0 k) (by simp)).cell (p + k) (by omega)
            have hf := (HS9.out.own g3 (turnD (lentD n d) y p 0 k) (by simp)).froz (p + k)
            rw [show turnD (lentD n d) y p 0 k (p + k) = lentD n d (p + k) by unfold turnD; rw [if_neg (by omega)]] at hc
            have HV : Hid (lentD n d (p + k) < 256) := (HS9.out.own g1 (lentD n d) (by simp)).val (p + k) (by omega)
            have hbx : bits .xor .u8 (lentD n d (p + k) : Int) ((y : Int) / 2 ^ (8 * k) % 256) = ((lentD n d (p + k) ^^^ byteOf y k : Nat) : Int) := by
              rw [byteOf_int]; exact u8_xor_nat _ _ HV.out (byteOf_lt y k)
            go_wp2
            go_region
            go_wp2
            go_roundw
            case rel =>
              refine ⟨k + 1, by omega, by go_num, ((HS9.out.set (fun q hq => by have := HG2.out; have := HG3.out; simp at hq; rcases hq with rfl | rfl <;> (show _ ≠ _) <;> omega) (p + k) (lentD n d (p + k) ^^^ byteOf y k) (by omega) (Nat.xor_lt_two_pow (n := 8) HV.out (byteOf_lt y k))).ext fun j hj => ?_).drew⟩
              unfold putD turnD
              by_cases e : j = p + k
              · rw [if_pos e, if_pos (by omega), e, show p + k - p = k by omega]
              · rw [if_neg e]
                by_cases e2 : p + 0 ≤ j ∧ j < p + k
                · rw [if_pos e2, if_pos (by omega)]
                · rw [if_neg e2, if_neg (by omega)]
            case measure => simp [RowKit.intOf]; omega
          · obtain rfl : k = 4 := by omega
            go_wp2_with (go_at_call 15; fail)
            refine (crc_own g3 n _ wr hn (HS9.out.own g3 (turnD (lentD n d) y p 0 4) (by simp))).mono ?_
            rintro e w9 ⟨rfl, rfl⟩
            go_wp2
            go_loopw [19] (fun i wr => ∃ k : Nat, k ≤ 4 ∧ i = .int .i64 k ∧ St w wr n [(g3, turnD (lentD n d) y p k 4), (g2, lentD n d), (g1, lentD n d)]) (fun i _ => 4 - (RowKit.intOf i).toNat)
            case atStart => exact ⟨0, by omega, rfl, HS9.out⟩
            case round =>
              obtain ⟨k, hk, rfl, hst⟩ := hrel
              clear HS9
              have HS10 : Hid (St w wr n [(g3, turnD (lentD n d) y p k 4), (g2, lentD n d), (g1, lentD n d)]) := hst
              clear hst
              by_cases hk4 : k < 4
              · have hk4' : (k : Int) < 4 := by omega
                have hpk : (p : Int) + (k : Int) < (n : Int) + 8 := by omega
                have hc := (HS10.out.own g3 (turnD (lentD n d) y p k 4) (by simp)).cell (p + k) (by omega)
                have hf := (HS10.out.own g3 (turnD (lentD n d) y p k 4) (by simp)).froz (p + k)
                rw [show turnD (lentD n d) y p k 4 (p + k) = lentD n d (p + k) ^^^ byteOf y k by unfold turnD; rw [if_pos (by omega), show p + k - p = k by omega]] at hc
                have HV : Hid (lentD n d (p + k) < 256) := (HS10.out.own g1 (lentD n d) (by simp)).val (p + k) (by omega)
                have hbx : bits .xor .u8 ((lentD n d (p + k) ^^^ byteOf y k : Nat) : Int) ((y : Int) / 2 ^ (8 * k) % 256) = (lentD n d (p + k) : Int) := by
                  rw [byteOf_int, u8_xor_nat _ _ (Nat.xor_lt_two_pow (n := 8) HV.out (byteOf_lt y k)) (byteOf_lt y k), xor_back]
                go_wp2
                go_region
                go_wp2
                go_roundw
                case rel =>
                  refine ⟨k + 1, by omega, by go_num, ((HS10.out.set (fun q hq => by have := HG2.out; have := HG3.out; simp at hq; rcases hq with rfl | rfl <;> (show _ ≠ _) <;> omega) (p + k) (lentD n d (p + k)) (by omega) HV.out).ext fun j hj => ?_).drew⟩
                  unfold putD turnD
                  by_cases e : j = p + k
                  · rw [if_pos e, if_neg (by omega), e]
                  · rw [if_neg e]
                    by_cases e2 : p + k ≤ j ∧ j < p + 4
                    · rw [if_pos e2, if_pos (by omega)]
                    · rw [if_neg e2, if_neg (by omega)]
                case measure => simp [RowKit.intOf]; omega
              · obtain rfl : k = 4 := by omega
                have HS11 : Hid (St w wr n [(g3, lentD n d), (g2, lentD n d), (g1, lentD n d)]) := HS10.out.ext fun j hj => by unfold turnD; rw [if_neg (by omega)]
                clear HS10
                go_wp2_with (go_at_call 16; fail)
                refine (still_any g1 n _ a _ d _ hn (HS0.out.below HS11.out.below) (HS11.out.own g1 (lentD n d) (by simp))).mono ?_
                rintro e w10 ⟨rfl, hb10⟩
                have HS12 : Hid (St w w10 n [(g3, lentD n d), (g2, lentD n d), (g1, lentD n d)]) := HS11.out.keep hb10
                clear HS11 hb10
                go_wp2_with (go_at_call 16; fail)
                refine (still_any g2 n _ a _ d _ hn (HS0.out.below HS12.out.below) (HS12.out.own g2 (lentD n d) (by simp))).mono ?_
                rintro e w11 ⟨rfl, hb11⟩
                have HS13 : Hid (St w w11 n [(g3, lentD n d), (g2, lentD n d), (g1, lentD n d)]) := HS12.out.keep hb11
                clear HS12 hb11
                go_wp2_with (go_at_call 16; fail)
                refine (still_any g3 n _ a _ d _ hn (HS0.out.below HS13.out.below) (HS13.out.own g3 (lentD n d) (by simp))).mono ?_
                rintro e w12 ⟨rfl, hb12⟩
                have HS14 : Hid (St w w12 n [(g3, lentD n d), (g2, lentD n d), (g1, lentD n d)]) := HS13.out.keep hb12
                clear HS13 hb12
                have HA : Hid (x ≠ 0 → sumRow 0 f1 n ≠ sumRow 0 (lentD n d) n ∧ crcEnd (crcRow f1 n) ≠ crcEnd (crcRow (lentD n d) n)) := tells_one hp (fun j hj => (HS14.out.own g1 (lentD n d) (by simp)).val j (by omega)) hx8 HF.out.1 HF.out.2
                have HB : Hid (y ≠ 0 → crcEnd (crcRow (turnD (lentD n d) y p 0 4) n) ≠ crcEnd (crcRow (lentD n d) n)) := tells_four h4 (fun j hj => (HS14.out.own g1 (lentD n d) (by simp)).val j (by omega)) hy32
                generalize crcEnd (crcRow (turnD (lentD n d) y p 0 4) n) = c4 at *
                generalize crcEnd (crcRow (lentD n d) n) = c0 at *
                generalize crcEnd (crcRow f1 n) = c1 at *
                generalize sumRow 0 (lentD n d) n = s0 at *
                generalize sumRow 0 f1 n = s1 at *
                have HBl : Hid (Below w.heap.size w w12) := HS14.out.below
                clear HS14 HS0 HF HE hx1 hx2
                go_wp2_with (fail)
                all_goals go_ret
                all_goals refine ⟨?_, HBl.out⟩
                all_goals have hA := HA.out
                all_goals have hB := HB.out
                all_goals clear HA HB HBl
                all_goals first
                  | rfl
                  | (have e : (s1 : Int) = (s0 : Int) := by assumption
                     have h := (hA (by assumption)).1
                     omega)
                  | (have key : ((x : Int) != 0) = true ∧ (((s1 : Int) == (s0 : Int)) = true ∨ ((c1 : Int) == (c0 : Int)) = true) := by assumption
                     have h := hA (by assumption)
                     rcases key.2 with k2 | k2
                     · have e : (s1 : Int) = (s0 : Int) := eq_of_beq k2
                       omega
                     · have e : (c1 : Int) = (c0 : Int) := eq_of_beq k2
                       omega)
                  | (have h := hB (by assumption)
                     show Ending.returned (.bool (decide ((n : Int) < (p : Int) + 4) || (y : Int) == 0 || (c4 : Int) != (c0 : Int))) = .returned (.bool true)
                     rw [show ((c4 : Int) != (c0 : Int)) = true by simp; omega, Bool.or_true])
      · have h4d : decide ((p : Int) + 4 ≤ (n : Int)) = false := decide_eq_false (by omega)
        have h4e : decide (p + 4 ≤ n) = false := decide_eq_false (by omega)
        have h4t : (n : Int) < (p : Int) + 4 := by omega
        go_wp2
        refine wp_loop_rounds 1 ?_
        rw [rounds_succ]
        go_wp2_with (go_at_call 15; fail)
        refine (crc_own g3 n _ w8 hn (HS8.out.own g3 (lentD n d) (by simp))).mono ?_
        rintro e w9 ⟨rfl, rfl⟩
        have HS11 := HS8
        clear HS8
        go_wp2
        refine wp_loop_rounds 1 ?_
        rw [rounds_succ]
        go_wp2_with (go_at_call 16; fail)
        refine (still_any g1 n _ a _ d _ hn (HS0.out.below HS11.out.below) (HS11.out.own g1 (lentD n d) (by simp))).mono ?_
        rintro e w10 ⟨rfl, hb10⟩
        have HS12 : Hid (St w w10 n [(g3, lentD n d), (g2, lentD n d), (g1, lentD n d)]) := HS11.out.keep hb10
        clear HS11 hb10
        go_wp2_with (go_at_call 16; fail)
        refine (still_any g2 n _ a _ d _ hn (HS0.out.below HS12.out.below) (HS12.out.own g2 (lentD n d) (by simp))).mono ?_
        rintro e w11 ⟨rfl, hb11⟩
        have HS13 : Hid (St w w11 n [(g3, lentD n d), (g2, lentD n d), (g1, lentD n d)]) := HS12.out.keep hb11
        clear HS12 hb11
        go_wp2_with (go_at_call 16; fail)
        refine (still_any g3 n _ a _ d _ hn (HS0.out.below HS13.out.below) (HS13.out.own g3 (lentD n d) (by simp))).mono ?_
        rintro e w12 ⟨rfl, hb12⟩
        have HS14 : Hid (St w w12 n [(g3, lentD n d), (g2, lentD n d), (g1, lentD n d)]) := HS13.out.keep hb12
        clear HS13 hb12
        have HA : Hid (x ≠ 0 → sumRow 0 f1 n ≠ sumRow 0 (lentD n d) n ∧ crcEnd (crcRow f1 n) ≠ crcEnd (crcRow (lentD n d) n)) := tells_one hp (fun j hj => (HS14.out.own g1 (lentD n d) (by simp)).val j (by omega)) hx8 HF.out.1 HF.out.2
        generalize crcEnd (crcRow (lentD n d) n) = c0 at *
        generalize crcEnd (crcRow f1 n) = c1 at *
        generalize sumRow 0 (lentD n d) n = s0 at *
        generalize sumRow 0 f1 n = s1 at *
        have HBl : Hid (Below w.heap.size w w12) := HS14.out.below
        clear HS14 HS0 HF HE hx1 hx2
        go_wp2_with (fail)
        all_goals go_ret
        all_goals refine ⟨?_, HBl.out⟩
        all_goals have hA := HA.out
        all_goals clear HA HBl
        all_goals first
          | rfl
          | (have e : (s1 : Int) = (s0 : Int) := by assumption
             have h := (hA (by assumption)).1
             omega)
          | (have key : ((x : Int) != 0) = true ∧ (((s1 : Int) == (s0 : Int)) = true ∨ ((c1 : Int) == (c0 : Int)) = true) := by assumption
             have h := hA (by assumption)
             rcases key.2 with k2 | k2
             · have e : (s1 : Int) = (s0 : Int) := eq_of_beq k2
               omega
             · have e : (c1 : Int) = (c0 : Int) := eq_of_beq k2
               omega)
end Go.Proofs.YtochdjdkfmdgeaaDoor
