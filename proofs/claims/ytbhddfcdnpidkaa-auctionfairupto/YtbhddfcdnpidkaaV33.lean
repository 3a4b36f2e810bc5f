/-
  auction's law: how much of an order was filled; who stands ahead; whether two lists of fills are one.
-/
import Derived.Test.YtbhddfcdnpidkaaV32
import Derived.Test.YtbhddfcdnpidkaaV31
namespace Go.Proofs.Ytbhddfcdnpidkaa
set_option linter.unusedVariables false
set_option linter.unusedSimpArgs false
open Go.RowKit Go.Great

theorem flL_len (f : Fl) : (flL f).length = 5 := rfl
theorem fl_cell {w : World} {g of c n i j : Nat} {l : List Fl} {f : Fl} {u : Value} (h : RowAt w 39 5 (.slice (some ⟨g, of, none⟩) n c) n (flatL flL l)) (hf : l[i]? = some f) (hj : j < 5) (hu : (flL f)[j]? = some u) : w.cell? ⟨g, of + i * 5 + j, none⟩ = some u := by
  have := h.cell rfl (j := i * 5 + j) (u := u) (by rw [flatL_get flL_len hf hj]; exact hu)
  rw [← Nat.add_assoc] at this
  exact this
theorem gotF_app (buy : Bool) (i : Int) : ∀ (a b : List Fl), gotF buy i (a ++ b) = gotF buy i a + gotF buy i b
  | [], _ => by simp [gotF]
  | f :: a, b => by simp only [List.cons_append, gotF, gotF_app buy i a b]; omega
theorem gotF_take {buy : Bool} {i : Int} {l : List Fl} {k : Nat} {f : Fl} (h : l[k]? = some f) : gotF buy i (l.take (k + 1)) = gotF buy i (l.take k) + (if (if buy = true then f.b else f.s) = i then f.q else 0) := by
  rw [List.take_add_one, h, gotF_app]
  simp [gotF]
theorem totF_app : ∀ (a b : List Fl), totF (a ++ b) = totF a + totF b
  | [], _ => by simp [totF]
  | f :: a, b => by simp only [List.cons_append, totF, totF_app a b]; omega
theorem totF_take {l : List Fl} {k : Nat} {f : Fl} (h : l[k]? = some f) : totF (l.take (k + 1)) = totF (l.take k) + f.q := by
  rw [List.take_add_one, h, totF_app]
  simp [totF]
theorem totF_bd : ∀ {l : List Fl}, (∀ f ∈ l, 1 ≤ f.q ∧ f.q ≤ 1000000) → 0 ≤ totF l ∧ totF l ≤ l.length * 1000000
  | [], _ => by simp [totF]
  | f :: l, h => by
    have := totF_bd (l := l) fun x hx => h x (List.mem_cons_of_mem _ hx)
    have := h f List.mem_cons_self
    simp only [totF, List.length_cons]
    omega
theorem gotF_bd {buy : Bool} {i : Int} : ∀ {l : List Fl}, (∀ f ∈ l, 1 ≤ f.q ∧ f.q ≤ 1000000) → 0 ≤ gotF buy i l ∧ gotF buy i l ≤ l.length * 1000000
  | [], _ => by simp [gotF]
  | f :: l, h => by
    have := gotF_bd (buy := buy) (i := i) (l := l) fun x hx => h x (List.mem_cons_of_mem _ hx)
    have := h f List.mem_cons_self
    simp only [gotF, List.length_cons]
    split <;> omega
theorem take_q {l : List Fl} {k : Nat} (h : ∀ f ∈ l, 1 ≤ f.q ∧ f.q ≤ 1000000) : ∀ f ∈ l.take k, 1 ≤ f.q ∧ f.q ≤ 1000000 := fun f hf => h f ((List.take_prefix k l).subset hf)
set_option maxRecDepth 100000 in
theorem tradedL_any {w : World} {F : List Fl} {a : Option Addr} {c : Nat} (hr : RowAt w 39 5 (.slice a F.length c) F.length (flatL flL F)) (hq : ∀ f ∈ F, 1 ≤ f.q ∧ f.q ≤ 1000000) (hl : F.length ≤ 1000000000000) (id : Int) (buy : Bool) :
    Calls Try.prog 35 #[.slice a F.length c, .int .i64 id, .bool buy] w fun e w' => e = .returned (.int .i64 (gotF buy id F)) ∧ w' = w := by
  obtain ⟨n, hn⟩ : ∃ n, n = F.length := ⟨_, rfl⟩
  have HR : Hid (RowAt w 39 5 (.slice a n c) n (flatL flL F) ∧ (∀ f ∈ F, 1 ≤ f.q ∧ f.q ≤ 1000000) ∧ n = F.length) := ⟨by rw [hn]; exact hr, hq, hn⟩
  obtain ⟨R, hR⟩ : ∃ R, R = gotF buy id F := ⟨_, rfl⟩
  have HB : Hid (R = gotF buy id F) := hR
  rw [← hn] at hl ⊢
  rw [← hR]
  clear hr hq hn hR
  go_enter Try.func35, Try.ntmps35
  go_upto_region 3 with fail
  go_loopw [7, 8] (fun x7 x8 wr => ∃ (i : Nat) (s : Int), i ≤ n ∧ x7 = .int .i64 s ∧ x8 = .int .i64 (i : Int) ∧ wr = w ∧ Hid (s = gotF buy id (F.take i))) (fun _ x8 _ => n - (RowKit.intOf x8).toNat)
  case atStart => exact ⟨0, 0, Nat.zero_le _, rfl, rfl, rfl, rfl⟩
  case round =>
    obtain ⟨i, s, hi, rfl, rfl, hw, HA⟩ := hrel
    subst hw
    by_cases hlt : i < n
    · have hlt' : (i : Int) < (n : Int) := by omega
      obtain ⟨f, hf⟩ : ∃ f, F[i]? = some f := ⟨_, List.getElem?_eq_getElem (by rw [← HR.out.2.2]; exact hlt)⟩
      obtain ⟨g, of, c', cur, ea, _⟩ := HR.out.1.more (by omega)
      injection ea with ea1 _ ea2
      subst ea1 ea2
      have q0 := fl_cell HR.out.1 hf (j := 0) (by decide) rfl
      rw [Nat.add_zero] at q0
      have q1 := fl_cell HR.out.1 hf (j := 1) (by decide) rfl
      have q4 := fl_cell HR.out.1 hf (j := 4) (by decide) rfl
      have hb := gotF_bd (buy := buy) (i := id) (take_q (k := i) HR.out.2.1)
      have hlen : (F.take i).length ≤ i := by rw [List.length_take]; omega
      have hfq := HR.out.2.1 f (List.mem_of_getElem? hf)
      rw [← HA.out] at hb
      have hs : IntKind.i64.wrap (s + f.q) = s + f.q := by rw [IntKind.wrap_i64]; omega
      have hS := gotF_take (buy := buy) (i := id) hf
      rw [← HA.out] at hS
      have HS : Hid (gotF buy id (F.take (i + 1)) = s + (if (if buy = true then f.b else f.s) = id then f.q else 0)) := hS
      clear HA hb hlen hfq hf hS HB
      generalize f.q = fq at *
      cases buy with
      | true =>
        by_cases he : f.b = id
        · have e1 : (f.b == id) = true := by simp [he]
          have HS2 : Hid (s + fq = gotF true id (F.take (i + 1))) := by
            show _ = _
            rw [HS.out]; simp [he]
          clear HS
          generalize f.b = fb at *
          go_wp2
          exact ⟨⟨i + 1, _, by omega, rfl, by go_num, by first | rfl | trivial, HS2.out⟩, by simp [RowKit.intOf]; omega⟩
        · have e1 : (f.b == id) = false := by simp [he]
          have HS2 : Hid (s = gotF true id (F.take (i + 1))) := by
            show _ = _
            rw [HS.out]; simp [he]
          clear HS
          generalize f.b = fb at *
          go_wp2
          exact ⟨⟨i + 1, _, by omega, rfl, by go_num, by first | rfl | trivial, HS2.out⟩, by simp [RowKit.intOf]; omega⟩
      | false =>
        by_cases he : f.s = id
        · have e1 : (f.s == id) = true := by simp [he]
          have HS2 : Hid (s + fq = gotF false id (F.take (i + 1))) := by
            show _ = _
            rw [HS.out]; simp [he]
          clear HS
          generalize f.s = fs at *
          go_wp2
          exact ⟨⟨i + 1, _, by omega, rfl, by go_num, by first | rfl | trivial, HS2.out⟩, by simp [RowKit.intOf]; omega⟩
        · have e1 : (f.s == id) = false := by simp [he]
          have HS2 : Hid (s = gotF false id (F.take (i + 1))) := by
            show _ = _
            rw [HS.out]; simp [he]
          clear HS
          generalize f.s = fs at *
          go_wp2
          exact ⟨⟨i + 1, _, by omega, rfl, by go_num, by first | rfl | trivial, HS2.out⟩, by simp [RowKit.intOf]; omega⟩
    · have hin : i = n := by omega
      have hf : R = s := by
        rw [HB.out, HA.out, hin, HR.out.2.2, List.take_length]
      have hlt' : ¬ (i : Int) < (n : Int) := by omega
      clear HA HB
      subst hf
      go_wp2
      go_ret
      exact ⟨rfl, rfl⟩
set_option maxRecDepth 100000 in
theorem betterL_any {w : World} {a b : Od} (ha : a.ok) (hb : b.ok) (buy : Bool) :
    Calls Try.prog 36 #[.agg a.cs, .agg b.cs, .bool buy] w fun e w' => e = .returned (.bool (betR buy a b)) ∧ Below w.heap.size w w' := by
  have H0 : Hid (Below w.heap.size w ((w.alloc (.cells a.cs 42)).alloc (.cells b.cs 42)) ∧ Blk ((w.alloc (.cells a.cs 42)).alloc (.cells b.cs 42)) w.heap.size 42 a.cs ∧ Blk ((w.alloc (.cells a.cs 42)).alloc (.cells b.cs 42)) (w.alloc (.cells a.cs 42)).heap.size 42 b.cs) :=
    ⟨below_step ((Below.refl _ w).alloc (Nat.le_refl _) _) ((Below.refl _ _).alloc (Nat.le_refl _) _), (Blk.new w _ _).alloc _, Blk.new _ _ _⟩
  have HO : Hid (a.ok ∧ b.ok) := ⟨ha, hb⟩
  obtain ⟨R, hR⟩ : ∃ R, R = betR buy a b := ⟨_, rfl⟩
  have HB : Hid (R = betR buy a b) := hR
  rw [← hR]
  clear ha hb hR
  go_enter Try.func36, Try.ntmps36
  go_upto_region 1 with fail
  have hz : (w.alloc (.cells a.cs 42)).heap.size = w.heap.size + 1 := World.size_alloc _ _
  rw [hz] at H0
  generalize (w.alloc (.cells a.cs 42)).alloc (.cells b.cs 42) = w2 at *
  generalize w.heap.size + 1 = gb at *
  have H1 : Hid (Below w.heap.size w w2) := H0.out.1
  have a0 := (H0.out.2.1.cell 0).trans HO.out.1.c0
  have a5 := (H0.out.2.1.cell 5).trans HO.out.1.c5
  have a7 := (H0.out.2.1.cell 7).trans HO.out.1.c7
  have b0 := (H0.out.2.2.cell 0).trans HO.out.2.c0
  have b5 := (H0.out.2.2.cell 5).trans HO.out.2.c5
  have b7 := (H0.out.2.2.cell 7).trans HO.out.2.c7
  clear H0 hz HO
  have HB2 : R = (if a.ty = 2 ∨ b.ty = 2 then decide (a.ty = 2 ∧ (b.ty ≠ 2 ∨ a.id < b.id)) else if a.pr ≠ b.pr then (decide (b.pr < a.pr) == buy) else decide (a.id < b.id)) := HB.out
  clear HB
  generalize a.cs = ca at *
  generalize b.cs = cb at *
  generalize a.id = ai at *
  generalize b.id = bi at *
  generalize a.ty = at_ at *
  generalize b.ty = bt at *
  generalize a.pr = ap at *
  generalize b.pr = bp at *
  by_cases ha : at_ = 2
  · have e1 : (at_ == 2) = true := by simp [ha]
    rw [if_pos (.inl ha)] at HB2
    by_cases hb : bt = 2
    · have e2 : (bt == 2) = true := by simp [hb]
      have e3 : (bt != 2) = false := by simp [hb]
      have HR : Hid (decide (ai < bi) = R) := by
        show _ = _
        rw [HB2]; simp [ha, hb]
      clear HB2 ha hb
      go_wp2
      go_ret
      exact ⟨by rw [HR.out]; rfl, H1.out⟩
    · have e2 : (bt == 2) = false := by simp [hb]
      have e3 : (bt != 2) = true := by simp [hb]
      have HR : Hid (R = true) := by
        show _ = _
        rw [HB2]; simp [ha, hb]
      clear HB2 ha hb
      go_wp2
      go_ret
      exact ⟨by rw [HR.out]; rfl, H1.out⟩
  · have e1 : (at_ == 2) = false := by simp [ha]
    by_cases hb : bt = 2
    · have e2 : (bt == 2) = true := by simp [hb]
      rw [if_pos (.inr hb)] at HB2
      have HR : Hid (R = false) := by
        show _ = _
        rw [HB2]; simp [ha]
      clear HB2 ha hb
      go_wp2
      go_ret
      exact ⟨by rw [HR.out]; rfl, H1.out⟩
    · have e2 : (bt == 2) = false := by simp [hb]
      rw [if_neg (by simp [ha, hb])] at HB2
      by_cases hp : ap = bp
      · have e4 : (ap != bp) = false := by simp [hp]
        have HR : Hid (decide (ai < bi) = R) := by
          show _ = _
          rw [HB2]; simp [hp]
        clear HB2 ha hb hp
        go_wp2
        go_ret
        exact ⟨by rw [HR.out]; rfl, H1.out⟩
      · have e4 : (ap != bp) = true := by simp [hp]
        by_cases hg : bp < ap
        · have e5 : decide (bp < ap) = true := by simp [hg]
          have HR : Hid (buy = R) := by
            show _ = _
            rw [HB2]; simp [hp, hg]
          clear HB2 ha hb hp
          cases buy with
          | true =>
            go_wp2
            go_ret
            exact ⟨by rw [← HR.out]; rfl, H1.out⟩
          | false =>
            go_wp2
            go_ret
            exact ⟨by rw [← HR.out]; rfl, H1.out⟩
        · have e5 : decide (bp < ap) = false := by simp [hg]
          have HR : Hid ((!buy) = R) := by
            show _ = _
            rw [HB2]; simp [hp, hg]
          clear HB2 ha hb hp
          cases buy with
          | true =>
            go_wp2
            go_ret
            exact ⟨by rw [← HR.out]; rfl, H1.out⟩
          | false =>
            go_wp2
            go_ret
            exact ⟨by rw [← HR.out]; rfl, H1.out⟩
end Go.Proofs.Ytbhddfcdnpidkaa
