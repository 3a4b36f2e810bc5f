/-
  HeapPlays: Peek; Remove and Set of no item; the reference's Peek and Pop beside the program's.
-/
import Derived.Test.YtdnhhcbabdoomaaHP1
namespace Go.Proofs.Ytdnhhcbabdoomaa
set_option linter.unusedVariables false
set_option linter.unusedSimpArgs false
open Go.RowKit Go.Great

section
variable {A : Ask} {w w' : World} {h : Nat} {v : Value} {t L : List (It Th)} {N c : Nat}
set_option maxRecDepth 100000 in
set_option maxHeartbeats 1000000 in
theorem Peek_E (H : HpA A w h v [] N c) : Calls Try.prog 66 #[ptr h] w fun e w' => e = .returned (.tuple #[.agg #[.int .i64 0, .int .i64 0], .int .i64 110]) ∧ Fr w w' (fun _ => False) := by
  obtain ⟨t, h1, h2, _⟩ := H
  obtain rfl : t = [] := List.Perm.eq_nil h2
  have F1 : Fr w (w.alloc (.cells #[.int .i64 0, .int .i64 0] 30)) (fun _ => False) := Fr.alloc _ _ _
  have d1o := h1.hd.2.1
  have d1 : (w.alloc (.cells #[.int .i64 0, .int .i64 0] 30)).cell? ⟨h, 1, none⟩ = some v := F1.cell h1.hd.2.1 (fun q => q)
  have hlt : h < w.heap.size := h1.blk.lt
  have hne : h ≠ w.heap.size := by omega
  obtain ⟨ao, cap, hvf, hcap⟩ := h1.form
  rw [List.length_nil] at hvf
  subst hvf
  clear h1 h2 hcap F1
  go_enter Try.func66, Try.ntmps66
  go_wp2
  refine bodyPost_ret (results_cr2 (fn := Try.f66) (p := 2) (u := 3) (ty := 30) rfl _ _ w.heap.size 30 #[.int .i64 0, .int .i64 0] (0, 0) _ (by rfl) ((Blk.new w _ _).alloc _) Try.underlying30 rfl (by kernel_rfl)) (by rfl) ?_
  exact ⟨rfl, (Fr.alloc _ _ (fun _ => False)).trans (Fr.alloc _ _ (fun _ => False)) fun _ _ q => by rcases q with q | q <;> exact q⟩
set_option maxRecDepth 100000 in
set_option maxHeartbeats 1000000 in
theorem Peek_A (H : HpA A w h v L N c) (hL : L ≠ []) : Calls Try.prog 66 #[ptr h] w fun e w' => ∃ m it, L[m]? = some it ∧ (Ordr A.lt → IsMin A.lt (L.map (·.x)) m) ∧ e = .returned (.tuple #[.agg #[.int .i64 it.x.k, .int .i64 it.x.g], .int .i64 0]) ∧ Fr w w' (fun _ => False) := by
  obtain ⟨t, h1, hp, hr, ho⟩ := H
  have hl : 0 < t.length := by rw [hp.length_eq]; exact List.length_pos_iff.2 hL
  obtain ⟨it, hk⟩ := get_some t hl
  obtain ⟨m, hm⟩ := perm_at hp hk
  have HQ : Hid (L[m]? = some it ∧ (Ordr A.lt → IsMin A.lt (L.map (·.x)) m)) := by
    refine ⟨hm, fun o => ?_⟩
    obtain ⟨m', hm', hmin⟩ := root_min o (ho o) hp hr hk
    have : m' = m := by
      have pw := List.pairwise_iff_getElem.1 hr.up
      obtain ⟨l1, e1⟩ := List.getElem?_eq_some_iff.1 hm
      obtain ⟨l2, e2⟩ := List.getElem?_eq_some_iff.1 hm'
      rcases Nat.lt_trichotomy m' m with q | q | q
      · have := pw m' m l2 l1 q; rw [e1, e2] at this; omega
      · exact q
      · have := pw m m' l1 l2 q; rw [e1, e2] at this; omega
    exact this ▸ hmin
  have F1 : Fr w (w.alloc (.cells #[.int .i64 0, .int .i64 0] 30)) (fun _ => False) := Fr.alloc _ _ _
  have d1 : (w.alloc (.cells #[.int .i64 0, .int .i64 0] 30)).cell? ⟨h, 1, none⟩ = some v := F1.cell h1.hd.2.1 (fun q => q)
  have hlt : h < w.heap.size := h1.blk.lt
  have hne : h ≠ w.heap.size := by omega
  obtain ⟨g, off, cap, hv, _, _, _, h4, _⟩ := h1.slice (by omega)
  have hc := F1.cell (h4 0 it hk) (fun q => q)
  rw [Nat.add_zero] at hc
  obtain ⟨a0, a1, _, _⟩ := h1.at hk
  have b0 := F1.cell a0 (fun q => q)
  have b1 := F1.cell a1 (fun q => q)
  have hip : it.p < w.heap.size := (h1.its 0 it hk).lt
  have hipn : it.p ≠ w.heap.size := by omega
  subst hv
  have hl1 : ¬ t.length = 0 := by omega
  have hl2 : (0 : Int) < (t.length : Int) := by omega
  have hne0 : ((t.length : Int) == 0) = false := by rw [beq_eq_false_iff_ne]; omega
  clear h1 h4 hk a0 a1 F1 hp hr ho hm hL
  go_enter Try.func66, Try.ntmps66
  go_wp2
  refine bodyPost_ret (results_cr2 (fn := Try.f66) (p := 2) (u := 3) (ty := 30) rfl _ _ w.heap.size 30 #[.int .i64 it.x.k, .int .i64 it.x.g] (0, 0) _ (by rfl) (Blk.new _ _ _) Try.underlying30 rfl (by kernel_rfl)) (by rfl) ?_
  exact ⟨m, it, HQ.out.1, HQ.out.2, rfl, Fr.alloc _ _ _⟩
end
section
variable {o B : Nat} {w w' : World} {h : Nat} {v : Value} {L : List (It Th)} {N : Nat}
theorem Peek_Z (H : HpO o B w h v [] N) : Calls Try.prog 66 #[ptr h] w fun e w' => e = .returned (.tuple #[.agg #[.int .i64 0, .int .i64 0], .int .i64 110]) ∧ Fr w w' (fun _ => False) := by
  obtain ⟨⟨c, ha⟩, _⟩ := H
  exact Peek_E ha
theorem Peek_O (H : HpO o B w h v L N) (hL : L ≠ []) : Calls Try.prog 66 #[ptr h] w fun e w' => ∃ m it, L[m]? = some it ∧ IsMin (lsB o) (L.map (·.x)) m ∧ e = .returned (.tuple #[.agg #[.int .i64 it.x.k, .int .i64 it.x.g], .int .i64 0]) ∧ Fr w w' (fun _ => False) := by
  obtain ⟨⟨c, ha⟩, _⟩ := H
  refine (Peek_A ha hL).mono ?_
  rintro e w' ⟨m, it, h1, h2, h3, h4⟩
  exact ⟨m, it, h1, h2 (lsB_ord o), h3, h4⟩
theorem Remove_nilO (H : HpO o B w h v L N) : Calls Try.prog 16 #[ptr h, .pointer none] w fun e w' => e = .returned (.tuple #[.agg #[.int .i64 0, .int .i64 0], .int .i64 111]) ∧ Fr w w' (fun _ => False) := by
  obtain ⟨⟨c, t, hm, hp, _⟩, _, ho⟩ := H
  exact (Remove_nil hm (askO_ok o ho)).mono fun e w' q => ⟨q.1, q.2.2⟩
theorem Set_nilO (H : HpO o B w h v L N) (x : Th) : Calls Try.prog 17 #[ptr h, .pointer none, .agg #[.int .i64 x.k, .int .i64 x.g]] w fun e w' => e = .returned (.int .i64 111) ∧ Fr w w' (fun _ => False) := by
  obtain ⟨⟨c, t, hm, hp, _⟩, _, ho⟩ := H
  exact (Set_nil hm (askO_ok o ho) x).mono fun e w' q => ⟨q.1, q.2.2⟩
end
/-- What Pop and Peek tell. -/
def popE (x : Th) (e : Int) : Value := .tuple #[.agg #[.int .i64 x.k, .int .i64 x.g], .int .i64 e]
section
variable {w W W1 W2 W' : World} {wb : Nat} {S : St} {col : Nat → Nat}
/-- A heap behind a Pop of the program's, the reference's not yet asked. -/
structure Popped (w W W1 : World) (S : St) (k : Nat) (x : Th) (e : Int) : Prop where
  ans : (e = 110 ∧ x = ⟨0, 0⟩ ∧ Lk S.C k = [] ∧ HpO k w.heap.size W1 (S.h k) (S.v k) (Lk S.C k) (S.N k) ∧ Fr W W1 (fun _ => False)) ∨
    (e = 0 ∧ ∃ m a, S.C[m]? = some a ∧ a.k = k ∧ a.gone = false ∧ a.x = x ∧ IsMin (lsB k) ((Lk S.C k).map (·.x)) (lix S.C k m) ∧ (∃ v', HpO k w.heap.size W1 (S.h k) v' (Lk (S.C.set m { a with gone := true }) k) (S.N k) ∧ v'.ownBlock = (S.v k).ownBlock) ∧ (∃ j, Blk W1 a.p 100 (icl a.it j)) ∧ Fr W W1 (ownH (S.h k) (S.v k) (Lk S.C k)))
theorem PW.pop (H : PW w W wb S col) {k : Nat} (hk : k < 3) : Calls Try.prog 14 #[ptr (S.h k)] W fun e W1 => ∃ x r, e = .returned (popE x r) ∧ Popped w W W1 S k x r := by
  by_cases hL : Lk S.C k = []
  · have h0 := H.hp k hk
    rw [hL] at h0
    refine (Pop_Z h0).mono ?_
    rintro e W1 ⟨rfl, h1, h2⟩
    exact ⟨⟨0, 0⟩, 110, rfl, ⟨.inl ⟨rfl, rfl, hL, by rw [hL]; exact h1, h2⟩⟩⟩
  · refine (Pop_O (H.hp k hk) hL).mono ?_
    rintro e W1 ⟨i, it, h1, h2, rfl, ⟨v', h3, h4⟩, h5, h6⟩
    obtain ⟨m, a, k1, k2, k3, k4, k5⟩ := Lk_inv h1
    refine ⟨it.x, 0, rfl, ⟨.inr ⟨rfl, m, a, k1, k2, k3, by rw [← k4]; rfl, by rw [← k5]; exact h2, ⟨v', ?_, h4⟩, by rw [← k4] at h5; exact h5, h6⟩⟩⟩
    rw [Lk_gone k1 k2 k3, ← k5]
    exact h3
theorem Popped.frH {k : Nat} {x : Th} {e : Int} (P : Popped w W W1 S k x e) : Fr W W1 (ownH (S.h k) (S.v k) (Lk S.C k)) := by
  rcases P.ans with ⟨_, _, _, _, h⟩ | ⟨_, _, _, _, _, _, _, _, _, _, h⟩
  · exact h.mono fun _ _ q => q.elim
  · exact h
theorem PW.nR (H : PW w W wb S col) {k : Nat} (hk : k < 3) : ∀ b, ownR (S.r k) (S.rv k) (Rk S.C k) b → ¬ ownH (S.h k) (S.v k) (Lk S.C k) b := fun b h1 h2 => by
  have := H.cp k hk b h2
  have := H.cr k hk b h1
  omega
/-- What one call leaves: so many items more at most; what is not the world's own stays. -/
def Nx (w W W' : World) (wb : Nat) (S : St) (col : Nat → Nat) (n : Nat) : Prop := ∃ S' col', PW w W' wb S' col' ∧ S'.h = S.h ∧ S'.r = S.r ∧ S'.C.length ≤ S.C.length + n ∧ (∀ b, owns wb S' b → owns wb S b ∨ W.heap.size ≤ b) ∧ Fr W W' (owns wb S)
theorem PW.nx (H : PW w W wb S col) (hf : Fr W W' (fun _ => False)) (n : Nat) : Nx w W W' wb S col n := ⟨S, col, H.sm hf, rfl, rfl, Nat.le_add_right _ _, fun _ q => .inl q, hf.mono fun _ _ q => q.elim⟩
theorem Nx.trans {n m : Nat} (h : Nx w W W1 wb S col n) (k : ∀ S1 col1, PW w W1 wb S1 col1 → S1.h = S.h → S1.r = S.r → S1.C.length ≤ S.C.length + n → Nx w W1 W2 wb S1 col1 m) : Nx w W W2 wb S col (n + m) := by
  obtain ⟨S1, c1, h1, h2, h3, h4, h5, h6⟩ := h
  obtain ⟨S2, c2, k1, k2, k3, k4, k5, k6⟩ := k S1 c1 h1 h2 h3 h4
  refine ⟨S2, c2, k1, k2.trans h2, k3.trans h3, by omega, fun b hb => ?_, h6.trans k6 fun b hb q => ?_⟩
  · rcases k5 b hb with q | q
    · exact h5 b q
    · exact .inr (Nat.le_trans h6.size q)
  · rcases q with q | q
    · exact q
    · rcases h5 b q with r | r
      · exact r
      · omega
theorem Nx.mono {n m : Nat} (h : Nx w W W1 wb S col n) (hm : n ≤ m) : Nx w W W1 wb S col m := by
  obtain ⟨S1, c1, h1, h2, h3, h4, h5, h6⟩ := h
  exact ⟨S1, c1, h1, h2, h3, by omega, h5, h6⟩
theorem Nx.sm {n : Nat} (h : Nx w W W1 wb S col n) (hf : Fr W1 W2 (fun _ => False)) : Nx w W W2 wb S col n := by
  obtain ⟨S1, c1, h1, h2, h3, h4, h5, h6⟩ := h
  exact ⟨S1, c1, h1.sm hf, h2, h3, h4, h5, h6.trans hf fun _ _ q => by rcases q with q | q; exact q; exact q.elim⟩
/-- .. and the reference's: both tell the same. -/
theorem PW.pop2 (H : PW w W wb S col) {k : Nat} (hk : k < 3) {x : Th} {r : Int} (P : Popped w W W1 S k x r) (f0 : Fr W1 W2 (fun _ => False)) : Calls Try.prog 68 #[ptr (S.r k)] W2 fun e W3 => e = .returned (popE x r) ∧ Nx w W W3 wb S col 0 ∧ Fr W2 W3 (ownR (S.r k) (S.rv k) (Rk S.C k)) := by
  have hR : RH W2 k (S.r k) (S.rv k) (Rk S.C k) := ((H.rh k hk).fr P.frH (H.nR hk)).sm f0
  cases hl : lst k (Rk S.C k) with
  | none =>
    have hL := lst_none hl
    rcases P.ans with ⟨rfl, rfl, _, h1, h2⟩ | ⟨_, m, a, k1, k2, k3, _⟩
    · refine (rPop_none hR hl).mono ?_
      rintro e W3 ⟨rfl, h3⟩
      exact ⟨rfl, H.nx ((h2.trans f0 (e3 := fun _ => False) fun _ _ q => by rcases q with q | q <;> exact q).trans h3 fun _ _ q => by rcases q with q | q <;> exact q) 0, h3.mono fun _ _ q => q.elim⟩
    · have := Lk_get k1 k2 k3
      rw [hL] at this
      simp at this
  | some j =>
    rcases P.ans with ⟨_, _, hL, _⟩ | ⟨rfl, m, a, k1, k2, k3, rfl, k5, ⟨v', h1, h2⟩, ⟨jj, h3⟩, h4⟩
    · obtain ⟨z, q1, q2, q3, q4⟩ := bst_min (lsB_ord k) hl
      rw [← live_eq, liveR, ← Lk_x, hL] at q4
      simp at q4
    · obtain ⟨m2, e2, r1, r2, r3, r4, r5, r6⟩ := lst_same hl (Lk_get k1 k2 k3) k5
      have : m = m2 := fil_inj k1 (isL_of k2 k3) r1 (isL_of r2 r3) r5
      subst this
      have hra : (Rk S.C k)[j]? = some a.ri := by rw [r6]; exact Rk_get k1 k2
      refine (rPop_some hR hl hra).mono ?_
      rintro e W3 ⟨rfl, h5, h6⟩
      have hq : a.q = a.ri.p := rfl
      have hap : ∀ b, b = a.ri.p → ownR (S.r k) (S.rv k) (Rk S.C k) b := fun b hb => .inr (.inr ⟨a.ri, List.mem_of_getElem? hra, hb.symm⟩)
      have h46 : Fr W W3 (fun b => ownH (S.h k) (S.v k) (Lk S.C k) b ∨ ownR (S.r k) (S.rv k) (Rk S.C k) b) := ((h4.trans f0 (e3 := ownH (S.h k) (S.v k) (Lk S.C k)) fun _ _ q => by rcases q with q | q; exact q; exact q.elim).trans h6 fun b _ q => by rcases q with q | q; exact .inl q; exact .inr (hap b q))
      have hap2 : Blk W2 a.p 100 (icl a.it jj) := h3.fr f0 fun q => q
      have hnq : a.p ≠ a.q := fun q => by
        have c1 := (H.ce a (List.mem_of_getElem? k1)).2
        have c2 := H.cr k hk a.p (by rw [q]; exact hap a.q rfl)
        omega
      have hcol : ∀ b, ownH (S.h k) v' (Lk (S.C.set m { a with gone := true }) k) b → b ≠ a.ri.p := fun b hb q => by
        have hb2 : ownH (S.h k) (S.v k) (Lk S.C k) b := by
          rw [Lk_gone k1 k2 k3] at hb
          exact own_erase h2 hb
        have c1 := H.cp k hk b hb2
        have c2 := H.cr k hk b (hap b q)
        omega
      have hup := H.upd k1 k2 (e' := { a with gone := true }) k2 rfl rfl (fun _ => rfl) h46 ((h1.sm f0).fr h6 hcol) h2 (by
        rw [Rk_set k1 k2 (e' := { a with gone := true }) k2, ← r6]
        exact h5) ⟨jj, hap2.fr h6 hnq⟩
      exact ⟨rfl, ⟨_, col, hup.1, rfl, rfl, by simp, fun b hb => .inl (hup.2 b hb), h46.mono fun b _ q => .inl ⟨k, hk, q⟩⟩, h6.mono fun b _ q => hap b q⟩
theorem PW.peek (H : PW w W wb S col) {k : Nat} (hk : k < 3) : Calls Try.prog 66 #[ptr (S.h k)] W fun e W1 => Fr W W1 (fun _ => False) ∧ ∃ x r, e = .returned (popE x r) ∧ ((r = 110 ∧ x = ⟨0, 0⟩ ∧ Lk S.C k = []) ∨ (r = 0 ∧ ∃ m a, S.C[m]? = some a ∧ a.k = k ∧ a.gone = false ∧ a.x = x ∧ IsMin (lsB k) ((Lk S.C k).map (·.x)) (lix S.C k m))) := by
  by_cases hL : Lk S.C k = []
  · have h0 := H.hp k hk
    rw [hL] at h0
    refine (Peek_Z h0).mono ?_
    rintro e W1 ⟨rfl, h2⟩
    exact ⟨h2, ⟨0, 0⟩, 110, rfl, .inl ⟨rfl, rfl, hL⟩⟩
  · refine (Peek_O (H.hp k hk) hL).mono ?_
    rintro e W1 ⟨i, it, h1, h2, rfl, h6⟩
    obtain ⟨m, a, k1, k2, k3, k4, k5⟩ := Lk_inv h1
    exact ⟨h6, it.x, 0, rfl, .inr ⟨rfl, m, a, k1, k2, k3, by rw [← k4]; rfl, by rw [← k5]; exact h2⟩⟩
theorem PW.peek2 (H : PW w W wb S col) {k : Nat} (hk : k < 3) {x : Th} {r : Int} (P : (r = 110 ∧ x = ⟨0, 0⟩ ∧ Lk S.C k = []) ∨ (r = 0 ∧ ∃ m a, S.C[m]? = some a ∧ a.k = k ∧ a.gone = false ∧ a.x = x ∧ IsMin (lsB k) ((Lk S.C k).map (·.x)) (lix S.C k m))) : Calls Try.prog 67 #[ptr (S.r k)] W fun e W1 => e = .returned (popE x r) ∧ Fr W W1 (fun _ => False) := by
  have hR := H.rh k hk
  cases hl : lst k (Rk S.C k) with
  | none =>
    have hL := lst_none hl
    rcases P with ⟨rfl, rfl, _⟩ | ⟨_, m, a, k1, k2, k3, _⟩
    · exact rPeek_none hR hl
    · have := Lk_get k1 k2 k3
      rw [hL] at this
      simp at this
  | some j =>
    rcases P with ⟨_, _, hL⟩ | ⟨rfl, m, a, k1, k2, k3, rfl, k5⟩
    · obtain ⟨z, q1, q2, q3, q4⟩ := bst_min (lsB_ord k) hl
      rw [← live_eq, liveR, ← Lk_x, hL] at q4
      simp at q4
    · obtain ⟨m2, e2, r1, r2, r3, r4, r5, r6⟩ := lst_same hl (Lk_get k1 k2 k3) k5
      have : m = m2 := fil_inj k1 (isL_of k2 k3) r1 (isL_of r2 r3) r5
      subst this
      exact rPeek_some hR hl (by rw [r6]; exact Rk_get k1 k2)
end
end Go.Proofs.Ytdnhhcbabdoomaa
