/-
  store, plain: what a store holds behind what happened; what Parts tells of it.
-/
import Derived.Test.YtekkckfoikpljaaSPlain
namespace Go.Proofs.Ytekkckfoikpljaa
set_option linter.unusedVariables false

/-- A number more that was dropped: the last row goes on, or a new one begins. -/
def addRow (n : Nat) : List (Nat × Nat) → List (Nat × Nat)
  | [] => [(n, n)]
  | [r] => if r.2 + 1 = n then [(r.1, n)] else [r, (n, n)]
  | r :: s :: t => r :: addRow n (s :: t)
theorem addRow_snoc (n : Nat) (r : Nat × Nat) : ∀ l, addRow n (l ++ [r]) = if r.2 + 1 = n then l ++ [(r.1, n)] else (l ++ [r]) ++ [(n, n)]
  | [] => rfl
  | [a] => by
    show a :: addRow n [r] = _
    unfold addRow
    split <;> rfl
  | a :: b :: t => by
    show a :: addRow n ((b :: t) ++ [r]) = _
    rw [addRow_snoc n r (b :: t)]
    split <;> rfl
def runs (ns : List Nat) : List (Nat × Nat) := ns.foldl (fun L n => addRow n L) []
theorem runs_snoc (ns : List Nat) (n : Nat) : runs (ns ++ [n]) = addRow n (runs ns) := by unfold runs; rw [List.foldl_append]; rfl
/-- What the rows are. -/
structure RowsOk (ns : List Nat) (L : List (Nat × Nat)) : Prop where
  row : ∀ (i : Nat) (r : Nat × Nat), L[i]? = some r → r.1 ≤ r.2 ∧ ∀ k, r.1 ≤ k → k ≤ r.2 → k ∈ ns
  up : ∀ (i j : Nat) (r s : Nat × Nat), i < j → L[i]? = some r → L[j]? = some s → r.2 + 1 < s.1
  all : ∀ k, k ∈ ns → ∃ (i : Nat) (r : Nat × Nat), L[i]? = some r ∧ r.1 ≤ k ∧ k ≤ r.2
  len : L.length ≤ ns.length
theorem runs_ok : ∀ (q : Nat) (ns : List Nat), ns.length = q → ns.Pairwise (· < ·) → RowsOk ns (runs ns)
  | 0, ns, h, _ => by
    have : ns = [] := List.eq_nil_of_length_eq_zero h
    subst this
    exact ⟨fun i r h => by simp [runs] at h, fun i j r s _ h => by simp [runs] at h, fun k h => by simp at h, Nat.le_refl _⟩
  | q + 1, ns, h, hp => by
    rcases List.eq_nil_or_concat ns with rfl | ⟨ms, n, rfl⟩
    · simp at h
    rw [List.concat_eq_append] at *
    have hms := List.pairwise_append.1 hp
    have hlt : ∀ k, k ∈ ms → k < n := fun k hk => hms.2.2 k hk n (by simp)
    have ih := runs_ok q ms (by simpa using h) hms.1
    rw [runs_snoc]
    rcases List.eq_nil_or_concat (runs ms) with hr | ⟨l, r0, hr⟩
    · rw [hr] at ih ⊢
      have hm0 : ∀ k, k ∈ ms → False := fun k hk => by obtain ⟨i, r, h1, _⟩ := ih.all k hk; simp at h1
      have one : ∀ (i : Nat) (r : Nat × Nat), ([] ++ [(n, n)])[i]? = some r → i = 0 ∧ r = (n, n) := fun i r h => by
        rcases get_snoc h with ⟨h1, _⟩ | ⟨h1, h2⟩
        · simp at h1
        · exact ⟨h1, h2⟩
      refine ⟨fun i r h => ?_, fun i j r s hij h h' => ?_, fun k hk => ?_, by simp [addRow]⟩
      · obtain ⟨_, rfl⟩ := one i r h
        exact ⟨Nat.le_refl _, fun k k1 k2 => by have : k = n := Nat.le_antisymm k2 k1; simp [this]⟩
      · have h1 := (one i r h).1; have h2 := (one j s h').1; omega
      · rcases List.mem_append.1 hk with hk | hk
        · exact (hm0 k hk).elim
        · have : k = n := by simpa using hk
          exact ⟨0, (n, n), rfl, by simp [this], by simp [this]⟩
    · rw [List.concat_eq_append] at hr
      rw [hr] at ih ⊢
      rw [addRow_snoc]
      have hlast := get_snoc_last l r0
      have h0 := ih.row _ _ hlast
      have h02 : r0.2 < n := hlt _ (h0.2 _ h0.1 (Nat.le_refl _))
      have hpre : ∀ (i : Nat) (p : Nat × Nat), l[i]? = some p → (l ++ [r0])[i]? = some p := fun i p h => by
        rw [List.getElem?_append_left (List.getElem?_eq_some_iff.1 h).1]; exact h
      split
      · next he =>
        refine ⟨fun i r h => ?_, fun i j r s hij h h' => ?_, fun k hk => ?_, ?_⟩
        · rcases get_snoc h with ⟨_, h⟩ | ⟨_, rfl⟩
          · have := ih.row i r (hpre i r h)
            exact ⟨this.1, fun k k1 k2 => List.mem_append.2 (.inl (this.2 k k1 k2))⟩
          · refine ⟨by show r0.1 ≤ n; omega, fun k k1 k2 => ?_⟩
            have k2' : k ≤ n := k2
            by_cases hk : k = n
            · simp [hk]
            · exact List.mem_append.2 (.inl (h0.2 k k1 (by omega)))
        · rcases get_snoc h' with ⟨h1, h'⟩ | ⟨h1, rfl⟩
          · rcases get_snoc h with ⟨_, h⟩ | ⟨h2, _⟩
            · exact ih.up i j r s hij (hpre i r h) (hpre j s h')
            · omega
          · rcases get_snoc h with ⟨h2, h⟩ | ⟨h2, _⟩
            · exact ih.up i l.length r r0 h2 (hpre i r h) hlast
            · omega
        · rcases List.mem_append.1 hk with hk | hk
          · obtain ⟨i, r, h1, h2, h3⟩ := ih.all k hk
            rcases get_snoc h1 with ⟨h4, h1⟩ | ⟨h4, rfl⟩
            · exact ⟨i, r, by rw [List.getElem?_append_left h4]; exact h1, h2, h3⟩
            · exact ⟨l.length, (r.1, n), get_snoc_last _ _, h2, by show k ≤ n; omega⟩
          · have : k = n := by simpa using hk
            exact ⟨l.length, (r0.1, n), get_snoc_last _ _, by show r0.1 ≤ k; omega, by show k ≤ n; omega⟩
        · have := ih.len; simp at this ⊢; omega
      · next he =>
        refine ⟨fun i r h => ?_, fun i j r s hij h h' => ?_, fun k hk => ?_, ?_⟩
        · rcases get_snoc h with ⟨_, h⟩ | ⟨_, rfl⟩
          · have := ih.row i r h
            exact ⟨this.1, fun k k1 k2 => List.mem_append.2 (.inl (this.2 k k1 k2))⟩
          · exact ⟨Nat.le_refl _, fun k k1 k2 => by have : k = n := Nat.le_antisymm k2 k1; simp [this]⟩
        · rcases get_snoc h' with ⟨h1, h'⟩ | ⟨h1, rfl⟩
          · rcases get_snoc h with ⟨_, h⟩ | ⟨h2, _⟩
            · exact ih.up i j r s hij h h'
            · omega
          · rcases get_snoc h with ⟨h2, h⟩ | ⟨h2, _⟩
            · show r.2 + 1 < n
              by_cases hil : i = l.length
              · subst hil
                rw [hlast] at h
                injection h with h
                subst h
                omega
              · have := ih.up i l.length r r0 (by simp at h2; omega) h hlast
                omega
            · omega
        · rcases List.mem_append.1 hk with hk | hk
          · obtain ⟨i, r, h1, h2, h3⟩ := ih.all k hk
            exact ⟨i, r, by rw [List.getElem?_append_left (List.getElem?_eq_some_iff.1 h1).1]; exact h1, h2, h3⟩
          · have : k = n := by simpa using hk
            exact ⟨(l ++ [r0]).length, (n, n), get_snoc_last _ _, by show n ≤ k; omega, by show k ≤ n; omega⟩
        · have := ih.len; simp at this ⊢; omega
section Ev
variable {M : Type} (seq : M → Nat)
/-- All that was put. -/
def putL (ev : List (Option M)) : List M := ev.filterMap id
/-- How many of them were dropped. -/
def over (keep : Nat) (ev : List (Option M)) : Nat := (putL ev).length - keep
def keptL (keep : Nat) (ev : List (Option M)) : List M := (putL ev).drop (over keep ev)
def lostL (keep : Nat) (ev : List (Option M)) : List (Nat × Nat) := runs (((putL ev).take (over keep ev)).map seq)
/-- What belongs to a number. -/
def cd (keep : Nat) (ev : List (Option M)) (k : Nat) : Nat := match ev[k - 1]? with
  | some (some m) => if (putL (ev.take (k - 1))).length < over keep ev then 2 else 1
  | _ => 3
def mm (keep : Nat) (ev : List (Option M)) (k : Nat) : Option M := match ev[k - 1]? with
  | some (some m) => if (putL (ev.take (k - 1))).length < over keep ev then none else some m
  | _ => none
def EvOk (ev : List (Option M)) : Prop := ∀ (i : Nat) (m : M), ev[i]? = some (some m) → seq m = i + 1
theorem cd_mm (keep : Nat) (ev : List (Option M)) (k : Nat) : mm keep ev k = none ↔ cd keep ev k ≠ 1 := by
  unfold mm cd
  split
  · split <;> simp
  · simp
theorem cd_three (keep : Nat) (ev : List (Option M)) (k : Nat) : cd keep ev k = 1 ∨ cd keep ev k = 2 ∨ cd keep ev k = 3 := by
  unfold cd
  split
  · split
    · exact .inr (.inl rfl)
    · exact .inl rfl
  · exact .inr (.inr rfl)
theorem putL_some (ev : List (Option M)) (m : M) : putL (ev ++ [some m]) = putL ev ++ [m] := by unfold putL; rw [List.filterMap_append]; rfl
theorem putL_none (ev : List (Option M)) : putL (ev ++ [none]) = putL ev := by unfold putL; rw [List.filterMap_append]; simp
theorem putL_le (ev : List (Option M)) : (putL ev).length ≤ ev.length := List.length_filterMap_le _ _
theorem putL_at : ∀ (ev : List (Option M)) (i : Nat) (m : M), ev[i]? = some (some m) → (putL ev)[(putL (ev.take i)).length]? = some m
  | [], i, m, h => by simp at h
  | none :: t, 0, m, h => by simp at h
  | some a :: t, 0, m, h => by simp at h; subst h; rfl
  | none :: t, i + 1, m, h => putL_at t i m (by simpa using h)
  | some a :: t, i + 1, m, h => by
    have := putL_at t i m (by simpa using h)
    show (a :: putL t)[(a :: putL (t.take i)).length]? = _
    simpa using this
theorem at_putL : ∀ (ev : List (Option M)) (j : Nat) (m : M), (putL ev)[j]? = some m → ∃ i, ev[i]? = some (some m) ∧ (putL (ev.take i)).length = j
  | [], j, m, h => by simp [putL] at h
  | none :: t, j, m, h => by
    obtain ⟨i, h1, h2⟩ := at_putL t j m h
    exact ⟨i + 1, by simpa using h1, h2⟩
  | some a :: t, 0, m, h => ⟨0, by have : some a = some m := h; simpa using this, rfl⟩
  | some a :: t, j + 1, m, h => by
    obtain ⟨i, h1, h2⟩ := at_putL t j m (by have : (a :: putL t)[j + 1]? = some m := h; simpa using this)
    refine ⟨i + 1, by simpa using h1, ?_⟩
    show (a :: putL (t.take i)).length = j + 1
    simp [h2]
theorem putL_mono (ev : List (Option M)) {i i' : Nat} (h : i ≤ i') : (putL (ev.take i)).length ≤ (putL (ev.take i')).length := by
  have : ev.take i = (ev.take i').take i := by rw [List.take_take, Nat.min_eq_left h]
  rw [this]
  unfold putL
  conv => rhs; rw [← List.take_append_drop i (ev.take i')]
  rw [List.filterMap_append, List.length_append]; omega
variable {seq}
theorem putL_up {ev : List (Option M)} (he : EvOk seq ev) {j j' : Nat} {m m' : M} (hj : j < j') (h : (putL ev)[j]? = some m) (h' : (putL ev)[j']? = some m') : seq m < seq m' := by
  obtain ⟨i, h1, h2⟩ := at_putL ev j m h
  obtain ⟨i', h1', h2'⟩ := at_putL ev j' m' h'
  rw [he i m h1, he i' m' h1']
  rcases Nat.lt_or_ge i i' with hlt | hge
  · omega
  · have := putL_mono ev hge; omega
theorem putL_pair {ev : List (Option M)} (he : EvOk seq ev) : ((putL ev).map seq).Pairwise (· < ·) := by
  rw [List.pairwise_iff_getElem]
  intro i j hi hj hij
  simp only [List.getElem_map]
  exact putL_up he hij (List.getElem?_eq_getElem (by simpa using hi)) (List.getElem?_eq_getElem (by simpa using hj))
/-- What the rows and the messages of a store are to its numbers. -/
structure Inv (seq : M → Nat) (n : Nat) (c : Nat → Nat) (g : Nat → Option M) (K : List M) (L : List (Nat × Nat)) : Prop where
  kin : ∀ (j : Nat) (m : M), K[j]? = some m → 1 ≤ seq m ∧ seq m ≤ n ∧ c (seq m) = 1 ∧ g (seq m) = some m
  kall : ∀ k, 1 ≤ k → k ≤ n → c k = 1 → ∃ (j : Nat) (m : M), K[j]? = some m ∧ seq m = k
  kup : ∀ (i j : Nat) (m m' : M), i < j → K[i]? = some m → K[j]? = some m' → seq m < seq m'
  lin : ∀ (i : Nat) (r : Nat × Nat), L[i]? = some r → 1 ≤ r.1 ∧ r.1 ≤ r.2 ∧ r.2 ≤ n ∧ ∀ k, r.1 ≤ k → k ≤ r.2 → c k = 2
  lall : ∀ k, 1 ≤ k → k ≤ n → c k = 2 → ∃ (i : Nat) (r : Nat × Nat), L[i]? = some r ∧ r.1 ≤ k ∧ k ≤ r.2
  lup : ∀ (i j : Nat) (r s : Nat × Nat), i < j → L[i]? = some r → L[j]? = some s → r.2 + 1 < s.1
  low : ∀ (i j : Nat) (r : Nat × Nat) (m : M), L[i]? = some r → K[j]? = some m → r.2 < seq m
  gnone : ∀ k, c k ≠ 1 → g k = none
  cthree : ∀ k, c k = 1 ∨ c k = 2 ∨ c k = 3
theorem ev_inv {ev : List (Option M)} (keep : Nat) (he : EvOk seq ev) : Inv seq ev.length (cd keep ev) (mm keep ev) (keptL keep ev) (lostL seq keep ev) := by
  have hd : over keep ev ≤ (putL ev).length := by unfold over; omega
  have hns : (((putL ev).take (over keep ev)).map seq).Pairwise (· < ·) := by
    rw [List.map_take]; exact (putL_pair he).take
  have hR := runs_ok _ _ rfl hns
  have hmem : ∀ k, k ∈ ((putL ev).take (over keep ev)).map seq → 1 ≤ k ∧ k ≤ ev.length ∧ cd keep ev k = 2 ∧ ∃ j m, j < over keep ev ∧ (putL ev)[j]? = some m ∧ seq m = k := fun k hk => by
    obtain ⟨m, hm, hmk⟩ := List.mem_map.1 hk
    obtain ⟨j, hj⟩ := List.getElem?_of_mem hm
    rw [List.getElem?_take] at hj
    split at hj
    · next hjd =>
      obtain ⟨i, h1, h2⟩ := at_putL ev j m hj
      have h3 := he i m h1
      have h4 := (List.getElem?_eq_some_iff.1 h1).1
      refine ⟨by omega, by omega, ?_, j, m, hjd, hj, hmk⟩
      unfold cd
      rw [show k - 1 = i by omega, h1]
      simp only [h2, if_pos hjd]
    · cases hj
  have hin : ∀ k, 1 ≤ k → k ≤ ev.length → cd keep ev k = 2 → k ∈ ((putL ev).take (over keep ev)).map seq := fun k k1 k2 hc => by
    unfold cd at hc
    split at hc
    · next m hm =>
      split at hc
      · next hlt =>
        have h1 := putL_at ev (k - 1) m hm
        have h2 := he _ _ hm
        refine List.mem_map.2 ⟨m, ?_, by omega⟩
        refine List.mem_of_getElem? (i := (putL (ev.take (k - 1))).length) ?_
        rw [List.getElem?_take, if_pos hlt]; exact h1
      · cases hc
    · cases hc
  refine ⟨fun j m h => ?_, fun k k1 k2 hc => ?_, fun i j m m' hij h h' => ?_, fun i r h => ?_, fun k k1 k2 hc => ?_, fun i j r s hij h h' => ?_, fun i j r m h h' => ?_, fun k hk => (cd_mm keep ev k).2 hk, cd_three keep ev⟩
  · unfold keptL at h
    rw [List.getElem?_drop] at h
    obtain ⟨i, h1, h2⟩ := at_putL ev _ m h
    have h3 := he i m h1
    have h4 := (List.getElem?_eq_some_iff.1 h1).1
    refine ⟨by omega, by omega, ?_, ?_⟩
    · unfold cd; rw [show seq m - 1 = i by omega, h1]; simp only [h2]; rw [if_neg (by omega)]
    · unfold mm; rw [show seq m - 1 = i by omega, h1]; simp only [h2]; rw [if_neg (by omega)]
  · unfold cd at hc
    split at hc
    · next m hm =>
      split at hc
      · cases hc
      · next hlt =>
        have h1 := putL_at ev (k - 1) m hm
        have h2 := he _ _ hm
        refine ⟨(putL (ev.take (k - 1))).length - over keep ev, m, ?_, by omega⟩
        unfold keptL
        rw [List.getElem?_drop, show over keep ev + ((putL (ev.take (k - 1))).length - over keep ev) = (putL (ev.take (k - 1))).length by omega]; exact h1
    · cases hc
  · unfold keptL at h h'
    rw [List.getElem?_drop] at h h'
    exact putL_up he (by omega) h h'
  · have h1 := hR.row i r h
    have h2 := hmem _ (h1.2 _ (Nat.le_refl _) h1.1)
    have h3 := hmem _ (h1.2 _ h1.1 (Nat.le_refl _))
    exact ⟨h2.1, h1.1, h3.2.1, fun k k1 k2 => (hmem k (h1.2 k k1 k2)).2.2.1⟩
  · exact hR.all k (hin k k1 k2 hc)
  · exact hR.up i j r s hij h h'
  · have h1 := hR.row i r h
    obtain ⟨_, _, _, j', m', h2, h3, h4⟩ := hmem _ (h1.2 _ h1.1 (Nat.le_refl _))
    unfold keptL at h'
    rw [List.getElem?_drop] at h'
    rw [← h4]
    exact putL_up he (by omega) h3 h'
end Ev
end Go.Proofs.Ytekkckfoikpljaa
