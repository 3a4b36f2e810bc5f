/-
  The reference's heap: all items that ever were, in the order of pushing.
-/
import Derived.Test.YtdnhhcbabdoomaaHBase
import Derived.BigQuiet
namespace Go.Proofs.Ytdnhhcbabdoomaa
set_option linter.unusedVariables false
set_option linter.unusedSimpArgs false
open Go.RowKit Go.Great

/-- An item of the reference. -/
structure RIt where
  p : Nat
  x : Th
  gone : Bool
/-- The things that are there. -/
def liveL (R : List RIt) : List Th := (R.filter fun a => !a.gone).map (·.x)
/-- Which one is sought: the first one that none is less than. -/
def bst (lt : Th → Th → Bool) (c : Nat → Option Th) : Nat → Option Nat
  | 0 => none
  | i + 1 => match c i, bst lt c i with
    | none, b => b
    | some _, none => some i
    | some x, some b => match c b with
      | some y => if lt x y then some i else some b
      | none => some b
theorem bst_none (lt : Th → Th → Bool) (c : Nat → Option Th) : ∀ n, bst lt c n = none → ∀ j, j < n → c j = none
  | 0, _, j, hj => by omega
  | n + 1, h, j, hj => by
    unfold bst at h
    cases hc : c n with
    | none =>
      rw [hc] at h
      by_cases e : j = n
      · rw [e]; exact hc
      · exact bst_none lt c n h j (by omega)
    | some x =>
      rw [hc] at h
      cases hb : bst lt c n with
      | none => rw [hb] at h; cases h
      | some b0 =>
        rw [hb] at h
        cases hcb : c b0 with
        | none => simp [hcb] at h
        | some y => simp only [hcb] at h; split at h <;> cases h
theorem bst_some {lt : Th → Th → Bool} (ho : Ordr lt) (c : Nat → Option Th) : ∀ (n b : Nat), bst lt c n = some b → b < n ∧ ∃ z, c b = some z ∧ (∀ j y, j < n → c j = some y → lt y z = false) ∧ ∀ j y, j < b → c j = some y → lt z y = true
  | 0, b, h => by cases h
  | n + 1, b, h => by
    unfold bst at h
    cases hc : c n with
    | none =>
      rw [hc] at h
      obtain ⟨h1, z, h2, h3, h4⟩ := bst_some ho c n b h
      refine ⟨by omega, z, h2, fun j y hj hy => ?_, h4⟩
      by_cases e : j = n
      · rw [e, hc] at hy; cases hy
      · exact h3 j y (by omega) hy
    | some x =>
      rw [hc] at h
      cases hb : bst lt c n with
      | none =>
        rw [hb] at h
        injection h with h
        subst h
        have hn := bst_none lt c n hb
        refine ⟨by omega, x, hc, fun j y hj hy => ?_, fun j y hj hy => ?_⟩
        · by_cases e : j = n
          · rw [e, hc] at hy; injection hy with hy; subst hy; exact ho.irr _
          · rw [hn j (by omega)] at hy; cases hy
        · rw [hn j hj] at hy; cases hy
      | some b0 =>
        rw [hb] at h
        obtain ⟨h1, z, h2, h3, h4⟩ := bst_some ho c n b0 hb
        simp only [h2] at h
        by_cases hl : lt x z = true
        · rw [if_pos hl] at h
          injection h with h
          subst h
          refine ⟨by omega, x, hc, fun j y hj hy => ?_, fun j y hj hy => ?_⟩
          · by_cases e : j = n
            · rw [e, hc] at hy; injection hy with hy; subst hy; exact ho.irr _
            · have h5 := h3 j y (by omega) hy
              cases h6 : lt y x with
              | false => rfl
              | true => have := ho.tr y x z h6 hl; rw [h5] at this; cases this
          · have h5 := h3 j y (by omega) hy
            cases h6 : lt x y with
            | true => rfl
            | false => have := ho.nt x y z h6 h5; rw [hl] at this; cases this
        · rw [if_neg hl] at h
          injection h with h
          subst h
          refine ⟨by omega, z, h2, fun j y hj hy => ?_, h4⟩
          by_cases e : j = n
          · rw [e, hc] at hy; injection hy with hy; subst hy; simpa using hl
          · exact h3 j y (by omega) hy
/-- The reference's heap in memory. -/
structure RH (w : World) (o h : Nat) (v : Value) (R : List RIt) : Prop where
  blk : Blk w h 128 #[.int .i64 (o : Int), v]
  row : RowAt w 133 1 v R.length (R.map fun a => ptr a.p)
  its : ∀ (k : Nat) a, R[k]? = some a → Blk w a.p 137 #[.int .i64 a.x.k, .int .i64 a.x.g, .int .i64 (k : Int), .bool a.gone]
  ne : R.Pairwise fun a b => a.p ≠ b.p
  le : R.length ≤ 1000000
def ownR (h : Nat) (v : Value) (R : List RIt) (b : Nat) : Prop := b = h ∨ v.ownBlock = some b ∨ ∃ a, a ∈ R ∧ a.p = b
section
variable {w w' : World} {o h : Nat} {v : Value} {R : List RIt}
theorem RH.fr {e : Nat → Prop} (H : RH w o h v R) (hf : Fr w w' e) (hn : ∀ b, ownR h v R b → ¬ e b) : RH w' o h v R :=
  ⟨H.blk.fr hf (hn h (.inl rfl)), H.row.fr hf fun g hg => hn g (.inr (.inl hg)), fun k a hk => (H.its k a hk).fr hf (hn _ (.inr (.inr ⟨a, List.mem_of_getElem? hk, rfl⟩))), H.ne, H.le⟩
theorem RH.sm (H : RH w o h v R) (hf : Fr w w' (fun _ => False)) : RH w' o h v R := H.fr hf fun _ _ q => q
theorem RH.lt (H : RH w o h v R) {b : Nat} (hb : ownR h v R b) : b < w.heap.size := by
  rcases hb with rfl | hb | ⟨a, h1, rfl⟩
  · exact H.blk.lt
  · exact (H.row.lt hb).1
  · obtain ⟨k, hk⟩ := List.mem_iff_getElem?.1 h1
    exact (H.its k a hk).lt
theorem RH.slice (H : RH w o h v R) (hn : 0 < R.length) : ∃ g off cap, v = .slice (some ⟨g, off, none⟩) R.length cap ∧ g ≠ h ∧ (∀ a, a ∈ R → a.p ≠ g ∧ a.p ≠ h) ∧ ∀ (k : Nat) a, R[k]? = some a → w.cell? ⟨g, off + k, none⟩ = some (ptr a.p) := by
  obtain ⟨g, off, cap, cur, rfl, hg, hcap, hmax, hcs, htake⟩ := H.row.more hn
  have hB : Blk w g 133 cur := hg
  refine ⟨g, off, cap, rfl, hB.neT H.blk (by decide), fun a ha => ?_, fun k a hk => ?_⟩
  · obtain ⟨k, hk⟩ := List.mem_iff_getElem?.1 ha
    exact ⟨(H.its k a hk).neT hB (by decide), (H.its k a hk).neT H.blk (by decide)⟩
  · exact H.row.cell rfl (by rw [List.getElem?_map, hk]; rfl)
set_option maxRecDepth 100000 in
theorem rNew_any (o : Nat) (z : Int) (hz : z = (o : Int)) (w : World) :
    Calls Try.prog 40 #[.int .i64 z] w fun e w' => e = .returned (ptr w.heap.size) ∧ RH w' o w.heap.size (.slice none 0 0) [] ∧ Fr w w' (fun _ => False) := by
  subst hz
  have HN : Hid (RH (w.alloc (.cells #[.int .i64 (o : Int), .slice none 0 0] 128)) o w.heap.size (.slice none 0 0) []) := ⟨Blk.new _ _ _, RowAt.none0 _ _ _, fun k a hk => by simp at hk, List.Pairwise.nil, by simp⟩
  go_enter Try.func40, Try.ntmps40
  go_wp2
  go_ret
  exact ⟨rfl, HN.out, Fr.alloc _ _ _⟩
set_option maxRecDepth 100000 in
theorem rValue_any (H : RH w o h v R) {k : Nat} {a : RIt} (hk : R[k]? = some a) :
    Calls Try.prog 84 #[ptr a.p] w fun e w' => e = .returned (.agg #[.int .i64 a.x.k, .int .i64 a.x.g]) ∧ Fr w w' (fun _ => False) := by
  have hb := H.its k a hk
  have hb2 := hb.alloc (.cells #[.int .i64 0, .int .i64 0] 30)
  have a0 : (w.alloc (.cells #[.int .i64 0, .int .i64 0] 30)).cell? ⟨a.p, 0, none⟩ = some (.int .i64 a.x.k) := hb2.cell 0
  have a1 : (w.alloc (.cells #[.int .i64 0, .int .i64 0] 30)).cell? ⟨a.p, 1, none⟩ = some (.int .i64 a.x.g) := hb2.cell 1
  have hne : a.p ≠ w.heap.size := Nat.ne_of_lt hb.lt
  clear hb hb2 H
  go_enter Try.func84, Try.ntmps84
  go_wp2
  refine bodyPost_ret (results_cell_row (fn := Try.f84) (p := 2) (ty := 30) rfl _ _ w.heap.size 30 #[.int .i64 a.x.k, .int .i64 a.x.g] (0, 0) _ (by rfl) (Blk.new _ _ _) Try.underlying30 rfl (by kernel_rfl)) (by rfl) ?_
  exact ⟨rfl, Fr.alloc _ _ _⟩
theorem live_take (R : List RIt) {k : Nat} {a : RIt} (hk : R[k]? = some a) : (liveL (R.take (k + 1))).length = (liveL (R.take k)).length + (if a.gone then 0 else 1) := by
  have hkl := get_lt hk
  have e : R.take (k + 1) = R.take k ++ [a] := by rw [List.take_add_one, hk]; rfl
  rw [e]
  unfold liveL
  rw [List.filter_append, List.map_append, List.length_append]
  cases ha : a.gone <;> simp [ha]
set_option maxRecDepth 100000 in
set_option maxHeartbeats 1000000 in
theorem rLen_any (H : RH w o h v R) : Calls Try.prog 70 #[ptr h] w fun e w' => e = .returned (.int .i64 ((liveL R).length : Int)) ∧ w' = w := by
  have HH : Hid (RH w o h v R) := H
  obtain ⟨ao, cap, hvf, _⟩ := H.row.form
  have hlen := H.le
  subst hvf
  have d1 : w.cell? ⟨h, 1, none⟩ = some (.slice ao R.length cap) := H.blk.cell 1
  have HR : Hid (∀ n, n = R.length → (liveL (R.take n)).length = (liveL R).length) := fun n hn => by rw [hn, List.take_length]
  generalize (liveL R).length = RL at *
  clear H
  go_enter Try.func70, Try.ntmps70
  go_wp2
  go_loop [3, 4] (fun x3 x4 => ∃ k c : Nat, k ≤ R.length ∧ Hid (c = (liveL (R.take k)).length ∧ c ≤ k) ∧ x3 = .int .i64 (c : Int) ∧ x4 = .int .i64 (k : Int)) (fun _ x4 => R.length - (RowKit.intOf x4).toNat)
  case atStart => exact ⟨0, 0, Nat.zero_le _, ⟨by simp [liveL], Nat.le_refl _⟩, rfl, rfl⟩
  case round =>
    obtain ⟨k, c, hk, HC, rfl, rfl⟩ := hrel
    by_cases hlt : k < R.length
    · have hki : (k : Int) < (R.length : Int) := by omega
      obtain ⟨a, ha⟩ := get_some R hlt
      obtain ⟨g, off, cap', hv, _, _, h4⟩ := HH.out.slice (by omega)
      injection hv with e1 _ e2
      subst e1 e2
      have hc := h4 k a ha
      have hg : w.cell? ⟨a.p, 3, none⟩ = some (.bool a.gone) := (HH.out.its k a ha).cell 3
      have hcb : c ≤ k := HC.out.2
      have hb1 : (k : Int) + 1 < 9223372036854775808 := by omega
      have hb2 : (c : Int) + 1 < 9223372036854775808 := by omega
      have HT : Hid ((liveL (R.take (k + 1))).length = (liveL (R.take k)).length + (if a.gone then 0 else 1)) := live_take R ha
      clear h4 ha
      cases hgo : a.gone with
      | true =>
        rw [hgo] at hg HT
        go_wp2
        go_round
        case rel => exact ⟨k + 1, c, by omega, ⟨by have h1 := HT.out; have h2 := HC.out.1; simp at h1; omega, by omega⟩, rfl, by go_num⟩
        case measure => simp [RowKit.intOf]; omega
      | false =>
        rw [hgo] at hg HT
        go_wp2
        go_round
        case rel => exact ⟨k + 1, c + 1, by omega, ⟨by have h1 := HT.out; have h2 := HC.out.1; simp at h1; omega, by omega⟩, by go_num, by go_num⟩
        case measure => simp [RowKit.intOf]; omega
    · have hki : ¬ (k : Int) < (R.length : Int) := by omega
      have hcr : c = RL := by rw [← HR.out k (by omega)]; exact HC.out.1
      subst hcr
      go_wp2
      go_ret
      exact ⟨rfl, rfl⟩
end
end Go.Proofs.Ytdnhhcbabdoomaa
