import Derived.Tactics
import Derived.Test.YtkpoheknmcepnaaGreatDoorBNum
import Derived.Deep.QuietTactic
import Derived.BigQuiet
import Derived.Test.YtkpoheknmcepnaaGreatDoorStr
import Derived.Lib.ConvBytes

namespace Go.Proofs.YtkpoheknmcepnaaGreatDoor
set_option linter.unusedVariables false

/-- What bytes are: the beginning of a frame (so many bytes must be there ahead of the next look), a frame of so many bytes and more, or no beginning. -/
inductive Sight where
  | begun (n : Nat)
  | whole (n : Nat)
  | wrong
/-- A look that more bytes do not turn. -/
structure Steady (f : List UInt8 → Sight) : Prop where
  whole : ∀ {b : List UInt8} {n : Nat}, f b = .whole n → 0 < n ∧ n ≤ b.length ∧ ∀ c, f (b ++ c) = .whole n
  wrong : ∀ {b : List UInt8}, f b = .wrong → b ≠ [] ∧ ∀ c, f (b ++ c) = .wrong
  begun : ∀ {b : List UInt8} {n : Nat}, f b = .begun n → b.length < n ∧ ∀ c, (b ++ c).length < n → ∃ m, f (b ++ c) = .begun m
/-- What comes of a walk: the frames, with the junk ahead of each; the junk since the last one; the junk in all; what waits. -/
structure Out where
  fs : List (List UInt8 × Nat)
  j : Nat
  k : Nat
  r : List UInt8
def walkF (f : List UInt8 → Sight) : Nat → List UInt8 → Nat → Out
  | 0, b, j => ⟨[], j, 0, b⟩
  | n + 1, b, j => match f b with
    | .begun _ => ⟨[], j, 0, b⟩
    | .whole s => let o := walkF f n (b.drop s) 0; ⟨(b.take s, j) :: o.fs, o.j, o.k, o.r⟩
    | .wrong => let o := walkF f n (b.drop 1) (j + 1); ⟨o.fs, o.j, o.k + 1, o.r⟩
def walkL (f : List UInt8 → Sight) (b : List UInt8) (j : Nat) : Out := walkF f (b.length + 1) b j
theorem walkF_enough {f : List UInt8 → Sight} (hf : Steady f) : ∀ (n m : Nat) (b : List UInt8) (j : Nat), b.length < n → b.length < m → walkF f n b j = walkF f m b j
  | 0, m, b, j, h, _ => by omega
  | n + 1, 0, b, j, _, h => by omega
  | n + 1, m + 1, b, j, h1, h2 => by
    unfold walkF
    cases h : f b with
    | begun s => rfl
    | whole s =>
      obtain ⟨g1, g2, _⟩ := hf.whole h
      have := walkF_enough hf n m (b.drop s) 0 (by rw [List.length_drop]; omega) (by rw [List.length_drop]; omega)
      simp only [this]
    | wrong =>
      have hb : 0 < b.length := List.length_pos_iff.2 (hf.wrong h).1
      have := walkF_enough hf n m (b.drop 1) (j + 1) (by rw [List.length_drop]; omega) (by rw [List.length_drop]; omega)
      simp only [this]
theorem walkL_begun {f : List UInt8 → Sight} {b : List UInt8} {n : Nat} (h : f b = .begun n) (j : Nat) : walkL f b j = ⟨[], j, 0, b⟩ := by
  unfold walkL walkF; rw [h]
theorem walkL_whole {f : List UInt8 → Sight} (hf : Steady f) {b : List UInt8} {s : Nat} (h : f b = .whole s) (j : Nat) : walkL f b j = ⟨(b.take s, j) :: (walkL f (b.drop s) 0).fs, (walkL f (b.drop s) 0).j, (walkL f (b.drop s) 0).k, (walkL f (b.drop s) 0).r⟩ := by
  obtain ⟨g1, g2, _⟩ := hf.whole h
  have e : walkF f b.length (b.drop s) 0 = walkL f (b.drop s) 0 := walkF_enough hf _ _ _ _ (by rw [List.length_drop]; omega) (by omega)
  show walkF f (b.length + 1) b j = _
  unfold walkF
  rw [h]
  simp only [e]
theorem walkL_wrong {f : List UInt8 → Sight} (hf : Steady f) {b : List UInt8} (h : f b = .wrong) (j : Nat) : walkL f b j = ⟨(walkL f (b.drop 1) (j + 1)).fs, (walkL f (b.drop 1) (j + 1)).j, (walkL f (b.drop 1) (j + 1)).k + 1, (walkL f (b.drop 1) (j + 1)).r⟩ := by
  have hb : 0 < b.length := List.length_pos_iff.2 (hf.wrong h).1
  have e : walkF f b.length (b.drop 1) (j + 1) = walkL f (b.drop 1) (j + 1) := walkF_enough hf _ _ _ _ (by rw [List.length_drop]; omega) (by omega)
  show walkF f (b.length + 1) b j = _
  unfold walkF
  rw [h]
  simp only [e]
/-- The pieces do not count. -/
theorem walk_pieces {f : List UInt8 → Sight} (hf : Steady f) : ∀ (n : Nat) (a b : List UInt8) (j : Nat), a.length ≤ n →
    walkL f (a ++ b) j = ⟨(walkL f a j).fs ++ (walkL f ((walkL f a j).r ++ b) (walkL f a j).j).fs, (walkL f ((walkL f a j).r ++ b) (walkL f a j).j).j, (walkL f a j).k + (walkL f ((walkL f a j).r ++ b) (walkL f a j).j).k, (walkL f ((walkL f a j).r ++ b) (walkL f a j).j).r⟩ := fun n => by
  induction n with
  | zero =>
    intro a b j ha
    obtain rfl : a = [] := List.length_eq_zero_iff.1 (by omega)
    cases h : f [] with
    | begun s => rw [walkL_begun h]; simp
    | whole s => obtain ⟨g1, g2, _⟩ := hf.whole h; simp at g2; omega
    | wrong => exact absurd rfl (hf.wrong h).1
  | succ n ih =>
    intro a b j ha
    cases h : f a with
    | begun s => rw [walkL_begun h]; simp
    | whole s =>
      obtain ⟨g1, g2, g3⟩ := hf.whole h
      have hd : (a ++ b).drop s = a.drop s ++ b := List.drop_append_of_le_length g2
      have ht : (a ++ b).take s = a.take s := List.take_append_of_le_length g2
      have i := ih (a.drop s) b 0 (by rw [List.length_drop]; omega)
      rw [walkL_whole hf (g3 b), hd, ht, i, walkL_whole hf h]
      simp
    | wrong =>
      obtain ⟨g1, g2⟩ := hf.wrong h
      have hl : 1 ≤ a.length := List.length_pos_iff.2 g1
      have hd : (a ++ b).drop 1 = a.drop 1 ++ b := List.drop_append_of_le_length hl
      have i := ih (a.drop 1) b (j + 1) (by rw [List.length_drop]; omega)
      rw [walkL_wrong hf (g2 b), hd, i, walkL_wrong hf h]
      simp
      omega
/-- Each byte is one of a frame, junk, or waits. -/
def sumF (l : List (List UInt8 × Nat)) : Nat := (l.map fun x => x.1.length).foldr (· + ·) 0
theorem walk_all {f : List UInt8 → Sight} (hf : Steady f) : ∀ (n : Nat) (b : List UInt8) (j : Nat), b.length ≤ n → sumF (walkL f b j).fs + (walkL f b j).k + (walkL f b j).r.length = b.length := fun n => by
  induction n with
  | zero =>
    intro b j hb
    obtain rfl : b = [] := List.length_eq_zero_iff.1 (by omega)
    cases h : f [] with
    | begun s => rw [walkL_begun h]; simp [sumF]
    | whole s => obtain ⟨g1, g2, _⟩ := hf.whole h; simp at g2; omega
    | wrong => exact absurd rfl (hf.wrong h).1
  | succ n ih =>
    intro b j hb
    cases h : f b with
    | begun s => rw [walkL_begun h]; simp [sumF]
    | whole s =>
      obtain ⟨g1, g2, g3⟩ := hf.whole h
      have i := ih (b.drop s) 0 (by rw [List.length_drop]; omega)
      rw [walkL_whole hf h]
      rw [List.length_drop] at i
      simp only [sumF, List.map_cons, List.foldr_cons, List.length_take] at i ⊢
      omega
    | wrong =>
      have hl : 1 ≤ b.length := List.length_pos_iff.2 (hf.wrong h).1
      have i := ih (b.drop 1) (j + 1) (by rw [List.length_drop]; omega)
      rw [walkL_wrong hf h]
      rw [List.length_drop] at i
      simp only at i ⊢
      omega
end Go.Proofs.YtkpoheknmcepnaaGreatDoor

namespace Go.Proofs.YtkpoheknmcepnaaGreatDoor
set_option linter.unusedVariables false

/-- What a part of a look tells: so many bytes are wanted; it is there, and this comes of it; it is not there. -/
inductive Part (α : Type) where
  | begun (n : Nat)
  | whole (a : α)
  | wrong
def Part.then {α β : Type} (f : List UInt8 → Part α) (g : α → List UInt8 → Part β) (b : List UInt8) : Part β :=
  match f b with
  | .begun n => .begun n
  | .whole a => g a b
  | .wrong => .wrong
/-- A part that more bytes do not turn, of the bytes that P holds of. -/
structure Firm {α : Type} (P : List UInt8 → Prop) (f : List UInt8 → Part α) : Prop where
  whole : ∀ {b : List UInt8} {a : α}, P b → f b = .whole a → ∀ c, f (b ++ c) = .whole a
  wrong : ∀ {b : List UInt8}, P b → f b = .wrong → b ≠ [] ∧ ∀ c, f (b ++ c) = .wrong
  begun : ∀ {b : List UInt8} {n : Nat}, P b → f b = .begun n → b.length < n ∧ ∀ c, (b ++ c).length < n → ∃ m, f (b ++ c) = .begun m
theorem Firm.then {α β : Type} {P : List UInt8 → Prop} {f : List UInt8 → Part α} {g : α → List UInt8 → Part β} (hf : Firm P f) (hg : ∀ a, Firm (fun b => P b ∧ f b = .whole a) (g a)) : Firm P (Part.then f g) where
  whole := fun {b} {a} hP h c => by
    unfold Part.then at h ⊢
    cases e : f b with
    | begun n => rw [e] at h; exact absurd h (by simp)
    | wrong => rw [e] at h; exact absurd h (by simp)
    | whole x => rw [e] at h; rw [hf.whole hP e c]; exact (hg x).whole ⟨hP, e⟩ h c
  wrong := fun {b} hP h => by
    unfold Part.then at h ⊢
    cases e : f b with
    | begun n => rw [e] at h; exact absurd h (by simp)
    | wrong => exact ⟨(hf.wrong hP e).1, fun c => by rw [(hf.wrong hP e).2 c]⟩
    | whole x => rw [e] at h; exact ⟨((hg x).wrong ⟨hP, e⟩ h).1, fun c => by rw [hf.whole hP e c]; exact ((hg x).wrong ⟨hP, e⟩ h).2 c⟩
  begun := fun {b} {n} hP h => by
    unfold Part.then at h ⊢
    cases e : f b with
    | begun k =>
      rw [e] at h
      injection h with h
      subst h
      refine ⟨(hf.begun hP e).1, fun c hc => ?_⟩
      obtain ⟨m, hm⟩ := (hf.begun hP e).2 c hc
      exact ⟨m, by rw [hm]⟩
    | wrong => rw [e] at h; exact absurd h (by simp)
    | whole x =>
      rw [e] at h
      refine ⟨((hg x).begun ⟨hP, e⟩ h).1, fun c hc => ?_⟩
      rw [hf.whole hP e c]
      exact ((hg x).begun ⟨hP, e⟩ h).2 c hc
theorem Firm.of {α : Type} {P Q : List UInt8 → Prop} {f : List UInt8 → Part α} (hf : Firm Q f) (h : ∀ b, P b → Q b) : Firm P f :=
  ⟨fun p => hf.whole (h _ p), fun p => hf.wrong (h _ p), fun p => hf.begun (h _ p)⟩

/-- lookFor. -/
def forL : List UInt8 → Nat → List UInt8 → Part Nat
  | [], i, _ => .whole i
  | t :: ts, i, b => if h : i < b.length then (if b[i] = t then forL ts (i + 1) b else .wrong) else .begun (i + 1)
theorem forL_whole : ∀ {t : List UInt8} {i n : Nat} {b : List UInt8}, forL t i b = .whole n → n = i + t.length ∧ (t ≠ [] → n ≤ b.length) ∧ ∀ c, forL t i (b ++ c) = .whole n
  | [], i, n, b, h => by
    unfold forL at h ⊢
    injection h with h
    exact ⟨by simp [h], fun e => absurd rfl e, fun c => by rw [h]⟩
  | t :: ts, i, n, b, h => by
    unfold forL at h
    split at h
    · rename_i hi
      split at h
      · rename_i ht
        obtain ⟨g1, g2, g3⟩ := forL_whole h
        refine ⟨by rw [g1, List.length_cons]; omega, fun _ => ?_, fun c => ?_⟩
        · cases ts with
          | nil => simp at g1; omega
          | cons x xs => exact g2 (by simp)
        · unfold forL
          have h1 : i < (b ++ c).length := by rw [List.length_append]; omega
          rw [dif_pos h1, List.getElem_append_left hi, if_pos ht]
          exact g3 c
      · exact absurd h (by simp)
    · exact absurd h (by simp)
theorem forL_wrong : ∀ {t : List UInt8} {i : Nat} {b : List UInt8}, forL t i b = .wrong → b ≠ [] ∧ ∀ c, forL t i (b ++ c) = .wrong
  | [], i, b, h => by unfold forL at h; exact absurd h (by simp)
  | t :: ts, i, b, h => by
    unfold forL at h
    split at h
    · rename_i hi
      refine ⟨fun e => by rw [e] at hi; simp at hi, fun c => ?_⟩
      unfold forL
      have h1 : i < (b ++ c).length := by rw [List.length_append]; omega
      rw [dif_pos h1, List.getElem_append_left hi]
      split at h
      · rename_i ht
        rw [if_pos ht]
        exact (forL_wrong h).2 c
      · rename_i ht
        rw [if_neg ht]
    · exact absurd h (by simp)
theorem forL_begun : ∀ {t : List UInt8} {i n : Nat} {b : List UInt8}, forL t i b = .begun n → b.length < n ∧ n ≤ i + t.length ∧ ∀ c, (b ++ c).length < n → forL t i (b ++ c) = .begun n
  | [], i, n, b, h => by unfold forL at h; exact absurd h (by simp)
  | t :: ts, i, n, b, h => by
    unfold forL at h
    split at h
    · rename_i hi
      split at h
      · rename_i ht
        obtain ⟨g1, g2, g3⟩ := forL_begun h
        refine ⟨g1, by rw [List.length_cons]; omega, fun c hc => ?_⟩
        unfold forL
        have h1 : i < (b ++ c).length := by rw [List.length_append]; omega
        rw [dif_pos h1, List.getElem_append_left hi, if_pos ht]
        exact g3 c hc
      · exact absurd h (by simp)
    · rename_i hi
      injection h with h
      refine ⟨by omega, by rw [List.length_cons]; omega, fun c hc => ?_⟩
      unfold forL
      rw [dif_neg (by omega), h]
theorem forL_firm (t : List UInt8) (i : Nat) : Firm (fun _ => True) (forL t i) :=
  ⟨fun _ h => (forL_whole h).2.2, fun _ h => forL_wrong h, fun _ h => ⟨(forL_begun h).1, fun c hc => ⟨_, (forL_begun h).2.2 c hc⟩⟩⟩
/-- So many bytes are there. -/
def roomL (n : Nat) (b : List UInt8) : Part Unit := if b.length < n then .begun n else .whole ()
theorem roomL_firm (n : Nat) : Firm (fun _ => True) (roomL n) where
  whole := fun {b} {a} _ h c => by
    unfold roomL at h ⊢
    split at h
    · exact absurd h (by simp)
    · rw [if_neg (by rw [List.length_append]; omega)]
  wrong := fun {b} _ h => by
    unfold roomL at h
    split at h <;> exact absurd h (by simp)
  begun := fun {b} {k} _ h => by
    unfold roomL at h ⊢
    split at h
    · injection h with h
      subst h
      exact ⟨by assumption, fun c hc => ⟨n, by rw [if_pos hc]⟩⟩
    · exact absurd h (by simp)
theorem roomL_whole {n : Nat} {b : List UInt8} {u : Unit} (h : roomL n b = .whole u) : n ≤ b.length := by
  unfold roomL at h
  split at h
  · exact absurd h (by simp)
  · omega
/-- What so many bytes tell. -/
def tellL {α : Type} (k : Nat) (p : List UInt8 → Option α) (b : List UInt8) : Part α := match p (b.take k) with
  | some a => .whole a
  | none => .wrong
theorem tellL_firm {α : Type} {k : Nat} (hk : 0 < k) (p : List UInt8 → Option α) : Firm (fun b => k ≤ b.length) (tellL k p) where
  whole := fun {b} {a} hP h c => by
    unfold tellL at h ⊢
    rw [List.take_append_of_le_length hP]
    exact h
  wrong := fun {b} hP h => ⟨fun e => by rw [e] at hP; simp at hP; omega, fun c => by
    unfold tellL at h ⊢
    rw [List.take_append_of_le_length hP]
    exact h⟩
  begun := fun {b} {n} hP h => by
    unfold tellL at h
    split at h <;> exact absurd h (by simp)
/-- A text, which the bytes ahead of it tell, at a place. -/
def endL (k : Nat) (p : List UInt8 → List UInt8) (i : Nat) (b : List UInt8) : Part Nat := forL (p (b.take k)) i b
theorem endL_firm (k : Nat) (p : List UInt8 → List UInt8) (i : Nat) : Firm (fun b => k ≤ b.length) (endL k p i) where
  whole := fun {b} {a} hP h c => by
    unfold endL at h ⊢
    rw [List.take_append_of_le_length hP]
    exact (forL_whole h).2.2 c
  wrong := fun {b} hP h => ⟨(forL_wrong h).1, fun c => by
    unfold endL at h ⊢
    rw [List.take_append_of_le_length hP]
    exact (forL_wrong h).2 c⟩
  begun := fun {b} {n} hP h => ⟨(forL_begun h).1, fun c hc => by
    unfold endL at h ⊢
    rw [List.take_append_of_le_length hP]
    exact ⟨n, (forL_begun h).2.2 c hc⟩⟩

def Part.sight : Part Nat → Sight
  | .begun n => .begun n
  | .whole n => .whole n
  | .wrong => .wrong
theorem Firm.steady {f : List UInt8 → Part Nat} (hf : Firm (fun _ => True) f) (h : ∀ b n, f b = .whole n → 0 < n ∧ n ≤ b.length) : Steady (fun b => (f b).sight) where
  whole := fun {b} {n} e => by
    cases e' : f b with
    | whole m =>
      simp only [e', Part.sight] at e
      injection e with e
      subst e
      exact ⟨(h b m e').1, (h b m e').2, fun c => by simp only [hf.whole trivial e' c, Part.sight]⟩
    | begun m => simp only [e', Part.sight] at e; exact absurd e (by simp)
    | wrong => simp only [e', Part.sight] at e; exact absurd e (by simp)
  wrong := fun {b} e => by
    cases e' : f b with
    | whole m => simp only [e', Part.sight] at e; exact absurd e (by simp)
    | begun m => simp only [e', Part.sight] at e; exact absurd e (by simp)
    | wrong => exact ⟨(hf.wrong trivial e').1, fun c => by simp only [(hf.wrong trivial e').2 c, Part.sight]⟩
  begun := fun {b} {n} e => by
    cases e' : f b with
    | whole m => simp only [e', Part.sight] at e; exact absurd e (by simp)
    | wrong => simp only [e', Part.sight] at e; exact absurd e (by simp)
    | begun m =>
      simp only [e', Part.sight] at e
      injection e with e
      subst e
      refine ⟨(hf.begun trivial e').1, fun c hc => ?_⟩
      obtain ⟨k, hk⟩ := (hf.begun trivial e').2 c hc
      exact ⟨k, by simp only [hk, Part.sight]⟩

/-- The look at frames in fixed places: by the kind and the length the size, then the version, then the sum. -/
def binP (size : List UInt8 → Option Nat) (ok : List UInt8 → Bool) : List UInt8 → Part Nat :=
  Part.then (forL [79, 67] 0) fun _ => Part.then (roomL 5) fun _ => Part.then (tellL 5 size) fun s => Part.then (forL [1] 5) fun _ => Part.then (roomL s) fun _ => tellL s fun b => if ok b then some s else none
theorem binP_firm (size : List UInt8 → Option Nat) (ok : List UInt8 → Bool) (hs : ∀ b s, size b = some s → 0 < s) : Firm (fun _ => True) (binP size ok) := by
  refine (forL_firm _ _).then fun _ => ((roomL_firm 5).of fun _ _ => trivial).then fun u => ((tellL_firm (by omega) size).of fun b hb => roomL_whole hb.2).then fun s => ((forL_firm _ _).of fun _ _ => trivial).then fun _ => ((roomL_firm s).of fun _ _ => trivial).then fun v => ?_
  by_cases h0 : 0 < s
  · exact (tellL_firm h0 _).of fun b hb => roomL_whole hb.2
  · have no : ∀ b : List UInt8, tellL 5 size b = .whole s → False := fun b hb => by
      unfold tellL at hb
      split at hb
      · rename_i a ha; injection hb with hb; subst hb; exact h0 (hs _ _ ha)
      · exact absurd hb (by simp)
    exact ⟨fun hb => (no _ hb.1.1.2).elim, fun hb => (no _ hb.1.1.2).elim, fun hb => (no _ hb.1.1.2).elim⟩
end Go.Proofs.YtkpoheknmcepnaaGreatDoor

namespace Go.Proofs.YtkpoheknmcepnaaGreatDoor
set_option linter.unusedVariables false

theorem binP_whole {size : List UInt8 → Option Nat} {ok : List UInt8 → Bool} (hs : ∀ b s, size b = some s → 0 < s) (b : List UInt8) (n : Nat) (h : binP size ok b = .whole n) : 0 < n ∧ n ≤ b.length := by
  unfold binP Part.then at h
  cases h1 : forL [79, 67] 0 b with
  | begun m => simp only [h1] at h; exact absurd h (by simp)
  | wrong => simp only [h1] at h; exact absurd h (by simp)
  | whole x =>
    simp only [h1] at h
    cases h2 : roomL 5 b with
    | begun m => simp only [h2] at h; exact absurd h (by simp)
    | wrong => simp only [h2] at h; exact absurd h (by simp)
    | whole y =>
      simp only [h2] at h
      cases h3 : tellL 5 size b with
      | begun m => simp only [h3] at h; exact absurd h (by simp)
      | wrong => simp only [h3] at h; exact absurd h (by simp)
      | whole s =>
        simp only [h3] at h
        cases h4 : forL [1] 5 b with
        | begun m => simp only [h4] at h; exact absurd h (by simp)
        | wrong => simp only [h4] at h; exact absurd h (by simp)
        | whole z =>
          simp only [h4] at h
          cases h5 : roomL s b with
          | begun m => simp only [h5] at h; exact absurd h (by simp)
          | wrong => simp only [h5] at h; exact absurd h (by simp)
          | whole u =>
            simp only [h5] at h
            have hl := roomL_whole h5
            have e : n = s := by
              unfold tellL at h
              split at h
              · rename_i a ha
                injection h with h
                simp only at ha
                split at ha
                · injection ha with ha; rw [← h, ← ha]
                · exact absurd ha (by simp)
              · exact absurd h (by simp)
            have e3 : 0 < s := by
              unfold tellL at h3
              split at h3
              · rename_i a ha; injection h3 with h3; subst h3; exact hs _ _ ha
              · exact absurd h3 (by simp)
            rw [e]
            exact ⟨e3, hl⟩
theorem binP_steady (size : List UInt8 → Option Nat) (ok : List UInt8 → Bool) (hs : ∀ b s, size b = some s → 0 < s) : Steady (fun b => (binP size ok b).sight) :=
  (binP_firm size ok hs).steady fun b n h => binP_whole hs b n h

def isDigB (c : UInt8) : Bool := decide (48 ≤ c) && decide (c ≤ 57)
/-- The digits at a place. -/
def digsAt (i : Nat) (b : List UInt8) : List UInt8 := (b.drop i).takeWhile isDigB
theorem digsAt_le (i : Nat) (b : List UInt8) (h : i ≤ b.length) : i + (digsAt i b).length ≤ b.length := by
  have := (List.takeWhile_prefix isDigB (l := b.drop i)).length_le
  rw [List.length_drop] at this
  unfold digsAt
  omega
theorem digsAt_cut {i : Nat} {b : List UInt8} (h : i + (digsAt i b).length < b.length) (c : List UInt8) : digsAt i (b ++ c) = digsAt i b := by
  unfold digsAt at h ⊢
  rw [List.drop_append_of_le_length (by omega), List.takeWhile_append, if_neg (by rw [List.length_drop]; omega)]
theorem digsAt_all {i : Nat} {b : List UInt8} (hi : i ≤ b.length) (h : i + (digsAt i b).length = b.length) (c : List UInt8) : digsAt i (b ++ c) = digsAt i b ++ c.takeWhile isDigB := by
  unfold digsAt at h ⊢
  have e : ((b.drop i).takeWhile isDigB).length = (b.drop i).length := by rw [List.length_drop]; omega
  rw [List.drop_append_of_le_length hi, List.takeWhile_append, if_pos e]
  rw [(List.takeWhile_prefix isDigB (l := b.drop i)).eq_of_length e]
/-- The length, and where the body begins. -/
def lenL (val : List UInt8 → Option Nat) (i : Nat) (b : List UInt8) : Part (Nat × Nat) := match val (digsAt i b) with
  | none => .wrong
  | some v => match forL [1] (i + (digsAt i b).length) b with
    | .begun n => .begun n
    | .wrong => .wrong
    | .whole k => .whole (v, k)
theorem lenL_firm {val : List UInt8 → Option Nat} (h0 : val [] = none) (hv : ∀ d d' : List UInt8, d ≠ [] → val d = none → val (d ++ d') = none) (i : Nat) : Firm (fun b => i + 1 ≤ b.length) (lenL val i) where
  whole := fun {b} {a} hP h c => by
    unfold lenL at h ⊢
    cases hd : val (digsAt i b) with
    | none => simp only [hd] at h; exact absurd h (by simp)
    | some v =>
      simp only [hd] at h
      cases hf : forL [1] (i + (digsAt i b).length) b with
      | begun n => simp only [hf] at h; exact absurd h (by simp)
      | wrong => simp only [hf] at h; exact absurd h (by simp)
      | whole k =>
        have g := forL_whole hf
        have gl := g.2.1 (by simp)
        have g1 := g.1
        simp only [List.length_cons, List.length_nil] at g1
        rw [digsAt_cut (by omega) c]
        simp only [hd, g.2.2 c]
        simp only [hf] at h
        exact h
  wrong := fun {b} hP h => ⟨fun e => by rw [e] at hP; simp at hP, fun c => by
    unfold lenL at h ⊢
    have hle := digsAt_le i b (by omega)
    cases hd : val (digsAt i b) with
    | none =>
      by_cases hl : i + (digsAt i b).length < b.length
      · rw [digsAt_cut hl c]; simp only [hd]
      · rw [digsAt_all (by omega) (by omega) c, hv _ _ (fun e => by rw [e] at hl; simp at hl; omega) hd]
    | some v =>
      simp only [hd] at h
      cases hf : forL [1] (i + (digsAt i b).length) b with
      | begun n => simp only [hf] at h; exact absurd h (by simp)
      | whole n => simp only [hf] at h; exact absurd h (by simp)
      | wrong =>
        have hl : i + (digsAt i b).length < b.length := by
          unfold forL at hf
          split at hf
          · assumption
          · exact absurd hf (by simp)
        rw [digsAt_cut hl c]
        simp only [hd, (forL_wrong hf).2 c]⟩
  begun := fun {b} {n} hP h => by
    have h' := h
    unfold lenL at h
    cases hd : val (digsAt i b) with
    | none => simp only [hd] at h; exact absurd h (by simp)
    | some v =>
      simp only [hd] at h
      cases hf : forL [1] (i + (digsAt i b).length) b with
      | whole n => simp only [hf] at h; exact absurd h (by simp)
      | wrong => simp only [hf] at h; exact absurd h (by simp)
      | begun m =>
        simp only [hf] at h
        injection h with h
        subst h
        have g := forL_begun hf
        have g2 := g.2.1
        simp only [List.length_cons, List.length_nil] at g2
        have hle := digsAt_le i b (by omega)
        refine ⟨g.1, fun c hc => ?_⟩
        rw [List.length_append] at hc
        obtain rfl : c = [] := List.length_eq_zero_iff.1 (by omega)
        rw [List.append_nil]
        exact ⟨_, h'⟩
/-- The look at frames of text: the head, the length, the body, the last field, which the bytes ahead of it tell. -/
def textP (val : List UInt8 → Option Nat) (pr : List UInt8 → List UInt8) (head last : List UInt8) : List UInt8 → Part Nat :=
  Part.then (forL head 0) fun i => Part.then (roomL (i + 1)) fun _ => Part.then (lenL val i) fun x => Part.then (forL last (x.2 + x.1)) fun k => endL (x.2 + x.1) pr k
theorem textP_firm {val : List UInt8 → Option Nat} (h0 : val [] = none) (hv : ∀ d d' : List UInt8, d ≠ [] → val d = none → val (d ++ d') = none) (pr : List UInt8 → List UInt8) (head last : List UInt8) (hl : last ≠ []) : Firm (fun _ => True) (textP val pr head last) := by
  refine (forL_firm _ _).then fun i => ((roomL_firm (i + 1)).of fun _ _ => trivial).then fun u => ((lenL_firm h0 hv i).of fun b hb => roomL_whole hb.2).then fun x => ((forL_firm _ _).of fun _ _ => trivial).then fun k => (endL_firm _ pr k).of fun b hb => ?_
  have g := forL_whole hb.2
  have g1 := g.2.1 hl
  have g2 := g.1
  omega
theorem textP_whole {val : List UInt8 → Option Nat} {pr : List UInt8 → List UInt8} {head last : List UInt8} (hp : ∀ b, pr b ≠ []) (b : List UInt8) (n : Nat) (h : textP val pr head last b = .whole n) : 0 < n ∧ n ≤ b.length := by
  unfold textP Part.then at h
  cases h1 : forL head 0 b with
  | begun m => simp only [h1] at h; exact absurd h (by simp)
  | wrong => simp only [h1] at h; exact absurd h (by simp)
  | whole i =>
    simp only [h1] at h
    cases h2 : roomL (i + 1) b with
    | begun m => simp only [h2] at h; exact absurd h (by simp)
    | wrong => simp only [h2] at h; exact absurd h (by simp)
    | whole y =>
      simp only [h2] at h
      cases h3 : lenL val i b with
      | begun m => simp only [h3] at h; exact absurd h (by simp)
      | wrong => simp only [h3] at h; exact absurd h (by simp)
      | whole x =>
        simp only [h3] at h
        cases h4 : forL last (x.2 + x.1) b with
        | begun m => simp only [h4] at h; exact absurd h (by simp)
        | wrong => simp only [h4] at h; exact absurd h (by simp)
        | whole k =>
          simp only [h4] at h
          unfold endL at h
          have g := forL_whole h
          have hp' := hp (b.take (x.2 + x.1))
          have hl : 0 < (pr (b.take (x.2 + x.1))).length := List.length_pos_iff.2 hp'
          have g2 := g.2.1 hp'
          have g1 := g.1
          exact ⟨by omega, g2⟩
theorem textP_steady {val : List UInt8 → Option Nat} (h0 : val [] = none) (hv : ∀ d d' : List UInt8, d ≠ [] → val d = none → val (d ++ d') = none) {pr : List UInt8 → List UInt8} (hp : ∀ b, pr b ≠ []) (head last : List UInt8) (hl : last ≠ []) : Steady (fun b => (textP val pr head last b).sight) :=
  (textP_firm h0 hv pr head last hl).steady fun b n h => textP_whole hp b n h
end Go.Proofs.YtkpoheknmcepnaaGreatDoor

namespace Go.Proofs.YtkpoheknmcepnaaGreatDoor
set_option linter.unusedVariables false
open Go.RowKit

/-- Bytes that lie in a row, as a list. -/
def LSrc (w : World) (a : Option Addr) (l : List UInt8) : Prop := l = [] ∨ ∃ b off, a = some ⟨b, off, none⟩ ∧ ∀ j (h : j < l.length), w.cell? ⟨b, off + j, none⟩ = some (.int .u8 (l[j].toNat : Int))
def Part.sg {α : Type} : Part α → Int
  | .begun _ => 0
  | .whole _ => 1
  | .wrong => 2
def Part.sz : Part Nat → Nat
  | .begun n => n
  | .whole n => n
  | .wrong => 0
theorem forL_next {t : List UInt8} {i k : Nat} {l : List UInt8} (hi : i < t.length) (hk : k + i < l.length) (he : l[k + i] = t[i]) (h : forL t k l = forL (t.drop i) (k + i) l) : forL t k l = forL (t.drop (i + 1)) (k + (i + 1)) l := by
  rw [h, List.drop_eq_getElem_cons hi]
  conv => lhs; unfold forL
  rw [dif_pos hk, if_pos he]
  rfl
theorem forL_no {t : List UInt8} {i k : Nat} {l : List UInt8} (hi : i < t.length) (hk : k + i < l.length) (he : ¬ l[k + i] = t[i]) (h : forL t k l = forL (t.drop i) (k + i) l) : forL t k l = .wrong := by
  rw [h, List.drop_eq_getElem_cons hi]
  unfold forL
  rw [dif_pos hk, if_neg he]
theorem forL_short {t : List UInt8} {i k : Nat} {l : List UInt8} (hi : i < t.length) (hk : ¬ k + i < l.length) (h : forL t k l = forL (t.drop i) (k + i) l) : forL t k l = .begun (k + i + 1) := by
  rw [h, List.drop_eq_getElem_cons hi]
  unfold forL
  rw [dif_neg hk]
theorem forL_end {t : List UInt8} {k : Nat} {l : List UInt8} (h : forL t k l = forL (t.drop t.length) (k + t.length) l) : forL t k l = .whole (k + t.length) := by
  rw [h, List.drop_length]
  rfl
theorem u8_of_int {a b : UInt8} (h : (a.toNat : Int) = (b.toNat : Int)) : a = b := UInt8.toNat_inj.1 (by omega)
theorem drewN_more {w wr : World} (h : ∃ q, wr = w.drewN q) (n : Nat) : ∃ q, wr.drewN n = w.drewN q := by
  obtain ⟨q, rfl⟩ := h
  exact ⟨_, World.drewN_drewN _ _ _⟩
set_option maxRecDepth 100000 in
set_option maxHeartbeats 400000 in
theorem lookFor_any (t : ByteArray) (a : Option Addr) (l : List UInt8) (cap k : Nat) (z : Int) (hz : z = (k : Int)) (w : World) (hs : LSrc w a l) (ht : t.size ≤ 1048576) (hl : l.length ≤ 1048576) (hk : k ≤ 1048576) :
    Calls Tryz.prog 47 #[.string t, .slice a l.length cap, .int .i64 z] w fun e w' => e = .returned (.tuple #[.int .i64 (forL t.data.toList k l).sg, .int .i64 ((forL t.data.toList k l).sz : Int)]) ∧ ∃ q, w' = w.drewN q := by
  subst hz
  have HS : Hid (LSrc w a l) := hs
  have hts : Hid (t.data.toList.length = t.size) := (Lib.size_eq t).symm
  clear hs
  have HF : Hid (∀ i (hi : i < t.size), t.data.toList[i]'(by rw [hts.out]; exact hi) = t[i]) := fun i hi => rfl
  generalize hF : forL t.data.toList k l = F at *
  have HH : Hid (forL t.data.toList k l = F) := hF
  clear hF
  go_enter Tryz.func47, Tryz.ntmps47
  go_wp2
  go_loopw [8, 11] (fun _ x wr => ∃ i : Nat, i ≤ t.size ∧ x = .int .i64 i ∧ Hid (forL t.data.toList k l = forL (t.data.toList.drop i) (k + i) l) ∧ Hid (∃ q, wr = w.drewN q)) (fun _ x _ => t.size - (intOf x).toNat)
  case atStart => exact ⟨0, Nat.zero_le _, rfl, rfl, 0, rfl⟩
  case round =>
    obtain ⟨i, hi, rfl, hd, HW⟩ := hrel
    by_cases hlt : i < t.size
    · have hlt' : (i : Int) < (t.size : Int) := by omega
      have hit : i < t.data.toList.length := by rw [hts.out]; exact hlt
      by_cases hb : k + i < l.length
      · have hb' : ¬ ((l.length : Int) ≤ (k : Int) + (i : Int)) := by omega
        obtain ⟨b, off, rfl, hr⟩ : ∃ b off, a = some ⟨b, off, none⟩ ∧ ∀ j (h : j < l.length), wr.cell? ⟨b, off + j, none⟩ = some (.int .u8 (l[j].toNat : Int)) := by
          rcases HS.out with e | h
          · rw [e] at hb; simp at hb
          · obtain ⟨q, e⟩ := HW.out
            rw [e]
            exact h
        have hc := hr (k + i) hb
        have h8 : ((k : Int) + (i : Int)).toNat = k + i := by omega
        clear hr
        by_cases he : l[k + i] = t[i]
        · have hN : Hid (forL t.data.toList k l = forL (t.data.toList.drop (i + 1)) (k + (i + 1)) l) := forL_next hit hb (he.trans (HF.out i hlt).symm) hd.out
          have hq : (l[k + i].toNat : Int) = (t[i].toNat : Int) := by rw [he]
          clear hd he
          go_wp2_with (go_quiet (fail))
          go_roundw
          case rel => exact ⟨i + 1, by omega, by go_num, hN, drewN_more HW.out _⟩
          case measure => simp [intOf]; omega
        · have hN : Hid (F = .wrong) := HH.out.symm.trans (forL_no hit hb (fun e => he (e.trans (HF.out i hlt))) hd.out)
          have hq : ¬ (l[k + i].toNat : Int) = (t[i].toNat : Int) := fun e => he (u8_of_int e)
          clear hd he
          go_wp2_with (go_quiet (fail))
          go_ret2
          exact ⟨by rw [hN.out]; rfl, drewN_more HW.out _⟩
      · have hb' : (l.length : Int) ≤ (k : Int) + (i : Int) := by omega
        have hN : Hid (F = .begun (k + i + 1)) := HH.out.symm.trans (forL_short hit hb hd.out)
        clear hd
        go_wp2
        go_ret2
        exact ⟨ret2 (vint (by rw [hN.out]; rfl)) (vint (by rw [hN.out]; simp only [Part.sz]; omega)), HW.out⟩
    · obtain rfl : i = t.size := by omega
      have hN : Hid (F = .whole (k + t.size)) := HH.out.symm.trans (by rw [← hts.out]; exact forL_end (by rw [hts.out]; exact hd.out))
      clear hd
      go_wp2
      go_ret2
      exact ⟨ret2 (vint (by rw [hN.out]; rfl)) (vint (by rw [hN.out]; simp only [Part.sz]; omega)), HW.out⟩
end Go.Proofs.YtkpoheknmcepnaaGreatDoor

namespace Go.Proofs.YtkpoheknmcepnaaGreatDoor
set_option linter.unusedVariables false
open Go.RowKit

theorem tw_next {l : List UInt8} {k : Nat} (hk : k < l.length) (hd : isDigB l[k] = true) (h : (l.takeWhile isDigB).length = k + ((l.drop k).takeWhile isDigB).length) : (l.takeWhile isDigB).length = k + 1 + ((l.drop (k + 1)).takeWhile isDigB).length := by
  rw [h, List.drop_eq_getElem_cons hk, List.takeWhile_cons, if_pos hd, List.length_cons]
  omega
theorem tw_stop {l : List UInt8} {k : Nat} (hk : k < l.length) (hd : ¬ isDigB l[k] = true) (h : (l.takeWhile isDigB).length = k + ((l.drop k).takeWhile isDigB).length) : (l.takeWhile isDigB).length = k := by
  rw [h, List.drop_eq_getElem_cons hk, List.takeWhile_cons, if_neg hd, List.length_nil]
  omega
theorem tw_end {l : List UInt8} {k : Nat} (hk : ¬ k < l.length) (h : (l.takeWhile isDigB).length = k + ((l.drop k).takeWhile isDigB).length) : (l.takeWhile isDigB).length = k := by
  rw [h, List.drop_eq_nil_of_le (by omega), List.takeWhile_nil, List.length_nil]
  omega
theorem isDigB_int (c : UInt8) : isDigB c = (decide (48 ≤ (c.toNat : Int)) && decide ((c.toNat : Int) ≤ 57)) := by
  unfold isDigB
  have e1 : decide ((48 : UInt8) ≤ c) = decide (48 ≤ (c.toNat : Int)) := by
    rw [decide_eq_decide, UInt8.le_iff_toNat_le]
    show 48 ≤ c.toNat ↔ _
    omega
  have e2 : decide (c ≤ (57 : UInt8)) = decide ((c.toNat : Int) ≤ 57) := by
    rw [decide_eq_decide, UInt8.le_iff_toNat_le]
    show c.toNat ≤ 57 ↔ _
    omega
  rw [e1, e2]
set_option maxRecDepth 100000 in
set_option maxHeartbeats 400000 in
theorem countDigits_any (a : Option Addr) (l : List UInt8) (cap : Nat) (w : World) (n : Int) (hn : n = (l.length : Int)) (hs : LSrc w a l) (hl : l.length ≤ 1048576) :
    Calls Tryz.prog 72 #[.slice a l.length cap] w fun e w' => e = .returned (.int .i64 ((l.takeWhile isDigB).length : Int)) ∧ w' = w := by
  have HS : Hid (LSrc w a l) := hs
  clear hs
  have HT : Hid ((l.takeWhile isDigB).length = 0 + ((l.drop 0).takeWhile isDigB).length) := by show _ = _; rw [List.drop_zero, Nat.zero_add]
  generalize hT : (l.takeWhile isDigB).length = T at *
  clear hT
  have st : ∀ k (hk : k < l.length), ¬ isDigB l[k] = true → Hid (T = k + ((l.drop k).takeWhile isDigB).length) → Hid (T = k) := fun k hk hd h => by
    show T = k
    rw [h.out, List.drop_eq_getElem_cons hk, List.takeWhile_cons, if_neg hd, List.length_nil]
    omega
  have nx : ∀ k (hk : k < l.length), isDigB l[k] = true → Hid (T = k + ((l.drop k).takeWhile isDigB).length) → Hid (T = k + 1 + ((l.drop (k + 1)).takeWhile isDigB).length) := fun k hk hd h => by
    show T = _
    rw [h.out, List.drop_eq_getElem_cons hk, List.takeWhile_cons, if_pos hd, List.length_cons]
    omega
  have ed : ∀ k, ¬ k < l.length → Hid (T = k + ((l.drop k).takeWhile isDigB).length) → Hid (T = k) := fun k hk h => by
    show T = k
    rw [h.out, List.drop_eq_nil_of_le (by omega), List.takeWhile_nil, List.length_nil]
    omega
  have ST : Hid (∀ k (hk : k < l.length), ¬ isDigB l[k] = true → Hid (T = k + ((l.drop k).takeWhile isDigB).length) → Hid (T = k)) := st
  have NX : Hid (∀ k (hk : k < l.length), isDigB l[k] = true → Hid (T = k + ((l.drop k).takeWhile isDigB).length) → Hid (T = k + 1 + ((l.drop (k + 1)).takeWhile isDigB).length)) := nx
  have ED : Hid (∀ k, ¬ k < l.length → Hid (T = k + ((l.drop k).takeWhile isDigB).length) → Hid (T = k)) := ed
  clear st nx ed
  go_enter Tryz.func72, Tryz.ntmps72
  go_wp2
  go_loopw [3] (fun x wr => ∃ k : Nat, k ≤ l.length ∧ x = .int .i64 k ∧ Hid (T = k + ((l.drop k).takeWhile isDigB).length) ∧ wr = w) (fun x _ => l.length - (intOf x).toNat)
  case atStart => exact ⟨0, Nat.zero_le _, rfl, HT, rfl⟩
  case round =>
    obtain ⟨k, hk, rfl, hd, rfl⟩ := hrel
    by_cases hlt : k < l.length
    · have hlt' : (k : Int) < (l.length : Int) := by omega
      obtain ⟨b, off, rfl, hr⟩ : ∃ b off, a = some ⟨b, off, none⟩ ∧ ∀ j (h : j < l.length), wr.cell? ⟨b, off + j, none⟩ = some (.int .u8 (l[j].toNat : Int)) := by
        rcases HS.out with e | h
        · rw [e] at hlt; simp at hlt
        · exact h
      have hc := hr k hlt
      clear hr
      by_cases h1 : 48 ≤ (l[k].toNat : Int)
      · by_cases h2 : (l[k].toNat : Int) ≤ 57
        · have hN := NX.out k hlt (by rw [isDigB_int]; simp [h1, h2]) hd
          clear hd
          go_wp2
          go_roundw
          case rel => exact ⟨k + 1, by omega, by go_num, hN, by first | rfl | trivial⟩
          case measure => simp [intOf]; omega
        · have hN := ST.out k hlt (by rw [isDigB_int]; simp [h2]) hd
          clear hd
          go_wp2
          go_ret
          exact ⟨ret_int (by rw [hN.out]), by first | rfl | trivial⟩
      · have hN := ST.out k hlt (by rw [isDigB_int]; simp [h1]) hd
        clear hd
        go_wp2
        go_ret
        exact ⟨ret_int (by rw [hN.out]), by first | rfl | trivial⟩
    · have hlt' : ¬ (k : Int) < (l.length : Int) := by omega
      have hN := ED.out k hlt hd
      clear hd
      go_wp2
      go_ret
      exact ⟨ret_int (by rw [hN.out]), by first | rfl | trivial⟩
end Go.Proofs.YtkpoheknmcepnaaGreatDoor

namespace Go.Proofs.YtkpoheknmcepnaaGreatDoor
set_option linter.unusedVariables false

/-- The length that digits tell, at most 1000. -/
def lenV (d : List UInt8) : Option Nat := if puE d 1000 = 0 then some (puN d 1000).toNat else none
theorem numB_head {d d' : List UInt8} (hd : d ≠ []) (h : numB (d ++ d') = true) : numB d = true := by
  have h1 := numB_digs h
  have h2 : digs d = true := by
    have := digs_take (d ++ d') d.length h1
    rwa [List.take_left' rfl] at this
  unfold numB at h ⊢
  rw [Bool.and_eq_true] at h ⊢
  refine ⟨h2, ?_⟩
  cases d with
  | nil => exact absurd rfl hd
  | cons c l =>
    cases l with
    | nil => rfl
    | cons x xs => exact h.2
theorem val_head {d d' : List UInt8} (h : digs (d ++ d') = true) : val d ≤ val (d ++ d') := by
  have := val_mono (d ++ d') d.length h
  rwa [List.take_left' rfl] at this
theorem puE_zero {d : List UInt8} {m : Int} : puE d m = 0 ↔ numB d = true ∧ val d ≤ m := by
  unfold puE
  by_cases h : numB d = true
  · rw [if_pos h]
    by_cases g : val d ≤ m
    · rw [if_pos g]; exact ⟨fun _ => ⟨h, g⟩, fun _ => rfl⟩
    · rw [if_neg g]; exact ⟨fun e => absurd e (by decide), fun e => absurd e.2 g⟩
  · rw [if_neg h]; exact ⟨fun e => absurd e (by decide), fun e => absurd e.1 h⟩
theorem lenV_nil : lenV [] = none := by decide
theorem lenV_none {d : List UInt8} : lenV d = none ↔ ¬ puE d 1000 = 0 := by
  unfold lenV
  split
  · rename_i h; exact ⟨fun e => absurd e (by simp), fun e => absurd h e⟩
  · rename_i h; exact ⟨fun _ => h, fun _ => rfl⟩
theorem lenV_stays (d d' : List UInt8) (hd : d ≠ []) (h : lenV d = none) : lenV (d ++ d') = none := by
  rw [lenV_none] at h ⊢
  intro e
  obtain ⟨e1, e2⟩ := puE_zero.1 e
  exact h (puE_zero.2 ⟨numB_head hd e1, Int.le_trans (val_head (numB_digs e1)) e2⟩)
/-- The head of a frame of text, the beginning of its last field. -/
def headT : List UInt8 := [56, 61, 70, 73, 88, 46, 52, 46, 52, 1, 57, 61]
def lastT : List UInt8 := [49, 48, 61]
theorem text_steady {pr : List UInt8 → List UInt8} (hp : ∀ b, pr b ≠ []) : Steady (fun b => (textP lenV pr headT lastT b).sight) :=
  textP_steady lenV_nil lenV_stays hp headT lastT (by decide)
theorem isDigB_dig (c : UInt8) : isDigB c = dig c := isDigB_int c
end Go.Proofs.YtkpoheknmcepnaaGreatDoor

namespace Go.Proofs.YtkpoheknmcepnaaGreatDoor
set_option linter.unusedVariables false
open Go.RowKit Go.Lib

theorem LSrc.drewN {w : World} {a : Option Addr} {l : List UInt8} (h : LSrc w a l) (q : Nat) : LSrc (w.drewN q) a l := h
theorem LSrc.drop {w : World} {b off : Nat} {l : List UInt8} (h : LSrc w (some ⟨b, off, none⟩) l) (k : Nat) : LSrc w (some ⟨b, off + k, none⟩) (l.drop k) := by
  rcases h with rfl | ⟨b', off', e, h⟩
  · exact .inl (by simp)
  · injection e with e
    injection e with e1 e2
    subst e1 e2
    refine .inr ⟨_, _, rfl, fun j hj => ?_⟩
    rw [List.length_drop] at hj
    rw [List.getElem_drop, Nat.add_assoc]
    exact h (k + j) (by omega)
theorem LSrc.take {w : World} {a : Option Addr} {l : List UInt8} (h : LSrc w a l) (k : Nat) : LSrc w a (l.take k) := by
  rcases h with rfl | ⟨b', off', e, h⟩
  · exact .inl (by simp)
  · refine .inr ⟨_, _, e, fun j hj => ?_⟩
    rw [List.length_take] at hj
    rw [List.getElem_take]
    exact h j (by omega)
theorem addrAt (b off j : Nat) : (⟨b, off, none⟩ : Addr).add j = ⟨b, off + j, none⟩ := by unfold Addr.add; split <;> simp_all
theorem conv_src {w : World} {b off cap : Nat} {l : List UInt8} (h : LSrc w (some ⟨b, off, none⟩) l) (n : Nat) (hn : n = l.length) : (convert 22 9 (.slice (some ⟨b, off, none⟩) n cap)).run Tryz.prog w = .ok (.string ⟨l.toArray⟩) w := by
  subst hn
  refine run_convert_bytes_back (P := Tryz.prog) w 22 9 5 ⟨b, off, none⟩ cap l Tryz.underlying22 Tryz.underlying5 Tryz.underlying9 (fun j hj => ?_)
  rcases h with rfl | ⟨b', off', e, h⟩
  · simp at hj
  · injection e with e
    injection e with e1 e2
    subst e1 e2
    rw [addrAt b off j]
    exact h j hj
theorem countDigits_at (b off n : Nat) (l : List UInt8) (cap : Nat) (w : World) (hn : n = l.length) (hs : LSrc w (some ⟨b, off, none⟩) l) (hl : l.length ≤ 1048576) :
    Calls Tryz.prog 72 #[.slice (some ⟨b, off, none⟩) n cap] w fun e w' => e = .returned (.int .i64 ((l.takeWhile isDigB).length : Int)) ∧ w' = w := by
  subst hn
  exact countDigits_any _ l cap w _ rfl hs hl
/-- The length and where the body begins, of bytes. -/
def lenP : List UInt8 → Part (Nat × Nat) := Part.then (forL headT 0) fun i => Part.then (roomL (i + 1)) fun _ => lenL lenV i
def Part.sz2 : Part (Nat × Nat) → Nat
  | .begun n => n
  | .whole x => x.2
  | .wrong => 0
theorem len_same {p : Part (Nat × Nat)} {F : Part Nat} {v : Nat} (h : p = (match F with
    | .begun n => .begun n
    | .wrong => .wrong
    | .whole k => .whole (v, k))) : p.sg = F.sg ∧ p.sz2 = F.sz ∧ ∀ x k, p = .whole (x, k) → x = v := by
  subst h
  cases F with
  | begun n => exact ⟨rfl, rfl, fun x k e => by cases e⟩
  | wrong => exact ⟨rfl, rfl, fun x k e => by cases e⟩
  | whole n => exact ⟨rfl, rfl, fun x k e => by cases e; rfl⟩
/-- What lookLength answers. -/
def LenA (p : Part (Nat × Nat)) (w : World) (e : Ending) (w' : World) : Prop := ∃ v : Int, e = .returned (.tuple #[.int .i64 v, .int .i64 p.sg, .int .i64 (p.sz2 : Int)]) ∧ (∀ x k, p = .whole (x, k) → v = (x : Int)) ∧ ∃ q, w' = w.drewN q
set_option maxRecDepth 100000 in
set_option maxHeartbeats 800000 in
theorem lookLength_any (a : Option Addr) (l : List UInt8) (cap : Nat) (w : World) (hs : LSrc w a l) (hl : l.length ≤ 1048576) (hcap : l.length ≤ cap) :
    Calls Tryz.prog 46 #[.slice a l.length cap] w (LenA (lenP l) w) := by
  have H1 := lookFor_any ⟨#[56, 61, 70, 73, 88, 46, 52, 46, 52, 1, 57, 61]⟩ a l cap 0 0 rfl w hs (by decide) hl (by omega)
  rw [show (ByteArray.mk #[56, 61, 70, 73, 88, 46, 52, 46, 52, 1, 57, 61]).data.toList = headT from rfl] at H1
  cases h1 : forL headT 0 l with
  | begun n =>
    have hP : Hid (lenP l = .begun n) := by show lenP l = _; unfold lenP Part.then; rw [h1]
    rw [h1] at H1
    generalize lenP l = p at *
    clear h1
    go_enter Tryz.func46, Tryz.ntmps46
    go_wp2_with (go_at_call 47; refine H1.mono ?_; rintro e w' ⟨rfl, q, rfl⟩; simp only [Part.sg, Part.sz])
    go_ret3
    exact ⟨0, by rw [hP.out]; rfl, fun x k e => (by rw [hP.out] at e; cases e), q, rfl⟩
  | wrong =>
    have hP : Hid (lenP l = .wrong) := by show lenP l = _; unfold lenP Part.then; rw [h1]
    rw [h1] at H1
    generalize lenP l = p at *
    clear h1
    go_enter Tryz.func46, Tryz.ntmps46
    go_wp2_with (go_at_call 47; refine H1.mono ?_; rintro e w' ⟨rfl, q, rfl⟩; simp only [Part.sg, Part.sz])
    go_ret3
    exact ⟨0, by rw [hP.out]; rfl, fun x k e => (by rw [hP.out] at e; cases e), q, rfl⟩
  | whole m =>
    have g := forL_whole h1
    obtain rfl : m = 12 := g.1
    have g12 : 12 ≤ l.length := g.2.1 (by decide)
    clear g
    rw [h1] at H1
    by_cases hr : l.length = 12
    · have hP : Hid (lenP l = .begun 13) := by
        show lenP l = _; unfold lenP Part.then; rw [h1]; show Part.then (roomL 13) _ l = _; unfold Part.then roomL; rw [if_pos (by omega)]
      generalize lenP l = p at *
      have HR : Hid (l.length = 12) := hr
      clear h1 hr
      go_enter Tryz.func46, Tryz.ntmps46
      go_wp2_with (go_at_call 47; fail)
      refine H1.mono ?_
      rintro e w' ⟨rfl, q, rfl⟩
      simp only [Part.sg, Part.sz]
      have hr' : (l.length : Int) = 12 := by have := HR.out; omega
      go_wp2
      go_ret3
      exact ⟨0, by rw [hP.out]; rfl, fun x k e => (by rw [hP.out] at e; cases e), q, rfl⟩
    · have hP : Hid (lenP l = lenL lenV 12 l) := by
        show lenP l = _; unfold lenP Part.then; rw [h1]; show Part.then (roomL 13) _ l = _; unfold Part.then roomL; rw [if_neg (by omega)]
      have hr' : ¬ (l.length : Int) = 12 := by omega
      have f1 : (12 : Int) ≤ (l.length : Int) := by omega
      have f2 : (12 : Int) ≤ (cap : Int) := by omega
      have f3 : (l.length : Int) ≤ (cap : Int) := by omega
      obtain ⟨b, off, rfl⟩ : ∃ b off, a = some ⟨b, off, none⟩ := by
        rcases hs with e | ⟨b, off, e, _⟩
        · rw [e] at g12; simp at g12
        · exact ⟨b, off, e⟩
      generalize lenP l = p at *
      clear h1
      go_enter Tryz.func46, Tryz.ntmps46
      go_wp2_with (first | (go_at_call 47; refine H1.mono ?_; rintro e w' ⟨rfl, q, rfl⟩; simp only [Part.sg, Part.sz]) | (go_at_call 72; fail))
      refine (countDigits_at b (off + 12) (l.length - 12) (l.drop 12) (cap - 12) (w.drewN q) (by rw [List.length_drop]) ((hs.drewN q).drop 12) (by rw [List.length_drop]; omega)).mono ?_
      rintro e w' ⟨rfl, rfl⟩
      have hle := digsAt_le 12 l g12
      have hD : Hid ((l.drop 12).take (digsAt 12 l).length = digsAt 12 l) := by
        show _ = _
        exact (List.prefix_iff_eq_take.1 (List.takeWhile_prefix isDigB (l := l.drop 12))).symm
      have hcv : (convert 22 9 (.slice (some ⟨b, off + 12, none⟩) (digsAt 12 l).length (cap - 12))).run Tryz.prog (w.drewN q) = .ok (.string ⟨(digsAt 12 l).toArray⟩) (w.drewN q) := by
        have := conv_src (cap := cap - 12) (((hs.drewN q).drop 12).take (digsAt 12 l).length) (digsAt 12 l).length (by rw [hD.out])
        rwa [hD.out] at this
      rw [show ((l.drop 12).takeWhile isDigB).length = (digsAt 12 l).length from rfl]
      have HPU := ParseUint_any ⟨(digsAt 12 l).toArray⟩ 1000 (w.drewN q) (by unfold maxLen; show (digsAt 12 l).toArray.size ≤ _; rw [List.size_toArray]; omega) (by omega)
      rw [show (ByteArray.mk (digsAt 12 l).toArray).data.toList = digsAt 12 l from rfl] at HPU
      have HL2 := fun z hz => lookFor_any ⟨#[1]⟩ (some ⟨b, off, none⟩) l cap (12 + (digsAt 12 l).length) z hz (w.drewN q) (hs.drewN q) (by decide) hl (by omega)
      rw [show (ByteArray.mk #[1]).data.toList = [1] from rfl] at HL2
      have hA : Hid (lenL lenV 12 l = (match lenV (digsAt 12 l) with
        | none => .wrong
        | some v => match forL [1] (12 + (digsAt 12 l).length) l with
          | .begun n => .begun n
          | .wrong => .wrong
          | .whole k => .whole (v, k))) := rfl
      have f4 : 12 + ((digsAt 12 l).length : Int) ≤ (l.length : Int) := by omega
      have f5 : 12 + ((digsAt 12 l).length : Int) ≤ (cap : Int) := by omega
      generalize hg : digsAt 12 l = D at *
      clear hD hg
      generalize D.length = n at *
      go_wp2_with (go_at_call 73; fail)
      refine HPU.mono ?_
      rintro e w' ⟨rfl, rfl⟩
      by_cases hz : puE D 1000 = 0
      · have hv : lenV D = some (puN D 1000).toNat := by unfold lenV; rw [if_pos hz]
        have hb := (pu_bd D 1000 (by decide)).1
        have hQ : Hid (p = (match forL [1] (12 + n) l with
          | .begun n => .begun n
          | .wrong => .wrong
          | .whole k => .whole ((puN D 1000).toNat, k))) := by
          show p = _
          rw [hP.out, hA.out, hv]
        clear hA hP HPU hv
        rw [hz]
        clear hz
        have hF := len_same hQ.out
        have HF : Hid (p.sg = (forL [1] (12 + n) l).sg ∧ p.sz2 = (forL [1] (12 + n) l).sz ∧ ∀ x k, p = .whole (x, k) → x = (puN D 1000).toNat) := hF
        clear hF hQ
        generalize puN D 1000 = v at *
        generalize forL [1] (12 + n) l = F at *
        go_wp2_with (go_at_call 47; fail)
        refine (HL2 _ (by omega)).mono ?_
        rintro e w' ⟨rfl, q2, rfl⟩
        go_wp2
        go_ret3
        exact ⟨v, by rw [HF.out.1, HF.out.2.1]; rfl, fun x k e => by have := HF.out.2.2 x k e; omega, _, rfl⟩
      · have hv : lenV D = none := lenV_none.2 hz
        have hQ : Hid (p = .wrong) := by
          show p = _
          rw [hP.out, hA.out, hv]
        clear hA hP HPU hv HL2
        generalize puE D 1000 = E at *
        go_wp2
        go_ret3
        exact ⟨0, by rw [hQ.out]; rfl, fun x k e => (by rw [hQ.out] at e; cases e), q, rfl⟩
end Go.Proofs.YtkpoheknmcepnaaGreatDoor

namespace Go.Proofs.YtkpoheknmcepnaaGreatDoor
set_option linter.unusedVariables false

theorem fold_low (l : List UInt8) (hd : digs l = true) (n : Int) (hn : 0 ≤ n) : n * 10 ^ l.length ≤ l.foldl (fun n c => n * 10 + ((c.toNat : Int) - 48)) n := by
  induction l generalizing n with
  | nil => simp
  | cons c t ih =>
    have hc : 48 ≤ (c.toNat : Int) := by
      have : dig c = true := by unfold digs at hd; rw [List.all_cons, Bool.and_eq_true] at hd; exact hd.1
      exact ((dig_iff c).1 this).1
    have ht : digs t = true := by unfold digs at hd ⊢; rw [List.all_cons, Bool.and_eq_true] at hd; exact hd.2
    have h1 := ih ht (n * 10 + ((c.toNat : Int) - 48)) (by omega)
    have h2 : (n * 10) * 10 ^ t.length ≤ (n * 10 + ((c.toNat : Int) - 48)) * 10 ^ t.length := Int.mul_le_mul_of_nonneg_right (by omega) (Int.pow_nonneg (by decide))
    rw [List.length_cons, Int.pow_succ, Int.mul_comm (10 ^ t.length) 10, ← Int.mul_assoc]
    exact Int.le_trans h2 h1
theorem num_len {d : List UInt8} (h : numB d = true) (hv : val d ≤ 1000) : d.length ≤ 4 := by
  rcases d with _ | ⟨c, _ | ⟨x, xs⟩⟩
  · simp
  · simp
  · have hd : digs (c :: x :: xs) = true := numB_digs h
    have hc0 : c ≠ 48 := by
      unfold numB at h
      rw [Bool.and_eq_true] at h
      simpa using h.2
    have hdc : dig c = true := by unfold digs at hd; rw [List.all_cons, Bool.and_eq_true] at hd; exact hd.1
    have hdt : digs (x :: xs) = true := by unfold digs at hd ⊢; rw [List.all_cons, Bool.and_eq_true] at hd; exact hd.2
    have hc1 : 49 ≤ (c.toNat : Int) := by
      have h1 := ((dig_iff c).1 hdc).1
      have h2 : c.toNat ≠ 48 := fun e => hc0 (UInt8.toNat_inj.1 (by rw [e]; rfl))
      omega
    have hlow := fold_low (x :: xs) hdt ((c.toNat : Int) - 48) (by omega)
    have e : val (c :: x :: xs) = (x :: xs).foldl (fun n c => n * 10 + ((c.toNat : Int) - 48)) ((c.toNat : Int) - 48) := by
      unfold val; rw [List.foldl_cons]; simp
    rw [e] at hv
    by_cases hl : (c :: x :: xs).length ≤ 4
    · exact hl
    · exfalso
      have hl' : 4 ≤ (x :: xs).length := by simp only [List.length_cons] at hl ⊢; omega
      have hp : (10 : Int) ^ 4 ≤ 10 ^ (x :: xs).length := by
        obtain ⟨k, hk⟩ := Nat.exists_eq_add_of_le hl'
        rw [hk, Int.pow_add]
        have : (1 : Int) ≤ 10 ^ k := by have h0 : (0 : Int) < 10 ^ k := Int.pow_pos (by decide); omega
        have := Int.mul_le_mul_of_nonneg_left this (show (0 : Int) ≤ 10 ^ 4 by decide)
        omega
      have h3 : (1 : Int) * 10 ^ (x :: xs).length ≤ ((c.toNat : Int) - 48) * 10 ^ (x :: xs).length := Int.mul_le_mul_of_nonneg_right (by omega) (Int.pow_nonneg (by decide))
      have : (10 : Int) ^ 4 = 10000 := by decide
      omega
theorem lenV_some {d : List UInt8} {v : Nat} (h : lenV d = some v) : d.length ≤ 4 ∧ v ≤ 1000 := by
  unfold lenV at h
  split at h
  · rename_i he
    obtain ⟨e1, e2⟩ := puE_zero.1 he
    injection h with h
    refine ⟨num_len e1 e2, ?_⟩
    rw [← h]
    unfold puN
    rw [if_pos ⟨e1, e2⟩]
    omega
  · cases h
theorem forL_begun_le {t : List UInt8} {i n : Nat} {b : List UInt8} (h : forL t i b = .begun n) : n ≤ i + t.length := (forL_begun h).2.1
theorem text_begun_le {pr : List UInt8 → List UInt8} (hp : ∀ b, (pr b).length = 4) {b : List UInt8} {n : Nat} (h : textP lenV pr headT lastT b = .begun n) : n ≤ 1024 := by
  unfold textP Part.then at h
  cases h1 : forL headT 0 b with
  | begun m =>
    simp only [h1] at h
    injection h with h
    have := forL_begun_le h1
    have e : headT.length = 12 := rfl
    omega
  | wrong => simp only [h1] at h; exact absurd h (by simp)
  | whole i =>
    simp only [h1] at h
    have hi := (forL_whole h1).1
    have e : headT.length = 12 := rfl
    cases h2 : roomL (i + 1) b with
    | begun m =>
      simp only [h2] at h
      injection h with h
      unfold roomL at h2
      split at h2
      · injection h2 with h2; omega
      · exact absurd h2 (by simp)
    | wrong => simp only [h2] at h; exact absurd h (by simp)
    | whole y =>
      simp only [h2] at h
      cases h3 : lenL lenV i b with
      | begun m =>
        simp only [h3] at h
        injection h with h
        unfold lenL at h3
        cases hd : lenV (digsAt i b) with
        | none => simp only [hd] at h3; exact absurd h3 (by simp)
        | some v =>
          simp only [hd] at h3
          have hl := (lenV_some hd).1
          cases hf : forL [1] (i + (digsAt i b).length) b with
          | begun k =>
            simp only [hf] at h3
            injection h3 with h3
            have := forL_begun_le hf
            simp only [List.length_cons, List.length_nil] at this
            omega
          | wrong => simp only [hf] at h3; exact absurd h3 (by simp)
          | whole k => simp only [hf] at h3; exact absurd h3 (by simp)
      | wrong => simp only [h3] at h; exact absurd h (by simp)
      | whole x =>
        simp only [h3] at h
        have hx : x.1 ≤ 1000 ∧ x.2 ≤ 17 := by
          unfold lenL at h3
          cases hd : lenV (digsAt i b) with
          | none => simp only [hd] at h3; exact absurd h3 (by simp)
          | some v =>
            simp only [hd] at h3
            have hl := lenV_some hd
            cases hf : forL [1] (i + (digsAt i b).length) b with
            | begun k => simp only [hf] at h3; exact absurd h3 (by simp)
            | wrong => simp only [hf] at h3; exact absurd h3 (by simp)
            | whole k =>
              simp only [hf] at h3
              injection h3 with h3
              have := (forL_whole hf).1
              simp only [List.length_cons, List.length_nil] at this
              rw [← h3]
              exact ⟨hl.2, by show k ≤ 17; omega⟩
        cases h4 : forL lastT (x.2 + x.1) b with
        | begun m =>
          simp only [h4] at h
          injection h with h
          have := forL_begun_le h4
          have e2 : lastT.length = 3 := rfl
          omega
        | wrong => simp only [h4] at h; exact absurd h (by simp)
        | whole k =>
          simp only [h4] at h
          unfold endL at h
          have g := forL_begun_le h
          rw [hp] at g
          have g1 := (forL_whole h4).1
          have e2 : lastT.length = 3 := rfl
          omega
theorem bin_begun_le {size : List UInt8 → Option Nat} {ok : List UInt8 → Bool} (hs : ∀ b s, size b = some s → s ≤ 1024) {b : List UInt8} {n : Nat} (h : binP size ok b = .begun n) : n ≤ 1024 := by
  unfold binP Part.then at h
  cases h1 : forL [79, 67] 0 b with
  | begun m =>
    simp only [h1] at h
    injection h with h
    have := forL_begun_le h1
    simp only [List.length_cons, List.length_nil] at this
    omega
  | wrong => simp only [h1] at h; exact absurd h (by simp)
  | whole i =>
    simp only [h1] at h
    cases h2 : roomL 5 b with
    | begun m =>
      simp only [h2] at h
      injection h with h
      unfold roomL at h2
      split at h2
      · injection h2 with h2; omega
      · exact absurd h2 (by simp)
    | wrong => simp only [h2] at h; exact absurd h (by simp)
    | whole y =>
      simp only [h2] at h
      cases h3 : tellL 5 size b with
      | begun m =>
        unfold tellL at h3
        split at h3 <;> exact absurd h3 (by simp)
      | wrong => simp only [h3] at h; exact absurd h (by simp)
      | whole s =>
        simp only [h3] at h
        have hsz : s ≤ 1024 := by
          unfold tellL at h3
          split at h3
          · rename_i a ha
            injection h3 with h3
            subst h3
            exact hs _ _ ha
          · exact absurd h3 (by simp)
        cases h4 : forL [1] 5 b with
        | begun m =>
          simp only [h4] at h
          injection h with h
          have := forL_begun_le h4
          simp only [List.length_cons, List.length_nil] at this
          omega
        | wrong => simp only [h4] at h; exact absurd h (by simp)
        | whole k =>
          simp only [h4] at h
          cases h5 : roomL s b with
          | begun m =>
            simp only [h5] at h
            injection h with h
            unfold roomL at h5
            split at h5
            · injection h5 with h5; omega
            · exact absurd h5 (by simp)
          | wrong => simp only [h5] at h; exact absurd h (by simp)
          | whole z =>
            simp only [h5] at h
            unfold tellL at h
            split at h <;> exact absurd h (by simp)
end Go.Proofs.YtkpoheknmcepnaaGreatDoor
