/-
  The law's own: pick; what filled holds.
-/
import Derived.Test.YtekkckfoikpljaaSParts2
namespace Go.Proofs.Ytekkckfoikpljaa
set_option linter.unusedVariables false
set_option linter.unusedSimpArgs false
open Go.RowKit Go.Great

/-- Numbers that came in. -/
def SrcI (w : World) (a : Option Addr) (n : Nat) (d : Nat → Int) : Prop := n = 0 ∨ ∃ b off, a = some ⟨b, off, none⟩ ∧ ∀ j, j < n → w.cell? ⟨b, off + j, none⟩ = some (.int .i64 (d j)) ∧ -9223372036854775808 ≤ d j ∧ d j ≤ 9223372036854775807
theorem SrcI.below {w w' : World} {a : Option Addr} {n : Nat} {d : Nat → Int} (h : SrcI w a n d) (hb : Below w.heap.size w w') : SrcI w' a n d := by
  rcases h with h | ⟨b, off, e, h⟩
  · exact .inl h
  · exact .inr ⟨b, off, e, fun j hj => ⟨(hb.cell (World.block_lt_of_cell? _ _ (h j hj).1)).trans (h j hj).1, (h j hj).2⟩⟩
/-- Which of n things a raw number speaks of. -/
def pickN (c : Int) (n : Nat) : Nat := (if c < 0 then (-(c + 1)) % (n : Int) else c % (n : Int)).toNat
theorem pickN_lt (c : Int) {n : Nat} (h : 0 < n) : pickN c n < n := by
  unfold pickN
  have h1 := Int.emod_lt_of_pos (-(c + 1)) (show (0 : Int) < n by omega)
  have h2 := Int.emod_nonneg (-(c + 1)) (show (n : Int) ≠ 0 by omega)
  have h3 := Int.emod_lt_of_pos c (show (0 : Int) < n by omega)
  have h4 := Int.emod_nonneg c (show (n : Int) ≠ 0 by omega)
  split <;> omega
set_option maxRecDepth 100000 in
set_option maxHeartbeats 400000 in
theorem pick_any (c x : Int) (n : Nat) (hx : x = n) (w : World) (hn : 0 < n) (hn1 : n ≤ 9223372036854775807) (h0 : -9223372036854775808 ≤ c) (h1 : c ≤ 9223372036854775807) :
    Calls Try.prog 9 #[.int .i64 c, .int .i64 x] w fun e w' => e = .returned (.int .i64 (pickN c n : Int)) ∧ w' = w := by
  subst hx
  have hp := pickN_lt c hn
  have hn' : ¬ (n : Int) = 0 := by omega
  by_cases hc : c < 0
  · have e : (c + 1).tmod (n : Int) = -(pickN c n : Int) := by
      have h2 := Int.emod_nonneg (-(c + 1)) (show (n : Int) ≠ 0 by omega)
      unfold pickN
      rw [if_pos hc, Int.toNat_of_nonneg h2, ← Int.tmod_eq_emod_of_nonneg (by omega), Int.neg_tmod, Int.neg_neg]
    generalize pickN c n = p at *
    go_enter Try.func9, Try.ntmps9
    go_wp2
    go_ret
    exact ⟨rfl, rfl⟩
  · have hc' : 0 ≤ c := by omega
    have e : c % (n : Int) = (pickN c n : Int) := by
      have h2 := Int.emod_nonneg c (show (n : Int) ≠ 0 by omega)
      unfold pickN
      rw [if_neg hc, Int.toNat_of_nonneg h2]
    generalize pickN c n = p at *
    go_enter Try.func9, Try.ntmps9
    go_wp2
    go_ret
    exact ⟨rfl, rfl⟩
/-- The message that filled puts. -/
def sT : ByteArray := ⟨#[116]⟩
def mkM (r : Int) (i : Nat) : Msg := ⟨fun k => if k = 0 then 1 + (pickN r 17 : Int) else if k = 3 then (i : Int) + 1 else if k = 28 then r else 0, fun k => if k = 18 then sT else ⟨#[]⟩, fun _ => false⟩
/-- What happens at each number. -/
def evAt (d : Nat → Int) (i : Nat) : Option Msg := if (d i).tmod 3 = 0 then none else some (mkM (d i) i)
def evF (d : Nat → Int) : Nat → List (Option Msg)
  | 0 => []
  | i + 1 => evF d i ++ [evAt d i]
theorem evF_len (d : Nat → Int) : ∀ n, (evF d n).length = n
  | 0 => rfl
  | n + 1 => by rw [evF, List.length_append, evF_len d n]; rfl
def allL (ev : List (Option Msg)) : List Msg := ev.map fun e => e.getD zeroM
theorem allL_snoc (ev : List (Option Msg)) (e : Option Msg) : allL (ev ++ [e]) = allL ev ++ [e.getD zeroM] := by unfold allL; rw [List.map_append]; rfl
/-- A store, and a list of messages beside it. -/
structure FI (w wr : World) (p K : Nat) (ev ea : List (Option Msg)) (vk vl va : Value) (n : Nat) : Prop where
  st : StAt wr p K ev vk vl
  all : RowAt wr 34 42 va n (flatL msgV (allL ea))
  len : ea.length = n
  below : Below w.heap.size w wr
  newS : ∀ b, ownS p vk vl b → w.heap.size ≤ b
  newA : ∀ b, va.ownBlock = some b → w.heap.size ≤ b ∧ ¬ ownS p vk vl b
/-- And a message in a block of its own. -/
structure FM (w wr : World) (p K : Nat) (ev ea : List (Option Msg)) (vk vl va : Value) (n gm : Nat) (M : Msg) : Prop where
  fi : FI w wr p K ev ea vk vl va n
  om : OwnM wr gm M
  ng : ¬ ownS p vk vl gm
  na : va.ownBlock ≠ some gm
  hi : w.heap.size ≤ gm
section
variable {w wr wy : World} {p K n gm : Nat} {ev ea ev' : List (Option Msg)} {vk vl va vk' vl' : Value} {M M' : Msg}
theorem FI.fr {ex : Nat → Prop} (h : FI w wr p K ev ea vk vl va n) (hf : Fr wr wy ex) (h1 : ∀ b, ownS p vk vl b → ¬ ex b) (h2 : ∀ b, va.ownBlock = some b → ¬ ex b) (h3 : ∀ b, b < w.heap.size → ¬ ex b) : FI w wy p K ev ea vk vl va n :=
  ⟨h.st.fr hf h1, h.all.fr hf h2, h.len, h.below.trans (hf.below h.below.size h3), h.newS, h.newA⟩
theorem FI.no (h : FI w wr p K ev ea vk vl va n) (hf : Fr wr wy (fun _ => False)) : FI w wy p K ev ea vk vl va n := h.fr hf (fun _ _ h => h) (fun _ _ h => h) (fun _ _ h => h)
theorem FI.own (h : FI w wr p K ev ea vk vl va n) (M : Msg) : FM w (wr.alloc (.cells M.cs 34)) p K ev ea vk vl va n wr.heap.size M :=
  ⟨h.no (Fr.alloc _ _ _), heap_alloc_new wr _, fun e => by have := h.st.own_lt e; omega, fun e => by have := (h.all.lt e).1; omega, h.below.size⟩
theorem FM.no (h : FM w wr p K ev ea vk vl va n gm M) (hf : Fr wr wy (fun _ => False)) : FM w wy p K ev ea vk vl va n gm M :=
  ⟨h.fi.no hf, (hf.block gm h.om.lt id).trans h.om, h.ng, h.na, h.hi⟩
theorem FM.set (h : FM w wr p K ev ea vk vl va n gm M) (M' : Msg) : FM w (wr.setRow gm M'.cs) p K ev ea vk vl va n gm M' := by
  have hf : Fr wr (wr.setRow gm M'.cs) (fun b => b = gm) := ⟨rfl, rfl, rfl, by simp [World.setRow], fun b hb hn => setRow_other wr gm b _ hn⟩
  exact ⟨h.fi.fr hf (fun b hb e => h.ng (e ▸ hb)) (fun b hb e => h.na (e ▸ hb)) (fun b hb e => by have := h.hi; omega), setRow_heap wr gm _ _ _ _ h.om, h.ng, h.na, h.hi⟩
/-- The store goes on; all else stays. -/
theorem FM.go (h : FM w wr p K ev ea vk vl va n gm M) (hs : StAt wy p K ev' vk' vl') (hf : Fr wr wy (ownS p vk vl)) (h1 : newer wr vk vk') (h2 : newer wr vl vl') : FM w wy p K ev' ea vk' vl' va n gm M := by
  have own' : ∀ b, b < wr.heap.size → ownS p vk' vl' b → ownS p vk vl b := fun b hb e => by
    rcases e with e | e | e
    · exact .inl e
    · rcases h1 with q | ⟨g, q, q2⟩
      · exact .inr (.inl (q ▸ e))
      · rw [q] at e; injection e with e; omega
    · rcases h2 with q | ⟨g, q, q2⟩
      · exact .inr (.inr (q ▸ e))
      · rw [q] at e; injection e with e; omega
  refine ⟨⟨hs, h.fi.all.fr hf fun b hb e => (h.fi.newA b hb).2 e, h.fi.len, h.fi.below.trans (hf.below h.fi.below.size fun b hb e => by have := h.fi.newS b e; omega), fun b hb => ?_, fun b hb => ⟨(h.fi.newA b hb).1, fun e => (h.fi.newA b hb).2 (own' b (h.fi.all.lt hb).1 e)⟩⟩, (hf.block gm h.om.lt h.ng).trans h.om, fun e => h.ng (own' gm h.om.lt e), h.na, h.hi⟩
  rcases Nat.lt_or_ge b wr.heap.size with q | q
  · exact h.fi.newS b (own' b q hb)
  · have := h.fi.below.size; omega
/-- One message more. -/
theorem FM.app (h : FM w wr p K ev ea vk vl va n gm M) (e : Option Msg) (he : e.getD zeroM = M) (hn : n ≤ 100000) :
    ∃ v8 w8, (Builtin.append_ #[25, 25] 25 #[va, .slice (some ⟨wr.heap.size, 0, none⟩) 1 1]).run Try.prog (wr.alloc (.cells M.cs 34)) = .ok v8 w8 ∧ FI w w8 p K ev (ea ++ [e]) vk vl v8 (n + 1) := by
  obtain ⟨i1, hi1, hx0, hx1, hx2⟩ := infoM'
  have h' := h.no (Fr.alloc wr (.cells M.cs 34) fun _ => False)
  obtain ⟨v8, w8, h1, h2, h3, h4⟩ := run_append_row (P := Try.prog) (wr.alloc (.cells M.cs 34)) 25 25 34 i1 _ 42 400 Try.underlying25 hi1 hx0 hx1 hx2 (by rw [Value.cells]; exact zeroM.cs_size) va n _ h'.fi.all ⟨wr.heap.size, 0, none⟩ 1 1 M.cs.toList (by rw [M.cs_len]) (World.news_of_block (cs := M.cs) (t := 34) (fr := (0, 0)) (heap_alloc_new wr _)) (fun u hu => Array.all_eq_true_iff_forall_mem.1 M.one u (by simpa using hu)) (.inl (by decide)) (by unfold maxLen; omega) (by omega)
  refine ⟨v8, w8, h1, h'.fi.st.fr h3 (fun b hb q => (h'.fi.newA b q).2 hb), ?_, by rw [List.length_append, h.fi.len]; rfl, h'.fi.below.trans (h3.below h'.fi.below.size fun b hb q => by have := (h'.fi.newA b q).1; omega), h.fi.newS, fun b hb => ?_⟩
  · rw [allL_snoc, flatL_app, flatL_one, he]; exact h2
  · rcases h4 with q | ⟨q, _⟩
    · exact h.fi.newA b (q ▸ hb)
    · rw [q] at hb
      injection hb with hb
      have hsz : wr.heap.size < (wr.alloc (.cells M.cs 34)).heap.size := by simp
      exact ⟨by have := h.fi.below.size; omega, fun e => by have := h.fi.st.own_lt e; omega⟩
end
end Go.Proofs.Ytekkckfoikpljaa
