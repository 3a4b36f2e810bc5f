/-
  fields: lists of fields in memory.
-/
import Derived.Test.YtfgfjkchcnpakaaDoorFRead
import Derived.Deep.AppendLies
import Derived.Deep.OwnRows
namespace Go.Proofs.YtfgfjkchcnpakaaDoor
set_option linter.unusedVariables false
open Go.RowKit

theorem ownsRow_of_block {w w' : World} {base size n : Nat} {e : TypeId} {v : Value} {xs : List Value} (h : w.ownsRow base e size v n xs) (hk : ∀ g, v.ownBlock = some g → w'.heap[g]? = w.heap[g]?) : w'.ownsRow base e size v n xs := by
  obtain ⟨h1, h2⟩ := h
  refine ⟨h1, ?_⟩
  rcases h2 with h2 | ⟨g, cap, cur, rfl, r1, r2, r3⟩
  · exact .inl h2
  · exact .inr ⟨g, cap, cur, rfl, r1, (hk g rfl).trans r2, r3⟩
theorem ownsRow_mono {w : World} {base base' size n : Nat} {e : TypeId} {v : Value} {xs : List Value} (h : w.ownsRow base e size v n xs) (hb : base' ≤ base) : w.ownsRow base' e size v n xs := by
  obtain ⟨h1, h2⟩ := h
  refine ⟨h1, ?_⟩
  rcases h2 with h2 | ⟨g, cap, cur, rfl, r1, r2, r3⟩
  · exact .inl h2
  · exact .inr ⟨g, cap, cur, rfl, Nat.le_trans hb r1, r2, r3⟩
theorem ownsRow_below {w w' : World} {base size n : Nat} {e : TypeId} {v : Value} {xs : List Value} (h : w.ownsRow base e size v n xs) (hb : Below w.heap.size w w') : w'.ownsRow base e size v n xs :=
  ownsRow_of_block h fun g hg => hb.block g (h.lt g hg).2
theorem info_parts {T : TypeId} {z : Value} {s b : Nat} (h : (Tryd.prog.info? T).map (fun i => (i.zero, i.size, i.bytes)) = some (some z, s, b)) : ∃ i, Tryd.prog.info? T = some i ∧ i.zero = some z ∧ i.size = s ∧ i.bytes = b := by
  cases hq : Tryd.prog.info? T with
  | none => simp [hq] at h
  | some i => simp [hq] at h; exact ⟨i, rfl, h.1, h.2.1, h.2.2⟩
theorem infoF : (Tryd.prog.info? 36).map (fun i => (i.zero, i.size, i.bytes)) = some (some (.agg #[.int .i64 0, .string ⟨#[]⟩]), 2, 24) := by kernel_rfl
theorem info5 : (Tryd.prog.info? 5).map (fun i => (i.zero, i.size, i.bytes)) = some (some (.int .u8 0), 1, 1) := by kernel_rfl
/-- The cells of fields. -/
def fcs (fs : List Fld) : List Value := fs.flatMap fun f => [.int .i64 f.1, .string (bs f.2)]
theorem fcs_nil : fcs [] = [] := rfl
theorem fcs_app (a b : List Fld) : fcs (a ++ b) = fcs a ++ fcs b := by simp [fcs]
theorem fcs_length (fs : List Fld) : (fcs fs).length = fs.length * 2 := by
  induction fs with
  | nil => rfl
  | cons f fs ih => show (([_, _] : List Value) ++ fcs fs).length = _; simp [ih]; omega
theorem fcs_one (fs : List Fld) : ∀ u ∈ fcs fs, u.oneCell' = true := by
  intro u hu
  unfold fcs at hu
  simp only [List.mem_flatMap, List.mem_cons, List.not_mem_nil, or_false] at hu
  obtain ⟨f, _, rfl | rfl⟩ := hu <;> rfl
/-- A list of fields that the call has made. -/
def OwnF (w : World) (B : Nat) (v : Value) (fs : List Fld) : Prop := w.ownsRow B 36 2 v fs.length (fcs fs)
theorem OwnF.below {w w' : World} {B : Nat} {v : Value} {fs : List Fld} (h : OwnF w B v fs) (hb : Below w.heap.size w w') : OwnF w' B v fs := ownsRow_below h hb
theorem OwnF.mono {w : World} {B B' : Nat} {v : Value} {fs : List Fld} (h : OwnF w B v fs) (hb : B' ≤ B) : OwnF w B' v fs := ownsRow_mono h hb
theorem OwnF.nil (w : World) (B : Nat) : OwnF w B (.slice none 0 0) [] := World.ownsRow_nil w B _ 2
/-- Fields in memory: what may be read. -/
def SrcF (w : World) (v : Value) (fs : List Fld) : Prop := ∃ ao cap, v = .slice ao fs.length cap ∧ fs.length ≤ cap ∧ (fs = [] ∨ ∃ b off, ao = some ⟨b, off, none⟩ ∧ ∀ j f, fs[j]? = some f → w.cell? ⟨b, off + j * 2, none⟩ = some (.int .i64 f.1) ∧ w.cell? ⟨b, off + j * 2 + 1, none⟩ = some (.string (bs f.2)))
theorem fcs_at : ∀ (fs : List Fld) (j : Nat) (f : Fld), fs[j]? = some f → (fcs fs)[j * 2]? = some (.int .i64 f.1) ∧ (fcs fs)[j * 2 + 1]? = some (.string (bs f.2))
  | [], j, f, h => by simp at h
  | g :: fs, 0, f, h => by simp at h; subst h; exact ⟨rfl, rfl⟩
  | g :: fs, j + 1, f, h => by
    have := fcs_at fs j f (by simpa using h)
    show (([_, _] : List Value) ++ fcs fs)[(j + 1) * 2]? = _ ∧ (([_, _] : List Value) ++ fcs fs)[(j + 1) * 2 + 1]? = _
    rw [show (j + 1) * 2 = j * 2 + 2 by omega]
    simpa using this
theorem OwnF.src {w : World} {B : Nat} {v : Value} {fs : List Fld} (h : OwnF w B v fs) : SrcF w v fs := by
  obtain ⟨h1, h2⟩ := h
  rcases h2 with ⟨rfl, h0⟩ | ⟨g, cap, cur, rfl, r1, r2, r3, r4, r5, r6⟩
  · have : fs = [] := List.length_eq_zero_iff.1 h0
    subst this
    exact ⟨none, 0, rfl, Nat.le_refl _, .inl rfl⟩
  · refine ⟨_, cap, rfl, r3, .inr ⟨g, 0, rfl, fun j f hf => ?_⟩⟩
    have hj : j < fs.length := (List.getElem?_eq_some_iff.1 hf).1
    obtain ⟨e1, e2⟩ := fcs_at fs j f hf
    rw [← r6, List.getElem?_take] at e1 e2
    rw [if_pos (by omega)] at e1 e2
    rw [Nat.zero_add]
    constructor
    · rw [cell_of_row w g _ cur _ _ r2]; simpa using e1
    · rw [cell_of_row w g _ cur _ _ r2]; simpa using e2
theorem SrcF.below {w w' : World} {v : Value} {fs : List Fld} (h : SrcF w v fs) (hb : Below w.heap.size w w') : SrcF w' v fs := by
  obtain ⟨ao, cap, rfl, hc, h⟩ := h
  refine ⟨ao, cap, rfl, hc, ?_⟩
  rcases h with h | ⟨b, off, e, h⟩
  · exact .inl h
  · refine .inr ⟨b, off, e, fun j f hf => ?_⟩
    obtain ⟨h1, h2⟩ := h j f hf
    have hlt : b < w.heap.size := World.block_lt_of_cell? _ _ h1
    exact ⟨by rw [hb.cell (p := ⟨b, _, none⟩) hlt]; exact h1, by rw [hb.cell (p := ⟨b, _, none⟩) hlt]; exact h2⟩
end Go.Proofs.YtfgfjkchcnpakaaDoor
