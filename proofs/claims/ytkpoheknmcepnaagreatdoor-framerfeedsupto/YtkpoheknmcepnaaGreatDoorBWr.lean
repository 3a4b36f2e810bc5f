import Derived.Test.YtkpoheknmcepnaaGreatDoorBForms
import Derived.Test.YtkpoheknmcepnaaGreatDoorBPl
import Derived.Lib.BufferWrite

namespace Go.Proofs.YtkpoheknmcepnaaGreatDoor
set_option linter.unusedVariables false
open Go.RowKit Go.Great Go.Lib

/-- A block of the call's own, with these bytes. -/
def OwnL (w : World) (g : Nat) (l : List UInt8) : Prop := w.heap[g]? = some (.cells (byteCells l).toArray 5 (0, 0))
theorem bc_len (l : List UInt8) : (byteCells l).length = l.length := by simp [byteCells]
theorem bc_app (a b : List UInt8) : byteCells (a ++ b) = byteCells a ++ byteCells b := by simp [byteCells]
theorem OwnL.lt {w : World} {g : Nat} {l : List UInt8} (h : OwnL w g l) : g < w.heap.size := (Array.getElem?_eq_some_iff.1 h).1
theorem OwnL.keep {w w' : World} {g : Nat} {l : List UInt8} (h : OwnL w g l) (e : w'.heap[g]? = w.heap[g]?) : OwnL w' g l := e.trans h
theorem OwnL.below {w w' : World} {B g : Nat} {l : List UInt8} (h : OwnL w g l) (hb : Below B w w') (hg : g < B) : OwnL w' g l := h.keep (hb.block g hg)
theorem OwnL.cell {w : World} {g : Nat} {l : List UInt8} (h : OwnL w g l) {j : Nat} {c : UInt8} (hj : l[j]? = some c) : w.cell? ⟨g, j, none⟩ = some (.int .u8 (c.toNat : Int)) := by
  have e : (byteCells l).toArray[j]? = some (.int .u8 (c.toNat : Int)) := by simp [byteCells, hj]
  unfold World.cell?
  rw [h]
  simpa using e
theorem OwnL.froz {w : World} {g : Nat} {l : List UInt8} (h : OwnL w g l) (j : Nat) : w.frozen? ⟨g, j, none⟩ = false := frozen_of_row w g j _ _ h
theorem dL_at {l : List UInt8} {j : Nat} (h : j < l.length) : ∃ c, l[j]? = some c ∧ dL l j = c.toNat := by
  refine ⟨l[j], List.getElem?_eq_getElem h, ?_⟩
  unfold dL; rw [List.getD_eq_getElem?_getD, List.getElem?_eq_getElem h]; rfl
theorem OwnL.row {w : World} {g : Nat} {l : List UInt8} (h : OwnL w g l) : Row w g 0 l.length (dL l) := fun j hj => by
  obtain ⟨c, hc, e⟩ := dL_at hj
  refine ⟨?_, dL_lt l j⟩
  rw [Nat.zero_add, e]
  exact h.cell hc
/-- Bytes written over others, from p on. -/
def putAt (l : List UInt8) (p : Nat) (s : List UInt8) : List UInt8 := l.take p ++ s ++ l.drop (p + s.length)
theorem putAt_nil (l : List UInt8) (p : Nat) : putAt l p [] = l := by simp [putAt]
theorem putAt_length {l s : List UInt8} {p : Nat} (h : p + s.length ≤ l.length) : (putAt l p s).length = l.length := by
  simp only [putAt, List.length_append, List.length_take, List.length_drop]; omega
theorem putAt_mid (a s b : List UInt8) {p : Nat} (hp : p = a.length) (z : List UInt8) (hz : z.length = s.length) : putAt (a ++ z ++ b) p s = a ++ s ++ b := by
  subst hp
  unfold putAt
  rw [show (a ++ z ++ b).take a.length = a by rw [List.append_assoc, List.take_left], List.drop_left' (by rw [List.length_append, hz])]
theorem bc_put (l s : List UInt8) (p : Nat) : (byteCells l).take p ++ byteCells s ++ (byteCells l).drop (p + s.length) = byteCells (putAt l p s) := by simp [putAt, byteCells]
theorem OwnL.put {w : World} {g : Nat} {l : List UInt8} (h : OwnL w g l) (l' : List UInt8) : OwnL (w.setRow g (byteCells l').toArray) g l' := setRow_heap w g _ _ 5 (0, 0) h
theorem OwnL.set {w : World} {g : Nat} {l : List UInt8} (h : OwnL w g l) (k : Nat) (c : UInt8) : OwnL (w.setCell ⟨g, k, none⟩ (.int .u8 (c.toNat : Int))) g (l.set k c) ∧ Below g w (w.setCell ⟨g, k, none⟩ (.int .u8 (c.toNat : Int))) := by
  rw [setCell_eq_setRow w g k _ _ _ _ h]
  have e : (byteCells l).toArray.setIfInBounds k (.int .u8 (c.toNat : Int)) = (byteCells (l.set k c)).toArray := by simp [byteCells]
  rw [e]
  exact ⟨h.put _, below_setRow (Below.refl _ _) (Nat.le_refl _) _⟩
/-- Bytes that may be read. -/
def SrcL (w : World) (a : Option Addr) (l : List UInt8) : Prop := l = [] ∨ ∃ b off, a = some ⟨b, off, none⟩ ∧ ∀ j c, l[j]? = some c → w.cell? ⟨b, off + j, none⟩ = some (.int .u8 (c.toNat : Int))
theorem addr_add (b off j : Nat) : (⟨b, off, none⟩ : Addr).add j = ⟨b, off + j, none⟩ := by unfold Addr.add; split <;> simp_all
theorem bc_at {l : List UInt8} {j : Nat} {v : Value} (h : (byteCells l)[j]? = some v) : ∃ c, l[j]? = some c ∧ v = .int .u8 (c.toNat : Int) := by
  simp only [byteCells, List.getElem?_map, Option.map_eq_some_iff] at h
  obtain ⟨c, h1, h2⟩ := h
  exact ⟨c, h1, h2.symm⟩
/-- copy of bytes into a block of one's own. -/
theorem copy_at (b off n cap m cap' g p : Nat) (l s : List UInt8) (W : World) (hn : n = s.length) (hs : ∀ j c, s[j]? = some c → W.cell? ⟨b, off + j, none⟩ = some (.int .u8 (c.toNat : Int))) (ho : OwnL W g l) (hm : s.length ≤ m) (hp : p + s.length ≤ l.length) :
    (Builtin.copy_ #[22, 22] 3 #[.slice (some ⟨g, p, none⟩) m cap', .slice (some ⟨b, off, none⟩) n cap]).run Tryz.prog W = .ok (.int .i64 (n : Int)) (W.setRow g (byteCells (putAt l p s)).toArray) := by
  subst hn
  have h := run_copy_row (P := Tryz.prog) W 22 22 3 5 g p m cap' ⟨b, off, none⟩ s.length cap (byteCells l).toArray 5 (byteCells s) Tryz.underlying22 size5 ho (by rw [bc_len]; exact (Nat.min_eq_left hm).symm) (fun j v hv => by
    obtain ⟨c, hc, rfl⟩ := bc_at hv
    rw [addr_add]; exact hs j c hc) (by rw [bc_len]; simpa [bc_len] using hp) (byteCells_one _)
  rw [bc_len, bc_put] at h
  simpa [goInt] using h
theorem copy_str (s : ByteArray) (m cap' g p : Nat) (l : List UInt8) (W : World) (ho : OwnL W g l) (hm : s.size ≤ m) (hp : p + s.size ≤ l.length) :
    (Builtin.copy_ #[22, 9] 3 #[.slice (some ⟨g, p, none⟩) m cap', .string s]).run Tryz.prog W = .ok (.int .i64 (s.size : Int)) (W.setRow g (byteCells (putAt l p s.data.toList)).toArray) := by
  have h := run_copy_row_string (P := Tryz.prog) W 22 9 3 5 g p m cap' s (byteCells l).toArray 5 Tryz.underlying22 size5 ho hm (by simpa [bc_len] using hp)
  have e : s.size = s.data.toList.length := by rw [Array.length_toList]; rfl
  rw [show (byteCells l).toArray.toList = byteCells l from rfl, e, bc_put, ← e] at h
  simpa [goInt] using h
theorem make_any (n : Nat) (hn : n ≤ 1048576) (W : World) : (Instr.makeSlice 22 (.int .i64 (n : Int)) (.int .i64 (n : Int))).run Tryz.prog W = .ok (.slice (some ⟨W.heap.size, 0, none⟩) n n) (W.alloc (.cells (byteCells (zer n)).toArray 5)) := by
  have h := run_make_row' (P := Tryz.prog) 22 5 (.int .u8 0) 1 Tryz.underlying22 info5 rfl .i64 .i64 n (by omega) (by omega) W
  have e : madeCells #[Value.int .u8 0] n = (byteCells (zer n)).toArray := by
    apply Array.ext
    · simp [madeCells, byteCells, zer]
    · intro i h1 h2
      simp [madeCells, byteCells, zer, Nat.mod_one]
  rw [e] at h
  exact h
/-- Block g has been written; there are new ones. -/
structure Wrt (g : Nat) (w w' : World) : Prop where
  below : Below g w w'
  other : ∀ b, b < w.heap.size → b ≠ g → w'.heap[b]? = w.heap[b]?
theorem Wrt.of {g : Nat} {w w1 w' : World} (hg : g < w.heap.size) (h1 : Below w.heap.size w w1) (h2 : Below g w1 w') (h3 : ∀ b, b ≠ g → w'.heap[b]? = w1.heap[b]?) : Wrt g w w' :=
  ⟨(h1.mono (Nat.le_of_lt hg)).trans h2, fun b hb hne => (h3 b hne).trans (h1.block b hb)⟩
theorem Wrt.setRow {g : Nat} {w w1 : World} (hg : g < w.heap.size) (h1 : Below w.heap.size w w1) (X : Array Value) : Wrt g w (w1.setRow g X) :=
  Wrt.of hg h1 (below_setRow (Below.refl _ _) (Nat.le_refl _) _) fun b hb => setRow_other _ _ _ _ hb
theorem Wrt.cell {g : Nat} {w w' : World} (h : Wrt g w w') {a : Addr} {v : Value} (hc : w.cell? a = some v) (ha : a.block ≠ g) : w'.cell? a = some v := by
  have := h.other a.block (World.block_lt_of_cell? _ _ hc) ha
  unfold World.cell? at hc ⊢
  rw [this]; exact hc
theorem Wrt.size {g : Nat} {w w' : World} (h : Wrt g w w') : w.heap.size ≤ w'.heap.size := h.below.size
end Go.Proofs.YtkpoheknmcepnaaGreatDoor

namespace Go.Proofs.YtkpoheknmcepnaaGreatDoor
set_option linter.unusedVariables false
open Go.RowKit Go.Great Go.Lib

theorem OwnL.alloc {w : World} {g : Nat} {l : List UInt8} (h : OwnL w g l) (o : Obj) : OwnL (w.alloc o) g l := h.below ((Below.refl _ w).alloc (Nat.le_refl _) o) h.lt
set_option maxRecDepth 100000 in
theorem tx_write (a : Addr) (n : Int) (s : ByteArray) (g p m cap : Nat) (l : List UInt8) (w : World) (hc : w.cell? a = some (.string s)) (ho : OwnL w g l) (hm : s.size ≤ m) (hp : p + s.size ≤ l.length) :
    Calls Tryz.prog 188 #[.agg #[.pointer (some a), .int .i64 n], .slice (some ⟨g, p, none⟩) m cap] w fun e w' => e = .returned (.tuple #[]) ∧ OwnL w' g (putAt l p s.data.toList) ∧ Wrt g w w' := by
  have hcl := cell_alloc hc (.cells #[.pointer (some a), .int .i64 n] 151)
  have hcp := copy_str s m cap g p l _ (ho.alloc (.cells #[.pointer (some a), .int .i64 n] 151)) hm hp
  have HO : Hid (OwnL ((w.alloc (.cells #[.pointer (some a), .int .i64 n] 151)).setRow g (byteCells (putAt l p s.data.toList)).toArray) g (putAt l p s.data.toList) ∧ Wrt g w ((w.alloc (.cells #[.pointer (some a), .int .i64 n] 151)).setRow g (byteCells (putAt l p s.data.toList)).toArray)) :=
    ⟨(ho.alloc _).put _, Wrt.setRow ho.lt ((Below.refl _ w).alloc (Nat.le_refl _) _) _⟩
  generalize putAt l p s.data.toList = l' at *
  clear hc ho
  go_enter Tryz.func188, Tryz.ntmps188
  go_wp2
  go_end0
  exact ⟨rfl, HO.out⟩
set_option maxRecDepth 100000 in
theorem tr_write (a : Addr) (b : Bool) (g p m cap : Nat) (l : List UInt8) (w : World) (hc : w.cell? a = some (.bool b)) (ho : OwnL w g l) (hm : 1 ≤ m) (hp : p + 1 ≤ l.length) :
    Calls Tryz.prog 194 #[.agg #[.pointer (some a)], .slice (some ⟨g, p, none⟩) m cap] w fun e w' => e = .returned (.tuple #[]) ∧ OwnL w' g (putAt l p (if b then [1] else [])) ∧ Wrt g w w' := by
  have hcl := cell_alloc hc (.cells #[.pointer (some a)] 157)
  have ho2 := ho.alloc (.cells #[.pointer (some a)] 157)
  have HB : Hid (Wrt g w (w.alloc (.cells #[.pointer (some a)] 157))) := Wrt.of ho.lt ((Below.refl _ w).alloc (Nat.le_refl _) _) (Below.refl _ _) fun _ _ => rfl
  have hgl := ho.lt
  clear hc ho
  cases b with
  | false =>
    have HO : Hid (OwnL (w.alloc (.cells #[.pointer (some a)] 157)) g (putAt l p (if false = true then [1] else []))) := by rw [if_neg (by decide), putAt_nil]; exact ho2
    generalize putAt l p _ = l' at *
    go_enter Tryz.func194, Tryz.ntmps194
    go_wp2
    go_end0
    exact ⟨rfl, HO.out, HB.out⟩
  | true =>
    obtain ⟨c, hcc, _⟩ := dL_at (show p < l.length by omega)
    have hcell := ho2.cell hcc
    have hfr := ho2.froz p
    have hs := ho2.set p 1
    have HO : Hid (OwnL ((w.alloc (.cells #[.pointer (some a)] 157)).setCell ⟨g, p, none⟩ (.int .u8 1)) g (putAt l p (if true = true then [1] else [])) ∧ Wrt g w ((w.alloc (.cells #[.pointer (some a)] 157)).setCell ⟨g, p, none⟩ (.int .u8 1))) := by
      have e : putAt l p (if true = true then [1] else []) = l.set p 1 := by
        rw [if_pos rfl]; unfold putAt
        rw [List.set_eq_take_append_cons_drop, if_pos (by omega)]; simp
      rw [e]; exact ⟨hs.1, Wrt.of hgl ((Below.refl _ w).alloc (Nat.le_refl _) _) hs.2 fun b hb => Below.heap_setCell _ _ _ _ hb⟩
    have hm0 : ¬ m = 0 := by omega
    have hm1 : (0 : Int) < (m : Int) := by omega
    generalize putAt l p _ = l' at *
    clear ho2 hcc hs hgl
    go_enter Tryz.func194, Tryz.ntmps194
    go_wp2
    go_end0
    exact ⟨rfl, HO.out⟩
end Go.Proofs.YtkpoheknmcepnaaGreatDoor

namespace Go.Proofs.YtkpoheknmcepnaaGreatDoor
set_option linter.unusedVariables false
open Go.RowKit Go.Great Go.Lib

theorem be_cells (u s : Nat) : bvals (putTo u s s) = byteCells (be s u) := by
  unfold bvals byteCells be
  rw [List.map_map]
  refine List.map_congr_left fun x hx => ?_
  have := putTo_lt hx
  simp [Nat.mod_eq_of_lt this]
/-- Put to nothing: new bytes. -/
theorem Put_nil (u s : Nat) (z : Int) (hz : z = u) (y : Int) (hy : y = s) (h1 : 1 ≤ s) (h8 : s ≤ 8) (w : World) (hu : u < 18446744073709551616) :
    Calls Tryz.prog 25 #[.slice none 0 0, .int .u64 z, .int .i64 y] w fun e w' => ∃ b cap, e = .returned (.slice (some ⟨b, 0, none⟩) s cap) ∧ (∀ j c, (be s u)[j]? = some c → w'.cell? ⟨b, 0 + j, none⟩ = some (.int .u8 (c.toNat : Int))) ∧ w.heap.size ≤ b ∧ Below w.heap.size w w' := by
  subst hz hy
  refine (Put_any none 0 0 (fun _ => 0) u s h8 w (by omega) hu (.inl rfl) (fun _ => ⟨rfl, rfl⟩)).mono ?_
  rintro e w' ⟨v, rfl, ho, hb⟩
  rw [show rowL (fun _ => 0) 0 ++ putTo u s s = putTo u s s from rfl, Nat.zero_add, be_cells] at ho
  have hlt := ho.lt
  obtain ⟨g1, g2⟩ := ho
  rcases g2 with ⟨rfl, h0⟩ | ⟨g, cap, cur, rfl, r1, r2, r3, r4, r5, r6⟩
  · omega
  · refine ⟨g, cap, rfl, fun j c hj => ?_, (hlt g rfl).1, hb⟩
    have hjl : j < s := by have := (List.getElem?_eq_some_iff.1 hj).1; rwa [be_length] at this
    have e1 : (byteCells (be s u))[j]? = some (.int .u8 (c.toNat : Int)) := by unfold byteCells; rw [List.getElem?_map, hj]; rfl
    rw [← r6, List.getElem?_take, if_pos (by omega)] at e1
    rw [Nat.zero_add, cell_of_row w' g _ cur _ _ r2]; simpa using e1
theorem u64N_lt (z : Int) : u64N z < 18446744073709551616 := by unfold u64N; omega
theorem u64_wrap (z : Int) : IntKind.u64.wrap z = (u64N z : Int) := by rw [IntKind.wrap_u64]; unfold u64N; omega
set_option maxRecDepth 100000 in
set_option maxHeartbeats 400000 in
theorem ni_write (a : Addr) (z : Int) (s g p m cap : Nat) (l : List UInt8) (w : World) (hc : w.cell? a = some (.int .i64 z)) (hag : a.block ≠ g) (ho : OwnL w g l) (h1 : 1 ≤ s) (h8 : s ≤ 8) (hm : s ≤ m) (hp : p + s ≤ l.length) :
    Calls Tryz.prog 191 #[.agg #[.pointer (some a), .int .i64 (s : Nat)], .slice (some ⟨g, p, none⟩) m cap] w fun e w' => e = .returned (.tuple #[]) ∧ OwnL w' g (putAt l p (be s (u64N z))) ∧ Wrt g w w' := by
  have hlt := World.block_lt_of_cell? _ _ hc
  have HO0 : Hid (OwnL (w.alloc (.cells #[.pointer (some a), .int .i64 (s : Nat)] 154)) g l) := ho.alloc _
  have HB0 : Hid (Below w.heap.size w (w.alloc (.cells #[.pointer (some a), .int .i64 (s : Nat)] 154))) := (Below.refl _ w).alloc (Nat.le_refl _) _
  have hg := ho.lt
  have hcl := cell_alloc hc (.cells #[.pointer (some a), .int .i64 (s : Nat)] 154)
  have hcv := u64_wrap z
  have HP : Hid (∀ w' x y, x = (u64N z : Int) → y = (s : Int) → Calls Tryz.prog 25 #[.slice none 0 0, .int .u64 x, .int .i64 y] w' fun e w2 => ∃ b cap, e = .returned (.slice (some ⟨b, 0, none⟩) s cap) ∧ (∀ j c, (be s (u64N z))[j]? = some c → w2.cell? ⟨b, 0 + j, none⟩ = some (.int .u8 (c.toNat : Int))) ∧ w'.heap.size ≤ b ∧ Below w'.heap.size w' w2) := fun w' x y hx hy => Put_nil (u64N z) s x hx y hy h1 h8 w' (u64N_lt z)
  have HL : Hid ((be s (u64N z)).length = s) := be_length _ _
  generalize be s (u64N z) = L at *
  clear hc ho
  go_enter Tryz.func191, Tryz.ntmps191
  go_upto_region 1 with fail
  generalize hW : w.alloc _ = W0 at *
  have c0 : W0.cell? ⟨w.heap.size, 0, none⟩ = some (.pointer (some a)) := by rw [← hW]; exact World.cell?_alloc_new ..
  have c1 : W0.cell? ⟨w.heap.size, 1, none⟩ = some (.int .i64 (s : Nat)) := by rw [← hW]; exact World.cell?_alloc_new ..
  have hsz : W0.heap.size = w.heap.size + 1 := by rw [← hW]; simp
  have HK2 : Hid (∀ w', Below W0.heap.size W0 w' → w'.cell? ⟨w.heap.size, 0, none⟩ = some (.pointer (some a)) ∧ w'.cell? ⟨w.heap.size, 1, none⟩ = some (.int .i64 (s : Nat)) ∧ w'.cell? a = some (.int .i64 z)) := fun w' hb => by
    rw [hb.cell (p := ⟨w.heap.size, 0, none⟩) (World.block_lt_of_cell? _ _ c0), hb.cell (p := ⟨w.heap.size, 1, none⟩) (World.block_lt_of_cell? _ _ c1), hb.cell (p := a) (World.block_lt_of_cell? _ _ hcl)]
    exact ⟨c0, c1, hcl⟩
  have hB1 : Below W0.heap.size W0 W0.drew := below_drewN (Below.refl _ _) 1
  have HK3 : Hid (∀ w' X, Below W0.heap.size W0 w' → (w'.setRow g X).cell? ⟨w.heap.size, 0, none⟩ = some (.pointer (some a)) ∧ (w'.setRow g X).cell? ⟨w.heap.size, 1, none⟩ = some (.int .i64 (s : Nat)) ∧ (w'.setRow g X).cell? a = some (.int .i64 z)) := fun w' X hb => by
    rw [cell_setRow_other _ _ _ _ (by show w.heap.size ≠ g; omega), cell_setRow_other _ _ _ _ (by show w.heap.size ≠ g; omega), cell_setRow_other _ _ _ _ hag]
    exact HK2.out w' hb
  clear hW
  go_region_held3 (fun w' => w'.cell? ⟨w.heap.size, 0, none⟩ = some (.pointer (some a)) ∧ w'.cell? ⟨w.heap.size, 1, none⟩ = some (.int .i64 (s : Nat)) ∧ w'.cell? a = some (.int .i64 z)) (first | exact HK3.out _ _ hB3 | exact HK2.out _ hB3 | exact HK2.out _ hB1) (first | (go_at_call 25; refine (HP.out _ _ _ (by omega) rfl).mono ?_; rintro e w3 ⟨b3, cap3, rfl, hc3, hb3, hbl3⟩; have hB3 : Below W0.heap.size W0 w3 := hB1.trans (hbl3.mono hB1.size); have hcp := copy_at b3 0 s cap3 m cap g p l L w3 HL.out.symm hc3 (HO0.out.below hB3 (by omega)) (by rw [HL.out]; exact hm) (by rw [HL.out]; exact hp)))
  all_goals go_wp2
  all_goals go_end0
  all_goals exact ⟨rfl, (HO0.out.below hB3 (by omega)).put _, Wrt.setRow hg (HB0.out.trans (hB3.mono (by omega))) _⟩
set_option maxRecDepth 100000 in
set_option maxHeartbeats 400000 in
theorem nl_write (a : Addr) (z : Int) (s g p m cap : Nat) (l : List UInt8) (w : World) (hc : w.cell? a = some (.int .i64 z)) (hag : a.block ≠ g) (ho : OwnL w g l) (h1 : 1 ≤ s) (h8 : s ≤ 8) (hm : s ≤ m) (hp : p + s ≤ l.length) :
    Calls Tryz.prog 197 #[.agg #[.pointer (some a), .int .i64 (s : Nat)], .slice (some ⟨g, p, none⟩) m cap] w fun e w' => e = .returned (.tuple #[]) ∧ OwnL w' g (putAt l p (be s (u64N z))) ∧ Wrt g w w' := by
  have hlt := World.block_lt_of_cell? _ _ hc
  have HO0 : Hid (OwnL (w.alloc (.cells #[.pointer (some a), .int .i64 (s : Nat)] 160)) g l) := ho.alloc _
  have HB0 : Hid (Below w.heap.size w (w.alloc (.cells #[.pointer (some a), .int .i64 (s : Nat)] 160))) := (Below.refl _ w).alloc (Nat.le_refl _) _
  have hg := ho.lt
  have hcl := cell_alloc hc (.cells #[.pointer (some a), .int .i64 (s : Nat)] 160)
  have hcv := u64_wrap z
  have HP : Hid (∀ w' x y, x = (u64N z : Int) → y = (s : Int) → Calls Tryz.prog 25 #[.slice none 0 0, .int .u64 x, .int .i64 y] w' fun e w2 => ∃ b cap, e = .returned (.slice (some ⟨b, 0, none⟩) s cap) ∧ (∀ j c, (be s (u64N z))[j]? = some c → w2.cell? ⟨b, 0 + j, none⟩ = some (.int .u8 (c.toNat : Int))) ∧ w'.heap.size ≤ b ∧ Below w'.heap.size w' w2) := fun w' x y hx hy => Put_nil (u64N z) s x hx y hy h1 h8 w' (u64N_lt z)
  have HL : Hid ((be s (u64N z)).length = s) := be_length _ _
  generalize be s (u64N z) = L at *
  clear hc ho
  go_enter Tryz.func197, Tryz.ntmps197
  go_upto_region 1 with fail
  generalize hW : w.alloc _ = W0 at *
  have c0 : W0.cell? ⟨w.heap.size, 0, none⟩ = some (.pointer (some a)) := by rw [← hW]; exact World.cell?_alloc_new ..
  have c1 : W0.cell? ⟨w.heap.size, 1, none⟩ = some (.int .i64 (s : Nat)) := by rw [← hW]; exact World.cell?_alloc_new ..
  have hsz : W0.heap.size = w.heap.size + 1 := by rw [← hW]; simp
  have HK2 : Hid (∀ w', Below W0.heap.size W0 w' → w'.cell? ⟨w.heap.size, 0, none⟩ = some (.pointer (some a)) ∧ w'.cell? ⟨w.heap.size, 1, none⟩ = some (.int .i64 (s : Nat)) ∧ w'.cell? a = some (.int .i64 z)) := fun w' hb => by
    rw [hb.cell (p := ⟨w.heap.size, 0, none⟩) (World.block_lt_of_cell? _ _ c0), hb.cell (p := ⟨w.heap.size, 1, none⟩) (World.block_lt_of_cell? _ _ c1), hb.cell (p := a) (World.block_lt_of_cell? _ _ hcl)]
    exact ⟨c0, c1, hcl⟩
  have hB1 : Below W0.heap.size W0 W0.drew := below_drewN (Below.refl _ _) 1
  have HK3 : Hid (∀ w' X, Below W0.heap.size W0 w' → (w'.setRow g X).cell? ⟨w.heap.size, 0, none⟩ = some (.pointer (some a)) ∧ (w'.setRow g X).cell? ⟨w.heap.size, 1, none⟩ = some (.int .i64 (s : Nat)) ∧ (w'.setRow g X).cell? a = some (.int .i64 z)) := fun w' X hb => by
    rw [cell_setRow_other _ _ _ _ (by show w.heap.size ≠ g; omega), cell_setRow_other _ _ _ _ (by show w.heap.size ≠ g; omega), cell_setRow_other _ _ _ _ hag]
    exact HK2.out w' hb
  clear hW
  go_region_held3 (fun w' => w'.cell? ⟨w.heap.size, 0, none⟩ = some (.pointer (some a)) ∧ w'.cell? ⟨w.heap.size, 1, none⟩ = some (.int .i64 (s : Nat)) ∧ w'.cell? a = some (.int .i64 z)) (first | exact HK3.out _ _ hB3 | exact HK2.out _ hB3 | exact HK2.out _ hB1) (first | (go_at_call 25; refine (HP.out _ _ _ (by omega) rfl).mono ?_; rintro e w3 ⟨b3, cap3, rfl, hc3, hb3, hbl3⟩; have hB3 : Below W0.heap.size W0 w3 := hB1.trans (hbl3.mono hB1.size); have hcp := copy_at b3 0 s cap3 m cap g p l L w3 HL.out.symm hc3 (HO0.out.below hB3 (by omega)) (by rw [HL.out]; exact hm) (by rw [HL.out]; exact hp)))
  all_goals go_wp2
  all_goals go_end0
  all_goals exact ⟨rfl, (HO0.out.below hB3 (by omega)).put _, Wrt.setRow hg (HB0.out.trans (hB3.mono (by omega))) _⟩
end Go.Proofs.YtkpoheknmcepnaaGreatDoor

namespace Go.Proofs.YtkpoheknmcepnaaGreatDoor
set_option linter.unusedVariables false
open Go.RowKit Go.Great Go.Lib

def wrL (M : Msg) (j : Nat) : List UInt8 := if isStr j then (M.s j).data.toList else if isBoo j then (if M.b j then [1] else []) else be (wd j) (u64N (M.z j))
theorem write_any (M : Msg) (j : Nat) (h1 : 1 ≤ j) (hj : j < 42) (hf : Fit1 M j) (B g p cap : Nat) (l : List UInt8) (w : World) (hc : w.cell? ⟨B, j, none⟩ = some (M.cell j)) (hBg : B ≠ g) (ho : OwnL w g l) (hp : p + wd j ≤ l.length) :
    Calls Tryz.prog (fWr j) #[fVal j B, .slice (some ⟨g, p, none⟩) (wd j) cap] w fun e w' => e = .returned (.tuple #[]) ∧ OwnL w' g (putAt l p (wrL M j)) ∧ Wrt g w w' := by
  have h0 : j ≠ 0 := by omega
  rcases cases42 hj with rfl | rfl | rfl | rfl | rfl | rfl | rfl | rfl | rfl | rfl | rfl | rfl | rfl | rfl | rfl | rfl | rfl | rfl | rfl | rfl | rfl | rfl | rfl | rfl | rfl | rfl | rfl | rfl | rfl | rfl | rfl | rfl | rfl | rfl | rfl | rfl | rfl | rfl | rfl | rfl | rfl | rfl <;>
    first
    | exact absurd rfl h0
    | exact tx_write _ _ _ g p _ cap l w hc ho (hf.str rfl).1 (Nat.le_trans (Nat.add_le_add_left (hf.str rfl).1 p) hp)
    | exact tr_write _ _ g p _ cap l w hc ho (by decide) hp
    | exact nl_write _ _ _ g p _ cap l w hc hBg ho (by decide) (by decide) (Nat.le_refl _) hp
    | exact ni_write _ _ _ g p _ cap l w hc hBg ho (by decide) (by decide) (Nat.le_refl _) hp
theorem cfWr (j : Nat) (hj : j < 42) (a : Array Value) (w : World) : Sem.run Tryz.prog (callFunc (fWr j) a) w = .ok (.enter (fWr j) a) w := by
  rcases cases42 hj with rfl | rfl | rfl | rfl | rfl | rfl | rfl | rfl | rfl | rfl | rfl | rfl | rfl | rfl | rfl | rfl | rfl | rfl | rfl | rfl | rfl | rfl | rfl | rfl | rfl | rfl | rfl | rfl | rfl | rfl | rfl | rfl | rfl | rfl | rfl | rfl | rfl | rfl | rfl | rfl | rfl | rfl <;> kernel_rfl
theorem mWr (j : Nat) (hj : j < 42) (B : Nat) (w : World) : (method 308 (fTy j) (fVal j B) "outcry/bin.write").run Tryz.prog w = .ok (fWr j, fVal j B) w := by
  rcases cases42 hj with rfl | rfl | rfl | rfl | rfl | rfl | rfl | rfl | rfl | rfl | rfl | rfl | rfl | rfl | rfl | rfl | rfl | rfl | rfl | rfl | rfl | rfl | rfl | rfl | rfl | rfl | rfl | rfl | rfl | rfl | rfl | rfl | rfl | rfl | rfl | rfl | rfl | rfl | rfl | rfl | rfl | rfl <;> kernel_rfl
theorem put_wr {M : Msg} {j : Nat} (hj : j < 42) (hf : Fit1 M j) (a : List UInt8) (n : Nat) (hn : wd j ≤ n) : putAt (a ++ zer n) a.length (wrL M j) = a ++ encF M j ++ zer (n - wd j) := by
  have hz : ∀ k, k ≤ n → zer n = zer k ++ zer (n - k) := fun k hk => by unfold zer; rw [List.replicate_append_replicate]; congr 1; omega
  have key : ∀ s : List UInt8, s.length ≤ wd j → encF M j = s ++ zer (wd j - s.length) → putAt (a ++ zer n) a.length s = a ++ encF M j ++ zer (n - wd j) := fun s hs he => by
    rw [hz s.length (by omega), ← List.append_assoc, putAt_mid a s _ rfl (zer s.length) (zer_length _), he]
    simp only [List.append_assoc]
    congr 2
    unfold zer; rw [List.replicate_append_replicate]; congr 1; omega
  unfold wrL
  cases hs : isStr j
  · cases hb : isBoo j
    · simp only [Bool.false_eq_true, reduceIte]
      exact key _ (by rw [be_length]; exact Nat.le_refl _) (by simp [encF, hs, hb, be_length, zer])
    · simp only [Bool.false_eq_true, reduceIte]
      have hw := wd_boo hj hb
      cases hm : M.b j
      · exact key _ (by simp) (by simp [encF, hs, hb, hm, hw, zer])
      · exact key _ (by simp [hw]) (by simp [encF, hs, hb, hm, hw, zer])
  · simp only [reduceIte]
    exact key _ (by rw [Array.length_toList]; exact (hf.str hs).1) (by simp only [encF, hs, reduceIte, Array.length_toList]; rfl)
end Go.Proofs.YtkpoheknmcepnaaGreatDoor
