/-
  NumBytes: rows of one's own beside one another.
-/
import Derived.Test.YtnnfepapnimlcabDoorLawBackN
import Derived.Test.YtnnfepapnimlcabDoorFull
import Derived.Test.YtnnfepapnimlcabDoorPut2
import Derived.Test.YtnnfepapnimlcabDoorRefPut
import Derived.Test.YtnnfepapnimlcabDoorRefPutVar
import Derived.Test.YtnnfepapnimlcabDoorRefBytes
import Derived.Test.YtnnfepapnimlcabDoorRefBytes2
import Derived.Test.YtnnfepapnimlcabDoorRefBytes3
import Derived.Test.YtnnfepapnimlcabDoorTurned
import Derived.Test.YtnnfepapnimlcabDoorStill
namespace Go.Proofs.YtnnfepapnimlcabDoor
set_option linter.unusedVariables false
open Go.Shelf Go.RowKit Go.Sort Go.Lib

theorem own_keep {w w' : World} {B n : Nat} {v : Value} {xs : List Value} (h : w.ownsRow B 5 1 v n xs) (hk : ∀ k, v.ownBlock = some k → w'.heap[k]? = w.heap[k]?) : w'.ownsRow B 5 1 v n xs := by
  refine ⟨h.1, ?_⟩
  rcases h.2 with h' | ⟨g, cap, cur, rfl, hb, hg, r⟩
  · exact .inl h'
  · exact .inr ⟨g, cap, cur, rfl, hb, (hk g rfl).trans hg, r⟩
theorem own_strv {w : World} {B n : Nat} {v : Value} {l : List Nat} (h : w.ownsRow B 5 1 v n (bvals l)) :
    (convert 29 9 v).run Tryd.prog w = .ok (.string (strOfNums (l.map fun x : Nat => (x : Int)))) w := by
  rcases h.2 with ⟨h1, h2⟩ | ⟨g, cap, cur, h1, _⟩
  · have hl : l = [] := List.eq_nil_of_length_eq_zero (by have := h.1; rw [bvals_length] at this; omega)
    subst h1 hl
    exact run_convert_bytes_nil w 29 5 Tryd.underlying29 Tryd.underlying5 0 0 9 Tryd.underlying9
  · subst h1
    exact own_str h
theorem refPut_z (a : Option Addr) (n cap : Nat) (d : Nat → Nat) (u s : Nat) (hs8 : s ≤ 8) (z : Int) (hz : (z < 0 ∧ s = 0) ∨ z = s ∨ (8 < z ∧ s = 8)) (w : World) (hn : n ≤ 140737488351232) (hu : u < 18446744073709551616) (hs : Src w a n d) (ha : a = none → n = 0 ∧ cap = 0) :
    Calls Tryd.prog 25 #[.slice a n cap, .int .u64 (u : Int), .int .i64 z] w fun e w' => ∃ v, e = .returned v ∧ w'.ownsRow w.heap.size 5 1 v (n + s) (bvals (rowL d n ++ putTo u s s)) ∧ Below w.heap.size w w' := by
  rcases hz with ⟨h1, h2⟩ | h1 | ⟨h1, h2⟩
  · exact refPut_lo a n cap d u s hs8 z h1 h2 w hn hu hs ha
  · rw [h1]; exact refPut_in a n cap d u s hs8 w hn hu hs ha
  · exact refPut_hi a n cap d u s hs8 z h1 h2 w hn hu hs ha
theorem refPutVar_any (a : Option Addr) (n cap : Nat) (d : Nat → Nat) (m : Int) (w : World) (hn : n ≤ 140737488351232) (hm0 : -9223372036854775808 ≤ m) (hm1 : m ≤ 9223372036854775807) (hs : Src w a n d) (ha : a = none → n = 0 ∧ cap = 0) :
    Calls Tryd.prog 26 #[.slice a n cap, .int .i64 m] w fun e w' => ∃ v, e = .returned v ∧ w'.ownsRow w.heap.size 5 1 v (n + (varL (foldN m)).length) (bvals (rowL d n ++ varL (foldN m))) ∧ Below w.heap.size w w' := by
  by_cases h : m < 0
  · exact refPutVar_lo a n cap d m h w hn hm0 hm1 hs ha
  · exact refPutVar_hi a n cap d m (by omega) w hn hm0 hm1 hs ha
theorem full_v (v : Value) (n : Nat) (xs : List Value) (B m : Nat) (M : Int) (hM : M = (m : Int)) (w : World) (hm : m < 256) (hn : n ≤ 140737488352000) (hB : B ≤ w.heap.size) (ho : w.ownsRow B 5 1 v n xs) :
    Calls Tryd.prog 27 #[v, .int .u8 M] w fun e w' => ∃ v', e = .returned v' ∧ w'.ownsRow B 5 1 v' (n + 70) (List.replicate (n + 70) (.int .u8 (m : Int))) ∧ w.grownBy w' v.ownBlock ∧ (v'.ownBlock = v.ownBlock ∨ ∃ k, v'.ownBlock = some k ∧ w.heap.size ≤ k) := by
  subst hM
  obtain ⟨ao, cv, rfl⟩ := own_form ho
  exact full_any ao n cv xs B m w hm hn hB ho
theorem all_v (v : Value) (n m B : Nat) (M : Int) (hM : M = (m : Int)) (w : World) (hm : m < 256) (hn : n ≤ 140737488355000) (ho : w.ownsRow B 5 1 v n (List.replicate n (.int .u8 (m : Int)))) :
    Calls Tryd.prog 28 #[v, .int .u8 M] w fun e w' => e = .returned (.bool true) ∧ w' = w := by
  subst hM
  obtain ⟨ao, cv, rfl⟩ := own_form ho
  refine all_yes ao n cv m (fun _ => m) w ?_ (fun _ _ => rfl) (by omega)
  rcases ho.2 with ⟨_, h2⟩ | ⟨g, cap, cur, h1, _⟩
  · exact .inl h2
  · injection h1 with e1 e2 e3
    subst e1
    refine .inr ⟨g, 0, rfl, fun j hj => ⟨?_, hm⟩⟩
    rw [Nat.zero_add, ho.cellAt j (by omega)]
    simp [hj]

abbrev Rw := Value × Nat × List Value
def Dis (r r' : Rw) : Prop := ∀ k, r.1.ownBlock = some k → r'.1.ownBlock ≠ some k
theorem Dis.symm {r r' : Rw} (h : Dis r r') : Dis r' r := fun k h1 h2 => h k h2 h1
/-- Rows of one's own, each in a block of its own, from B on. -/
structure RS (B : Nat) (wx : World) (rs : List Rw) : Prop where
  own : ∀ r ∈ rs, wx.ownsRow B 5 1 r.1 r.2.1 r.2.2
  dis : rs.Pairwise Dis
  hB : B ≤ wx.heap.size
theorem RS.nil (w : World) : RS w.heap.size w [] := ⟨by simp, .nil, Nat.le_refl _⟩
theorem RS.keep {B : Nat} {wx wy : World} {rs : List Rw} (h : RS B wx rs) (hb : Below wx.heap.size wx wy) : RS B wy rs :=
  ⟨fun r hr => own_keep (h.own r hr) fun k hk => hb.block k ((h.own r hr).lt k hk).2, h.dis, Nat.le_trans h.hB hb.size⟩
theorem RS.add {B N : Nat} {wx wy : World} {rs : List Rw} {v : Value} {l : List Value} (h : RS B wx rs) (hb : Below wx.heap.size wx wy) (ho : wy.ownsRow wx.heap.size 5 1 v N l) : RS B wy (rs ++ [(v, N, l)]) := by
  have hk := h.keep hb
  refine ⟨fun r hr => ?_, ?_, hk.hB⟩
  · rcases List.mem_append.1 hr with hr | hr
    · exact hk.own r hr
    · rw [List.mem_singleton.1 hr]; exact ho.mono h.hB
  · refine List.pairwise_append.2 ⟨h.dis, List.pairwise_singleton _ _, fun r hr r' hr' k h1 h2 => ?_⟩
    rw [List.mem_singleton.1 hr'] at h2
    have a1 := ((h.own r hr).lt k h1).2
    have a2 := (ho.lt k h2).1
    omega
theorem RS.full {B N N' : Nat} {wx wy : World} {rs : List Rw} {v v' : Value} {l l' : List Value} (h : RS B wx ((v, N, l) :: rs)) (hg : wx.grownBy wy v.ownBlock) (ho : wy.ownsRow B 5 1 v' N' l') (hv : v'.ownBlock = v.ownBlock ∨ ∃ k, v'.ownBlock = some k ∧ wx.heap.size ≤ k) : RS B wy (rs ++ [(v', N', l')]) := by
  have hd := List.pairwise_cons.1 h.dis
  refine ⟨fun r hr => ?_, ?_, Nat.le_trans h.hB hg.size⟩
  · rcases List.mem_append.1 hr with hr | hr
    · have h1 := h.own r (List.mem_cons_of_mem _ hr)
      exact own_keep h1 fun k hk => hg.block k (h1.lt k hk).2 fun e => hd.1 r hr k e.symm hk
    · rw [List.mem_singleton.1 hr]; exact ho
  · refine List.pairwise_append.2 ⟨hd.2, List.pairwise_singleton _ _, fun r hr r' hr' k h1 h2 => ?_⟩
    rw [List.mem_singleton.1 hr'] at h2
    rcases hv with e | ⟨q, e, hq⟩
    · exact hd.1 r hr k (e.symm.trans h2) h1
    · have a1 := ((h.own r (List.mem_cons_of_mem _ hr)).lt k h1).2
      rw [show v'.ownBlock = some k from h2] at e
      cases e
      omega
/-- What was lent stands, and all that came in. -/
structure NB (w wx : World) (n : Nat) (f : Nat → Nat) (G : Nat) : Prop where
  below : Below w.heap.size w wx
  own : OwnA wx G (n + 8) f
  hG : w.heap.size ≤ G
theorem NB.keep {w wx wy : World} {n G : Nat} {f : Nat → Nat} (h : NB w wx n f G) (hb : Below wx.heap.size wx wy) : NB w wy n f G :=
  ⟨h.below.trans (hb.mono h.below.size), h.own.below hb h.own.lt, h.hG⟩
theorem NB.drewN {w wx : World} {n G : Nat} {f : Nat → Nat} (h : NB w wx n f G) (q : Nat) : NB w (wx.drewN q) n f G := h.keep (below_drewN (Below.refl _ _) q)
theorem NB.grown {w wx wy : World} {n G : Nat} {f : Nat → Nat} {row : Option Nat} (h : NB w wx n f G) (hg : wx.grownBy wy row) (hr : ∀ k, row = some k → G < k) : NB w wy n f G :=
  ⟨below_grownBy h.below hg (Nat.le_refl _) (fun k hk => by have := hr k hk; have := h.hG; omega), h.own.keep (hg.block G h.own.lt fun e => by have := hr G e.symm; omega), h.hG⟩
theorem NB.full {w wx wy : World} {n G B N : Nat} {f : Nat → Nat} {v : Value} {l : List Value} {rs : List Rw} (h : NB w wx n f G) (hr : RS B wx ((v, N, l) :: rs)) (hB : G < B) (hg : wx.grownBy wy v.ownBlock) : NB w wy n f G :=
  h.grown hg fun k hk => Nat.lt_of_lt_of_le hB ((hr.own _ (List.mem_cons_self ..)).lt k hk).1
theorem NB.sin {w wx : World} {n G : Nat} {f d : Nat → Nat} (h : NB w wx n f G) (e : ∀ j, j < n → f j = d j) : Src wx (some ⟨G, 0, none⟩) n d :=
  .inr ⟨G, 0, rfl, fun j hj => by rw [← e j hj]; exact h.own.row (by omega) j hj⟩
theorem bytesUp_eq (f : Nat → Nat) (n : Nat) : bytesUp f n = bvals (rowL (fun j => (f j + 1) % 256) n) := by simp [bytesUp, bvals, rowL]
theorem src_own {w : World} {B n c : Nat} {ao : Option Addr} {d : Nat → Nat} (h : w.ownsRow B 5 1 (.slice ao n c) n (bvals (rowL d n))) (hd : ∀ j, d j < 256) : Src w ao n d ∧ (ao = none → n = 0 ∧ c = 0) := by
  rcases h.2 with ⟨h1, h2⟩ | ⟨g, cap, cur, h1, _⟩
  · injection h1 with e1 e2 e3
    exact ⟨.inl h2, fun _ => ⟨h2, e3⟩⟩
  · injection h1 with e1 e2 e3
    subst e1
    refine ⟨.inr ⟨g, 0, rfl, fun j hj => ⟨?_, hd j⟩⟩, fun e => by cases e⟩
    rw [Nat.zero_add, h.cellAt j (by omega)]
    simp [bvals, rowL, hj]
theorem NB.turned {w wx wy : World} {n G : Nat} {f : Nat → Nat} (h : NB w wx n f G) (ho : OwnA wy G (n + 8) (upD f n)) (ha : Apart G wx wy) : NB w wy n (upD f n) G :=
  ⟨h.below.trans (ha.below h.below.size h.hG), ho, h.hG⟩
end Go.Proofs.YtnnfepapnimlcabDoor
