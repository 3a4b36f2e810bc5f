/-
  heap: ahead, swap, rise, sink, settle.
-/
import Derived.Test.YtdnhhcbabdoomaaHHeap
namespace Go.Proofs.Ytdnhhcbabdoomaa
set_option linter.unusedVariables false
set_option linter.unusedSimpArgs false
open Go.RowKit Go.Great

section
variable {A : Ask} {w w' : World} {h : Nat} {v : Value} {t : List (It Th)} {N c : Nat}
theorem HpM.at (H : HpM A w h v t N c) {k : Nat} {it : It Th} (hk : t[k]? = some it) : w.cell? ⟨it.p, 0, none⟩ = some (.int .i64 it.x.k) ∧ w.cell? ⟨it.p, 1, none⟩ = some (.int .i64 it.x.g) ∧ w.cell? ⟨it.p, 2, none⟩ = some (.int .i64 (it.r : Int)) ∧ w.cell? ⟨it.p, 3, none⟩ = some (.int .i64 (k : Int)) :=
  have B := H.its k it hk
  ⟨B.cell 0, B.cell 1, B.cell 2, B.cell 3⟩
theorem HpM.hd (H : HpM A w h v t N c) : w.cell? ⟨h, 0, none⟩ = some (.func (.func A.f) #[] #[]) ∧ w.cell? ⟨h, 1, none⟩ = some v ∧ w.cell? ⟨h, 2, none⟩ = some (.int .i64 (N : Int)) :=
  ⟨H.blk.cell 0, H.blk.cell 1, H.blk.cell 2⟩
set_option maxRecDepth 100000 in
set_option maxHeartbeats 2000000 in
theorem swap_any (H : HpM A w h v t N c) (hA : A.Ok) {i j : Nat} {a b : It Th} (hi : t[i]? = some a) (hj : t[j]? = some b) (hij : i ≠ j) :
    Calls Try.prog 88 #[ptr h, ptr a.p, ptr b.p] w fun e w' => e = .returned (.tuple #[]) ∧ HpM A w' h v (swpL t i j) N c ∧ Fr w w' (ownH h v t) := by
  have hil := get_lt hi
  have hjl := get_lt hj
  obtain ⟨g, off, cap, hv, h1, h2, h3, h4, h5⟩ := H.slice (by omega)
  have hap := h3 a (List.mem_of_getElem? hi)
  have hbp := h3 b (List.mem_of_getElem? hj)
  have hab := pw_ne H.ne hi hj hij
  have ca := (H.at hi).2.2.2
  have cb := (H.at hj).2.2.2
  have ch := H.hd.2.1
  rw [hv] at ch
  have FIN := H.swap hA hi hj hij hv
  have hp1 := put_any (w := w) (h := h) (p := a.p) (k := j) rfl hjl ch (h4 j b hj) ca (h5 _) ((H.its i a hi).frozen 3) hap.1
  have f12 : Fr w ((w.setCell ⟨g, off + j, none⟩ (ptr a.p)).setCell ⟨a.p, 3, none⟩ (.int .i64 (j : Int))) (fun q => q = g ∨ q = a.p) :=
    (Fr.setCell w ⟨g, off + j, none⟩ (ptr a.p) (fun q => q = g) rfl).trans (Fr.setCell _ ⟨a.p, 3, none⟩ _ (fun q => q = a.p) rfl) fun q _ hq => hq
  have rw1 : RowAt w 27 1 (.slice (some ⟨g, off, none⟩) t.length cap) t.length (t.map fun it => ptr it.p) := hv ▸ H.row
  have r2 := (rw1.set (j := j) (by rw [List.length_map]; exact hjl) (ptr a.p)).fr (Fr.setCell _ ⟨a.p, 3, none⟩ (.int .i64 (j : Int)) (fun q => q = a.p) rfl) (fun q hq e => hap.1 (e ▸ (own_slice rfl hq).symm))
  have hp2 := put_any (w := (w.setCell ⟨g, off + j, none⟩ (ptr a.p)).setCell ⟨a.p, 3, none⟩ (.int .i64 (j : Int))) (h := h) (p := b.p) (k := i) (u := ptr a.p) (u2 := .int .i64 (j : Int)) rfl hil
    (f12.cell ch (fun q => by rcases q with q | q; exact h2 q.symm; exact hap.2 q.symm))
    (r2.cell rfl (by rw [List.getElem?_set_ne (Ne.symm hij), List.getElem?_map, hi]; rfl))
    (f12.cell cb (fun q => by rcases q with q | q; exact hbp.1 q; exact hab q.symm))
    (r2.frozen rfl _) (((H.its j b hj).fr f12 (fun q => by rcases q with q | q; exact hbp.1 q; exact hab q.symm)).frozen 3) hbp.1
  have cb2 : (w.setCell ⟨g, off + j, none⟩ (ptr a.p)).cell? ⟨b.p, 3, none⟩ = some (.int .i64 (j : Int)) := (Fr.setCell w ⟨g, off + j, none⟩ (ptr a.p) (fun q => q = g) rfl).cell cb hbp.1
  have FH : Hid (HpM A _ h v (swpL t i j) N c ∧ Fr w _ (ownH h v t)) := FIN
  clear FIN H r2 rw1 f12 h4 h5 h3 hA
  go_enter Try.func88, Try.ntmps88
  go_wp2_with (go_at_call 52; fail)
  refine hp1.mono ?_
  rintro e w1 ⟨rfl, rfl⟩
  clear hp1
  go_wp2_with (go_at_call 52; fail)
  refine hp2.mono ?_
  rintro e w1 ⟨rfl, rfl⟩
  go_wp2
  refine ⟨by rfl, .tuple #[], results_none (by rfl) _ _ _, rfl, ?_⟩
  exact FH.out
end
end Go.Proofs.Ytdnhhcbabdoomaa
