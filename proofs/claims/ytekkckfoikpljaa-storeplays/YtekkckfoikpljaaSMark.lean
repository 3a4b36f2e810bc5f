/-
  StorePlays: rows of the owner's mark; what is appended to them.
-/
import Derived.Test.YtekkckfoikpljaaSPair
namespace Go.Proofs.Ytekkckfoikpljaa
set_option linter.unusedVariables false
set_option linter.unusedSimpArgs false
open Go.RowKit Go.Great

theorem mkf_len (a b : Int) (u : Unit) : ((fun _ : Unit => mkL a b) u).length = 45 := mkL_len a b
theorem reps_len (a b : Int) (n : Nat) : (reps a b n).length = n * 45 := by unfold reps; rw [flatL_len (mkf_len a b), List.length_replicate]
theorem reps_get (a b : Int) {n j : Nat} (hj : j < n * 45) : (reps a b n)[j]? = (mkL a b)[j % 45]? := by
  have h1 : j / 45 < n := by omega
  have := flatL_get (f := fun _ : Unit => mkL a b) (mkf_len a b) (l := List.replicate n ()) (i := j / 45) (a := ()) (by rw [List.getElem?_replicate, if_pos h1]) (k := j % 45) (by omega)
  rw [show j / 45 * 45 + j % 45 = j by omega] at this
  exact this
theorem reps_app (a b : Int) (n m : Nat) : reps a b n ++ reps a b m = reps a b (n + m) := by unfold reps; rw [← flatL_app, List.replicate_append_replicate]
theorem reps_one (a b : Int) : reps a b 1 = mkL a b := by unfold reps; exact flatL_one _
theorem mk_one (a b : Int) : ∀ u, u ∈ mkL a b → u.oneCell' = true := fun u hu => by
  unfold mkL at hu
  rcases List.mem_append.1 hu with h | h
  · simp at h; rcases h with rfl | rfl | rfl <;> rfl
  · have := zeroM.one
    rw [Array.all_eq_true'] at this
    exact this u (by simpa using h)
theorem reps_mem (a b : Int) (n : Nat) : ∀ u, u ∈ reps a b n → u.oneCell' = true := fun u hu => by
  obtain ⟨j, hj⟩ := List.getElem?_of_mem hu
  have hlt : j < n * 45 := by have := (List.getElem?_eq_some_iff.1 hj).1; rw [reps_len] at this; exact this
  rw [reps_get a b hlt] at hj
  exact mk_one a b u (List.mem_of_getElem? hj)
theorem MR.more {w : World} {a b : Int} {n g off cap : Nat} (h : MR w a b (.slice (some ⟨g, off, none⟩) n cap) n) : ∃ cur, w.heap[g]? = some (.cells cur 36 (0, 0)) ∧ n ≤ cap ∧ cap ≤ maxLen ∧ off + cap * 45 ≤ cur.size ∧ (cur.toList.drop off).take (n * 45) = reps a b n := by
  rcases h.2 with ⟨h0, _⟩ | ⟨g', off', cap', cur, h1, h2, h3, h4, h5, h6⟩
  · cases h0
  · injection h1 with h1 _ hc
    injection h1 with h1
    injection h1 with h1 h1' _
    subst h1 h1' hc
    exact ⟨cur, h2, h3, h4, h5, h6⟩
/-- The mark is written over the mark. -/
theorem MR.over {w : World} {a b : Int} {n g off cap k j : Nat} (h : MR w a b (.slice (some ⟨g, off, none⟩) n cap) n) : MR (w.setCells g (off + k * 45) (reps a b j)) a b (.slice (some ⟨g, off, none⟩) n cap) n := by
  obtain ⟨cur, h2, h3, h4, h5, h6⟩ := MR.more h
  obtain ⟨cu2, hc2, hs2⟩ := blk_setCells (reps a b j) (off + k * 45) w cur h2
  refine ⟨h.1, .inr ⟨g, off, cap, cu2, rfl, hc2, h3, h4, by rw [hs2]; exact h5, ?_⟩⟩
  have hle : n * 45 ≤ cap * 45 := Nat.mul_le_mul_right _ h3
  apply List.ext_getElem?
  intro i
  rw [List.getElem?_take]
  split
  · next hi =>
    rw [List.getElem?_drop, Array.getElem?_toList, reps_get a b hi]
    have e1 : (w.setCells g (off + k * 45) (reps a b j)).cell? ⟨g, off + i, none⟩ = cu2[off + i]? := cell_of_row _ _ _ _ _ _ hc2
    have e2 : w.cell? ⟨g, off + i, none⟩ = (mkL a b)[i % 45]? := by
      have hlt : i % 45 < (mkL a b).length := by rw [mkL_len]; omega
      have := RowAt.cell h rfl (j := i) (u := (mkL a b)[i % 45]) (by show (reps a b n)[i]? = _; rw [reps_get a b hi, List.getElem?_eq_getElem hlt])
      rw [this, List.getElem?_eq_getElem hlt]
    rw [← e1, ← e2]
    by_cases hin : k * 45 ≤ i ∧ i < k * 45 + j * 45
    · by_cases hall : off + k * 45 + j * 45 ≤ cur.size
      · have hq := World.cell?_setCells_in g (reps a b j) (off + k * 45) w (fun t ht => by rw [reps_len] at ht; rw [cell_of_row _ _ _ _ _ _ h2, Array.getElem?_eq_getElem (by omega)]; rfl) (i - k * 45) (by rw [reps_len]; omega)
        rw [show off + k * 45 + (i - k * 45) = off + i by omega] at hq
        rw [hq, e2, ← List.getElem?_eq_getElem, reps_get a b (by omega)]
        congr 1
        omega
      · have e3 : ∀ (us : List Value) (o : Nat) (w1 : World) (c1 : Array Value) (t : Nat), w1.heap[g]? = some (.cells c1 36 (0, 0)) → t < c1.size → (w1.setCells g o us).cell? ⟨g, t, none⟩ = if o ≤ t ∧ t < o + us.length then us[t - o]? else c1[t]? := by
          intro us
          induction us with
          | nil => intro o w1 c1 t hh _; rw [if_neg (by simp only [List.length_nil]; omega)]; exact cell_of_row _ _ _ _ _ _ hh
          | cons u r ih =>
            intro o w1 c1 t hh ht
            show ((w1.setCell ⟨g, o, none⟩ u).setCells g (o + 1) r).cell? _ = _
            rw [ih (o + 1) _ (c1.setIfInBounds o u) t (by rw [setCell_eq_setRow w1 g o c1 _ _ u hh]; exact setRow_heap _ _ _ _ _ _ hh) (by simpa using ht)]
            by_cases ho : t = o
            · subst ho
              rw [if_neg (by omega), if_pos (by simp), Nat.sub_self, Array.getElem?_setIfInBounds, if_pos rfl, if_pos ht]; rfl
            · by_cases hr : o + 1 ≤ t ∧ t < o + 1 + r.length
              · rw [if_pos hr, if_pos (by simp; omega), show t - o = (t - (o + 1)) + 1 by omega]; rfl
              · rw [if_neg hr, if_neg (by simp; omega), Array.getElem?_setIfInBounds, if_neg (fun e => ho e.symm)]
        rw [e3 _ _ _ _ _ h2 (by omega), if_pos (by rw [reps_len]; omega), reps_get a b (by omega), e2]
        congr 1
        omega
    · rw [World.cell?_setCells_out g _ _ _ _ fun _ _ => by rw [reps_len]; show off + i < off + k * 45 ∨ off + k * 45 + j * 45 ≤ off + i; omega]
  · next hi =>
    symm
    rw [List.getElem?_eq_none_iff, reps_len]; omega
def vad : Value → Option Addr
  | .slice ao _ _ => ao
  | _ => none
/-- Some rows of the mark, and a block that holds it. -/
structure TK (w : World) (g4 : Nat) (a b : Int) (R : List Value) : Prop where
  box : w.heap[g4]? = some (.cells (mkL a b).toArray 36 (0, 0))
  each : ∀ u, u ∈ R → ∃ n, MR w a b u n
  off : ∀ u v, u ∈ R → v ∈ R → u.ownBlock = v.ownBlock → vad u = vad v
  ne : ∀ u, u ∈ R → u.ownBlock ≠ some g4
theorem MR.ownB {w : World} {a b : Int} {n : Nat} {v : Value} (h : MR w a b v n) : (∃ g off cap, v = .slice (some ⟨g, off, none⟩) n cap) ∨ v = .slice none 0 0 := by
  rcases h.2 with ⟨h0, _⟩ | ⟨g, off, cap, cur, h1, _⟩
  · exact .inr h0
  · exact .inl ⟨g, off, cap, h1⟩
theorem TK.ty {w w' : World} {g4 : Nat} {a b : Int} {R : List Value} (h : TK w g4 a b R) {T : TypeId → Prop} (ht : Ty w w' T) (h1 : T 36) : TK w' g4 a b R :=
  ⟨ht.blk _ _ _ h.box h1, fun u hu => by obtain ⟨n, hn⟩ := h.each u hu; exact ⟨n, RowAt.ty hn ht h1⟩, h.off, h.ne⟩
theorem TK.sub {w : World} {g4 : Nat} {a b : Int} {R S : List Value} (h : TK w g4 a b R) (hs : ∀ u, u ∈ S → u ∈ R) : TK w g4 a b S :=
  ⟨h.box, fun u hu => h.each u (hs u hu), fun u v hu hv => h.off u v (hs u hu) (hs v hv), fun u hu => h.ne u (hs u hu)⟩
theorem infoP : ∃ i, Try.prog.info? 36 = some i ∧ i.zero = some (.agg (mkL 0 0).toArray) ∧ i.size = 45 ∧ i.bytes = 424 := by
  have h : (Try.prog.info? 36).map (fun i => (i.zero, i.size, i.bytes)) = some (some (.agg (mkL 0 0).toArray), 45, 424) := by kernel_rfl
  obtain ⟨i, hi, he⟩ := Option.map_eq_some_iff.1 h
  injection he with h1 h2
  injection h2 with h2 h3
  exact ⟨i, hi, h1, h2, h3⟩
theorem TK.app_new {w w2 : World} {g4 : Nat} {a b : Int} {R : List Value} (h : TK w g4 a b R) {v v2 : Value} {n m c gn : Nat} {ty : TypeId} (hv : v ∈ R)
    (hr2 : (Builtin.append_ #[29, 29] ty #[v, .slice (some ⟨gn, 0, none⟩) m c]).run Try.prog w = .ok v2 w2) (hrow : RowAt w2 36 45 v2 (n + m) (reps a b n ++ reps a b m)) (hF : Fr w w2 (fun b => v.ownBlock = some b)) (hnew : v2.ownBlock = some w.heap.size ∧ ∀ k, k < w.heap.size → w2.heap[k]? = w.heap[k]?) :
    ∃ v' w', (Builtin.append_ #[29, 29] ty #[v, .slice (some ⟨gn, 0, none⟩) m c]).run Try.prog w = .ok v' w' ∧ MR w' a b v' (n + m) ∧ TK w' g4 a b (v' :: R) ∧ Fr w w' (fun b => v.ownBlock = some b) ∧ (v'.ownBlock = v.ownBlock ∨ v'.ownBlock = some w.heap.size) := by
  have hmr : MR w2 a b v2 (n + m) := by unfold MR; rw [← reps_app]; exact hrow
  have hlt : ∀ u, u ∈ R → u.ownBlock ≠ some w.heap.size := fun u hu e => by
    obtain ⟨k, hk⟩ := h.each u hu
    have := (RowAt.lt hk e).1; omega
  refine ⟨v2, w2, hr2, hmr, ⟨?_, ?_, ?_, ?_⟩, hF, .inr hnew.1⟩
  · exact (hnew.2 g4 (Array.getElem?_eq_some_iff.1 h.box).1).trans h.box
  · intro u hu
    rcases List.mem_cons.1 hu with rfl | hu
    · exact ⟨_, hmr⟩
    · obtain ⟨k, hk⟩ := h.each u hu
      exact ⟨k, RowAt.keep hk fun g hg => hnew.2 g (RowAt.lt hk hg).1⟩
  · intro u x hu hx e
    rcases List.mem_cons.1 hu with rfl | hu
    · rcases List.mem_cons.1 hx with rfl | hx
      · rfl
      · exact absurd (e.symm.trans hnew.1) (hlt x hx)
    · have hu2 := hu
      rcases List.mem_cons.1 hx with e2 | hx
      · rw [e2] at e; exact absurd (e.trans hnew.1) (hlt u hu2)
      · exact h.off u x hu2 hx e
  · intro u hu
    rcases List.mem_cons.1 hu with rfl | hu
    · rw [hnew.1]
      intro e
      injection e with e
      have := (Array.getElem?_eq_some_iff.1 h.box).1; omega
    · exact h.ne u hu
/-- The mark is appended, so often. -/
theorem TK.app {w : World} {g4 : Nat} {a b : Int} {R : List Value} (h : TK w g4 a b R) {v : Value} {n m c gn : Nat} (hv : v ∈ R) (hm : MR w a b v n) (ty : TypeId)
    (hnews : w.heap[gn]? = some (.cells (reps a b m).toArray 36 (0, 0))) (hm0 : 0 < m) (hn : n + m ≤ 1000000) :
    ∃ v' w', (Builtin.append_ #[29, 29] ty #[v, .slice (some ⟨gn, 0, none⟩) m c]).run Try.prog w = .ok v' w' ∧ MR w' a b v' (n + m) ∧ TK w' g4 a b (v' :: R) ∧ Fr w w' (fun b => v.ownBlock = some b) ∧ (v'.ownBlock = v.ownBlock ∨ v'.ownBlock = some w.heap.size) := by
  obtain ⟨i, hi, hz, hsz, hby⟩ := infoP
  have hcell : ∀ j u, (reps a b m)[j]? = some u → w.cell? ((⟨gn, 0, none⟩ : Addr).add j) = some u := fun j u hj => by
    rw [Addr.add_mid, cell_of_row _ _ _ _ _ _ hnews, Nat.zero_add, List.getElem?_toArray]; exact hj
  have hcl : (reps a b m).length = m * 45 := reps_len a b m
  rcases MR.ownB hm with ⟨g, off, cap, rfl⟩ | rfl
  · by_cases hroom : n + m ≤ cap
    · obtain ⟨cur, h2, h3, h4, h5, h6⟩ := MR.more hm
      have e1 : (n + m) * 45 ≤ cap * 45 := Nat.mul_le_mul_right _ hroom
      have hr := run_append_room_cells (P := Try.prog) w 29 ty 36 i Try.underlying29 hi g off n cap ⟨gn, 0, none⟩ m c (reps a b m) (by rw [hcl, hsz]) hcell (reps_mem a b m) hroom
        (fun j hj => by rw [reps_len] at hj; rw [hsz, cell_of_row _ _ _ _ _ _ h2, Array.getElem?_eq_getElem (by omega)]; rfl) (fun j hj => frozen_of_row w g _ _ _ h2)
      rw [hsz] at hr
      have hF := Fr.setCells g (fun b => (Value.slice (some ⟨g, off, none⟩) n cap).ownBlock = some b) rfl (reps a b m) (off + n * 45) w
      obtain ⟨i2, w2, hr2, hrow, hF2, hn2⟩ := run_append_row (P := Try.prog) w 29 ty 36 i _ 45 424 Try.underlying29 hi hz hsz hby (by kernel_rfl) (.slice (some ⟨g, off, none⟩) n cap) n (reps a b n) hm ⟨gn, 0, none⟩ m c (reps a b m) hcl hcell (reps_mem a b m) (.inl hm0) (by unfold maxLen; omega) (by omega)
      rw [hr] at hr2
      injection hr2 with hr2 hw2
      subst hr2 hw2
      have hnew : MR (w.setCells g (off + n * 45) (reps a b m)) a b (.slice (some ⟨g, off, none⟩) (n + m) cap) (n + m) := by unfold MR; rw [← reps_app]; exact hrow
      have hg4 : ¬ (Value.slice (some ⟨g, off, none⟩) n cap).ownBlock = some g4 := h.ne _ hv
      refine ⟨_, _, hr, hnew, ⟨?_, ?_, ?_, ?_⟩, hF, .inl rfl⟩
      · exact (hF.block g4 (Array.getElem?_eq_some_iff.1 h.box).1 hg4).trans h.box
      · intro u hu
        rcases List.mem_cons.1 hu with rfl | hu
        · exact ⟨_, hnew⟩
        · obtain ⟨k, hk⟩ := h.each u hu
          by_cases hsame : u.ownBlock = some g
          · have hoff := h.off u _ hu hv (by rw [hsame]; rfl)
            rcases MR.ownB hk with ⟨g', off', cap', rfl⟩ | rfl
            · injection hoff with hoff
              injection hoff with ho1 ho2 _
              subst ho1 ho2
              exact ⟨k, MR.over hk⟩
            · cases hsame
          · refine ⟨k, RowAt.fr hk hF fun g' hg' hc => hsame ?_⟩
            have : (some g : Option Nat) = some g' := hc
            rw [hg', ← this]
      · intro u v hu hv' e
        rcases List.mem_cons.1 hu with rfl | hu
        · rcases List.mem_cons.1 hv' with rfl | hv'
          · rfl
          · exact h.off (.slice (some ⟨g, off, none⟩) n cap) v hv hv' e
        · rcases List.mem_cons.1 hv' with rfl | hv'
          · exact h.off u (.slice (some ⟨g, off, none⟩) n cap) hu hv e
          · exact h.off u v hu hv' e
      · intro u hu
        rcases List.mem_cons.1 hu with rfl | hu
        · exact hg4
        · exact h.ne u hu
    · obtain ⟨v2, w2, hr2, hrow, hF2, hn2⟩ := run_append_row (P := Try.prog) w 29 ty 36 i _ 45 424 Try.underlying29 hi hz hsz hby (by kernel_rfl) (.slice (some ⟨g, off, none⟩) n cap) n (reps a b n) hm ⟨gn, 0, none⟩ m c (reps a b m) hcl hcell (reps_mem a b m) (.inl hm0) (by unfold maxLen; omega) (by omega)
      have hcontra : v2.ownBlock = some w.heap.size ∧ ∀ k, k < w.heap.size → w2.heap[k]? = w.heap[k]? := by
        have holds : ∀ j u, (reps a b n)[j]? = some u → w.cell? ((⟨g, off, none⟩ : Addr).add j) = some u := fun j u hj => by
          rw [Addr.add_mid]; exact RowAt.cell hm rfl hj
        have hr := run_append_grow (P := Try.prog) w 29 ty 36 i _ Try.underlying29 hi hz ⟨g, off, none⟩ n cap (reps a b n) (by rw [hsz]; exact reps_len a b n) holds ⟨gn, 0, none⟩ m c (reps a b m) (by rw [hsz]; exact hcl) hcell (by omega) (by omega) (growslice_fits (by omega) (by rw [hby]; omega))
        rw [hr] at hr2
        injection hr2 with hr2 hw2
        subst hr2 hw2
        exact ⟨rfl, fun k hk => Below.heap_alloc w.drew _ k hk⟩
      exact TK.app_new h hv hr2 hrow hF2 hcontra
  · have hn0 : n = 0 := by
      rcases hm.2 with ⟨_, h0⟩ | ⟨g, off, cap, cur, h1, _⟩
      · exact h0
      · cases h1
    subst hn0
    obtain ⟨v2, w2, hr2, hrow, hF2, hn2⟩ := run_append_row (P := Try.prog) w 29 ty 36 i _ 45 424 Try.underlying29 hi hz hsz hby (by kernel_rfl) (.slice none 0 0) 0 (reps a b 0) hm ⟨gn, 0, none⟩ m c (reps a b m) hcl hcell (reps_mem a b m) (.inl hm0) (by unfold maxLen; omega) (by omega)
    have hcontra : v2.ownBlock = some w.heap.size ∧ ∀ k, k < w.heap.size → w2.heap[k]? = w.heap[k]? := by
      rcases hn2 with q | q
      · rcases RowAt.more hrow (by omega) with ⟨g, off, cap, cur, h1, _⟩
        rw [h1] at q; cases q
      · exact q
    exact TK.app_new h hv hr2 hrow hF2 hcontra
end Go.Proofs.Ytekkckfoikpljaa
