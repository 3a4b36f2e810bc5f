/-
  HeapPlays: Remove, Set and Value of an item, whosever, beside the reference's.
-/
import Derived.Test.YtdnhhcbabdoomaaHP4
namespace Go.Proofs.Ytdnhhcbabdoomaa
set_option linter.unusedVariables false
set_option linter.unusedSimpArgs false
open Go.RowKit Go.Great

section
variable {w W W1 W2 W3 : World} {wb : Nat} {S : St} {col : Nat → Nat}
theorem PW.qcol (H : PW w W wb S col) {k m : Nat} {e : Ent} (he : S.C[m]? = some e) (hk : e.k = k) : k < 3 ∧ ownR (S.r k) (S.rv k) (Rk S.C k) e.q ∧ col e.q = 3 + k := by
  have h1 := (H.ce e (List.mem_of_getElem? he)).1
  have h2 : ownR (S.r k) (S.rv k) (Rk S.C k) e.q := .inr (.inr ⟨e.ri, List.mem_of_getElem? (Rk_get he hk), rfl⟩)
  exact ⟨by omega, h2, H.cr k (by omega) e.q h2⟩
/-- Both heaps have changed one item. -/
theorem PW.both (H : PW w W wb S col) {k m : Nat} {e e' : Ent} (he : S.C[m]? = some e) (hk : e.k = k) (hk' : e'.k = k) (hp : e'.p = e.p) (hq : e'.q = e.q) (hgg : e.gone = true → e'.gone = true) {v' : Value}
    (h1 : HpO k w.heap.size W1 (S.h k) v' (Lk (S.C.set m e') k) (S.N k)) (hv : v'.ownBlock = (S.v k).ownBlock) (hL : ∀ b, ownH (S.h k) v' (Lk (S.C.set m e') k) b → ownH (S.h k) (S.v k) (Lk S.C k) b) (h3 : ∃ j, Blk W1 e.p 100 (icl e'.it j)) (h4 : Fr W W1 (ownH (S.h k) (S.v k) (Lk S.C k))) (f0 : Fr W1 W2 (fun _ => False))
    (h5 : RH W3 k (S.r k) (S.rv k) (Rk (S.C.set m e') k)) (h6 : Fr W2 W3 (fun b => b = e.q)) : Nx w W W3 wb S col 0 := by
  obtain ⟨hk3, hqo, hqc⟩ := H.qcol he hk
  have h46 : Fr W W3 (fun b => ownH (S.h k) (S.v k) (Lk S.C k) b ∨ ownR (S.r k) (S.rv k) (Rk S.C k) b) := ((h4.trans f0 (e3 := ownH (S.h k) (S.v k) (Lk S.C k)) fun _ _ q => by rcases q with q | q; exact q; exact q.elim).trans h6 fun b _ q => by rcases q with q | q; exact .inl q; exact .inr (by rw [q]; exact hqo))
  obtain ⟨j, h3⟩ := h3
  have hpc := (H.ce e (List.mem_of_getElem? he)).2
  have hup := H.upd he hk hk' hp hq hgg h46 ((h1.sm f0).fr h6 fun b hb q => by
    have := H.cp k hk3 b (hL b hb)
    rw [q] at this
    omega) hv h5 ⟨j, (h3.fr f0 fun q => q).fr h6 fun q => by
    rw [q] at hpc
    omega⟩
  exact ⟨_, col, hup.1, rfl, rfl, by simp, fun b hb => .inl (hup.2 b hb), h46.mono fun b _ q => .inl ⟨k, hk3, q⟩⟩
structure Rmd (w W W1 : World) (S : St) (k m : Nat) (e : Ent) (x : Th) (r : Int) : Prop where
  ans : (r = 111 ∧ x = ⟨0, 0⟩ ∧ (e.k = k → e.gone = true) ∧ Fr W W1 (fun _ => False)) ∨
    (r = 0 ∧ x = e.x ∧ e.k = k ∧ e.gone = false ∧ (∃ v', HpO k w.heap.size W1 (S.h k) v' (Lk (S.C.set m { e with gone := true }) k) (S.N k) ∧ v'.ownBlock = (S.v k).ownBlock) ∧ (∃ j, Blk W1 e.p 100 (icl e.it j)) ∧ Fr W W1 (ownH (S.h k) (S.v k) (Lk S.C k)))
theorem Rmd.fr {k m : Nat} {e : Ent} {x : Th} {r : Int} (P : Rmd w W W1 S k m e x r) : Fr W W1 (ownH (S.h k) (S.v k) (Lk S.C k)) := by
  rcases P.ans with ⟨_, _, _, h⟩ | ⟨_, _, _, _, _, _, h⟩
  · exact h.mono fun _ _ q => q.elim
  · exact h
theorem PW.notin (H : PW w W wb S col) {k m : Nat} {e : Ent} (hk : k < 3) (he : S.C[m]? = some e) (hg : e.k = k → e.gone = true) : ∀ a, a ∈ Lk S.C k → a.p ≠ e.p := by
  by_cases hek : e.k = k
  · have := H.gone he (hg hek)
    rw [hek] at this
    exact this
  · exact H.other hk (List.mem_of_getElem? he) hek
theorem PW.rem (H : PW w W wb S col) {k m : Nat} {e : Ent} (hk : k < 3) (he : S.C[m]? = some e) : Calls Try.prog 16 #[ptr (S.h k), ptr e.p] W fun c W1 => ∃ x r, c = .returned (popE x r) ∧ Rmd w W W1 S k m e x r := by
  by_cases hl : e.k = k ∧ e.gone = false
  · refine (Remove_O (H.hp k hk) (it := e.it) (Lk_get he hl.1 hl.2)).mono ?_
    rintro c W1 ⟨rfl, ⟨v', h3, h4⟩, h5, h6⟩
    exact ⟨e.x, 0, rfl, ⟨.inr ⟨rfl, rfl, hl.1, hl.2, ⟨v', by rw [Lk_gone he hl.1 hl.2]; exact h3, h4⟩, h5, h6⟩⟩⟩
  · have hg : e.k = k → e.gone = true := fun q => by
      cases hq : e.gone with
      | true => rfl
      | false => exact absurd ⟨q, hq⟩ hl
    obtain ⟨j, hj⟩ := H.it e (List.mem_of_getElem? he)
    refine (Remove_Z (H.hp k hk) (it := e.it) hj (H.notin hk he hg)).mono ?_
    rintro c W1 ⟨rfl, h1, h2⟩
    exact ⟨⟨0, 0⟩, 111, rfl, ⟨.inl ⟨rfl, rfl, hg, h2⟩⟩⟩
theorem PW.rblk (H : PW w W wb S col) {m : Nat} {e : Ent} (he : S.C[m]? = some e) : ∃ j : Nat, Blk W e.q 137 #[.int .i64 e.x.k, .int .i64 e.x.g, .int .i64 (j : Int), .bool e.gone] :=
  ⟨_, (H.rh e.k (H.ce e (List.mem_of_getElem? he)).1).its _ e.ri (Rk_get he rfl)⟩
theorem PW.rno (H : PW w W wb S col) {k m : Nat} {e : Ent} (hk : k < 3) (he : S.C[m]? = some e) (hg : e.k = k → e.gone = true) (hf : Fr W W2 (ownH (S.h k) (S.v k) (Lk S.C k))) : ∃ X : World → Prop, (∀ w, RH w k (S.r k) (S.rv k) (Rk S.C k) → X w → Calls Try.prog 96 #[ptr (S.r k), ptr e.q] w fun e w' => e = .returned (.bool false) ∧ Fr w w' (fun _ => False)) ∧ ∀ o, X (W2.alloc o) := by
  by_cases hek : e.k = k
  · refine ⟨fun _ => True, fun w h _ => ?_, fun _ => trivial⟩
    have := rhas_own h (a := e.ri) (Rk_get he hek)
    rw [show e.ri.gone = true from hg hek] at this
    exact this
  · obtain ⟨j, hj⟩ := H.rblk he
    have h1 : Blk W2 e.q 137 #[.int .i64 e.x.k, .int .i64 e.x.g, .int .i64 (j : Int), .bool e.gone] := hj.fr hf fun q => by
      have := H.cp k hk _ q
      have := (H.qcol he rfl).2.2
      omega
    exact ⟨fun w => Blk w e.q 137 #[.int .i64 e.x.k, .int .i64 e.x.g, .int .i64 (j : Int), .bool e.gone], fun w h hb => rhas_other h hb (H.rother hk (List.mem_of_getElem? he) hek), fun o => h1.alloc o⟩
theorem PW.rem2 (H : PW w W wb S col) {k m : Nat} {e : Ent} (hk : k < 3) (he : S.C[m]? = some e) {x : Th} {r : Int} (P : Rmd w W W1 S k m e x r) (f0 : Fr W1 W2 (fun _ => False)) : Calls Try.prog 82 #[ptr (S.r k), ptr e.q] W2 fun c W3 => c = .returned (popE x r) ∧ Nx w W W3 wb S col 0 ∧ Fr W2 W3 (ownR (S.r k) (S.rv k) (Rk S.C k)) := by
  have f02 : Fr W W2 (ownH (S.h k) (S.v k) (Lk S.C k)) := P.fr.trans f0 fun _ _ q => by rcases q with q | q; exact q; exact q.elim
  have hR : RH W2 k (S.r k) (S.rv k) (Rk S.C k) := (H.rh k hk).fr f02 (H.nR hk)
  rcases P.ans with ⟨rfl, rfl, hg, h2⟩ | ⟨rfl, rfl, k2, k3, ⟨v', h1, h2⟩, h3, h4⟩
  · obtain ⟨X, hX1, hX2⟩ := H.rno hk he hg f02
    refine (rRemove_no (ptr e.q) hX1 hR hX2).mono ?_
    rintro c W3 ⟨rfl, h5⟩
    exact ⟨rfl, H.nx ((h2.trans f0 (e3 := fun _ => False) fun _ _ q => by rcases q with q | q <;> exact q).trans h5 fun _ _ q => by rcases q with q | q <;> exact q) 0, h5.mono fun _ _ q => q.elim⟩
  · refine (rRemove_yes hR (a := e.ri) (Rk_get he k2) k3).mono ?_
    rintro c W3 ⟨rfl, h5, h6⟩
    refine ⟨rfl, H.both he k2 (e' := { e with gone := true }) k2 rfl rfl (fun _ => rfl) h1 h2 (fun b hb => ?_) h3 h4 f0 ?_ h6, h6.mono fun b _ q => by rw [q]; exact (H.qcol he k2).2.1⟩
    · rw [Lk_gone he k2 k3] at hb
      exact own_erase h2 hb
    · rw [Rk_set he k2 (e' := { e with gone := true }) k2]
      exact h5
structure Sd (w W W1 : World) (S : St) (k m : Nat) (e : Ent) (x : Th) (r : Int) : Prop where
  ans : (r = 111 ∧ (e.k = k → e.gone = true) ∧ Fr W W1 (fun _ => False)) ∨
    (r = 0 ∧ e.k = k ∧ e.gone = false ∧ HpO k w.heap.size W1 (S.h k) (S.v k) (Lk (S.C.set m { e with x := x }) k) (S.N k) ∧ Fr W W1 (ownH (S.h k) (S.v k) (Lk S.C k)))
theorem Sd.fr {k m : Nat} {e : Ent} {x : Th} {r : Int} (P : Sd w W W1 S k m e x r) : Fr W W1 (ownH (S.h k) (S.v k) (Lk S.C k)) := by
  rcases P.ans with ⟨_, _, h⟩ | ⟨_, _, _, _, h⟩
  · exact h.mono fun _ _ q => q.elim
  · exact h
theorem PW.set (H : PW w W wb S col) {k m : Nat} {e : Ent} (hk : k < 3) (he : S.C[m]? = some e) (x : Th) : Calls Try.prog 17 #[ptr (S.h k), ptr e.p, .agg #[.int .i64 x.k, .int .i64 x.g]] W fun c W1 => ∃ r, c = .returned (.int .i64 r) ∧ Sd w W W1 S k m e x r := by
  by_cases hl : e.k = k ∧ e.gone = false
  · refine (Set_O (H.hp k hk) x (it := e.it) (Lk_get he hl.1 hl.2)).mono ?_
    rintro c W1 ⟨rfl, h3, h6⟩
    exact ⟨0, rfl, ⟨.inr ⟨rfl, hl.1, hl.2, by rw [Lk_put he hl.1 hl.2]; exact h3, h6⟩⟩⟩
  · have hg : e.k = k → e.gone = true := fun q => by
      cases hq : e.gone with
      | true => rfl
      | false => exact absurd ⟨q, hq⟩ hl
    obtain ⟨j, hj⟩ := H.it e (List.mem_of_getElem? he)
    refine (Set_Z (H.hp k hk) x (it := e.it) hj (H.notin hk he hg)).mono ?_
    rintro c W1 ⟨rfl, h1, h2⟩
    exact ⟨111, rfl, ⟨.inl ⟨rfl, hg, h2⟩⟩⟩
theorem PW.set2 (H : PW w W wb S col) {k m : Nat} {e : Ent} (hk : k < 3) (he : S.C[m]? = some e) {x : Th} {r : Int} (P : Sd w W W1 S k m e x r) (f0 : Fr W1 W2 (fun _ => False)) : Calls Try.prog 83 #[ptr (S.r k), ptr e.q, .agg #[.int .i64 x.k, .int .i64 x.g]] W2 fun c W3 => c = .returned (.int .i64 r) ∧ Nx w W W3 wb S col 0 ∧ Fr W2 W3 (ownR (S.r k) (S.rv k) (Rk S.C k)) := by
  have f02 : Fr W W2 (ownH (S.h k) (S.v k) (Lk S.C k)) := P.fr.trans f0 fun _ _ q => by rcases q with q | q; exact q; exact q.elim
  have hR : RH W2 k (S.r k) (S.rv k) (Rk S.C k) := (H.rh k hk).fr f02 (H.nR hk)
  rcases P.ans with ⟨rfl, hg, h2⟩ | ⟨rfl, k2, k3, h1, h4⟩
  · obtain ⟨X, hX1, hX2⟩ := H.rno hk he hg f02
    refine (rSet_no (ptr e.q) x hX1 hR hX2).mono ?_
    rintro c W3 ⟨rfl, h5⟩
    exact ⟨rfl, H.nx ((h2.trans f0 (e3 := fun _ => False) fun _ _ q => by rcases q with q | q <;> exact q).trans h5 fun _ _ q => by rcases q with q | q <;> exact q) 0, h5.mono fun _ _ q => q.elim⟩
  · refine (rSet_yes hR x (a := e.ri) (Rk_get he k2) k3).mono ?_
    rintro c W3 ⟨rfl, h5, h6⟩
    refine ⟨rfl, H.both he k2 (e' := { e with x := x }) k2 rfl rfl (fun q => q) h1 rfl (fun b hb => ?_) ?_ h4 f0 ?_ h6, h6.mono fun b _ q => by rw [q]; exact (H.qcol he k2).2.1⟩
    · rw [Lk_put he k2 k3] at hb
      exact own_set (Lk_get he k2 k3) hb
    · obtain ⟨j, hj⟩ := h1.blk (Lk_get (C := S.C.set m { e with x := x }) (m := m) (e := { e with x := x }) (by rw [List.getElem?_set_self (List.getElem?_eq_some_iff.1 he).1]) k2 k3)
      exact ⟨j, hj⟩
    · rw [Rk_set he k2 (e' := { e with x := x }) k2]
      exact h5
/-- Blocks of other kinds are nobody's. -/
def freeT (T : TypeId) : Prop := T ≠ 98 ∧ T ≠ 27 ∧ T ≠ 100 ∧ T ≠ 128 ∧ T ≠ 133 ∧ T ≠ 137 ∧ T ≠ 89
theorem RH.other {o h : Nat} {v : Value} {R : List RIt} (H : RH W o h v R) {b : Nat} {T : TypeId} {cs : Array Value} (hb : Blk W b T cs) (h1 : T ≠ 128) (h2 : T ≠ 133) (h3 : T ≠ 137) : ¬ ownR h v R b := fun q => by
  rcases q with q | q | ⟨a, q1, q2⟩
  · exact hb.neT H.blk h1 q
  · obtain ⟨_, cur, hc⟩ := H.row.lt q
    exact hb.neT (show Blk W b 133 cur from hc) h2 rfl
  · obtain ⟨k, hk⟩ := List.mem_iff_getElem?.1 q1
    exact (H.its k a hk).neT hb (Ne.symm h3) q2
theorem PW.frT (H : PW w W wb S col) {g : Nat} {T : TypeId} {cs : Array Value} (hf : Fr W W1 (fun b => b = g)) (hb : Blk W g T cs) (hT : freeT T) (hg : w.heap.size ≤ g) : PW w W1 wb S col := by
  obtain ⟨t1, t2, t3, t4, t5, t6, t7⟩ := hT
  refine ⟨fun k hk => (H.hp k hk).fr hf fun b hb' q => (H.hp k hk).other hb t1 t2 t3 (q ▸ hb'), fun k hk => (H.rh k hk).fr hf fun b hb' q => (H.rh k hk).other hb t4 t5 t6 (q ▸ hb'), fun e he => ?_, H.ri.fr hf fun q hq e => H.ri.ne_type hb (Ne.symm t2) (e ▸ hq), H.rj.fr hf fun q hq e => H.rj.ne_type hb (Ne.symm t5) (e ▸ hq), H.bw.fr hf fun e => H.bw.neT hb (Ne.symm t7) e, H.cp, H.cr, H.ce, H.ci, H.cj, H.cw, H.lo, H.nn, H.ne, H.fr.trans hf fun b _ q => by rcases q with q | q; exact q; rw [q]; exact hg, H.le⟩
  obtain ⟨j, hj⟩ := H.it e he
  exact ⟨j, hj.fr hf fun q => hj.neT hb (Ne.symm t3) q⟩
theorem Nx.st {n : Nat} (h : Nx w W W1 wb S col n) {g : Nat} {T : TypeId} {cs : Array Value} (hf : Fr W1 W2 (fun b => b = g)) (hb : Blk W1 g T cs) (hT : freeT T) (hg : W.heap.size ≤ g) (hw : w.heap.size ≤ W.heap.size) : Nx w W W2 wb S col n := by
  obtain ⟨S1, c1, h1, h2, h3, h4, h5, h6⟩ := h
  exact ⟨S1, c1, h1.frT hf hb hT (by omega), h2, h3, h4, h5, h6.trans hf fun b hb q => by rcases q with q | q; exact q; omega⟩
theorem Nx.pre {W0 : World} {n : Nat} (h : Nx w W W1 wb S col n) (f : Fr W0 W (fun _ => False)) : Nx w W0 W1 wb S col n := by
  obtain ⟨S1, c1, h1, h2, h3, h4, h5, h6⟩ := h
  exact ⟨S1, c1, h1, h2, h3, h4, fun b hb => by rcases h5 b hb with q | q; exact .inl q; exact .inr (Nat.le_trans f.size q), f.trans h6 fun _ _ q => by rcases q with q | q; exact q.elim; exact q⟩
theorem Rmd.pre {W0 : World} {k m : Nat} {e : Ent} {x : Th} {r : Int} (P : Rmd w W W1 S k m e x r) (f : Fr W0 W (fun _ => False)) : Rmd w W0 W1 S k m e x r := by
  rcases P.ans with ⟨h1, h2, h3, h⟩ | ⟨h1, h2, h3, h4, h5, h6, h⟩
  · exact ⟨.inl ⟨h1, h2, h3, f.trans h fun _ _ q => by rcases q with q | q <;> exact q⟩⟩
  · exact ⟨.inr ⟨h1, h2, h3, h4, h5, h6, f.trans h fun _ _ q => by rcases q with q | q; exact q.elim; exact q⟩⟩
theorem Rmd.post {k m : Nat} {e : Ent} {x : Th} {r : Int} (P : Rmd w W W1 S k m e x r) (H : PW w W wb S col) (hk : k < 3) (he : S.C[m]? = some e) {ex : Nat → Prop} (f : Fr W1 W2 ex) (hx : ∀ b, ex b → W.heap.size ≤ b) : Rmd w W W2 S k m e x r := by
  rcases P.ans with ⟨h1, h2, h3, h⟩ | ⟨h1, h2, h3, h4, ⟨v', h5, h6⟩, ⟨j, h7⟩, h⟩
  · exact ⟨.inl ⟨h1, h2, h3, h.trans f fun b hb q => by rcases q with q | q; exact q; have := hx b q; omega⟩⟩
  · refine ⟨.inr ⟨h1, h2, h3, h4, ⟨v', h5.fr f fun b hb q => ?_, h6⟩, ⟨j, h7.fr f fun q => ?_⟩, h.trans f fun b hb q => by rcases q with q | q; exact q; have := hx b q; omega⟩⟩
    · rw [Lk_gone he h3 h4] at hb
      have q1 := (H.hp k hk).lt (own_erase h6 hb)
      have q2 := hx b q
      omega
    · obtain ⟨j2, hj2⟩ := H.it e (List.mem_of_getElem? he)
      have q1 := hj2.lt
      have q2 := hx _ q
      omega
theorem Popped.pre {W0 : World} {k : Nat} {x : Th} {r : Int} (P : Popped w W W1 S k x r) (f : Fr W0 W (fun _ => False)) : Popped w W0 W1 S k x r := by
  rcases P.ans with ⟨h1, h2, h3, h4, h⟩ | ⟨h1, m, a, h2, h3, h4, h5, h6, h7, h8, h⟩
  · exact ⟨.inl ⟨h1, h2, h3, h4, f.trans h fun _ _ q => by rcases q with q | q <;> exact q⟩⟩
  · exact ⟨.inr ⟨h1, m, a, h2, h3, h4, h5, h6, h7, h8, f.trans h fun _ _ q => by rcases q with q | q; exact q.elim; exact q⟩⟩
theorem Popped.post {k : Nat} {x : Th} {r : Int} (P : Popped w W W1 S k x r) (H : PW w W wb S col) (hk : k < 3) {ex : Nat → Prop} (f : Fr W1 W2 ex) (hx : ∀ b, ex b → W.heap.size ≤ b) : Popped w W W2 S k x r := by
  rcases P.ans with ⟨h1, h2, h3, h4, h⟩ | ⟨h1, m, a, h2, h3, h4, h5, h6, ⟨v', h7, h7'⟩, ⟨j, h8⟩, h⟩
  · refine ⟨.inl ⟨h1, h2, h3, h4.fr f fun b hb q => ?_, h.trans f fun b hb q => by rcases q with q | q; exact q; have := hx b q; omega⟩⟩
    have q1 := (H.hp k hk).lt hb
    have q2 := hx b q
    omega
  · refine ⟨.inr ⟨h1, m, a, h2, h3, h4, h5, h6, ⟨v', h7.fr f fun b hb q => ?_, h7'⟩, ⟨j, h8.fr f fun q => ?_⟩, h.trans f fun b hb q => by rcases q with q | q; exact q; have := hx b q; omega⟩⟩
    · rw [Lk_gone h2 h3 h4] at hb
      have q1 := (H.hp k hk).lt (own_erase h7' hb)
      have q2 := hx b q
      omega
    · obtain ⟨j2, hj2⟩ := H.it a (List.mem_of_getElem? h2)
      have q1 := hj2.lt
      have q2 := hx _ q
      omega
end
end Go.Proofs.Ytdnhhcbabdoomaa
