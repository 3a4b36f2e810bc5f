/-
  HeapPlays: an item is put in: the state behind.
-/
import Derived.Test.YtdnhhcbabdoomaaHP2
namespace Go.Proofs.Ytdnhhcbabdoomaa
set_option linter.unusedVariables false
set_option linter.unusedSimpArgs false
open Go.RowKit Go.Great

/-- What a Push is, step by step. -/
structure Psh (w W W0 W1 W1' W2 W2a W3 W4 W4a W5 W6 : World) (wb : Nat) (S : St) (k : Nat) (x : Th) (p q : Nat) (v' rv' vi' vj' : Value) : Prop where
  f0 : Fr W W0 (fun _ => False)
  h1 : HpO k w.heap.size W1 (S.h k) v' (Lk S.C k ++ [⟨p, S.N k, x⟩]) (S.N k + 1)
  n1 : NewV W0 (S.v k) v'
  p1 : p = W0.heap.size + 1
  f1 : Fr W0 W1 (ownH (S.h k) (S.v k) (Lk S.C k))
  f1' : Fr W1 W1' (fun _ => False)
  h2 : RH W2 k (S.r k) rv' (Rk S.C k ++ [⟨q, x, false⟩])
  n2 : NewV W1' (S.rv k) rv'
  q2 : q = W1'.heap.size + 1
  f2 : Fr W1' W2 (ownR (S.r k) (S.rv k) (Rk S.C k))
  f2a : Fr W2 W2a (fun _ => False)
  r3 : RowAt W3 27 1 vi' (S.C.length + 1) ((S.C.map fun e : Ent => ptr e.p) ++ [ptr p])
  f3 : Fr W2a W3 (fun b => S.vi.ownBlock = some b)
  n3 : vi'.ownBlock = S.vi.ownBlock ∨ vi'.ownBlock = some W2a.heap.size
  f4 : Fr W3 W4 (fun b => b = wb)
  f4a : Fr W4 W4a (fun _ => False)
  r5 : RowAt W5 133 1 vj' (S.C.length + 1) ((S.C.map fun e : Ent => ptr e.q) ++ [ptr q])
  f5 : Fr W4a W5 (fun b => S.vj.ownBlock = some b)
  n5 : vj'.ownBlock = S.vj.ownBlock ∨ vj'.ownBlock = some W4a.heap.size
  f6 : Fr W5 W6 (fun b => b = wb)
  b6 : Blk W6 wb 89 #[ptr (S.h 0), ptr (S.h 1), ptr (S.h 2), ptr (S.r 0), ptr (S.r 1), ptr (S.r 2), vi', vj']
def St.push (S : St) (k : Nat) (x : Th) (p q : Nat) (v' rv' vi' vj' : Value) : St := ⟨S.h, fset S.v k v', fset S.N k (S.N k + 1), S.r, fset S.rv k rv', vi', vj', S.C ++ [(⟨k, p, q, S.N k, x, false⟩ : Ent)]⟩
theorem ownH_push {W : World} {h p N : Nat} {v v' : Value} {L : List (It Th)} {x : Th} {b : Nat} (hv : NewV W v v') (hp : W.heap.size ≤ p) (hq : ownH h v' (L ++ [⟨p, N, x⟩]) b) : ownH h v L b ∨ W.heap.size ≤ b := own_push hv hp hq
theorem ownR_push {W : World} {h p : Nat} {v v' : Value} {R : List RIt} {x : Th} {g : Bool} {b : Nat} (hv : NewV W v v') (hp : W.heap.size ≤ p) (hq : ownR h v' (R ++ [⟨p, x, g⟩]) b) : ownR h v R b ∨ W.heap.size ≤ b := by
  rcases hq with q1 | q1 | ⟨a, q1, q2⟩
  · exact .inl (.inl q1)
  · rcases hv with r | ⟨g, r, hg⟩
    · rw [r] at q1; exact .inl (.inr (.inl q1))
    · rw [r] at q1; injection q1 with q1; exact .inr (by omega)
  · rcases List.mem_append.1 q1 with q1 | q1
    · exact .inl (.inr (.inr ⟨a, q1, q2⟩))
    · rw [List.mem_singleton.1 q1] at q2
      have : p = b := q2
      exact .inr (by omega)
theorem PW.pushed {w W W0 W1 W1' W2 W2a W3 W4 W4a W5 W6 : World} {wb : Nat} {S : St} {col : Nat → Nat} {k : Nat} {x : Th} {p q : Nat} {v' rv' vi' vj' : Value} (H : PW w W wb S col) (hk : k < 3) (hC : S.C.length < 100000) (P : Psh w W W0 W1 W1' W2 W2a W3 W4 W4a W5 W6 wb S k x p q v' rv' vi' vj') :
    ∃ col', PW w W6 wb (S.push k x p q v' rv' vi' vj') col' ∧ (∀ b, owns wb (S.push k x p q v' rv' vi' vj') b → owns wb S b ∨ W.heap.size ≤ b) ∧ Fr W W6 (owns wb S) := by
  obtain ⟨f0, h1, n1, p1, f1, f1', h2, n2, q2, f2, f2a, r3, f3, n3, f4, f4a, r5, f5, n5, f6, b6⟩ := P
  have z0 := f0.size
  have z1 := f1.size
  have z1' := f1'.size
  have z2 := f2.size
  have z2a := f2a.size
  have z3 := f3.size
  have z4 := f4.size
  have z4a := f4a.size
  have z5 := f5.size
  have z6 := f6.size
  have oH : ∀ b, ownH (S.h k) (S.v k) (Lk S.C k) b → b < W.heap.size ∧ col b = k := fun b hb => ⟨(H.hp k hk).lt hb, H.cp k hk b hb⟩
  have oR : ∀ b, ownR (S.r k) (S.rv k) (Rk S.C k) b → b < W.heap.size ∧ col b = 3 + k := fun b hb => ⟨(H.rh k hk).lt hb, H.cr k hk b hb⟩
  have oI : ∀ b, S.vi.ownBlock = some b → b < W.heap.size ∧ col b = 6 := fun b hb => ⟨(H.ri.lt hb).1, H.ci b hb⟩
  have oJ : ∀ b, S.vj.ownBlock = some b → b < W.heap.size ∧ col b = 7 := fun b hb => ⟨(H.rj.lt hb).1, H.cj b hb⟩
  have oW : ∀ b, b = wb → b < W.heap.size ∧ col b = 8 := fun b hb => by subst hb; exact ⟨H.bw.lt, H.cw⟩
  have F56 : Fr W5 W6 (fun b => b < W.heap.size ∧ col b = 8) := f6.mono fun b _ q => oW b q
  have F36 : Fr W3 W6 (fun b => b < W.heap.size ∧ (col b = 7 ∨ col b = 8)) := (((f4.trans f4a (e3 := fun b => b = wb) fun _ _ q => by rcases q with q | q; exact q; exact q.elim).trans f5 (e3 := fun b => b < W.heap.size ∧ (col b = 7 ∨ col b = 8)) fun b _ q => by
    rcases q with q | q
    · exact ⟨(oW b q).1, .inr (oW b q).2⟩
    · exact ⟨(oJ b q).1, .inl (oJ b q).2⟩).trans F56 fun b _ q => by
    rcases q with q | q
    · exact q
    · exact ⟨q.1, .inr q.2⟩)
  have F26 : Fr W2 W6 (fun b => b < W.heap.size ∧ (col b = 6 ∨ col b = 7 ∨ col b = 8)) := (f2a.trans f3 (e3 := fun b => b < W.heap.size ∧ (col b = 6 ∨ col b = 7 ∨ col b = 8)) fun b _ q => by
    rcases q with q | q
    · exact q.elim
    · exact ⟨(oI b q).1, .inl (oI b q).2⟩).trans F36 fun b _ q => by
    rcases q with q | q
    · exact q
    · exact ⟨q.1, .inr q.2⟩
  have F16 : Fr W1 W6 (fun b => b < W.heap.size ∧ (col b = 3 + k ∨ col b = 6 ∨ col b = 7 ∨ col b = 8)) := (f1'.trans f2 (e3 := fun b => b < W.heap.size ∧ (col b = 3 + k ∨ col b = 6 ∨ col b = 7 ∨ col b = 8)) fun b _ q => by
    rcases q with q | q
    · exact q.elim
    · exact ⟨(oR b q).1, .inl (oR b q).2⟩).trans F26 fun b _ q => by
    rcases q with q | q
    · exact q
    · exact ⟨q.1, .inr q.2⟩
  have F01 : Fr W W1 (ownH (S.h k) (S.v k) (Lk S.C k)) := f0.trans f1 fun b _ q => by
    rcases q with q | q
    · exact q.elim
    · exact q
  have F06 : Fr W W6 (fun b => b < W.heap.size ∧ (col b = k ∨ col b = 3 + k ∨ col b = 6 ∨ col b = 7 ∨ col b = 8)) := F01.trans F16 fun b _ q => by
    rcases q with q | q
    · exact ⟨(oH b q).1, .inl (oH b q).2⟩
    · exact ⟨q.1, .inr q.2⟩
  have FO : Fr W W6 (owns wb S) := ((((F01.trans (f1'.trans f2 (e3 := ownR (S.r k) (S.rv k) (Rk S.C k)) fun _ _ q => by rcases q with q | q; exact q.elim; exact q) (e3 := owns wb S) fun b _ q => .inl ⟨k, hk, q⟩).trans (f2a.trans f3 (e3 := fun b => S.vi.ownBlock = some b) fun _ _ q => by rcases q with q | q; exact q.elim; exact q) (e3 := owns wb S) fun b _ q => by rcases q with q | q; exact q; exact .inr (.inl q)).trans (f4.trans f4a (e3 := fun b => b = wb) fun _ _ q => by rcases q with q | q; exact q; exact q.elim) (e3 := owns wb S) fun b _ q => by rcases q with q | q; exact q; exact .inr (.inr (.inr (.inl q)))).trans f5 (e3 := owns wb S) fun b _ q => by rcases q with q | q; exact q; exact .inr (.inr (.inl q))).trans f6 fun b _ q => by rcases q with q | q; exact q; exact .inr (.inr (.inr (.inl q)))
  have hp1 : p < W1.heap.size := h1.lt (.inr (.inr ⟨⟨p, S.N k, x⟩, by simp, rfl⟩))
  have hq2 : q < W2.heap.size := h2.lt (.inr (.inr ⟨⟨q, x, false⟩, by simp, rfl⟩))
  have aL : Lk (S.C ++ [(⟨k, p, q, S.N k, x, false⟩ : Ent)]) k = Lk S.C k ++ [⟨p, S.N k, x⟩] := Lk_app rfl rfl
  have aR : Rk (S.C ++ [(⟨k, p, q, S.N k, x, false⟩ : Ent)]) k = Rk S.C k ++ [⟨q, x, false⟩] := Rk_app rfl
  have oL : ∀ j, j ≠ k → Lk (S.C ++ [(⟨k, p, q, S.N k, x, false⟩ : Ent)]) j = Lk S.C j := fun j hj => Lk_oth (show k ≠ j from fun q => hj q.symm)
  have oR' : ∀ j, j ≠ k → Rk (S.C ++ [(⟨k, p, q, S.N k, x, false⟩ : Ent)]) j = Rk S.C j := fun j hj => Rk_oth (show k ≠ j from fun q => hj q.symm)
  have H1 : HpO k w.heap.size W6 (S.h k) v' (Lk S.C k ++ [⟨p, S.N k, x⟩]) (S.N k + 1) := h1.fr F16 fun b hb q => by
    rcases ownH_push n1 (by omega) hb with r | r
    · have := oH b r; omega
    · omega
  obtain ⟨col', hcol⟩ : ∃ col' : Nat → Nat, col' = fun b => if b < W0.heap.size then (if b < W.heap.size then col b else 10) else if b < W1'.heap.size then k else if b < W2a.heap.size then 3 + k else if b < W4a.heap.size then 6 else 7 := ⟨_, rfl⟩
  have c0 : ∀ b, b < W.heap.size → col' b = col b := fun b hb => by rw [hcol]; show (if b < W0.heap.size then (if b < W.heap.size then col b else 10) else _) = _; rw [if_pos (by omega), if_pos hb]
  have c1 : ∀ b, W0.heap.size ≤ b → b < W1'.heap.size → col' b = k := fun b h3 h4 => by rw [hcol]; show (if b < W0.heap.size then _ else if b < W1'.heap.size then k else _) = _; rw [if_neg (by omega), if_pos h4]
  have c2 : ∀ b, W1'.heap.size ≤ b → b < W2a.heap.size → col' b = 3 + k := fun b h3 h4 => by rw [hcol]; show (if b < W0.heap.size then _ else if b < W1'.heap.size then k else if b < W2a.heap.size then 3 + k else _) = _; rw [if_neg (by omega), if_neg (by omega), if_pos h4]
  have c3 : ∀ b, W2a.heap.size ≤ b → b < W4a.heap.size → col' b = 6 := fun b h3 h4 => by rw [hcol]; show (if b < W0.heap.size then _ else if b < W1'.heap.size then k else if b < W2a.heap.size then 3 + k else if b < W4a.heap.size then 6 else 7) = _; rw [if_neg (by omega), if_neg (by omega), if_neg (by omega), if_pos h4]
  have c4 : ∀ b, W4a.heap.size ≤ b → col' b = 7 := fun b h3 => by rw [hcol]; show (if b < W0.heap.size then _ else if b < W1'.heap.size then k else if b < W2a.heap.size then 3 + k else if b < W4a.heap.size then 6 else 7) = _; rw [if_neg (by omega), if_neg (by omega), if_neg (by omega), if_neg (by omega)]
  have hep : ∀ e, e ∈ S.C → e.p < W.heap.size := fun e he => by
    obtain ⟨j, hj⟩ := H.it e he
    exact hj.lt
  refine ⟨col', ⟨fun j hj => ?_, fun j hj => ?_, fun e he => ?_, ?_, ?_, b6, fun j hj b hb => ?_, fun j hj b hb => ?_, fun e he => ?_, fun b hb => ?_, fun b hb => ?_, ?_, fun b hb => ?_, fun j hj => ?_, fun i j a b hi hj hab => ?_, ?_, ?_⟩, fun b hb => ?_, FO⟩
  rotate_right
  · rcases hb with ⟨j, hj, q⟩ | q9 | q9 | q9 | ⟨a, ha, q9⟩
    · by_cases hjk : j = k
      · subst hjk
        rcases q with q | q
        · have h9 : ownH (S.h j) (fset S.v j v' j) (Lk (S.C ++ _) j) b := q
          rw [fset_eq, aL] at h9
          rcases ownH_push n1 (by omega) h9 with r | r
          · exact .inl (.inl ⟨j, hj, .inl r⟩)
          · exact .inr (by omega)
        · have h9 : ownR (S.r j) (fset S.rv j rv' j) (Rk (S.C ++ _) j) b := q
          rw [fset_eq, aR] at h9
          rcases ownR_push n2 (by omega) h9 with r | r
          · exact .inl (.inl ⟨j, hj, .inr r⟩)
          · exact .inr (by omega)
      · refine .inl (.inl ⟨j, hj, ?_⟩)
        rcases q with q | q
        · have h9 : ownH (S.h j) (fset S.v k v' j) (Lk (S.C ++ _) j) b := q
          rw [fset_ne _ _ hjk, oL j hjk] at h9
          exact .inl h9
        · have h9 : ownR (S.r j) (fset S.rv k rv' j) (Rk (S.C ++ _) j) b := q
          rw [fset_ne _ _ hjk, oR' j hjk] at h9
          exact .inr h9
    · rcases n3 with r | r
      · exact .inl (.inr (.inl (by rw [← r]; exact q9)))
      · have hb' : some W2a.heap.size = some b := by rw [← r]; exact q9
        injection hb' with hb'
        exact .inr (by omega)
    · rcases n5 with r | r
      · exact .inl (.inr (.inr (.inl (by rw [← r]; exact q9))))
      · have hb' : some W4a.heap.size = some b := by rw [← r]; exact q9
        injection hb' with hb'
        exact .inr (by omega)
    · exact .inl (.inr (.inr (.inr (.inl q9))))
    · rcases List.mem_append.1 (show a ∈ S.C ++ [(⟨k, p, q, S.N k, x, false⟩ : Ent)] from ha) with he | he
      · exact .inl (.inr (.inr (.inr (.inr ⟨a, he, q9⟩))))
      · rw [List.mem_singleton.1 he] at q9
        have q9' : p = b := q9
        exact .inr (by omega)
  · by_cases hjk : j = k
    · subst hjk
      show HpO j w.heap.size W6 (S.h j) (fset S.v j v' j) (Lk (S.C ++ _) j) (fset S.N j (S.N j + 1) j)
      rw [fset_eq, fset_eq, aL]
      exact H1
    · show HpO j w.heap.size W6 (S.h j) (fset S.v k v' j) (Lk (S.C ++ _) j) (fset S.N k (S.N k + 1) j)
      rw [fset_ne _ _ hjk, fset_ne _ _ hjk, oL j hjk]
      exact (H.hp j hj).fr F06 fun b hb q => by have := H.cp j hj b hb; omega
  · by_cases hjk : j = k
    · subst hjk
      show RH W6 j (S.r j) (fset S.rv j rv' j) (Rk (S.C ++ _) j)
      rw [fset_eq, aR]
      exact h2.fr F26 fun b hb q => by
        rcases ownR_push n2 (by omega) hb with r | r
        · have := oR b r; omega
        · omega
    · show RH W6 j (S.r j) (fset S.rv k rv' j) (Rk (S.C ++ _) j)
      rw [fset_ne _ _ hjk, oR' j hjk]
      exact (H.rh j hj).fr F06 fun b hb q => by have := H.cr j hj b hb; omega
  · rcases List.mem_append.1 (show e ∈ S.C ++ [(⟨k, p, q, S.N k, x, false⟩ : Ent)] from he) with he | he
    · obtain ⟨m, hm⟩ := List.mem_iff_getElem?.1 he
      obtain ⟨j, hj⟩ := H.it e he
      have hce := H.ce e he
      by_cases hek : e.k = k
      · cases hg : e.gone with
        | false => exact H1.blk (m := lix S.C k m) (by rw [List.getElem?_append_left (get_lt (Lk_get hm hek hg))]; exact Lk_get hm hek hg)
        | true => exact ⟨j, (hj.fr F01 ((H.hp k hk).nb hj (by rw [← hek]; exact H.gone hm hg))).fr F16 fun q => by omega⟩
      · exact ⟨j, hj.fr F06 fun q => by omega⟩
    · rw [List.mem_singleton.1 he]
      exact H1.blk (m := (Lk S.C k).length) (it := ⟨p, S.N k, x⟩) (by rw [List.getElem?_append_right (Nat.le_refl _), Nat.sub_self]; rfl)
  · show RowAt W6 27 1 vi' (S.C ++ [(⟨k, p, q, S.N k, x, false⟩ : Ent)]).length ((S.C ++ [(⟨k, p, q, S.N k, x, false⟩ : Ent)]).map fun e : Ent => ptr e.p)
    rw [List.length_append, List.length_singleton, List.map_append]
    exact r3.fr F36 fun g hg q => by
      rcases n3 with r | r
      · rw [r] at hg; have := oI g hg; omega
      · rw [r] at hg; injection hg with hg; omega
  · show RowAt W6 133 1 vj' (S.C ++ [(⟨k, p, q, S.N k, x, false⟩ : Ent)]).length ((S.C ++ [(⟨k, p, q, S.N k, x, false⟩ : Ent)]).map fun e : Ent => ptr e.q)
    rw [List.length_append, List.length_singleton, List.map_append]
    exact r5.fr F56 fun g hg q => by
      rcases n5 with r | r
      · rw [r] at hg; have := oJ g hg; omega
      · rw [r] at hg; injection hg with hg; omega
  · by_cases hjk : j = k
    · subst hjk
      have hb' : ownH (S.h j) v' (Lk S.C j ++ [⟨p, S.N j, x⟩]) b := by
        have := hb
        rw [show (S.push j x p q v' rv' vi' vj').v j = v' from fset_eq _ _ _, show Lk (S.push j x p q v' rv' vi' vj').C j = _ from aL] at this
        exact this
      have hbl := h1.lt hb'
      rcases ownH_push n1 (by omega) hb' with r | r
      · rw [c0 b (oH b r).1]; exact (oH b r).2
      · exact c1 b r (by omega)
    · have hb' : ownH (S.h j) (S.v j) (Lk S.C j) b := by
        have := hb
        rw [show (S.push k x p q v' rv' vi' vj').v j = S.v j from fset_ne _ _ hjk, show Lk (S.push k x p q v' rv' vi' vj').C j = _ from oL j hjk] at this
        exact this
      rw [c0 b ((H.hp j hj).lt hb')]
      exact H.cp j hj b hb'
  · by_cases hjk : j = k
    · subst hjk
      have hb' : ownR (S.r j) rv' (Rk S.C j ++ [⟨q, x, false⟩]) b := by
        have := hb
        rw [show (S.push j x p q v' rv' vi' vj').rv j = rv' from fset_eq _ _ _, show Rk (S.push j x p q v' rv' vi' vj').C j = _ from aR] at this
        exact this
      have hbl := h2.lt hb'
      rcases ownR_push n2 (by omega) hb' with r | r
      · rw [c0 b (oR b r).1]; exact (oR b r).2
      · exact c2 b r (by omega)
    · have hb' : ownR (S.r j) (S.rv j) (Rk S.C j) b := by
        have := hb
        rw [show (S.push k x p q v' rv' vi' vj').rv j = S.rv j from fset_ne _ _ hjk, show Rk (S.push k x p q v' rv' vi' vj').C j = _ from oR' j hjk] at this
        exact this
      rw [c0 b ((H.rh j hj).lt hb')]
      exact H.cr j hj b hb'
  · rcases List.mem_append.1 (show e ∈ S.C ++ [(⟨k, p, q, S.N k, x, false⟩ : Ent)] from he) with he | he
    · rw [c0 e.p (hep e he)]
      exact H.ce e he
    · rw [List.mem_singleton.1 he]
      exact ⟨hk, c1 p (by omega) (by omega)⟩
  · rcases n3 with r | r
    · have hb' : S.vi.ownBlock = some b := by rw [← r]; exact hb
      rw [c0 b (oI b hb').1]; exact (oI b hb').2
    · have hb' : some W2a.heap.size = some b := by rw [← r]; exact hb
      injection hb' with hb'
      have := (r3.lt hb).1
      exact c3 b (by omega) (by omega)
  · rcases n5 with r | r
    · have hb' : S.vj.ownBlock = some b := by rw [← r]; exact hb
      rw [c0 b (oJ b hb').1]; exact (oJ b hb').2
    · have hb' : some W4a.heap.size = some b := by rw [← r]; exact hb
      injection hb' with hb'
      exact c4 b (by omega)
  · rw [c0 wb (oW wb rfl).1]; exact H.cw
  · rw [c0 b (by have := H.fr.size; omega)]
    exact H.lo b hb
  · show fset S.N k (S.N k + 1) j ≤ (S.C ++ [(⟨k, p, q, S.N k, x, false⟩ : Ent)]).length
    rw [List.length_append, List.length_singleton]
    have := H.nn j hj
    by_cases hjk : j = k
    · subst hjk; rw [fset_eq]; omega
    · rw [fset_ne _ _ hjk]; omega
  · have get : ∀ (i : Nat) a, (S.C ++ [(⟨k, p, q, S.N k, x, false⟩ : Ent)])[i]? = some a → (S.C[i]? = some a ∧ i < S.C.length) ∨ (i = S.C.length ∧ a.p = p) := fun i a hi => by
      by_cases hl : i < S.C.length
      · rw [List.getElem?_append_left hl] at hi; exact .inl ⟨hi, hl⟩
      · rw [List.getElem?_append_right (by omega)] at hi
        have h3 := get_lt hi
        rw [List.length_singleton] at h3
        have h4 : i - S.C.length = 0 := by omega
        rw [h4] at hi
        injection hi with hi
        exact .inr ⟨by omega, by rw [← hi]⟩
    rcases get i a hi with ⟨g1, g2⟩ | ⟨g1, g2⟩
    · rcases get j b hj with ⟨l1, l2⟩ | ⟨l1, l2⟩
      · exact H.ne i j a b g1 l1 hab
      · have := hep a (List.mem_of_getElem? g1); omega
    · rcases get j b hj with ⟨l1, l2⟩ | ⟨l1, l2⟩
      · have := hep b (List.mem_of_getElem? l1); omega
      · omega
  · exact H.fr.trans F06 fun b hb q => by
      rcases q with q | q
      · exact q
      · by_cases hb2 : b < w.heap.size
        · have := H.lo b hb2; omega
        · omega
  · show (S.C ++ [(⟨k, p, q, S.N k, x, false⟩ : Ent)]).length ≤ 100000
    rw [List.length_append, List.length_singleton]
    omega
end Go.Proofs.Ytdnhhcbabdoomaa
