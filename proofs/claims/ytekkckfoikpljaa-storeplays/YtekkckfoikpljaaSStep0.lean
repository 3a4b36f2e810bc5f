/-
  StorePlays: a pair's calls; the whole state, and what lies below it.
-/
import Derived.Test.YtekkckfoikpljaaSPlayP
namespace Go.Proofs.Ytekkckfoikpljaa
set_option linter.unusedVariables false
set_option linter.unusedSimpArgs false
open Go.RowKit Go.Great

/-- A call on the store and one on its reference: they tell the same, and what happened is the same. -/
structure Two (f g : FuncId) (ax bx : Array Value) (P : PR) (ev2 : List (Option Msg)) (e0 : Int) (w : World) : Prop where
  one : Calls Try.prog f ax w fun e w1 => e = .returned (.int .i64 e0) ∧ ∃ vk' vl', StAt w1 P.p P.K ev2 vk' vl' ∧ Fr w w1 (ownS P.p P.vk P.vl) ∧ newer w P.vk vk' ∧ newer w P.vl vl'
  two : ∀ w1, RfAt w1 P.q P.K (cdL P.K P.ev) (mgL P.K P.ev) P.vW P.vL → Calls Try.prog g bx w1 fun e w2 => e = .returned (.int .i64 e0) ∧ ∃ vW' vL', RfAt w2 P.q P.K (cdL P.K ev2) (mgL P.K ev2) vW' vL' ∧ Fr w1 w2 (ownS P.q P.vW P.vL) ∧ newer w1 P.vW vW' ∧ newer w1 P.vL vL'
theorem two_put {w : World} {P : PR} (h : PrAt w P) (hn : P.ev.length ≤ 900000) (M : Msg) : ∃ (e0 : Int) (ev2 : List (Option Msg)), ev2.length ≤ P.ev.length + 1 ∧ Two 13 24 #[.pointer (some ⟨P.p, 0, none⟩), .agg M.cs] #[.pointer (some ⟨P.q, 0, none⟩), .agg M.cs] P ev2 e0 w := by
  by_cases hs : M.z 3 = ((P.ev.length + 1 : Nat) : Int)
  · have hev := h.st.evm.put hs
    refine ⟨0, P.ev ++ [some M], by simp, Put_yes M h.st hs (by omega) h.k1 h.k2, fun w1 hr => ?_⟩
    exact refPut_yes M hr (by rw [cdL_len]; omega) (by rw [cdL_len]; omega) (putTo_ev P.K h.k1 hev)
  · refine ⟨80, P.ev, by omega, (Put_no M h.st hs).mono ?_, fun w1 hr => (refPut_no M hr (by rw [cdL_len]; omega) (by rw [cdL_len]; omega)).mono ?_⟩
    · rintro e w1 ⟨rfl, hb⟩
      exact ⟨rfl, _, _, h.st.fr (Fr.of_below hb fun _ => False) (fun _ _ q => q), Fr.of_below hb _, .inl rfl, .inl rfl⟩
    · rintro e w2 ⟨rfl, hb⟩
      exact ⟨rfl, _, _, hr.fr (Fr.of_below hb fun _ => False) (fun _ _ q => q), Fr.of_below hb _, .inl rfl, .inl rfl⟩
theorem two_skip {w : World} {P : PR} (h : PrAt w P) (hn : P.ev.length ≤ 900000) : ∃ (e0 : Int) (ev2 : List (Option Msg)), ev2.length ≤ P.ev.length + 1 ∧ Two 17 26 #[.pointer (some ⟨P.p, 0, none⟩)] #[.pointer (some ⟨P.q, 0, none⟩)] P ev2 e0 w := by
  refine ⟨0, P.ev ++ [none], by simp, (Skip_yes h.st (by omega)).mono ?_, fun w1 hr => ?_⟩
  · rintro e w1 ⟨rfl, h1, h2⟩
    exact ⟨rfl, _, _, h1, h2, .inl rfl, .inl rfl⟩
  · have := refSkip_yes zeroM rfl hr (by rw [cdL_len]; omega)
    rw [← (ref_skip P.K P.ev).1, ← (ref_skip P.K P.ev).2] at this
    exact this
section
variable {w w1 w2 : World} {P : PR} {ev2 : List (Option Msg)} {vk' vl' vW' vL' : Value}
theorem two_mid (h : PrAt w P) (hf : Fr w w1 (ownS P.p P.vk P.vl)) : RfAt w1 P.q P.K (cdL P.K P.ev) (mgL P.K P.ev) P.vW P.vL :=
  h.rf.fr hf fun b hb hc => h.apart b hc hb
theorem newer_own {v v' : Value} (h : newer w v v') {b : Nat} (hb : v'.ownBlock = some b) : v.ownBlock = some b ∨ w.heap.size ≤ b := by
  rcases h with q | ⟨g, q, hg⟩
  · exact .inl (q ▸ hb)
  · rw [q] at hb; injection hb with hb; exact .inr (hb ▸ hg)
theorem own_newer {p : Nat} {v u v' u' : Value} (h1 : newer w v v') (h2 : newer w u u') {b : Nat} (hb : ownS p v' u' b) : ownS p v u b ∨ w.heap.size ≤ b := by
  rcases hb with q | q | q
  · exact .inl (.inl q)
  · rcases newer_own h1 q with q | q
    · exact .inl (.inr (.inl q))
    · exact .inr q
  · rcases newer_own h2 q with q | q
    · exact .inl (.inr (.inr q))
    · exact .inr q
theorem two_done (h : PrAt w P) (hs : StAt w1 P.p P.K ev2 vk' vl') (hf1 : Fr w w1 (ownS P.p P.vk P.vl)) (n1 : newer w P.vk vk') (n2 : newer w P.vl vl') (hr : RfAt w2 P.q P.K (cdL P.K ev2) (mgL P.K ev2) vW' vL') (hf2 : Fr w1 w2 (ownS P.q P.vW P.vL)) (n3 : newer w1 P.vW vW') (n4 : newer w1 P.vL vL') :
    PrAt w2 ⟨P.p, P.q, P.K, ev2, vk', vl', vW', vL'⟩ ∧ Fr w w2 P.own ∧ ∀ b, PR.own ⟨P.p, P.q, P.K, ev2, vk', vl', vW', vL'⟩ b → P.own b ∨ w.heap.size ≤ b := by
  have key : ∀ b, ownS P.p vk' vl' b → ¬ ownS P.q P.vW P.vL b := fun b hb hc => by
    rcases own_newer n1 n2 hb with q | q
    · exact h.apart b q hc
    · obtain ⟨cur, e, h1, _⟩ := h.rf.own_ty hc
      have := (Array.getElem?_eq_some_iff.1 h1).1; omega
  refine ⟨⟨hs.fr hf2 key, hr, h.k1, h.k2, fun b hb hc => ?_⟩, hf1.trans hf2 fun b _ q => q, fun b hb => ?_⟩
  · rcases own_newer n3 n4 hc with q | q
    · exact key b hb q
    · have := hs.own_lt hb; omega
  · rcases hb with hb | hb
    · rcases own_newer n1 n2 hb with q | q
      · exact .inl (.inl q)
      · exact .inr q
    · rcases own_newer n3 n4 hb with q | q
      · exact .inl (.inr q)
      · exact .inr (Nat.le_trans hf1.size q)
end
/-- All lies above. -/
structure Lo (B pw : Nat) (ps : List PR) (vP vH : Value) : Prop where
  pw : B ≤ pw
  ps : ∀ (i : Nat) (P : PR), ps[i]? = some P → ∀ b, P.own b → B ≤ b
  vP : ∀ b, vP.ownBlock = some b → B ≤ b
  vH : ∀ b, vH.ownBlock = some b → B ≤ b
structure St (W w : World) (pw : Nat) (ps : List PR) (hs : List Hd) (vP vH : Value) (N : Nat) : Prop where
  ws : WsAt w pw ps hs vP vH N
  lo : Lo W.heap.size pw ps vP vH
  below : Below W.heap.size W w
theorem Sm.below {W w w' : World} (h : Sm w w') (hb : Below W.heap.size W w) : Below W.heap.size W w' := hb.trans (Fr.below h hb.size fun _ _ q => q)
theorem St.sm {W w w' : World} {pw : Nat} {ps : List PR} {hs : List Hd} {vP vH : Value} {N : Nat} (h : St W w pw ps hs vP vH N) (hs : Sm w w') : St W w' pw ps ‹_› vP vH N := ⟨h.ws.ty hs.ty, h.lo, hs.below h.below⟩
theorem St.go {W w w' : World} {pw : Nat} {ps : List PR} {hs : List Hd} {vP vH : Value} {N N' i : Nat} {P P' : PR} (h : St W w pw ps hs vP vH N) (hN : N ≤ N') (hi : ps[i]? = some P) (hp : PrAt w' P') (e1 : P'.p = P.p) (e2 : P'.q = P.q) (hl : P'.ev.length ≤ N') (hf : Fr w w' P.own) (ho : ∀ b, P'.own b → P.own b ∨ w.heap.size ≤ b) : St W w' pw (ps.set i P') hs vP vH N' := by
  refine ⟨h.ws.go hN hi hp e1 e2 hl hf ho, ⟨h.lo.pw, fun j Q hj b hb => ?_, h.lo.vP, h.lo.vH⟩, h.below.trans (hf.below h.below.size fun b hb q => by have := h.lo.ps i P hi b q; omega)⟩
  rw [List.getElem?_set] at hj
  split at hj
  · split at hj
    · injection hj with hj
      subst hj
      rcases ho b hb with q | q
      · exact h.lo.ps i P hi b q
      · exact Nat.le_trans h.below.size q
    · cases hj
  · exact h.lo.ps j Q hj b hb
/-- A step's cells. -/
def stV (k on a b many : Int) (M : Msg) : List Value := [.int .i64 k, .int .i64 on, .int .i64 a, .int .i64 b, .int .i64 many] ++ M.cs.toList
theorem stV_len (k on a b many : Int) (M : Msg) : (stV k on a b many M).length = 47 := by simp [stV, Msg.cs]
/-- A step's own variables: the step, and the pair. -/
structure Bx (w : World) (B g3 g9 : Nat) (k on a b many : Int) (M : Msg) (P : PR) : Prop where
  b3 : w.heap[g3]? = some (.cells (stV k on a b many M).toArray 54 (0, 0))
  b9 : w.heap[g9]? = some (.cells #[.pointer (some ⟨P.p, 0, none⟩), .pointer (some ⟨P.q, 0, none⟩)] 69 (0, 0))
  l3 : B ≤ g3
  l9 : B ≤ g9
theorem Bx.ty {w w' : World} {B g3 g9 : Nat} {k on a b many : Int} {M : Msg} {P P' : PR} {T : TypeId → Prop} (h : Bx w B g3 g9 k on a b many M P) (ht : Ty w w' T) (h1 : T 54) (h2 : T 69) (e1 : P'.p = P.p) (e2 : P'.q = P.q) : Bx w' B g3 g9 k on a b many M P' :=
  ⟨ht.blk _ _ _ h.b3 h1, by rw [e1, e2]; exact ht.blk _ _ _ h.b9 h2, h.l3, h.l9⟩
theorem Bx.msg {w : World} {B g3 g9 : Nat} {k on a b many : Int} {M : Msg} {P : PR} (h : Bx w B g3 g9 k on a b many M P) : w.rangeAt g3 5 M.cs.toList := fun j u hu => by
  rw [cell_of_row _ _ _ _ _ _ h.b3, List.getElem?_toArray]
  unfold stV
  rw [List.getElem?_append_right (by simp)]
  simpa using hu
theorem b3_msg {w : World} {g3 : Nat} {k on a b many : Int} {M : Msg} (h : w.heap[g3]? = some (.cells (stV k on a b many M).toArray 54 (0, 0))) : w.rangeAt g3 5 M.cs.toList := fun j u hu => by
  rw [cell_of_row _ _ _ _ _ _ h, List.getElem?_toArray]
  unfold stV
  rw [List.getElem?_append_right (by simp)]
  simpa using hu
/-- A message with another number. -/
def seqTo (M : Msg) (z : Int) : Msg := ⟨fun i => if i = 3 then z else M.z i, M.s, M.b⟩
theorem seqTo_cs (M : Msg) (z : Int) : (seqTo M z).cs = M.cs.setIfInBounds 3 (.int .i64 z) := by
  apply Array.ext_getElem?
  intro i
  rw [Array.getElem?_setIfInBounds]
  by_cases hi : i < 42
  · rw [Msg.cs_get _ _ hi, Msg.cs_get _ _ hi]
    by_cases h3 : 3 = i
    · subst h3
      rw [if_pos rfl, if_pos (by rw [Msg.cs_size]; decide)]; rfl
    · rw [if_neg h3]
      unfold Msg.cell seqTo
      simp only [if_neg (fun e => h3 (Eq.symm e))]
  · rw [Array.getElem?_eq_none (by rw [Msg.cs_size]; omega), Array.getElem?_eq_none (by rw [Msg.cs_size]; omega)]
    rw [if_neg (by omega)]
theorem Bx.seq {w : World} {B g3 g9 : Nat} {k on a b many : Int} {M : Msg} {P : PR} (h : Bx w B g3 g9 k on a b many M P) (z : Int) : Bx (w.setCell ⟨g3, 8, none⟩ (.int .i64 z)) B g3 g9 k on a b many (seqTo M z) P := by
  have hne : g3 ≠ g9 := fun e => by have := h.b3; rw [e] at this; exact absurd (obj_type this h.b9) (by decide)
  refine ⟨?_, ?_, h.l3, h.l9⟩
  · rw [setCell_eq_setRow w g3 8 _ _ _ _ h.b3]
    have e : (stV k on a b many (seqTo M z)).toArray = (stV k on a b many M).toArray.setIfInBounds 8 (.int .i64 z) := by
      apply Array.ext'
      unfold stV
      rw [seqTo_cs]
      simp
    rw [e]
    exact setRow_heap _ _ _ _ _ _ h.b3
  · rw [Below.heap_setCell _ _ _ _ (fun e => hne e.symm)]
    exact h.b9
theorem Bx.fr3 {w : World} {B g3 g9 : Nat} {k on a b many : Int} {M : Msg} {P : PR} (h : Bx w B g3 g9 k on a b many M P) (z : Int) : Fr w (w.setCell ⟨g3, 8, none⟩ (.int .i64 z)) (fun b => b = g3) := Fr.setCell _ _ _ _ rfl
theorem St.seq {W w : World} {pw : Nat} {ps : List PR} {hs : List Hd} {vP vH : Value} {N : Nat} {B g3 g9 : Nat} {k on a b many : Int} {M : Msg} {P : PR} (h : St W w pw ps hs vP vH N) (hx : Bx w W.heap.size g3 g9 k on a b many M P) (z : Int) : St W (w.setCell ⟨g3, 8, none⟩ (.int .i64 z)) pw ps hs vP vH N := by
  have hT : Ty w (w.setCell ⟨g3, 8, none⟩ (.int .i64 z)) (fun e => e ≠ 54) := Ty.of_fr (hx.fr3 z) fun b cur e hb h1 hn => by subst hb; exact hn (obj_type h1 hx.b3)
  refine ⟨⟨hT.blk _ _ _ h.ws.blk (by decide), h.ws.prow.ty hT (by decide), h.ws.ps.ty (hT.mono fun e he => ?_), h.ws.hrow.ty hT (by decide), fun x hx => (h.ws.hs x hx).ty hT (by decide) (by decide)⟩, h.lo, h.below.trans ((hx.fr3 z).below h.below.size fun b hb q => by have := hx.l3; omega)⟩
  rcases he with rfl | rfl | rfl | rfl | rfl <;> decide
/-- Both have been called. -/
theorem St.two {W w w1 w2 : World} {pw : Nat} {ps : List PR} {hs : List Hd} {vP vH : Value} {N N' i g3 g9 : Nat} {k on a b many : Int} {M : Msg} {P : PR} {ev2 : List (Option Msg)} {vk' vl' vW' vL' : Value} (h : St W w pw ps hs vP vH N) (hx : Bx w W.heap.size g3 g9 k on a b many M P) (hN : N ≤ N') (hi : ps[i]? = some P) (hl : ev2.length ≤ N')
    (hs1 : StAt w1 P.p P.K ev2 vk' vl') (hf1 : Fr w w1 (ownS P.p P.vk P.vl)) (n1 : newer w P.vk vk') (n2 : newer w P.vl vl') (hr : RfAt w2 P.q P.K (cdL P.K ev2) (mgL P.K ev2) vW' vL') (hf2 : Fr w1 w2 (ownS P.q P.vW P.vL)) (n3 : newer w1 P.vW vW') (n4 : newer w1 P.vL vL') :
    St W w2 pw (ps.set i ⟨P.p, P.q, P.K, ev2, vk', vl', vW', vL'⟩) hs vP vH N' ∧ Bx w2 W.heap.size g3 g9 k on a b many M ⟨P.p, P.q, P.K, ev2, vk', vl', vW', vL'⟩ ∧ (ps.set i ⟨P.p, P.q, P.K, ev2, vk', vl', vW', vL'⟩)[i]? = some ⟨P.p, P.q, P.K, ev2, vk', vl', vW', vL'⟩ := by
  have hP := (h.ws.ps.each i P hi).1
  obtain ⟨q1, q2, q3⟩ := two_done hP hs1 hf1 n1 n2 hr hf2 n3 n4
  refine ⟨h.go hN hi q1 rfl rfl hl q2 q3, hx.ty (hP.other q2) (not_ts (by rfl)) (not_ts (by rfl)) rfl rfl, ?_⟩
  rw [List.getElem?_set, if_pos rfl, if_pos (List.getElem?_eq_some_iff.1 hi).1]
/-- Behind the first of the two. -/
theorem Bx.mid {w w1 : World} {B g3 g9 : Nat} {k on a b many : Int} {M : Msg} {P : PR} (hx : Bx w B g3 g9 k on a b many M P) (hP : PrAt w P) (hf1 : Fr w w1 (ownS P.p P.vk P.vl)) : Bx w1 B g3 g9 k on a b many M P := by
  have hT : Ty w w1 TH := hP.other (hf1.mono fun b _ q => .inl q)
  exact hx.ty hT (not_ts (by rfl)) (not_ts (by rfl)) rfl rfl
end Go.Proofs.Ytekkckfoikpljaa
