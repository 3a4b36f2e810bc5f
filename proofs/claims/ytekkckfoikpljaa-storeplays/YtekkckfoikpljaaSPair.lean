/-
  StorePlays: stores beside their references; what owners hold; frames by types.
-/
import Derived.Test.YtekkckfoikpljaaSRefSet
import Derived.Test.YtekkckfoikpljaaSAcc
namespace Go.Proofs.Ytekkckfoikpljaa
set_option linter.unusedVariables false
set_option linter.unusedSimpArgs false
open Go.RowKit Go.Great

/-- What a call leaves as it was: all blocks of some types. -/
structure Ty (w w' : World) (T : TypeId → Prop) : Prop where
  os : w'.os = w.os
  tape : w'.tape = w.tape
  output : w'.output = w.output
  size : w.heap.size ≤ w'.heap.size
  blk : ∀ (b : Nat) (cur : Array Value) (e : TypeId), w.heap[b]? = some (.cells cur e (0, 0)) → T e → w'.heap[b]? = some (.cells cur e (0, 0))
theorem Ty.refl (w : World) (T : TypeId → Prop) : Ty w w T := ⟨rfl, rfl, rfl, Nat.le_refl _, fun _ _ _ h _ => h⟩
theorem Ty.trans {a b c : World} {T : TypeId → Prop} (h : Ty a b T) (k : Ty b c T) : Ty a c T :=
  ⟨k.os.trans h.os, k.tape.trans h.tape, k.output.trans h.output, Nat.le_trans h.size k.size, fun i cur e h1 h2 => k.blk i cur e (h.blk i cur e h1 h2) h2⟩
theorem Ty.of_fr {w w' : World} {ex : Nat → Prop} {T : TypeId → Prop} (h : Fr w w' ex) (hx : ∀ (b : Nat) (cur : Array Value) (e : TypeId), ex b → w.heap[b]? = some (.cells cur e (0, 0)) → ¬ T e) : Ty w w' T :=
  ⟨h.os, h.tape, h.output, h.size, fun b cur e h1 h2 => (h.block b (Array.getElem?_eq_some_iff.1 h1).1 fun q => hx b cur e q h1 h2).trans h1⟩
theorem Ty.of_below {w w' : World} (h : Below w.heap.size w w') (T : TypeId → Prop) : Ty w w' T := Ty.of_fr (Fr.of_below h fun _ => False) fun _ _ _ h => h.elim
/-- All blocks stay. -/
def Sm (w w' : World) : Prop := Fr w w' (fun _ => False)
theorem Sm.ty {w w' : World} (h : Sm w w') : Ty w w' (fun _ => True) := Ty.of_fr h fun _ _ _ h => h.elim
theorem Sm.refl (w : World) : Sm w w := Fr.refl w _
theorem Sm.trans {a b c : World} (h : Sm a b) (k : Sm b c) : Sm a c := Fr.trans h k fun _ _ q => by rcases q with q | q <;> exact q
theorem Sm.drewN {w wr : World} (h : Sm w wr) (q : Nat) : Sm w (wr.drewN q) := Fr.drewN h q
theorem Sm.of_below {w w' : World} (h : Below w.heap.size w w') : Sm w w' := Fr.of_below h _
theorem Ty.mono {w w' : World} {T U : TypeId → Prop} (h : Ty w w' T) (hu : ∀ e, U e → T e) : Ty w w' U := ⟨h.os, h.tape, h.output, h.size, fun b cur e h1 h2 => h.blk b cur e h1 (hu e h2)⟩
theorem RowAt.ty {w w' : World} {e : TypeId} {size n : Nat} {v : Value} {xs : List Value} {T : TypeId → Prop} (h : RowAt w e size v n xs) (ht : Ty w w' T) (he : T e) : RowAt w' e size v n xs := by
  refine ⟨h.1, ?_⟩
  rcases h.2 with h0 | ⟨g, off, cap, cur, h1, h2, r⟩
  · exact .inl h0
  · exact .inr ⟨g, off, cap, cur, h1, ht.blk g cur e h2 he, r⟩
/-- The types of what stores and references hold. -/
def TS (e : TypeId) : Prop := e = 59 ∨ e = 34 ∨ e = 62 ∨ e = 77 ∨ e = 3
/-- The other ones. -/
def TH (e : TypeId) : Prop := ¬ TS e
theorem StAt.ty {w w' : World} {p keep : Nat} {ev : List (Option Msg)} {vk vl : Value} (h : StAt w p keep ev vk vl) (ht : Ty w w' TS) : StAt w' p keep ev vk vl :=
  ⟨ht.blk p _ _ h.blk (.inl rfl), h.kept.ty ht (.inr (.inl rfl)), h.lost.ty ht (.inr (.inr (.inl rfl))), h.evm⟩
theorem RfAt.ty {w w' : World} {p K : Nat} {cs : List Nat} {ms : List Msg} {vW vL : Value} (h : RfAt w p K cs ms vW vL) (ht : Ty w w' TS) : RfAt w' p K cs ms vW vL :=
  ⟨ht.blk p _ _ h.blk (.inr (.inr (.inr (.inl rfl)))), h.len, h.what.ty ht (.inr (.inr (.inr (.inr rfl)))), h.msgs.ty ht (.inr (.inl rfl))⟩
theorem obj_type {w : World} {b : Nat} {c1 c2 : Array Value} {e1 e2 : TypeId} (h : w.heap[b]? = some (.cells c1 e1 (0, 0))) (k : w.heap[b]? = some (.cells c2 e2 (0, 0))) : e1 = e2 := by
  rw [h] at k; injection k with k; injection k with _ k
theorem StAt.own_ty {w : World} {p keep : Nat} {ev : List (Option Msg)} {vk vl : Value} (h : StAt w p keep ev vk vl) {b : Nat} (hb : ownS p vk vl b) : ∃ cur e, w.heap[b]? = some (.cells cur e (0, 0)) ∧ TS e := by
  rcases hb with rfl | hb | hb
  · exact ⟨_, _, h.blk, .inl rfl⟩
  · obtain ⟨_, cur, hc⟩ := h.kept.lt hb; exact ⟨cur, _, hc, .inr (.inl rfl)⟩
  · obtain ⟨_, cur, hc⟩ := h.lost.lt hb; exact ⟨cur, _, hc, .inr (.inr (.inl rfl))⟩
theorem RfAt.own_ty {w : World} {p K : Nat} {cs : List Nat} {ms : List Msg} {vW vL : Value} (h : RfAt w p K cs ms vW vL) {b : Nat} (hb : ownS p vW vL b) : ∃ cur e, w.heap[b]? = some (.cells cur e (0, 0)) ∧ TS e := by
  rcases hb with rfl | hb | hb
  · exact ⟨_, _, h.blk, .inr (.inr (.inr (.inl rfl)))⟩
  · obtain ⟨_, cur, hc⟩ := h.what.lt hb; exact ⟨cur, _, hc, .inr (.inr (.inr (.inr rfl)))⟩
  · obtain ⟨_, cur, hc⟩ := h.msgs.lt hb; exact ⟨cur, _, hc, .inr (.inl rfl)⟩
/-- A store beside its reference. -/
structure PR where
  p : Nat
  q : Nat
  K : Nat
  ev : List (Option Msg)
  vk : Value
  vl : Value
  vW : Value
  vL : Value
def PR.own (P : PR) (b : Nat) : Prop := ownS P.p P.vk P.vl b ∨ ownS P.q P.vW P.vL b
structure PrAt (w : World) (P : PR) : Prop where
  st : StAt w P.p P.K P.ev P.vk P.vl
  rf : RfAt w P.q P.K (cdL P.K P.ev) (mgL P.K P.ev) P.vW P.vL
  k1 : 1 ≤ P.K
  k2 : P.K ≤ 200
  apart : ∀ b, ownS P.p P.vk P.vl b → ¬ ownS P.q P.vW P.vL b
theorem PrAt.ty {w w' : World} {P : PR} (h : PrAt w P) (ht : Ty w w' TS) : PrAt w' P := ⟨h.st.ty ht, h.rf.ty ht, h.k1, h.k2, h.apart⟩
theorem PrAt.own_ty {w : World} {P : PR} (h : PrAt w P) {b : Nat} (hb : P.own b) : ∃ cur e, w.heap[b]? = some (.cells cur e (0, 0)) ∧ TS e := by
  rcases hb with hb | hb
  · exact h.st.own_ty hb
  · exact h.rf.own_ty hb
theorem PrAt.own_lt {w : World} {P : PR} (h : PrAt w P) {b : Nat} (hb : P.own b) : b < w.heap.size := by
  obtain ⟨cur, e, h1, _⟩ := h.own_ty hb
  exact (Array.getElem?_eq_some_iff.1 h1).1
theorem PrAt.fr {w w' : World} {P : PR} {ex : Nat → Prop} (h : PrAt w P) (hf : Fr w w' ex) (hn : ∀ b, P.own b → ¬ ex b) : PrAt w' P :=
  ⟨h.st.fr hf fun b hb => hn b (.inl hb), h.rf.fr hf fun b hb => hn b (.inr hb), h.k1, h.k2, h.apart⟩
/-- Calls on a pair leave all other types. -/
theorem PrAt.other {w w' : World} {P : PR} (h : PrAt w P) (hf : Fr w w' P.own) : Ty w w' TH := Ty.of_fr hf fun b cur e hb h1 hn => by
  obtain ⟨c2, e2, h2, h3⟩ := h.own_ty hb
  rw [obj_type h1 h2] at hn
  exact hn h3
structure PsAt (w : World) (ps : List PR) (N : Nat) : Prop where
  each : ∀ (i : Nat) (P : PR), ps[i]? = some P → PrAt w P ∧ P.ev.length ≤ N
  apart : ∀ (i j : Nat) (P Q : PR), i ≠ j → ps[i]? = some P → ps[j]? = some Q → ∀ b, P.own b → ¬ Q.own b
theorem PsAt.ty {w w' : World} {ps : List PR} {N : Nat} (h : PsAt w ps N) (ht : Ty w w' TS) : PsAt w' ps N :=
  ⟨fun i P hi => ⟨(h.each i P hi).1.ty ht, (h.each i P hi).2⟩, h.apart⟩
theorem PsAt.mono {w : World} {ps : List PR} {N N' : Nat} (h : PsAt w ps N) (hn : N ≤ N') : PsAt w ps N' := ⟨fun i P hi => ⟨(h.each i P hi).1, Nat.le_trans (h.each i P hi).2 hn⟩, h.apart⟩
/-- A pair is turned into another one. -/
theorem PsAt.go {w w' : World} {ps : List PR} {N i : Nat} {P P' : PR} (h : PsAt w ps N) (hi : ps[i]? = some P) (hp : PrAt w' P') (hl : P'.ev.length ≤ N) (hf : Fr w w' P.own) (ho : ∀ b, P'.own b → P.own b ∨ w.heap.size ≤ b) : PsAt w' (ps.set i P') N := by
  have hget : ∀ (j : Nat) (Q : PR), (ps.set i P')[j]? = some Q → (j = i ∧ Q = P') ∨ (j ≠ i ∧ ps[j]? = some Q) := fun j Q hj => by
    rw [List.getElem?_set] at hj
    split at hj
    · next e =>
      subst e
      split at hj
      · injection hj with hj; exact .inl ⟨rfl, hj.symm⟩
      · cases hj
    · next e => exact .inr ⟨fun q => e q.symm, hj⟩
  refine ⟨fun j Q hj => ?_, fun j k Q R hjk hj hk b hb hc => ?_⟩
  · rcases hget j Q hj with ⟨_, rfl⟩ | ⟨hne, hj⟩
    · exact ⟨hp, hl⟩
    · exact ⟨(h.each j Q hj).1.fr hf fun b hb hc => h.apart j i Q P hne hj hi b hb hc, (h.each j Q hj).2⟩
  · rcases hget j Q hj with ⟨e1, rfl⟩ | ⟨e1, hj⟩
    · rcases hget k R hk with ⟨e2, rfl⟩ | ⟨e2, hk⟩
      · exact hjk (e1.trans e2.symm)
      · rcases ho b hb with q | q
        · exact h.apart i k P R (fun e => e2 e.symm) hi hk b q hc
        · have := (h.each k R hk).1.own_lt hc; omega
    · have hj2 := hj
      rcases hget k R hk with ⟨e2, e3⟩ | ⟨e2, hk⟩
      · rw [e3] at hc
        rcases ho b hc with q | q
        · exact h.apart j i Q P e1 hj2 hi b hb q
        · have := (h.each j Q hj2).1.own_lt hb; omega
      · exact h.apart j k Q R hjk hj2 hk b hb hc
/-- A pair more. -/
theorem PsAt.add {w w' : World} {ps : List PR} {N : Nat} {P' : PR} (h : PsAt w ps N) (ht : Ty w w' TS) (hp : PrAt w' P') (hl : P'.ev.length ≤ N) (ho : ∀ b, P'.own b → w.heap.size ≤ b) : PsAt w' (ps ++ [P']) N := by
  refine ⟨fun j Q hj => ?_, fun j k Q R hjk hj hk b hb hc => ?_⟩
  · rcases get_snoc hj with ⟨_, hj⟩ | ⟨_, rfl⟩
    · exact ⟨(h.each j Q hj).1.ty ht, (h.each j Q hj).2⟩
    · exact ⟨hp, hl⟩
  · rcases get_snoc hj with ⟨_, hj⟩ | ⟨e1, rfl⟩
    · have hj2 := hj
      rcases get_snoc hk with ⟨_, hk⟩ | ⟨e2, e3⟩
      · exact h.apart j k Q R hjk hj2 hk b hb hc
      · rw [e3] at hc; have := ho b hc; have := (h.each j Q hj2).1.own_lt hb; omega
    · rcases get_snoc hk with ⟨_, hk⟩ | ⟨e2, rfl⟩
      · have := ho b hb; have := (h.each k R hk).1.own_lt hc; omega
      · omega
def pairV (P : PR) : List Value := [.pointer (some ⟨P.p, 0, none⟩), .pointer (some ⟨P.q, 0, none⟩)]
theorem pairV_len (P : PR) : (pairV P).length = 2 := rfl
theorem flat_same {ps : List PR} {i : Nat} {P P' : PR} (hi : ps[i]? = some P) (hp : P'.p = P.p) (hq : P'.q = P.q) : flatL pairV (ps.set i P') = flatL pairV ps := by
  induction ps generalizing i with
  | nil => rfl
  | cons a t ih =>
    cases i with
    | zero =>
      have : a = P := by simpa using hi
      subst this
      show pairV P' ++ flatL pairV t = pairV a ++ flatL pairV t
      unfold pairV; rw [hp, hq]
    | succ i =>
      show pairV a ++ flatL pairV (t.set i P') = pairV a ++ flatL pairV t
      rw [ih (by simpa using hi)]
/-- The owner's mark. -/
def mkL (a b : Int) : List Value := [.int .i64 a, .int .i64 b, .bool false] ++ zeroM.cs.toList
theorem mkL_len (a b : Int) : (mkL a b).length = 45 := by simp [mkL, Msg.cs]
/-- What an owner holds: four lists, and the mark that stands in them. -/
structure Hd where
  v : Value
  rows : List Value
  a : Int
  b : Int
def hdV (h : Hd) : List Value := h.v :: mkL h.a h.b
theorem hdV_len (h : Hd) : (hdV h).length = 46 := by show (mkL h.a h.b).length + 1 = 46; rw [mkL_len]
/-- A row of nothing but the mark. -/
def reps (a b : Int) (n : Nat) : List Value := flatL (fun _ : Unit => mkL a b) (List.replicate n ())
def MR (w : World) (a b : Int) (v : Value) (n : Nat) : Prop := RowAt w 36 45 v n (reps a b n)
def oneV (v : Value) : List Value := [v]
theorem oneV_len (v : Value) : (oneV v).length = 1 := rfl
structure HdAt (w : World) (h : Hd) : Prop where
  row : RowAt w 29 1 h.v h.rows.length (flatL oneV h.rows)
  each : ∀ r, r ∈ h.rows → ∃ n, MR w h.a h.b r n
theorem HdAt.ty {w w' : World} {h : Hd} (hh : HdAt w h) {T : TypeId → Prop} (ht : Ty w w' T) (h1 : T 36) (h2 : T 29) : HdAt w' h :=
  ⟨hh.row.ty ht h2, fun r hr => by obtain ⟨n, hn⟩ := hh.each r hr; exact ⟨n, RowAt.ty hn ht h1⟩⟩
/-- All of it. -/
structure WsAt (w : World) (pw : Nat) (ps : List PR) (hs : List Hd) (vP vH : Value) (N : Nat) : Prop where
  blk : w.heap[pw]? = some (.cells #[vP, vH] 51 (0, 0))
  prow : RowAt w 69 2 vP ps.length (flatL pairV ps)
  ps : PsAt w ps N
  hrow : RowAt w 73 46 vH hs.length (flatL hdV hs)
  hs : ∀ h, h ∈ hs → HdAt w h
theorem not_ts {e : TypeId} (h : (e == 59 || e == 34 || e == 62 || e == 77 || e == 3) = false) : TH e := fun q => by
  rcases q with rfl | rfl | rfl | rfl | rfl <;> simp at h
theorem WsAt.drewN {w : World} {pw : Nat} {ps : List PR} {hs : List Hd} {vP vH : Value} {N : Nat} (h : WsAt w pw ps hs vP vH N) (q : Nat) : WsAt (w.drewN q) pw ps hs vP vH N := by
  have ht : ∀ T, Ty w (w.drewN q) T := fun T => Ty.of_fr ((Fr.refl w fun _ => False).drewN q) fun _ _ _ h => h.elim
  exact ⟨(ht (fun _ => True)).blk _ _ _ h.blk trivial, h.prow.ty (ht fun _ => True) trivial, h.ps.ty (ht TS), h.hrow.ty (ht fun _ => True) trivial, fun x hx => (h.hs x hx).ty (ht fun _ => True) trivial trivial⟩
theorem WsAt.ty {w w' : World} {pw : Nat} {ps : List PR} {hs : List Hd} {vP vH : Value} {N : Nat} (h : WsAt w pw ps hs vP vH N) (ht : Ty w w' fun _ => True) : WsAt w' pw ps hs vP vH N :=
  ⟨ht.blk _ _ _ h.blk trivial, h.prow.ty ht trivial, h.ps.ty (ht.mono fun _ _ => trivial), h.hrow.ty ht trivial, fun x hx => (h.hs x hx).ty ht trivial trivial⟩
theorem WsAt.go {w w' : World} {pw : Nat} {ps : List PR} {hs : List Hd} {vP vH : Value} {N N' i : Nat} {P P' : PR} (h : WsAt w pw ps hs vP vH N) (hN : N ≤ N') (hi : ps[i]? = some P) (hp : PrAt w' P') (e1 : P'.p = P.p) (e2 : P'.q = P.q) (hl : P'.ev.length ≤ N') (hf : Fr w w' P.own) (ho : ∀ b, P'.own b → P.own b ∨ w.heap.size ≤ b) : WsAt w' pw (ps.set i P') hs vP vH N' := by
  have ht := (h.ps.each i P hi).1.other hf
  refine ⟨ht.blk _ _ _ h.blk (not_ts (by rfl)), ?_, (h.ps.mono hN).go hi hp hl hf ho, h.hrow.ty ht (not_ts (by rfl)), fun x hx => (h.hs x hx).ty ht (not_ts (by rfl)) (not_ts (by rfl))⟩
  rw [List.length_set, flat_same hi e1 e2]
  exact h.prow.ty ht (not_ts (by rfl))
end Go.Proofs.Ytekkckfoikpljaa
