/-
  fields: cutParts, strayAhead.
-/
import Derived.Test.YtfgfjkchcnpakaaDoorFFind
namespace Go.Proofs.YtfgfjkchcnpakaaDoor
set_option linter.unusedVariables false
open Go.RowKit

/-- The parts of a list that begin at places. -/
def cutL (b : List Fld) : List Nat → List (List Fld)
  | [] => []
  | [x] => [b.drop x]
  | x :: y :: r => (b.take y).drop x :: cutL b (y :: r)
theorem cutL_len (b : List Fld) : ∀ bg : List Nat, (cutL b bg).length = bg.length
  | [] => rfl
  | [x] => rfl
  | x :: y :: r => by
    have := cutL_len b (y :: r)
    show (cutL b (y :: r)).length + 1 = _
    rw [this]; rfl
theorem cutL_at (b : List Fld) : ∀ (bg : List Nat) (k x : Nat), bg[k]? = some x → (cutL b bg)[k]? = some ((b.take (bg[k + 1]?.getD b.length)).drop x)
  | [], k, x, h => by simp at h
  | [y], 0, x, h => by simp at h; subst h; simp [cutL]
  | [y], k + 1, x, h => by simp at h
  | y :: z :: r, 0, x, h => by simp at h; subst h; simp [cutL]
  | y :: z :: r, k + 1, x, h => by
    have := cutL_at b (z :: r) k x (by simpa using h)
    show ((b.take z).drop y :: cutL b (z :: r))[k + 1]? = _
    simpa using this
def stray (b : List Fld) (bg : List Nat) : Bool := match bg with | [] => decide (0 < b.length) | x :: _ => decide (0 < x)
/-- A list of lists of fields that the call has made. -/
def ApL (vs : List Value) : Prop := ∀ (i j : Nat) (u v : Value), vs[i]? = some u → vs[j]? = some v → i ≠ j → ∀ k, u.ownBlock = some k → v.ownBlock ≠ some k
def OwnP (w : World) (B : Nat) (v : Value) (gss : List (List Fld)) : Prop := ∃ vs : List Value, w.ownsRow B 22 1 v gss.length vs ∧ (∀ (i : Nat) (gs : List Fld), gss[i]? = some gs → ∃ u, vs[i]? = some u ∧ OwnF w B u gs) ∧ ApL vs
theorem OwnP.below {w w' : World} {B : Nat} {v : Value} {gss : List (List Fld)} (h : OwnP w B v gss) (hb : Below w.heap.size w w') : OwnP w' B v gss := by
  obtain ⟨vs, h1, h2, h3⟩ := h
  refine ⟨vs, ownsRow_below h1 hb, fun i gs hi => ?_, h3⟩
  obtain ⟨u, e, ho⟩ := h2 i gs hi
  exact ⟨u, e, ho.below hb⟩
theorem OwnP.mono {w : World} {B B' : Nat} {v : Value} {gss : List (List Fld)} (h : OwnP w B v gss) (hb : B' ≤ B) : OwnP w B' v gss := by
  obtain ⟨vs, h1, h2, h3⟩ := h
  refine ⟨vs, ownsRow_mono h1 hb, fun i gs hi => ?_, h3⟩
  obtain ⟨u, e, ho⟩ := h2 i gs hi
  exact ⟨u, e, ho.mono hb⟩
theorem OwnP.nil (w : World) (B : Nat) : OwnP w B (.slice none 0 0) [] := ⟨[], World.ownsRow_nil w B _ 1, (fun i gs hi => by simp at hi), fun i j u v h => by simp at h⟩
theorem OwnP.form {w : World} {B : Nat} {v : Value} {gss : List (List Fld)} (h : OwnP w B v gss) : ∃ ao cv, v = .slice ao gss.length cv ∧ (∀ (i : Nat) (gs : List Fld), gss[i]? = some gs → ∃ g u, ao = some ⟨g, 0, none⟩ ∧ w.cell? ⟨g, i, none⟩ = some u ∧ OwnF w B u gs) := by
  obtain ⟨vs, h1, h2, _⟩ := h
  rcases h1.2 with ⟨rfl, h0⟩ | ⟨g, cap, cur, rfl, r1, r2, r3, r4, r5, r6⟩
  · have : gss = [] := List.length_eq_zero_iff.1 h0
    subst this
    exact ⟨none, 0, rfl, fun j n hj => by simp at hj⟩
  · refine ⟨_, cap, rfl, fun j gs hj => ?_⟩
    obtain ⟨u, e, ho⟩ := h2 j gs hj
    have hjl : j < gss.length := (List.getElem?_eq_some_iff.1 hj).1
    rw [← r6, List.getElem?_take, if_pos (by omega)] at e
    exact ⟨g, u, rfl, by rw [cell_of_row w g _ cur _ _ r2]; simpa using e, ho⟩
theorem OwnF.ne_row {w : World} {B n : Nat} {v u : Value} {vs : List Value} {gs : List Fld} (h : w.ownsRow B 22 1 v n vs) (hf : OwnF w B u gs) : ∀ k, v.ownBlock = some k → u.ownBlock ≠ some k := by
  intro k hk hu
  rcases h.2 with ⟨e, _⟩ | ⟨g', cap, cur, e, _, hg, _⟩
  · rw [e] at hk; cases hk
  · rw [e] at hk
    have e2 : g' = k := by simpa [Value.ownBlock] using hk
    subst e2
    rcases hf.2 with ⟨e, _⟩ | ⟨g2, cap2, cur2, e, _, hg2, _⟩
    · rw [e] at hu; cases hu
    · rw [e] at hu
      have e3 : g2 = g' := by simpa [Value.ownBlock] using hu
      subst e3
      rw [hg] at hg2
      simp at hg2
theorem OwnF.one {w : World} {B : Nat} {u : Value} {gs : List Fld} (h : OwnF w B u gs) : u.oneCell' = true := by
  rcases h.2 with ⟨e, _⟩ | ⟨g2, cap2, cur2, e, _⟩ <;> rw [e] <;> rfl
/-- One list more. -/
theorem OwnP.snoc {w0 w w' : World} {v v' u : Value} {gss : List (List Fld)} {gs : List Fld} {vs : List Value} {k : Nat} (h1 : w.ownsRow w0.heap.size 22 1 v k vs) (h2 : ∀ (i : Nat) (gs : List Fld), gss[i]? = some gs → ∃ u, vs[i]? = some u ∧ OwnF w w0.heap.size u gs) (h3 : ApL vs) (h4 : ∀ (i : Nat) x, vs[i]? = some x → ∀ k, x.ownBlock = some k → u.ownBlock ≠ some k) (hk : gss.length = k) (hu : OwnF w w0.heap.size u gs)
    (hg : (w.alloc (.cells #[u] 22)).grownBy w' v.ownBlock) (ho : w'.ownsRow w0.heap.size 22 1 v' (k + 1) (vs ++ [u])) : OwnP w' w0.heap.size v' (gss ++ [gs]) := by
  subst hk
  have hvl : vs.length = gss.length := by have := h1.1; omega
  have hb0 : Below w.heap.size w (w.alloc (.cells #[u] 22)) := (Below.refl _ w).alloc (Nat.le_refl _) _
  have keep : ∀ (x : Value) (xs : List Fld), OwnF w w0.heap.size x xs → OwnF w' w0.heap.size x xs := fun x xs hx => by
    refine ownsRow_of_block hx fun k hk => ?_
    have hlt := (hx.lt k hk).2
    rw [hg.block k (by simp; omega) (fun e => (hx.ne_row h1) k e.symm hk), hb0.block k hlt]
  have last : ∀ (i : Nat) (x : Value), (vs ++ [u])[i]? = some x → vs[i]? = some x ∨ (i = vs.length ∧ x = u) := fun i x hi => by
    by_cases e : i < vs.length
    · rw [List.getElem?_append_left e] at hi; exact .inl hi
    · rw [List.getElem?_append_right (by omega)] at hi
      have ei : i - vs.length = 0 := by
        rcases Nat.eq_zero_or_pos (i - vs.length) with h | h
        · exact h
        · rw [List.getElem?_eq_none (by simp; omega)] at hi; cases hi
      rw [ei] at hi
      simp at hi
      exact .inr ⟨by omega, hi.symm⟩
  refine ⟨vs ++ [u], by rw [List.length_append]; exact ho, fun i xs hi => ?_, fun i j x y hx hy hne k hk hk2 => ?_⟩
  rotate_left
  · rcases last i x hx with hx2 | ⟨ei, ex⟩
    · rcases last j y hy with hy2 | ⟨ej, ey⟩
      · exact h3 i j x y hx2 hy2 hne k hk hk2
      · rw [ey] at hk2; exact h4 i x hx2 k hk hk2
    · rw [ex] at hk
      rcases last j y hy with hy2 | ⟨ej, _⟩
      · exact h4 j y hy2 k hk2 hk
      · omega
  by_cases e : i < gss.length
  · rw [List.getElem?_append_left e] at hi
    obtain ⟨y, e2, hy⟩ := h2 i xs hi
    exact ⟨y, by rw [List.getElem?_append_left (by omega)]; exact e2, keep y xs hy⟩
  · rw [List.getElem?_append_right (by omega)] at hi
    have ei : i - gss.length = 0 := by
      rcases Nat.eq_zero_or_pos (i - gss.length) with h | h
      · exact h
      · rw [List.getElem?_eq_none (by simp; omega)] at hi; cases hi
    rw [ei] at hi
    simp at hi
    subst hi
    exact ⟨u, by rw [List.getElem?_append_right (by omega), show i - vs.length = 0 by omega]; rfl, keep u gs hu⟩
/-- With a list that was made later. -/
def OwnPW (w : World) (B : Nat) (v : Value) (gss : List (List Fld)) (u : Value) : Prop := ∃ vs : List Value, w.ownsRow B 22 1 v gss.length vs ∧ (∀ (i : Nat) (gs : List Fld), gss[i]? = some gs → ∃ u, vs[i]? = some u ∧ OwnF w B u gs) ∧ ApL vs ∧ ∀ (i : Nat) x, vs[i]? = some x → ∀ k, x.ownBlock = some k → u.ownBlock ≠ some k
theorem OwnPW.own {w : World} {B : Nat} {v : Value} {gss : List (List Fld)} {u : Value} (h : OwnPW w B v gss u) : OwnP w B v gss := by
  obtain ⟨vs, h1, h2, h3, _⟩ := h
  exact ⟨vs, h1, h2, h3⟩
theorem OwnPW.mono {w : World} {B B' : Nat} {v : Value} {gss : List (List Fld)} {u : Value} (h : OwnPW w B v gss u) (hb : B' ≤ B) : OwnPW w B' v gss u := by
  obtain ⟨vs, h1, h2, h3, h4⟩ := h
  refine ⟨vs, ownsRow_mono h1 hb, fun i gs hi => ?_, h3, h4⟩
  obtain ⟨u, e, ho⟩ := h2 i gs hi
  exact ⟨u, e, ho.mono hb⟩
theorem OwnPW.nil (w : World) (B : Nat) (u : Value) : OwnPW w B (.slice none 0 0) [] u := ⟨[], World.ownsRow_nil w B _ 1, (fun i gs hi => by simp at hi), (fun i j u v h => by simp at h), fun i x h => by simp at h⟩
theorem OwnP.belowF {w w' : World} {B : Nat} {v : Value} {gss : List (List Fld)} (h : OwnP w B v gss) (hb : Below w.heap.size w w') {u : Value} {gs : List Fld} (hu : OwnF w' w.heap.size u gs) : OwnPW w' B v gss u := by
  obtain ⟨vs, h1, h2, h3⟩ := h
  refine ⟨vs, ownsRow_below h1 hb, fun i gs hi => ?_, h3, fun i x hx k hk hk2 => ?_⟩
  · obtain ⟨u, e, ho⟩ := h2 i gs hi
    exact ⟨u, e, ho.below hb⟩
  · have hl : vs.length = gss.length := by have := h1.1; omega
    have hi := (List.getElem?_eq_some_iff.1 hx).1
    obtain ⟨x', e, ho⟩ := h2 i _ (List.getElem?_eq_getElem (by omega))
    rw [hx] at e
    injection e with e
    subst e
    have q1 := (ho.lt k hk).2
    have q2 := (hu.lt k hk2).1
    omega
theorem info22 : (Tryd.prog.info? 22).map (fun i => (i.zero, i.size, i.bytes)) = some (some (.slice none 0 0), 1, 24) := by kernel_rfl
theorem SrcF.cut {w : World} {b off n cap : Nat} {fs : List Fld} (h : SrcF w (.slice (some ⟨b, off, none⟩) n cap) fs) (x e : Nat) (hx : x ≤ e) (he : e ≤ fs.length) (c : Nat) (hc : e - x ≤ c) : SrcF w (.slice (some ⟨b, off + x * 2, none⟩) (e - x) c) ((fs.take e).drop x) := by
  obtain ⟨ao, cp, e1, hcp, h⟩ := h
  injection e1 with e1 e2 e3
  have hl : ((fs.take e).drop x).length = e - x := by simp; omega
  refine ⟨_, c, by rw [hl], by rw [hl]; exact hc, ?_⟩
  rcases h with h | ⟨b', off', e4, hr⟩
  · subst h; left; simp
  · rw [← e1] at e4
    injection e4 with e4
    injection e4 with e5 e6
    subst e5 e6
    refine .inr ⟨b, off + x * 2, rfl, fun j f hj => ?_⟩
    have hj2 : fs[x + j]? = some f := by
      rw [List.getElem?_drop, List.getElem?_take] at hj
      split at hj
      · exact hj
      · cases hj
    obtain ⟨g1, g2⟩ := hr (x + j) f hj2
    rw [show off + x * 2 + j * 2 = off + (x + j) * 2 by omega]
    exact ⟨g1, g2⟩
set_option maxRecDepth 100000 in
theorem strayAhead_any (ao : Option Addr) (n cap : Nat) (b : List Fld) (hb : b.length = n) (hn : n ≤ 5864062014634) (B : Nat) (u : Value) (bg : List Nat) (w : World) (hu : OwnN w B u bg) (hbb : ∀ x ∈ bg, x < n) :
    Calls Tryd.prog 43 #[.slice ao n cap, u] w fun e w' => e = .returned (.bool (stray b bg)) ∧ w' = w := by
  obtain ⟨a, c, rfl, hc, hcell⟩ := hu.form
  clear hu
  subst hb
  cases bg with
  | nil =>
    have HE : Hid (stray b [] = decide ((0 : Int) < (b.length : Int))) := decide_eq_decide.2 (by omega)
    generalize stray b [] = d at *
    clear hcell
    go_enter Tryd.func43, Tryd.ntmps43
    go_wp2
    go_ret
    exact ⟨ret_bool (by rw [HE.out]; exact decide_eq_decide.2 (by omega)), rfl⟩
  | cons x bg =>
    obtain ⟨g, rfl, c0⟩ := hcell 0 x rfl
    have hxb := hbb x (by simp)
    have HE : Hid (stray b (x :: bg) = decide ((0 : Int) < (x : Int))) := decide_eq_decide.2 (by omega)
    generalize stray b (x :: bg) = d at *
    have hl0 : ¬ ((bg.length : Int) + 1 = 0) := by omega
    have hl1 : (0 : Int) < (bg.length : Int) + 1 := by omega
    have hbl : bg.length + 1 ≤ c := by simpa using hc
    clear hcell hbb
    simp only [List.length_cons]
    go_enter Tryd.func43, Tryd.ntmps43
    go_wp2
    go_ret
    exact ⟨ret_bool (by rw [HE.out]; exact decide_eq_decide.2 (by omega)), rfl⟩

theorem OwnN.get {w : World} {B g n c : Nat} {l : List Nat} (h : OwnN w B (.slice (some ⟨g, 0, none⟩) n c) l) (j x : Nat) (hj : l[j]? = some x) : w.cell? ⟨g, j, none⟩ = some (.int .i64 (x : Int)) := by
  obtain ⟨a, c', e, _, hc⟩ := h.form
  obtain ⟨g', e2, hx⟩ := hc j x hj
  injection e with e _ _
  rw [e2] at e
  injection e with e
  injection e with e
  rw [e]; exact hx
theorem sorted_next {bg : List Nat} (h : bg.Pairwise (· < ·)) {k x y : Nat} (hx : bg[k]? = some x) (hy : bg[k + 1]? = some y) : x < y := by
  obtain ⟨a1, a2⟩ := List.getElem?_eq_some_iff.1 hx
  obtain ⟨b1, b2⟩ := List.getElem?_eq_some_iff.1 hy
  have := List.pairwise_iff_getElem.1 h k (k + 1) a1 b1 (by omega)
  rw [a2, b2] at this; exact this
set_option maxRecDepth 100000 in
set_option maxHeartbeats 800000 in
theorem cutParts_any (v : Value) (b : List Fld) (u : Value) (bg : List Nat) (B : Nat) (w : World) (hv : SrcF w v b) (hu : OwnN w B u bg) (hn : b.length ≤ 5864062014634) (hbn : bg.length ≤ 99) (hlt : ∀ x ∈ bg, x < b.length) (hso : bg.Pairwise (· < ·)) :
    Calls Tryd.prog 44 #[v, u] w fun e w' => ∃ p, e = .returned p ∧ OwnP w' w.heap.size p (cutL b bg) ∧ Below w.heap.size w w' := by
  obtain ⟨i0, hi, hz0, hz1, hz2⟩ := info_parts info22
  have HS : Hid (SrcF w v b ∧ OwnN w B u bg) := ⟨hv, hu⟩
  obtain ⟨ao, cap, rfl, hc, _⟩ := hv
  obtain ⟨au, cu, rfl, hcu, _⟩ := hu.form
  have HL : Hid ((∀ x ∈ bg, x < b.length) ∧ bg.Pairwise (· < ·)) := ⟨hlt, hso⟩
  clear hu hlt hso
  have hcl := cutL_len b bg
  go_enter Tryd.func44, Tryd.ntmps44
  go_wp2
  go_loopw [5, 6, 7, 8, 11] (fun z _ _ _ i wr => ∃ (k : Nat) (a' : Option Addr) (c' : Nat), k ≤ bg.length ∧ i = .int .i64 (k : Int) ∧ z = .slice a' k c' ∧ OwnP wr w.heap.size (.slice a' k c') ((cutL b bg).take k) ∧ Below w.heap.size w wr) (fun _ _ _ _ i _ => bg.length - (intOf i).toNat)
  case atStart => exact ⟨0, none, 0, Nat.zero_le _, rfl, rfl, OwnP.nil _ _, Below.refl _ _⟩
  case round =>
    obtain ⟨k, a', c', hk, rfl, rfl, ho, hb⟩ := hrel
    have HA : Hid (OwnP wr w.heap.size (.slice a' k c') ((cutL b bg).take k) ∧ Below w.heap.size w wr) := ⟨ho, hb⟩
    clear ho
    by_cases hlt : k < bg.length
    · have hlt' : (k : Int) < (bg.length : Int) := by omega
      obtain ⟨x, hx⟩ : ∃ x, bg[k]? = some x := ⟨_, List.getElem?_eq_getElem hlt⟩
      have hxb : x < b.length := HL.out.1 x (List.mem_of_getElem? hx)
      have hun := HS.out.2.below hb
      obtain ⟨a2, c2, e2, _, hcell⟩ := hun.form
      obtain ⟨gu, ea, hcx⟩ := hcell k x hx
      injection e2 with e2 _ e4
      rw [ea] at e2
      subst e2 e4
      obtain ⟨ao', cap', e1, _, h0 | ⟨bb, off, e2, _⟩⟩ := HS.out.1.below hb
      · rw [h0] at hxb; simp at hxb
      injection e1 with e1 _ e3
      subst e1 e2 e3
      have hcat := cutL_at b bg k x hx
      have HT : Hid ((cutL b bg).take (k + 1) = (cutL b bg).take k ++ [(b.take (bg[k + 1]?.getD b.length)).drop x]) := by
        show _ = _
        obtain ⟨q1, q2⟩ := List.getElem?_eq_some_iff.1 hcat
        rw [List.take_succ_eq_append_getElem q1, q2]
      obtain ⟨e, he⟩ : ∃ e, bg[k + 1]?.getD b.length = e := ⟨_, rfl⟩
      have hxe : x ≤ e ∧ e ≤ b.length := by
        rw [← he]
        cases hy : bg[k + 1]? with
        | none => simp; omega
        | some y =>
          have h1 := sorted_next HL.out.2 hx hy
          have h2 := HL.out.1 y (List.mem_of_getElem? hy)
          simp; omega
      have hclone := fun w' (hb' : Below w.heap.size w w') => Clone_any _ ((b.take e).drop x) w' ((HS.out.1.below hb').cut x e hxe.1 hxe.2 (cap - x) (by omega)) (by simp; omega)
      rw [he] at HT
      have HE : Hid (bg[k + 1]?.getD b.length = e) := he
      have hxe1 : (x : Int) ≤ (e : Int) := by omega
      have hxe2 : (e : Int) ≤ (b.length : Int) := by omega
      have hxc : (e : Int) ≤ (cap : Int) := by omega
      clear hcat he hcell
      by_cases hlast : k + 1 < bg.length
      · have hlast' : (k : Int) + 1 < (bg.length : Int) := by omega
        obtain ⟨y, hy⟩ : ∃ y, bg[k + 1]? = some y := ⟨_, List.getElem?_eq_getElem hlast⟩
        have hey : y = e := by have h := HE.out; rw [hy] at h; exact h
        subst hey
        have hcy := hun.get (k + 1) y hy
        clear hx hy hun hb
        go_wp2_with (go_at_call 41; fail)
        refine (hclone wr HA.out.2).mono ?_
        rintro ee w2 ⟨u2, rfl, ho2, hb2⟩
        obtain ⟨vs, h1, h2, h3, h4⟩ := HA.out.1.belowF hb2 ho2
        have hkk : ((cutL b bg).take k).length = k := by rw [List.length_take]; omega
        rw [hkk] at h1
        obtain ⟨a3, c3, hu3, _⟩ := ho2.src
        subst hu3
        have HA2 : Hid (w2.ownsRow w.heap.size 22 1 (.slice a' k c') k vs ∧ (∀ (i : Nat) (gs : List Fld), ((cutL b bg).take k)[i]? = some gs → ∃ u, vs[i]? = some u ∧ OwnF w2 w.heap.size u gs) ∧ ((cutL b bg).take k).length = k ∧ OwnF w2 w.heap.size (.slice a3 ((b.take y).drop x).length c3) ((b.take y).drop x) ∧ Below w.heap.size w w2) := ⟨h1, h2, hkk, ho2.mono HA.out.2.size, HA.out.2.trans (hb2.mono HA.out.2.size)⟩
        have HA3 : Hid (ApL vs ∧ ∀ (i : Nat) x', vs[i]? = some x' → ∀ k, x'.ownBlock = some k → (Value.slice a3 ((b.take y).drop x).length c3).ownBlock ≠ some k) := ⟨h3, h4⟩
        have hnew : ∀ j u, ([.slice a3 ((b.take y).drop x).length c3] : List Value)[j]? = some u → (w2.alloc (.cells #[.slice a3 ((b.take y).drop x).length c3] 22)).cell? ((⟨w2.heap.size, 0, none⟩ : Addr).add j) = some u := World.news_of_block (heap_alloc_new w2 (.cells #[.slice a3 ((b.take y).drop x).length c3] 22))
        have HNW : Hid (∀ j u, ([.slice a3 ((b.take y).drop x).length c3] : List Value)[j]? = some u → (w2.alloc (.cells #[.slice a3 ((b.take y).drop x).length c3] 22)).cell? ((⟨w2.heap.size, 0, none⟩ : Addr).add j) = some u) := hnew
        clear hnew h1 h2 h3 h4 hkk ho2 hb2 hclone
        generalize ((b.take y).drop x).length = n3 at *
        generalize hgsE : (b.take y).drop x = gs3 at *
        clear hgsE
        go_wp2_with (at_builtin; refine wpList_append_lies _ rfl _ _ 37 rfl w.heap.size 22 i0 (.slice none 0 0) 1 24 Tryd.underlying37 hi hz0 hz1 hz2 rfl (by decide) _ k vs rfl (World.ownsRow.alloc HA2.out.1 _) ⟨w2.heap.size, 0, none⟩ 1 1 [.slice a3 n3 c3] rfl rfl HNW.out (fun x hx => by simp at hx; subst hx; rfl) (by decide) (by unfold maxLen; omega) (by omega) (by have := HA2.out.2.2.2.2.size; simp at this ⊢; omega) _ rfl ?_; intro g4 c4 w4 ho4 hg4 hat4 hlt4)
        have hg5 : (w2.alloc (.cells #[.slice a3 n3 c3] 22)).grownBy w4 (Value.slice a' k c').ownBlock := hg4
        have HF : Hid (OwnP w4 w.heap.size (.slice (some ⟨g4, 0, none⟩) (k + 1) c4) ((cutL b bg).take k ++ [gs3]) ∧ Below w.heap.size w w4) := ⟨OwnP.snoc HA2.out.1 HA2.out.2.1 HA3.out.1 HA3.out.2 HA2.out.2.2.1 HA2.out.2.2.2.1 hg5 ho4, Below.grown (HA2.out.2.2.2.2.alloc HA2.out.2.2.2.2.size _) hg5 (by have := HA2.out.2.2.2.2.size; simp; omega) (fun q hq => (HA2.out.1.lt q hq).1)⟩
        clear hg5 ho4 hg4 hat4 hlt4
        go_roundw
        case rel => exact ⟨k + 1, some ⟨g4, 0, none⟩, c4, by omega, by go_num, rfl, by rw [HT.out]; exact HF.out.1, HF.out.2⟩
        case measure => simp [intOf]; omega
      · have hlast' : decide ((k : Int) + 1 < (bg.length : Int)) = false := decide_eq_false (by omega)
        have hlast2 : decide (k + 1 < bg.length) = false := decide_eq_false (by omega)
        have hey : e = b.length := by have h := HE.out; rw [List.getElem?_eq_none (by omega)] at h; exact h.symm
        subst hey
        clear hx hun hb
        go_wp2_with (go_at_call 41; fail)
        refine (hclone wr HA.out.2).mono ?_
        rintro ee w2 ⟨u2, rfl, ho2, hb2⟩
        obtain ⟨vs, h1, h2, h3, h4⟩ := HA.out.1.belowF hb2 ho2
        have hkk : ((cutL b bg).take k).length = k := by rw [List.length_take]; omega
        rw [hkk] at h1
        obtain ⟨a3, c3, hu3, _⟩ := ho2.src
        subst hu3
        have HA2 : Hid (w2.ownsRow w.heap.size 22 1 (.slice a' k c') k vs ∧ (∀ (i : Nat) (gs : List Fld), ((cutL b bg).take k)[i]? = some gs → ∃ u, vs[i]? = some u ∧ OwnF w2 w.heap.size u gs) ∧ ((cutL b bg).take k).length = k ∧ OwnF w2 w.heap.size (.slice a3 ((b.take b.length).drop x).length c3) ((b.take b.length).drop x) ∧ Below w.heap.size w w2) := ⟨h1, h2, hkk, ho2.mono HA.out.2.size, HA.out.2.trans (hb2.mono HA.out.2.size)⟩
        have HA3 : Hid (ApL vs ∧ ∀ (i : Nat) x', vs[i]? = some x' → ∀ k, x'.ownBlock = some k → (Value.slice a3 ((b.take b.length).drop x).length c3).ownBlock ≠ some k) := ⟨h3, h4⟩
        have hnew : ∀ j u, ([.slice a3 ((b.take b.length).drop x).length c3] : List Value)[j]? = some u → (w2.alloc (.cells #[.slice a3 ((b.take b.length).drop x).length c3] 22)).cell? ((⟨w2.heap.size, 0, none⟩ : Addr).add j) = some u := World.news_of_block (heap_alloc_new w2 (.cells #[.slice a3 ((b.take b.length).drop x).length c3] 22))
        have HNW : Hid (∀ j u, ([.slice a3 ((b.take b.length).drop x).length c3] : List Value)[j]? = some u → (w2.alloc (.cells #[.slice a3 ((b.take b.length).drop x).length c3] 22)).cell? ((⟨w2.heap.size, 0, none⟩ : Addr).add j) = some u) := hnew
        clear hnew h1 h2 h3 h4 hkk ho2 hb2 hclone
        generalize ((b.take b.length).drop x).length = n3 at *
        generalize hgsE : (b.take b.length).drop x = gs3 at *
        clear hgsE
        go_wp2_with (at_builtin; refine wpList_append_lies _ rfl _ _ 37 rfl w.heap.size 22 i0 (.slice none 0 0) 1 24 Tryd.underlying37 hi hz0 hz1 hz2 rfl (by decide) _ k vs rfl (World.ownsRow.alloc HA2.out.1 _) ⟨w2.heap.size, 0, none⟩ 1 1 [.slice a3 n3 c3] rfl rfl HNW.out (fun x hx => by simp at hx; subst hx; rfl) (by decide) (by unfold maxLen; omega) (by omega) (by have := HA2.out.2.2.2.2.size; simp at this ⊢; omega) _ rfl ?_; intro g4 c4 w4 ho4 hg4 hat4 hlt4)
        have hg5 : (w2.alloc (.cells #[.slice a3 n3 c3] 22)).grownBy w4 (Value.slice a' k c').ownBlock := hg4
        have HF : Hid (OwnP w4 w.heap.size (.slice (some ⟨g4, 0, none⟩) (k + 1) c4) ((cutL b bg).take k ++ [gs3]) ∧ Below w.heap.size w w4) := ⟨OwnP.snoc HA2.out.1 HA2.out.2.1 HA3.out.1 HA3.out.2 HA2.out.2.2.1 HA2.out.2.2.2.1 hg5 ho4, Below.grown (HA2.out.2.2.2.2.alloc HA2.out.2.2.2.2.size _) hg5 (by have := HA2.out.2.2.2.2.size; simp; omega) (fun q hq => (HA2.out.1.lt q hq).1)⟩
        clear hg5 ho4 hg4 hat4 hlt4
        go_roundw
        case rel => exact ⟨k + 1, some ⟨g4, 0, none⟩, c4, by omega, by go_num, rfl, by rw [HT.out]; exact HF.out.1, HF.out.2⟩
        case measure => simp [intOf]; omega
    · obtain rfl : k = bg.length := by omega
      rw [List.take_of_length_le (by omega)] at HA
      go_wp2
      go_ret
      exact ⟨_, rfl, HA.out.1, HA.out.2⟩
end Go.Proofs.YtfgfjkchcnpakaaDoor
