/-
  The reference of fields: Groups.
-/
import Derived.Test.YtfgfjkchcnpakaaDoorFGroups
import Derived.Test.YtfgfjkchcnpakaaDoorFRefFind
import Derived.Test.YtfgfjkchcnpakaaDoorFRefNum
import Derived.Deep.DeepCutAuto
import Derived.Laws.AppendOwnNone
namespace Go.Proofs.YtfgfjkchcnpakaaDoor
set_option linter.unusedVariables false
open Go.RowKit

theorem ix_none_find (t : Int) : ∀ (fs : List Fld) (i : Nat), ix (isT t) fs = none → findI t fs i = []
  | [], i, _ => rfl
  | f :: fs, i, h => by
    unfold ix at h
    split at h
    · cases h
    · next hf =>
      have h2 : ix (isT t) fs = none := by cases hx : ix (isT t) fs with | none => rfl | some b => rw [hx] at h; cases h
      unfold findI
      rw [if_neg (fun e => hf (by unfold isT; simpa using e)), ix_none_find t fs (i + 1) h2]
theorem ix_some_find (t : Int) : ∀ (fs : List Fld) (i a : Nat), ix (isT t) fs = some a → ∃ r, findI t fs i = (i + a) :: r
  | [], i, a, h => by simp [ix] at h
  | f :: fs, i, a, h => by
    unfold ix at h
    unfold findI
    split at h
    · next hf =>
      injection h with h
      subst h
      rw [if_pos (by unfold isT at hf; simpa using hf)]
      exact ⟨_, rfl⟩
    · next hf =>
      cases hx : ix (isT t) fs with
      | none => rw [hx] at h; cases h
      | some b =>
        rw [hx] at h
        have e : a = b + 1 := by simpa using h.symm
        obtain ⟨r, hr⟩ := ix_some_find t fs (i + 1) b hx
        rw [if_neg (fun e => hf (by unfold isT; simpa using e)), hr]
        exact ⟨r, by rw [e]; congr 1; omega⟩
theorem srcf_news {w : World} {ad : Addr} {n c : Nat} {fs : List Fld} (h : SrcF w (.slice (some ad) n c) fs) : ∀ j u, (fcs fs)[j]? = some u → w.cell? (ad.add j) = some u := fun j u e => by
  obtain ⟨ao, cap, e1, hc, hcl⟩ := h
  injection e1 with e1
  rcases hcl with h | ⟨b, off, ea, hr⟩
  · subst h; simp [fcs] at e
  · rw [ea] at e1
    injection e1 with e1
    subst e1
    rw [addr_add]
    have hjl : j < fs.length * 2 := by rw [← fcs_length]; exact (List.getElem?_eq_some_iff.1 e).1
    have hj2 : j / 2 < fs.length := by omega
    have hf := List.getElem?_eq_getElem hj2
    obtain ⟨c1, c2⟩ := hr (j / 2) _ hf
    obtain ⟨d1, d2⟩ := fcs_at fs (j / 2) _ hf
    by_cases hm : j % 2 = 0
    · have ej : j / 2 * 2 = j := by omega
      rw [ej] at c1 d1
      rw [c1, ← e, d1]
    · have ej : j / 2 * 2 + 1 = j := by omega
      rw [ej] at d2
      rw [show off + j / 2 * 2 + 1 = off + j by omega] at c2
      rw [c2, ← e, d2]
theorem own_form {w : World} {B : Nat} {v : Value} {fs : List Fld} (h : w.ownsRow B 36 2 v (0 + fs.length) ([] ++ fcs fs)) : ∃ a c, v = .slice a fs.length c ∧ OwnF w B (.slice a fs.length c) fs := by
  rw [Nat.zero_add, List.nil_append] at h
  have h' : OwnF w B v fs := h
  obtain ⟨a, c, e, _⟩ := h'.src
  subst e
  exact ⟨a, c, rfl, h'⟩
def RGR (r : Except Int (List (List Fld) × List Fld)) (w : World) (x : Ending) (w' : World) : Prop :=
  Below w.heap.size w w' ∧ match r with
  | .ok (ps, a) => ∃ p u, x = .returned (.tuple #[p, u, .int .i64 0]) ∧ OwnP w' w.heap.size p ps ∧ OwnF w' w.heap.size u a
  | .error e => x = .returned (.tuple #[.slice none 0 0, .slice none 0 0, .int .i64 e])
theorem RGR.good {r : Except Int (List (List Fld) × List Fld)} {w w' : World} {x : Ending} {ps : List (List Fld)} {a : List Fld} {p u : Value} (h : r = .ok (ps, a)) (hb : Below w.heap.size w w') (hx : x = .returned (.tuple #[p, u, .int .i64 0])) (hp : OwnP w' w.heap.size p ps) (hu : OwnF w' w.heap.size u a) : RGR r w x w' := by
  refine ⟨hb, ?_⟩; rw [h]; exact ⟨p, u, hx, hp, hu⟩
theorem RGR.fail {r : Except Int (List (List Fld) × List Fld)} {w w' : World} {x : Ending} {e : Int} (h : r = .error e) (hb : Below w.heap.size w w') (hx : x = .returned (.tuple #[.slice none 0 0, .slice none 0 0, .int .i64 e])) : RGR r w x w' := by
  refine ⟨hb, ?_⟩; rw [h]; exact hx
set_option maxRecDepth 100000 in
set_option maxHeartbeats 2000000 in
theorem refGroups_none (v : Value) (fs : List Fld) (count first : Int) (w : World) (hs : SrcF w v fs) (hn : fs.length ≤ 5864062014634) (hz : ∀ n c, v = .slice none n c → c = 0) (hix : ix (isT count) fs = none) :
    Calls Tryd.prog 18 #[v, .int .i64 count, .int .i64 first] w fun x w' => RGR (.ok ([], fs)) w x w' := by
  obtain ⟨i0, hi, hz0, hz1, hz2⟩ := info_parts infoF
  have h1 := refFind_any v fs count w hs hn
  have hfe : findL count fs = [] := ix_none_find count fs 0 hix
  rw [hfe] at h1
  have HS : Hid (SrcF w v fs) := hs
  obtain ⟨ao, cap, rfl, hc, hcl⟩ := hs
  have hfl := fcs_length fs
  clear hfe hix
  cases ao with
  | none =>
    have h0 : fs = [] := by
      rcases hcl with h | ⟨b, off, e, _⟩
      · exact h
      · cases e
    subst h0
    have hc0 := hz 0 cap rfl
    subst hc0
    clear hcl hz
    go_enter Tryd.func18, Tryd.ntmps18
    go_wp2_with (go_at_call 17; fail)
    refine h1.mono ?_
    rintro e w2 ⟨u, rfl, ho2, hb2⟩
    obtain ⟨au, cu, rfl, _, _⟩ := ho2.form
    have HB2 : Hid (Below w.heap.size w w2) := hb2
    clear hb2 h1 ho2
    go_wp2_with (at_builtin; refine wpList_append_own_none rfl _ _ 22 rfl w.heap.size 36 i0 2 Tryd.underlying22 hi _ 0 [] rfl (World.ownsRow_nil _ _ _ _) rfl ?_)
    go_ret3
    exact .good rfl HB2.out rfl (OwnP.nil _ _) (OwnF.nil _ _)
  | some ad =>
    clear hcl hz
    go_enter Tryd.func18, Tryd.ntmps18
    go_wp2_with (go_at_call 17; fail)
    refine h1.mono ?_
    rintro e w2 ⟨u, rfl, ho2, hb2⟩
    obtain ⟨au, cu, rfl, _, _⟩ := ho2.form
    have HB2 : Hid (Below w.heap.size w w2 ∧ SrcF w2 (.slice (some ad) fs.length cap) fs) := ⟨hb2, HS.out.below hb2⟩
    have hsz : w.heap.size ≤ w2.heap.size := hb2.size
    clear hb2 h1 ho2
    go_wp2_with (at_builtin; refine wpList_append_own _ rfl _ _ 22 rfl w.heap.size 36 i0 (.agg #[.int .i64 0, .string ⟨#[]⟩]) 2 24 Tryd.underlying22 hi hz0 hz1 hz2 rfl (by decide) _ 0 [] rfl (World.ownsRow_nil _ _ _ _) ad fs.length cap (fcs fs) rfl hfl (srcf_news HB2.out.2) (fcs_one _) (by unfold maxLen; omega) (by omega) hsz ?_; intro v3 w3 ho3 hg3 hn3; obtain ⟨a3, c3, rfl, hof3⟩ := own_form ho3)
    have HF : Hid (Below w.heap.size w w3 ∧ OwnF w3 w.heap.size (.slice a3 fs.length c3) fs) := ⟨Below.grown HB2.out.1 hg3 hsz (fun q hq => by cases hq), hof3⟩
    clear ho3 hg3 hn3 hof3
    go_ret3
    exact .good rfl HF.out.1 rfl (OwnP.nil _ _) HF.out.2
end Go.Proofs.YtfgfjkchcnpakaaDoor
