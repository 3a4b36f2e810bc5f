/-
  fields: Find, slices.Clone over fields, strayAhead.
-/
import Derived.Test.YtfgfjkchcnpakaaDoorFAll
import Derived.Laws.OwnMore
import Derived.Laws.Cover3
namespace Go.Proofs.YtfgfjkchcnpakaaDoor
set_option linter.unusedVariables false
open Go.RowKit

/-- The places of a tag. -/
def findI (t : Int) : List Fld → Nat → List Nat
  | [], _ => []
  | f :: fs, i => if f.1 = t then i :: findI t fs (i + 1) else findI t fs (i + 1)
def findL (t : Int) (fs : List Fld) : List Nat := findI t fs 0
theorem findI_app (t : Int) : ∀ (a b : List Fld) (i : Nat), findI t (a ++ b) i = findI t a i ++ findI t b (i + a.length)
  | [], b, i => by simp [findI]
  | f :: a, b, i => by
    have ih := findI_app t a b (i + 1)
    rw [List.cons_append]
    simp only [findI]
    rw [ih, show i + 1 + a.length = i + (f :: a).length by simp; omega]
    split <;> simp
theorem findL_snoc (t : Int) (fs : List Fld) (k : Nat) (h : k < fs.length) : findL t (fs.take (k + 1)) = findL t (fs.take k) ++ (if fs[k].1 = t then [k] else []) := by
  unfold findL
  rw [List.take_succ_eq_append_getElem h, findI_app]
  have e : 0 + (fs.take k).length = k := by simp; omega
  rw [e]
  simp [findI]
theorem findI_bound (t : Int) : ∀ (fs : List Fld) (i : Nat), ∀ x ∈ findI t fs i, i ≤ x ∧ x < i + fs.length
  | [], i, x, h => by simp [findI] at h
  | f :: fs, i, x, h => by
    unfold findI at h
    split at h
    · rcases List.mem_cons.1 h with rfl | h
      · simp
      · have := findI_bound t fs (i + 1) x h; simp; omega
    · have := findI_bound t fs (i + 1) x h; simp; omega
theorem findI_sorted (t : Int) : ∀ (fs : List Fld) (i : Nat), (findI t fs i).Pairwise (· < ·)
  | [], i => by simp [findI]
  | f :: fs, i => by
    unfold findI
    split
    · rw [List.pairwise_cons]
      exact ⟨fun x hx => by have := findI_bound t fs (i + 1) x hx; omega, findI_sorted t fs (i + 1)⟩
    · exact findI_sorted t fs (i + 1)
theorem findI_len (t : Int) : ∀ (fs : List Fld) (i : Nat), (findI t fs i).length ≤ fs.length
  | [], i => by simp [findI]
  | f :: fs, i => by
    have := findI_len t fs (i + 1)
    unfold findI
    split <;> simp <;> omega
/-- The cells of places. -/
def ncs (l : List Nat) : List Value := l.map fun n : Nat => .int .i64 (n : Int)
theorem ncs_app (a b : List Nat) : ncs (a ++ b) = ncs a ++ ncs b := by simp [ncs]
def OwnN (w : World) (B : Nat) (v : Value) (l : List Nat) : Prop := w.ownsRow B 3 1 v l.length (ncs l)
theorem OwnN.below {w w' : World} {B : Nat} {v : Value} {l : List Nat} (h : OwnN w B v l) (hb : Below w.heap.size w w') : OwnN w' B v l := ownsRow_below h hb
theorem OwnN.mono {w : World} {B B' : Nat} {v : Value} {l : List Nat} (h : OwnN w B v l) (hb : B' ≤ B) : OwnN w B' v l := ownsRow_mono h hb
theorem OwnN.form {w : World} {B : Nat} {v : Value} {l : List Nat} (h : OwnN w B v l) : ∃ ao cv, v = .slice ao l.length cv ∧ l.length ≤ cv ∧ (∀ (j n : Nat), l[j]? = some n → ∃ g, ao = some ⟨g, 0, none⟩ ∧ w.cell? ⟨g, j, none⟩ = some (.int .i64 (n : Int))) := by
  obtain ⟨h1, h2⟩ := h
  rcases h2 with ⟨rfl, h0⟩ | ⟨g, cap, cur, rfl, r1, r2, r3, r4, r5, r6⟩
  · have : l = [] := List.length_eq_zero_iff.1 h0
    subst this
    exact ⟨none, 0, rfl, Nat.le_refl _, fun j n hj => by simp at hj⟩
  · refine ⟨_, cap, rfl, r3, fun j n hj => ⟨g, rfl, ?_⟩⟩
    have hjl : j < l.length := (List.getElem?_eq_some_iff.1 hj).1
    have e1 : (ncs l)[j]? = some (.int .i64 (n : Int)) := by unfold ncs; rw [List.getElem?_map, hj]; rfl
    rw [← r6, List.getElem?_take, if_pos (by omega)] at e1
    rw [cell_of_row w g _ cur _ _ r2]; simpa using e1
theorem info3 : (Tryd.prog.info? 3).map (fun i => (i.zero, i.size, i.bytes)) = some (some (.int .i64 0), 1, 8) := by kernel_rfl
set_option maxRecDepth 100000 in
set_option maxHeartbeats 400000 in
theorem Find_any (v : Value) (fs : List Fld) (t : Int) (w : World) (hs : SrcF w v fs) (hn : fs.length ≤ 5864062014634) :
    Calls Tryd.prog 16 #[v, .int .i64 t] w fun e w' => ∃ u, e = .returned u ∧ OwnN w' w.heap.size u (findL t fs) ∧ Below w.heap.size w w' := by
  obtain ⟨i0, hi, hz0, hz1, hz2⟩ := info_parts info3
  have HS : Hid (SrcF w v fs) := hs
  obtain ⟨ao, cap, rfl, hc, _⟩ := hs
  go_enter Tryd.func16, Tryd.ntmps16
  go_wp2
  go_loopw [5, 6, 7, 10] (fun z _ _ i wr => ∃ (k : Nat) (a' : Option Addr) (c' : Nat), k ≤ fs.length ∧ i = .int .i64 (k : Int) ∧ z = .slice a' (findL t (fs.take k)).length c' ∧ OwnN wr w.heap.size (.slice a' (findL t (fs.take k)).length c') (findL t (fs.take k)) ∧ Below w.heap.size w wr) (fun _ _ _ i _ => fs.length - (intOf i).toNat)
  case atStart => exact ⟨0, none, 0, Nat.zero_le _, rfl, rfl, World.ownsRow_nil _ _ _ _, Below.refl _ _⟩
  case round =>
    obtain ⟨k, a', c', hk, rfl, rfl, ho, hb⟩ := hrel
    have HA : Hid (OwnN wr w.heap.size (.slice a' (findL t (fs.take k)).length c') (findL t (fs.take k)) ∧ Below w.heap.size w wr) := ⟨ho, hb⟩
    clear ho hb
    by_cases hlt : k < fs.length
    · have hlt' : (k : Int) < (fs.length : Int) := by omega
      have hfk : fs[k]? = some fs[k] := List.getElem?_eq_getElem hlt
      obtain ⟨ao', cap', e1, _, h0 | ⟨b, off, e2, hcell⟩⟩ := HS.out.below HA.out.2
      · rw [h0] at hlt; simp at hlt
      injection e1 with e1 _ e3
      subst e1 e2 e3
      obtain ⟨c0, c1⟩ := hcell k _ hfk
      have HX : Hid (findL t (fs.take (k + 1)) = findL t (fs.take k) ++ (if fs[k].1 = t then [k] else [])) := findL_snoc t fs k hlt
      have hfl : (findL t (fs.take k)).length ≤ 5864062014634 := by
        have h := findI_len t (fs.take k) 0
        have h2 : (fs.take k).length ≤ fs.length := by simp; omega
        unfold findL; omega
      clear hcell hfk
      generalize fs[k] = f at *
      obtain ⟨ft, V⟩ := f
      simp only at HX
      generalize findL t (fs.take k) = L at *
      by_cases hft : ft = t
      · subst hft
        rw [if_pos rfl] at HX
        have hbb : Below w.heap.size w (wr.alloc (.cells #[.int .i64 ft, .string (bs V)] 36)) := HA.out.2.alloc HA.out.2.size _
        have HO : Hid (OwnN (wr.alloc (.cells #[.int .i64 ft, .string (bs V)] 36)) w.heap.size (.slice a' L.length c') L ∧ Below w.heap.size w (wr.alloc (.cells #[.int .i64 ft, .string (bs V)] 36))) := ⟨World.ownsRow.alloc HA.out.1 _, hbb⟩
        have hnew : ∀ j u, ([.int .i64 (k : Int)] : List Value)[j]? = some u → ((wr.alloc (.cells #[.int .i64 ft, .string (bs V)] 36)).alloc (.cells #[.int .i64 (k : Int)] 3)).cell? ((⟨wr.heap.size + 1, 0, none⟩ : Addr).add j) = some u := by
          have h := World.news_of_block (heap_alloc_new (wr.alloc (.cells #[.int .i64 ft, .string (bs V)] 36)) (.cells #[.int .i64 (k : Int)] 3))
          simpa using h
        have HNW : Hid (∀ j u, ([.int .i64 (k : Int)] : List Value)[j]? = some u → ((wr.alloc (.cells #[.int .i64 ft, .string (bs V)] 36)).alloc (.cells #[.int .i64 (k : Int)] 3)).cell? ((⟨wr.heap.size + 1, 0, none⟩ : Addr).add j) = some u) := hnew
        clear hnew hbb
        have hft2 : (ft == ft) = true := by simp
        go_wp2_with (at_builtin; refine wpList_append_lies _ rfl _ _ 55 rfl w.heap.size 3 i0 (.int .i64 0) 1 8 Tryd.underlying55 hi hz0 hz1 hz2 rfl (by decide) _ L.length (ncs L) rfl (World.ownsRow.alloc HO.out.1 _) ⟨wr.heap.size + 1, 0, none⟩ 1 1 [.int .i64 (k : Int)] rfl rfl HNW.out (fun x hx => by simp at hx; subst hx; rfl) (by decide) (by unfold maxLen; omega) (by omega) (by have := HO.out.2.size; simp at this ⊢; omega) _ rfl ?_; intro g2 c2 w2 ho2 hg2 hat2 hlt2; have HF : Hid (OwnN w2 w.heap.size (.slice (some ⟨g2, 0, none⟩) (L.length + 1) c2) (L ++ [k]) ∧ Below w.heap.size w w2) := ⟨by unfold OwnN; rw [ncs_app, List.length_append]; exact ho2, Below.grown (HO.out.2.alloc HO.out.2.size _) hg2 (by have := HO.out.2.size; simp at this ⊢; omega) (fun q hq => (HO.out.1.lt q hq).1)⟩; clear ho2 hg2 hat2 hlt2)
        go_roundw
        case rel => exact ⟨k + 1, some ⟨g2, 0, none⟩, c2, by omega, by go_num, by rw [HX.out, List.length_append]; rfl, by rw [HX.out, List.length_append]; exact HF.out.1, HF.out.2⟩
        case measure => simp [intOf]; omega
      · have hftb : (ft == t) = false := by simpa using hft
        rw [if_neg hft, List.append_nil] at HX
        have HO : Hid (OwnN (wr.alloc (.cells #[.int .i64 ft, .string (bs V)] 36)) w.heap.size (.slice a' L.length c') L ∧ Below w.heap.size w (wr.alloc (.cells #[.int .i64 ft, .string (bs V)] 36))) := ⟨World.ownsRow.alloc HA.out.1 _, HA.out.2.alloc HA.out.2.size _⟩
        go_wp2
        go_roundw
        case rel => exact ⟨k + 1, a', c', by omega, by go_num, by rw [HX.out], by rw [HX.out]; exact HO.out.1, HO.out.2⟩
        case measure => simp [intOf]; omega
    · obtain rfl : k = fs.length := by omega
      rw [List.take_length] at HA
      rw [List.take_length]
      go_wp2
      go_ret
      exact ⟨_, rfl, HA.out.1, HA.out.2⟩
theorem run_eql_nil (a : Option Addr) (l c : Nat) (W : World) : (binOp .eql 22 (.slice a l c) (.slice none 0 0)).run Tryd.prog W = .ok (.bool a.isNone) W := by
  simp [binOp, run_equal_slice_nil (P := Tryd.prog) W 22 36 a l c Tryd.underlying22]
set_option maxRecDepth 100000 in
set_option maxHeartbeats 400000 in
theorem Clone_any (v : Value) (fs : List Fld) (w : World) (hs : SrcF w v fs) (hn : fs.length ≤ 5864062014634) :
    Calls Tryd.prog 41 #[v] w fun e w' => ∃ u, e = .returned u ∧ OwnF w' w.heap.size u fs ∧ Below w.heap.size w w' := by
  obtain ⟨i0, hi, hz0, hz1, hz2⟩ := info_parts infoF
  have HS : Hid (SrcF w v fs) := hs
  obtain ⟨ao, cap, rfl, hc, hcl⟩ := hs
  cases ao with
  | none =>
    have h0 : fs = [] := by
      rcases hcl with h | ⟨b, off, e, _⟩
      · exact h
      · cases e
    subst h0
    clear hcl
    have hen := run_eql_nil none 0 cap
    simp only [Option.isNone_none] at hen
    go_enter Tryd.func41, Tryd.ntmps41
    go_wp2
    go_ret
    exact ⟨.slice none 0 0, rfl, OwnF.nil _ _, Below.refl _ _⟩
  | some ad =>
    have hnews : ∀ W, Below w.heap.size w W → ∀ j u, (fcs fs)[j]? = some u → W.cell? (ad.add j) = some u := fun W hb j u e => by
      rcases hcl with h | ⟨b, off, ea, hr⟩
      · subst h; simp [fcs] at e
      · injection ea with ea
        subst ea
        rw [addr_add]
        have hjl : j < fs.length * 2 := by rw [← fcs_length]; exact (List.getElem?_eq_some_iff.1 e).1
        have hj2 : j / 2 < fs.length := by omega
        have hf := List.getElem?_eq_getElem hj2
        obtain ⟨c1, c2⟩ := hr (j / 2) _ hf
        obtain ⟨d1, d2⟩ := fcs_at fs (j / 2) _ hf
        have hlt : b < w.heap.size := World.block_lt_of_cell? _ _ c1
        rw [hb.cell (p := ⟨b, _, none⟩) hlt]
        by_cases hm : j % 2 = 0
        · have ej : j / 2 * 2 = j := by omega
          rw [ej] at c1 d1
          rw [c1, ← e, d1]
        · have ej : j / 2 * 2 + 1 = j := by omega
          rw [ej] at d2
          rw [show off + j / 2 * 2 + 1 = off + j by omega] at c2
          rw [c2, ← e, d2]
    have HNW : Hid (∀ W, Below w.heap.size w W → ∀ j u, (fcs fs)[j]? = some u → W.cell? (ad.add j) = some u) := hnews
    clear hnews hcl
    have hb0 : Below w.heap.size w (w.alloc (.cells #[] 36)) := (Below.refl _ w).alloc (Nat.le_refl _) _
    have HB0 : Hid (Below w.heap.size w (w.alloc (.cells #[] 36))) := hb0
    have hfl := fcs_length fs
    clear hb0
    have hen := run_eql_nil (some ad) fs.length cap
    simp only [Option.isNone_some] at hen
    go_enter Tryd.func41, Tryd.ntmps41
    go_wp2_with (at_builtin; refine wpList_append_own _ rfl _ _ 22 rfl w.heap.size 36 i0 (.agg #[.int .i64 0, .string ⟨#[]⟩]) 2 24 Tryd.underlying22 hi hz0 hz1 hz2 rfl (by decide) _ 0 [] rfl (World.ownsRow_lit w #[] 0 (Nat.le_refl _) (Nat.zero_le _) rfl) ad fs.length cap (fcs fs) rfl hfl (HNW.out _ HB0.out) (fcs_one _) (by unfold maxLen; omega) (by omega) (by simp) ?_; intro v2 w2 ho2 hg2 hn2)
    have ho3 : OwnF w2 w.heap.size v2 fs := by
      unfold OwnF
      rw [Nat.zero_add, List.nil_append] at ho2
      exact ho2
    have hg3 : (w.alloc (.cells #[] 36)).grownBy w2 (some w.heap.size) := hg2
    have hb3 : Below w.heap.size w w2 := Below.grown HB0.out hg3 (by simp) (fun q hq => by injection hq with hq; omega)
    have HF : Hid (OwnF w2 w.heap.size v2 fs ∧ Below w.heap.size w w2) := ⟨ho3, hb3⟩
    go_ret
    exact ⟨v2, rfl, HF.out.1, HF.out.2⟩
end Go.Proofs.YtfgfjkchcnpakaaDoor
