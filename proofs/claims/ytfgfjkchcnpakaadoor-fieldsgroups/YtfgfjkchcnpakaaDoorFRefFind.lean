/-
  The reference of fields: Find.
-/
import Derived.Test.YtfgfjkchcnpakaaDoorFFind
namespace Go.Proofs.YtfgfjkchcnpakaaDoor
set_option linter.unusedVariables false
open Go.RowKit

set_option maxRecDepth 100000 in
set_option maxHeartbeats 400000 in
theorem refFind_any (v : Value) (fs : List Fld) (t : Int) (w : World) (hs : SrcF w v fs) (hn : fs.length ≤ 5864062014634) :
    Calls Tryd.prog 17 #[v, .int .i64 t] w fun e w' => ∃ u, e = .returned u ∧ OwnN w' w.heap.size u (findL t fs) ∧ Below w.heap.size w w' := by
  obtain ⟨i0, hi, hz0, hz1, hz2⟩ := info_parts info3
  have HS : Hid (SrcF w v fs) := hs
  obtain ⟨ao, cap, rfl, hc, _⟩ := hs
  go_enter Tryd.func17, Tryd.ntmps17
  go_wp2
  go_loopw [5, 6] (fun z i wr => ∃ (k : Nat) (a' : Option Addr) (c' : Nat), k ≤ fs.length ∧ i = .int .i64 (k : Int) ∧ z = .slice a' (findL t (fs.take k)).length c' ∧ OwnN wr w.heap.size (.slice a' (findL t (fs.take k)).length c') (findL t (fs.take k)) ∧ Below w.heap.size w wr) (fun _ i _ => fs.length - (intOf i).toNat)
  case atStart => exact ⟨0, none, 0, Nat.zero_le _, rfl, rfl, World.ownsRow_nil _ _ _ _, Below.refl _ _⟩
  case round =>
    obtain ⟨k, a', c', hk, rfl, rfl, ho, hb⟩ := hrel
    have HA : Hid (OwnN wr w.heap.size (.slice a' (findL t (fs.take k)).length c') (findL t (fs.take k)) ∧ Below w.heap.size w wr) := ⟨ho, hb⟩
    clear ho hb
    by_cases hlt : k < fs.length
    · have hlt' : (k : Int) < (fs.length : Int) := by omega
      have hfk : fs[k]? = some fs[k] := List.getElem?_eq_getElem hlt
      obtain ⟨ao', cap', e1, _, h0 | ⟨b, off, e2, hcell⟩⟩ := HS.out.below HA.out.2
      · rw [h0] at hlt; simp at hlt
      injection e1 with e1 _ e3
      subst e1 e2 e3
      obtain ⟨c0, c1⟩ := hcell k _ hfk
      have HX : Hid (findL t (fs.take (k + 1)) = findL t (fs.take k) ++ (if fs[k].1 = t then [k] else [])) := findL_snoc t fs k hlt
      have hfl : (findL t (fs.take k)).length ≤ 5864062014634 := by
        have h := findI_len t (fs.take k) 0
        have h2 : (fs.take k).length ≤ fs.length := by simp; omega
        unfold findL; omega
      clear hcell hfk
      generalize fs[k] = f at *
      obtain ⟨ft, V⟩ := f
      simp only at HX
      generalize findL t (fs.take k) = L at *
      by_cases hft : ft = t
      · subst hft
        rw [if_pos rfl] at HX
        have HO : Hid (OwnN wr w.heap.size (.slice a' L.length c') L ∧ Below w.heap.size w wr) := HA.out
        have hnew : ∀ j u, ([.int .i64 (k : Int)] : List Value)[j]? = some u → (wr.alloc (.cells #[.int .i64 (k : Int)] 3)).cell? ((⟨wr.heap.size, 0, none⟩ : Addr).add j) = some u := by
          exact World.news_of_block (heap_alloc_new wr (.cells #[.int .i64 (k : Int)] 3))
        have HNW : Hid (∀ j u, ([.int .i64 (k : Int)] : List Value)[j]? = some u → (wr.alloc (.cells #[.int .i64 (k : Int)] 3)).cell? ((⟨wr.heap.size, 0, none⟩ : Addr).add j) = some u) := hnew
        clear hnew
        have hft2 : (ft == ft) = true := by simp
        go_wp2_with (at_builtin; refine wpList_append_lies _ rfl _ _ 55 rfl w.heap.size 3 i0 (.int .i64 0) 1 8 Tryd.underlying55 hi hz0 hz1 hz2 rfl (by decide) _ L.length (ncs L) rfl (World.ownsRow.alloc HO.out.1 _) ⟨wr.heap.size, 0, none⟩ 1 1 [.int .i64 (k : Int)] rfl rfl HNW.out (fun x hx => by simp at hx; subst hx; rfl) (by decide) (by unfold maxLen; omega) (by omega) (by have := HO.out.2.size; simp at this ⊢; omega) _ rfl ?_; intro g2 c2 w2 ho2 hg2 hat2 hlt2; have HF : Hid (OwnN w2 w.heap.size (.slice (some ⟨g2, 0, none⟩) (L.length + 1) c2) (L ++ [k]) ∧ Below w.heap.size w w2) := ⟨by unfold OwnN; rw [ncs_app, List.length_append]; exact ho2, Below.grown (HO.out.2.alloc HO.out.2.size _) hg2 (by have := HO.out.2.size; simp at this ⊢; omega) (fun q hq => (HO.out.1.lt q hq).1)⟩; clear ho2 hg2 hat2 hlt2)
        go_roundw
        case rel => exact ⟨k + 1, some ⟨g2, 0, none⟩, c2, by omega, by go_num, by rw [HX.out, List.length_append]; rfl, by rw [HX.out, List.length_append]; exact HF.out.1, HF.out.2⟩
        case measure => simp [intOf]; omega
      · have hftb : (ft == t) = false := by simpa using hft
        rw [if_neg hft, List.append_nil] at HX
        have HO : Hid (OwnN wr w.heap.size (.slice a' L.length c') L ∧ Below w.heap.size w wr) := HA.out
        go_wp2
        go_roundw
        case rel => exact ⟨k + 1, a', c', by omega, by go_num, by rw [HX.out], by rw [HX.out]; exact HO.out.1, HO.out.2⟩
        case measure => simp [intOf]; omega
    · obtain rfl : k = fs.length := by omega
      rw [List.take_length] at HA
      rw [List.take_length]
      go_wp2
      go_ret
      exact ⟨_, rfl, HA.out.1, HA.out.2⟩
end Go.Proofs.YtfgfjkchcnpakaaDoor
