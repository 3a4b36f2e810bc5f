/-
  fields: readFields, Split.
-/
import Derived.Test.YtfgfjkchcnpakaaDoorFRows
import Derived.Test.YtfgfjkchcnpakaaDoorMem
import Derived.WalkLawsBesides
namespace Go.Proofs.YtfgfjkchcnpakaaDoor
set_option linter.unusedVariables false
open Go.RowKit

/-- What Split tells. -/
def SplitRet (r : Except (Int × Nat) (List Fld)) (w : World) (x : Ending) (w' : World) : Prop :=
  Below w.heap.size w w' ∧ match r with
  | .ok fs => ∃ v, x = .returned (.tuple #[v, .nilIface]) ∧ OwnF w' w.heap.size v fs
  | .error (e, a) => ∃ g, w.heap.size ≤ g ∧ x = .returned (.tuple #[.slice none 0 0, .iface 100 (.pointer (some ⟨g, 0, none⟩))]) ∧ FaultAt w' g e a
theorem SplitRet.good {r : Except (Int × Nat) (List Fld)} {w w' : World} {x : Ending} {fs : List Fld} {v : Value} (h : r = .ok fs) (hb : Below w.heap.size w w') (hx : x = .returned (.tuple #[v, .nilIface])) (ho : OwnF w' w.heap.size v fs) : SplitRet r w x w' := by
  refine ⟨hb, ?_⟩; rw [h]; exact ⟨v, hx, ho⟩
theorem SplitRet.fail {r : Except (Int × Nat) (List Fld)} {w w' : World} {x : Ending} {e : Int} {a g : Nat} (h : r = .error (e, a)) (hb : Below w.heap.size w w') (hg : w.heap.size ≤ g) (hx : x = .returned (.tuple #[.slice none 0 0, .iface 100 (.pointer (some ⟨g, 0, none⟩))])) (hf : FaultAt w' g e a) : SplitRet r w x w' := by
  refine ⟨hb, ?_⟩; rw [h]; exact ⟨g, hg, hx, hf⟩
theorem rdF_bound (l : List UInt8) {f : Fld} {n : Nat} (h : rdF l = .ok (f, n)) : 1 ≤ n ∧ n ≤ l.length := by
  unfold rdF at h
  split at h
  · unfold rdV at h
    split at h
    · rename_i h1 h2
      injection h with h
      obtain ⟨_, h⟩ := Prod.mk.inj h
      have := (List.getElem?_eq_some_iff.1 h2.2).1
      simp at this
      omega
    · cases h
  · cases h
set_option maxRecDepth 100000 in
set_option maxHeartbeats 800000 in
theorem readFields_any (s : ByteArray) (b F : Nat) (w : World) (hs : s.size ≤ 1024) (hb : b ≤ s.size) (hF : s.size ≤ F) :
    Calls Tryd.prog 38 #[.string s, .int .i64 (b : Int)] w fun x w' => SplitRet (rdAll s.data.toList F b) w x w' := by
  obtain ⟨i0, hi, hz0, hz1, hz2⟩ := info_parts infoF
  have hR : Hid (s.size = s.data.toList.length ∧ ∀ k, rdAll s.data.toList 0 k = .ok []) := ⟨(size_data s).symm, fun k => rfl⟩
  generalize hRR : rdAll s.data.toList F b = R
  have HR : Hid (rdAll s.data.toList F b = R) := hRR
  clear hRR
  go_enter Tryd.func38, Tryd.ntmps38
  go_wp2
  go_loopw [1, 6, 7, 8, 9] (fun z l _ _ _ wr => ∃ (k : Nat) (fs : List Fld) (ao : Option Addr) (cv : Nat), k ≤ s.size ∧ b + fs.length ≤ k ∧ z = .int .i64 k ∧ l = .slice ao fs.length cv ∧ OwnF wr w.heap.size (.slice ao fs.length cv) fs ∧ Below w.heap.size w wr ∧ R = addFs fs (rdAll s.data.toList (F - fs.length) k)) (fun z _ _ _ _ _ => s.size - (intOf z).toNat)
  case atStart => exact ⟨b, [], none, 0, hb, Nat.le_refl _, rfl, rfl, OwnF.nil _ _, Below.refl _ _, HR.out.symm⟩
  case round =>
    obtain ⟨k, fs, ao, cv, hk, hl, rfl, rfl, ho, hbl, hr⟩ := hrel
    have HA : Hid (OwnF wr w.heap.size (.slice ao fs.length cv) fs ∧ Below w.heap.size w wr ∧ R = addFs fs (rdAll s.data.toList (F - fs.length) k)) := ⟨ho, hbl, hr⟩
    clear ho hbl hr
    by_cases hlt : k < s.size
    · have hlt' : (k : Int) < (s.size : Int) := by omega
      have h1 := readField_any s k wr hs hk
      have HL : Hid (∀ f n, rdF (s.data.toList.drop k) = .ok (f, n) → 1 ≤ n ∧ k + n ≤ s.size) := fun f n h => by
        have := rdF_bound _ h
        simp at this
        omega
      have HN : Hid (rdAll s.data.toList (F - fs.length) k = match rdF (s.data.toList.drop k) with | .ok (f, n) => addF f (rdAll s.data.toList (F - (fs.length + 1)) (k + n)) | .error (e, n) => .error (e, k + n)) := by
        show rdAll _ _ _ = _
        rw [show F - fs.length = (F - (fs.length + 1)) + 1 by omega]
        have hlt2 : k < s.data.toList.length := by rw [size_data]; exact hlt
        simp only [rdAll, hlt2, if_true]
        cases rdF (s.data.toList.drop k) <;> rfl
      generalize rdF (s.data.toList.drop k) = r at *
      cases r with
      | error y =>
        obtain ⟨e, n⟩ := y
        go_wp2_with (go_at_call 68; fail)
        refine h1.mono ?_
        rintro x w2 ⟨hb2, g, hg, rfl, hf⟩
        have HX : Hid (FaultAt w2 g e (k + n) ∧ Below w.heap.size w w2 ∧ w.heap.size ≤ g) := ⟨hf, HA.out.2.1.trans (hb2.mono HA.out.2.1.size), Nat.le_trans HA.out.2.1.size hg⟩
        clear hf hb2 hg h1
        go_wp2
        go_ret2
        refine .fail (e := e) (a := k + n) (g := g) ?_ ?_ HX.out.2.2 rfl ?_
        · rw [HA.out.2.2, HN.out, addFs_err]
        · exact HX.out.2.1.alloc HX.out.2.1.size _
        · exact HX.out.1.below ((Below.refl _ w2).alloc (Nat.le_refl _) _) HX.out.1.lt
      | ok y =>
        obtain ⟨f, n⟩ := y
        obtain ⟨hn1, hn2⟩ := HL.out f n rfl
        have hfl : fs.length ≤ 1024 := by omega
        go_wp2_with (go_at_call 68; fail)
        refine h1.mono ?_
        rintro x w2 ⟨hb2, rfl⟩
        obtain ⟨t, V⟩ := f
        have HX : Hid (Below w.heap.size w w2 ∧ OwnF w2 w.heap.size (.slice ao fs.length cv) fs) := ⟨HA.out.2.1.trans (hb2.mono HA.out.2.1.size), HA.out.1.below hb2⟩
        clear hb2 h1
        have hnew0 : ∀ j u, (fcs [(t, V)])[j]? = some u → ((w2.alloc (.cells #[.int .i64 t, .string (bs V)] 36)).alloc (.cells #[.int .i64 t, .string (bs V)] 36)).cell? ((⟨w2.heap.size + 1, 0, none⟩ : Addr).add j) = some u := by
          have h := World.news_of_block (heap_alloc_new (w2.alloc (.cells #[.int .i64 t, .string (bs V)] 36)) (.cells #[.int .i64 t, .string (bs V)] 36))
          simpa [fcs] using h
        have hnew : Hid (∀ j u, (fcs [(t, V)])[j]? = some u → ((w2.alloc (.cells #[.int .i64 t, .string (bs V)] 36)).alloc (.cells #[.int .i64 t, .string (bs V)] 36)).cell? ((⟨w2.heap.size + 1, 0, none⟩ : Addr).add j) = some u) := hnew0
        clear hnew0
        go_wp2_with (at_builtin; refine wpList_append_own _ rfl _ _ 22 rfl w.heap.size 36 i0 (.agg #[.int .i64 0, .string ⟨#[]⟩]) 2 24 Tryd.underlying22 hi hz0 hz1 hz2 rfl (by decide) _ fs.length (fcs fs) rfl ((HX.out.2.alloc _).alloc _) ⟨w2.heap.size + 1, 0, none⟩ 1 1 (fcs [(t, V)]) rfl rfl hnew.out (fcs_one _) (by unfold maxLen; omega) (by omega) (by have := HX.out.1.size; simp; omega) ?_; intro v' w3 hown' hgrow3 hnil3)
        have hb3 : Below w.heap.size w w3 := by
          refine Below.grown (w := (w2.alloc (.cells #[.int .i64 t, .string (bs V)] 36)).alloc (.cells #[.int .i64 t, .string (bs V)] 36)) ?_ hgrow3 ?_ (fun q hq => (HX.out.2.lt q hq).1)
          · exact (HX.out.1.alloc HX.out.1.size _).alloc (by have := HX.out.1.size; simp; omega) _
          · have := HX.out.1.size; simp; omega
        have ho3 : OwnF w3 w.heap.size v' (fs ++ [(t, V)]) := by
          unfold OwnF
          rw [fcs_app, List.length_append]
          exact hown'
        obtain ⟨g, c, rfl, _, _⟩ := hown'.form (by omega)
        have HY : Hid (Below w.heap.size w w3 ∧ OwnF w3 w.heap.size (.slice (some ⟨g, 0, none⟩) (fs.length + 1) c) (fs ++ [(t, V)])) := ⟨hb3, ho3⟩
        clear hb3 ho3 hown' hgrow3 hnil3 HX hnew
        go_wp2
        refine ⟨⟨k + n, fs ++ [(t, V)], some ⟨g, 0, none⟩, c, hn2, by simp; omega, by go_num, by simp, ?_, HY.out.1, ?_⟩, by simp [intOf]; omega⟩
        · have h := HY.out.2
          simpa using h
        · rw [HA.out.2.2, HN.out, addFs_snoc, List.length_append]
          rfl
    · have HN : Hid (rdAll s.data.toList (F - fs.length) k = .ok []) := by
        show rdAll _ _ _ = _
        cases hq : F - fs.length with
        | zero => rfl
        | succ m =>
          have hlt2 : ¬ k < s.data.toList.length := by rw [size_data]; exact hlt
          simp only [rdAll, hlt2, if_false]
      go_wp2
      go_ret2
      exact .good (by rw [HA.out.2.2, HN.out, addFs_ok, List.append_nil]) HA.out.2.1 rfl HA.out.1
end Go.Proofs.YtfgfjkchcnpakaaDoor
