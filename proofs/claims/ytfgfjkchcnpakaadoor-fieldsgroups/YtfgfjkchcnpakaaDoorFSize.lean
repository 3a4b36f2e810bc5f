/-
  fields: bodySize.
-/
import Derived.Test.YtfgfjkchcnpakaaDoorFJoin
namespace Go.Proofs.YtfgfjkchcnpakaaDoor
set_option linter.unusedVariables false
open Go.RowKit

theorem bodyB_snoc (fs : List Fld) (k : Nat) (h : k < fs.length) : bodyB (fs.take (k + 1)) = bodyB (fs.take k) ++ fldL fs[k] := by
  rw [List.take_succ_eq_append_getElem h]
  unfold bodyB
  rw [List.flatMap_append]
  simp only [List.flatMap_cons, List.flatMap_nil, List.append_nil]
theorem bodyB_le (fs : List Fld) (k : Nat) : (bodyB (fs.take k)).length ≤ (bodyB fs).length := by
  conv => rhs; rw [← List.take_append_drop k fs]
  unfold bodyB
  rw [List.flatMap_append, List.length_append]; omega
/-- Tags that a number of 64 bits can be. -/
def okT (fs : List Fld) : Prop := ∀ f ∈ fs, -9223372036854775808 ≤ f.1 ∧ f.1 ≤ 9223372036854775807
set_option maxRecDepth 100000 in
set_option maxHeartbeats 400000 in
theorem bodySize_any (v : Value) (fs : List Fld) (w : World) (hs : SrcF w v fs) (hp : Pow w) (ht : okT fs) (hsz : (bodyB fs).length ≤ 1099511627776) (hn : fs.length ≤ 1099511627776) :
    Calls Tryd.prog 30 #[v] w fun e w' => e = .returned (.int .i64 ((bodyB fs).length : Int)) ∧ Below w.heap.size w w' := by
  have HS : Hid (SrcF w v fs ∧ Pow w ∧ okT fs) := ⟨hs, hp, ht⟩
  obtain ⟨ao, cap, rfl, hc, _⟩ := hs
  clear hp ht
  go_enter Tryd.func30, Tryd.ntmps30
  go_wp2
  go_loopw [3, 5, 8] (fun z _ i wr => ∃ k : Nat, k ≤ fs.length ∧ i = .int .i64 k ∧ z = .int .i64 ((bodyB (fs.take k)).length : Int) ∧ Below w.heap.size w wr) (fun _ _ i _ => fs.length - (intOf i).toNat)
  case atStart => exact ⟨0, Nat.zero_le _, rfl, rfl, Below.refl _ _⟩
  case round =>
    obtain ⟨k, hk, rfl, rfl, hb⟩ := hrel
    have HA : Hid (Below w.heap.size w wr) := hb
    clear hb
    by_cases hlt : k < fs.length
    · have hlt' : (k : Int) < (fs.length : Int) := by omega
      have hfk : fs[k]? = some fs[k] := List.getElem?_eq_getElem hlt
      obtain ⟨ao', cap', e1, _, h0 | ⟨b, off, e2, hcell⟩⟩ := HS.out.1.below HA.out
      · rw [h0] at hlt; simp at hlt
      injection e1 with e1 _ e3
      subst e1 e2 e3
      obtain ⟨c0, c1⟩ := hcell k _ hfk
      have htk := HS.out.2.2 fs[k] (List.getElem_mem hlt)
      have hle := bodyB_le fs (k + 1)
      have HX : Hid ((bodyB (fs.take (k + 1))).length = (bodyB (fs.take k)).length + (fldL fs[k]).length) := by
        show List.length _ = _
        rw [bodyB_snoc fs k hlt, List.length_append]
      have hfl := fldL_length fs[k]
      have hle2 : (bodyB (fs.take k)).length + (fldL fs[k]).length ≤ 1099511627776 := by rw [← HX.out]; omega
      clear hle hcell hfk
      generalize fs[k] = g at *
      obtain ⟨t, V⟩ := g
      simp only at hfl htk
      have hP := fun w' hw' => Print_any t htk.1 htk.2 w' hw'
      have hbs : (⟨(Lib.itoa t).toArray⟩ : ByteArray) = bs (Lib.itoa t) := rfl
      have hbz := bs_size (Lib.itoa t)
      have hvz := bs_size V
      generalize (bodyB (fs.take k)).length = n at *
      generalize (fldL (t, V)).length = m at *
      rw [hbs] at hP
      generalize Lib.itoa t = I at *
      clear hbs
      go_upto_region 5 with fail
      have HF : Hid (FldAt (wr.alloc (.cells #[.int .i64 t, .string (bs V)] 36)) wr.heap.size t (bs V) ∧ Below w.heap.size w (wr.alloc (.cells #[.int .i64 t, .string (bs V)] 36))) := ⟨heap_alloc_new wr _, HA.out.alloc HA.out.size _⟩
      clear c0 c1
      generalize wr.heap.size = G at *
      generalize wr.alloc (.cells #[.int .i64 t, .string (bs V)] 36) = w1 at *
      have HK : Hid (∀ w', Below w1.heap.size w1 w' → w'.cell? ⟨G, 0, none⟩ = some (.int .i64 t) ∧ w'.cell? ⟨G, 1, none⟩ = some (.string (bs V))) := fun w' hb => by
        have := HF.out.1.below hb HF.out.1.lt
        exact ⟨this.cell0, this.cell1⟩
      have HPw : Hid (∀ w', Below w1.heap.size w1 w' → Calls Tryd.prog 31 #[.int .i64 t] w' fun e w2 => e = .returned (.string (bs I)) ∧ Below w'.heap.size w' w2) := fun w' hb => hP w' ((HS.out.2.1.below HF.out.2).below hb)
      clear hP
      have hB1 : Below w1.heap.size w1 w1.drew := (Below.refl _ w1).drew
      go_region_held (fun w' => Below w1.heap.size w1 w' ∧ w'.cell? ⟨G, 0, none⟩ = some (.int .i64 t) ∧ w'.cell? ⟨G, 1, none⟩ = some (.string (bs V))) (first | exact ⟨hB2, HK.out _ hB2⟩ | exact ⟨hB1, HK.out _ hB1⟩) (first | (go_at_call 31; refine (HPw.out _ hB1).mono ?_; rintro e w2 ⟨rfl, hb2⟩; have hB2 : Below w1.heap.size w1 w2 := hB1.trans (hb2.mono hB1.size); clear hb2))
      have hw1 : IntKind.i64.wrap ((I.length : Int) + (V.length : Int)) = (I.length : Int) + (V.length : Int) := by rw [IntKind.wrap_i64]; omega
      have hw2 : IntKind.i64.wrap ((I.length : Int) + (V.length : Int) + 2) = (I.length : Int) + (V.length : Int) + 2 := by rw [IntKind.wrap_i64]; omega
      have hw3 : IntKind.i64.wrap ((n : Int) + ((I.length : Int) + (V.length : Int) + 2)) = (n : Int) + ((I.length : Int) + (V.length : Int) + 2) := by rw [IntKind.wrap_i64]; omega
      simp only [hw1, hw2, hw3]
      clear hw1 hw2 hw3
      have HB2 : Hid (Below w.heap.size w w2) := HF.out.2.trans (hB2.mono HF.out.2.size)
      go_wp2
      refine ⟨⟨k + 1, by omega, by go_num, vint ?_, HB2.out⟩, by simp [intOf]; omega⟩
      rw [HX.out]; omega
    · have e : k = fs.length := by omega
      subst e
      rw [List.take_length]
      go_wp2
      go_ret
      exact ⟨rfl, HA.out⟩
end Go.Proofs.YtfgfjkchcnpakaaDoor
