/-
  risk: what is open, gone through in whatever order.
-/
import Derived.Test.YtgioknkfppaaaaaGGd
namespace Go.Proofs.Ytgioknkfppaaaaa
set_option linter.unusedVariables false
set_option linter.unusedSimpArgs false
open Go.RowKit Go.Great Go.Maps

set_option maxRecDepth 100000 in
theorem ent_key (x : Oo) (key : Value) (h : keyOf Try.prog 3 key = some (Oo.ent x).1) : key = .int .i64 x.id := by
  obtain ⟨y, e1, e2, _⟩ := keyOf_int_inv Try.underlying3 h
  have e3 : (Lit.int .i64 x.id) = .int .i64 y := e2
  injection e3 with _ e3
  rw [e1, e3]
theorem sumV_app (l k : List Oo) : sumV (l ++ k) = sumV l + sumV k := by simp [sumV, List.sum_append]
theorem sumQ_app (l k : List Oo) : sumQ (l ++ k) = sumQ l + sumQ k := by simp [sumQ, List.sum_append]
theorem ovL_app (l k : List Oo) (ac : ByteArray) (but : Int) : ovL (l ++ k) ac but = ovL l ac but ++ ovL k ac but := by simp [ovL]
theorem perm_move {O D T T' : List Oo} {x : Oo} (h : O.Perm (D ++ T)) (hp : T.Perm (x :: T')) : O.Perm ((D ++ [x]) ++ T') := by
  rw [List.append_assoc]
  exact h.trans (List.Perm.append_left D hp)
theorem ovL_perm {O O' : List Oo} (h : O.Perm O') (ac : ByteArray) (but : Int) : (ovL O ac but).Perm (ovL O' ac but) := h.filter _
theorem clI_add {s v : Int} (h0 : 0 ≤ s) (h1 : 0 ≤ v) : clI (min s 1000000000000000000 + v) = min (s + v) 1000000000000000000 := by unfold clI; omega
set_option maxRecDepth 100000 in
set_option maxHeartbeats 1000000 in
theorem openValue_any (G : Gd) (ac : ByteArray) (but : Int) (w : World) (h : GdAt w G) :
    Calls Try.prog 27 #[.pointer (some ⟨G.g, 0, none⟩), .string ac, .int .i64 but] w fun e w' => e = .returned (.int .i64 (ovI G.O ac but)) ∧ Below w.heap.size w w' := by
  have c1 := h.blk.cell 1
  have HO : Hid (MapL Try.prog w 3 G.mo (G.O.map Oo.ent)) := h.opens
  have HK : Hid (∀ o ∈ G.O, o.ok) := h.ook
  have HV : Hid (ovI G.O ac but = min (sumV (ovL G.O ac but)) 1000000000000000000) := rfl
  generalize ovI G.O ac but = R at *
  clear h
  generalize G.O = O at *
  generalize G.mo = mo at *
  generalize G.g = g at *
  simp only [List.getElem?_toArray, List.getElem?_cons_succ, List.getElem?_cons_zero] at c1
  go_enter Try.func27, Try.ntmps27
  go_wp2_with (at_range; refine wpL_range _ rfl _ 61 rfl 3 77 law3 Try.underlying61 mo (O.map Oo.ent) rfl HO.out ?_; intro w1 hr1 hb1 hs1)
  go_frame
  have HR1 : Hid (RgL Try.prog w1 3 mo w.heap.size (O.map Oo.ent) (O.map Oo.ent) ∧ Below w.heap.size w w1) := ⟨hr1, hb1⟩
  clear hr1 hb1
  go_loopw [7] (fun t wr => ∃ T D, O.Perm (D ++ T) ∧ t = .int .i64 (min (sumV (ovL D ac but)) 1000000000000000000) ∧ RgL Try.prog wr 3 mo w.heap.size (O.map Oo.ent) (T.map Oo.ent) ∧ Below w.heap.size w wr) (fun _ wr => wr.rangeLeft mo w.heap.size)
  case atStart => exact ⟨O, [], by simp, by rfl, HR1.out⟩
  case round =>
    obtain ⟨T, D, hp, rfl, hr, hb⟩ := hrel
    have HH : Hid (O.Perm (D ++ T) ∧ RgL Try.prog wr 3 mo w.heap.size (O.map Oo.ent) (T.map Oo.ent) ∧ Below w.heap.size w wr) := ⟨hp, hr, hb⟩
    clear hp hr hb
    have hS0 : 0 ≤ sumV (ovL D ac but) := sumV_nonneg fun o ho => HK.out o (HH.out.1.mem_iff.2 (List.mem_append_left _ (List.mem_filter.1 ho).1))
    have HS : Hid (0 ≤ sumV (ovL D ac but)) := hS0
    have hmn : 0 ≤ min (sumV (ovL D ac but)) 1000000000000000000 ∧ min (sumV (ovL D ac but)) 1000000000000000000 ≤ 1000000000000000000 := by omega
    have HMN : Hid (∃ s, s = sumV (ovL D ac but)) := ⟨_, rfl⟩
    clear hS0
    generalize hm : min (sumV (ovL D ac but)) 1000000000000000000 = m at *
    have HM : Hid (min (sumV (ovL D ac but)) 1000000000000000000 = m) := hm
    clear hm
    go_wp2_with (at_next; refine wpL_nextF _ Oo.ent (fun x => .int .i64 x.id) (fun x => .agg #[.string x.ac, .string x.sy, .int .i64 x.sd, .int .i64 x.q, .int .i64 x.v]) (fun _ => rfl) rfl _ rfl 3 law3 ent_key mo w.heap.size (O.map Oo.ent) T rfl HH.out.2.1 ?_ ?_)
    · intro hT
      have HT : Hid (T = []) := hT
      clear hT
      go_wp2
      go_ret
      refine ⟨ret_int ?_, HH.out.2.2⟩
      have hp := HH.out.1
      rw [HT.out, List.append_nil] at hp
      rw [HV.out, ← HM.out, sumV_perm (ovL_perm hp ac but)]
    · intro x T' w2 hx hpm hrg hlt hfr hsz hen
      have hok : x.ok := HK.out x (HH.out.1.mem_iff.2 (List.mem_append_right _ hx))
      have HX : Hid (O.Perm ((D ++ [x]) ++ T') ∧ RgL Try.prog w2 3 mo w.heap.size (O.map Oo.ent) (T'.map Oo.ent) ∧ w2.rangeLeft mo w.heap.size < wr.rangeLeft mo w.heap.size ∧ Below w.heap.size w w2) := ⟨perm_move HH.out.1 hpm, hrg, hlt, ⟨hfr.os.trans HH.out.2.2.os, hfr.tape.trans HH.out.2.2.tape, hfr.output.trans HH.out.2.2.output, Nat.le_trans HH.out.2.2.size hfr.size, fun b hb => (hfr.block b (Nat.lt_of_lt_of_le hb HH.out.2.2.size) (by omega)).trans (HH.out.2.2.block b hb)⟩⟩
      have HXL : Hid (ovL (D ++ [x]) ac but = ovL D ac but ++ if !(x.id == but) && (x.ac.toList == ac.toList) then [x] else []) := by
        show _ = _
        rw [ovL_app]
        show _ ++ List.filter _ [x] = _
        simp [List.filter_cons]
      have hv := hok.v
      clear hx hpm hrg hlt hfr hok
      have HXv : Hid (x.v = x.v) := rfl
      generalize hxid : x.id = xid at *
      generalize hxac : x.ac = xac at *
      generalize hxv : x.v = xv at *
      have HE : Hid (x.v = xv) := hxv
      clear hxid hxac hxv HXv
      generalize x.sy = xsy at *
      generalize x.sd = xsd at *
      generalize x.q = xq at *
      have hsum := fun w => sum_any m xv w (by omega) (by omega) (by omega) (by omega)
      have HC : Hid (clI (m + xv) = min (sumV (ovL D ac but) + xv) 1000000000000000000) := by
        show _ = _
        rw [← HM.out]; exact clI_add HS.out hv.1
      clear hv
      generalize clI (m + xv) = m1 at *
      have HF : Hid (∀ (m' : Int) (o : Obj), m' = min (sumV (ovL (D ++ [x]) ac but)) 1000000000000000000 → (∃ T D, O.Perm (D ++ T) ∧ Value.int .i64 m' = .int .i64 (min (sumV (ovL D ac but)) 1000000000000000000) ∧ RgL Try.prog (w2.alloc o) 3 mo w.heap.size (O.map Oo.ent) (T.map Oo.ent) ∧ Below w.heap.size w (w2.alloc o)) ∧ (w2.alloc o).rangeLeft mo w.heap.size < wr.rangeLeft mo w.heap.size) := fun m' o e => ⟨⟨T', D ++ [x], HX.out.1, vint e, HX.out.2.1.fr (Fr.alloc w2 o (fun _ => False)) id id, HX.out.2.2.2.alloc (HX.out.2.2.2.size) _⟩, by rw [HX.out.2.1.left_fr (Fr.alloc w2 o (fun _ => False)) id id]; exact HX.out.2.2.1⟩
      cases hi : (xid == but)
      · have hi' : (xid != but) = true := by simp [bne, hi]
        cases ha : (xac.toList == ac.toList)
        · rw [hi, ha] at HXL
          go_wp2
          refine HF.out _ _ ?_
          rw [HXL.out, ← HM.out, if_neg (by decide), List.append_nil]
        · rw [hi, ha] at HXL
          go_wp2_with (go_at_call 41; fail)
          refine (hsum _).mono ?_
          rintro e w3 ⟨rfl, rfl⟩
          go_wp2
          refine HF.out _ _ ?_
          rw [HXL.out, HC.out, if_pos (by decide), sumV_app, sumV_cons, HE.out]
          simp [sumV]
      · have hi' : (xid != but) = false := by simp [bne, hi]
        rw [hi] at HXL
        go_wp2
        refine HF.out _ _ ?_
        rw [HXL.out, ← HM.out, if_neg (by simp), List.append_nil]
end Go.Proofs.Ytgioknkfppaaaaa
