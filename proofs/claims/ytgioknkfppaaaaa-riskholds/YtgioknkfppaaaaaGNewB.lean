/-
  risk: New, where an account may not be.
-/
import Derived.Test.YtgioknkfppaaaaaGNew2
namespace Go.Proofs.Ytgioknkfppaaaaa
set_option linter.unusedVariables false
set_option linter.unusedSimpArgs false
open Go.RowKit Go.Great Go.Maps

set_option maxRecDepth 100000 in
set_option maxHeartbeats 2000000 in
theorem New_bad (b off cap : Nat) (l : List Lim) (w : World) (hl : LimsAt w b off l) (hn : l.length ≤ 16) (j0 : Nat) (hj0 : j0 < l.length) (hk : LimsOk (l.take j0)) (hbad : ∀ x, l[j0]? = some x → x.ok = false) :
    Calls Try.prog 9 #[.slice (some ⟨b, off, none⟩) l.length cap] w fun e w' => e = .returned (.tuple #[.pointer none, .int .i64 1]) ∧ Below w.heap.size w w' := by
  have hmm := @run_makeMap Try.prog
  have HL : Hid (LimsAt w b off l ∧ LimsOk (l.take j0)) := ⟨hl, hk⟩
  have HBad : Hid (∀ x, l[j0]? = some x → x.ok = false) := hbad
  clear hl hk hbad
  have hn' : ¬ (16 : Int) < (l.length : Int) := by omega
  have HG0 : Hid (GdAt (((w.alloc (.map #[] 0)).alloc (.map #[] 0)).alloc (.cells #[.map (some w.heap.size), .map (some (w.heap.size + 1))] 63)) ⟨w.heap.size + 1 + 1, w.heap.size, w.heap.size + 1, [], []⟩ ∧ Below w.heap.size w (((w.alloc (.map #[] 0)).alloc (.map #[] 0)).alloc (.cells #[.map (some w.heap.size), .map (some (w.heap.size + 1))] 63))) := by
    refine ⟨⟨Blk.new' _ _ _ (by simp), ((MapL.made Try.prog w 9).alloc _).alloc _, ?_, fun a ha => (List.not_mem_nil ha).elim, fun o ho => (List.not_mem_nil ho).elim, by simp, fun a ha => (List.not_mem_nil ha).elim, List.Pairwise.nil⟩, ((((Below.refl _ w).alloc (Nat.le_refl _) _).alloc (by simp) _).alloc (by simp; omega) _)⟩
    have := (MapL.made Try.prog (w.alloc (.map #[] 0)) 3).alloc (.cells #[.map (some w.heap.size), .map (some (w.heap.size + 1))] 63)
    simpa using this
  go_enter Try.func9, Try.ntmps9
  go_upto_region 4 with fail
  generalize (((w.alloc (.map #[] 0)).alloc (.map #[] 0)).alloc (.cells #[.map (some w.heap.size), .map (some (w.heap.size + 1))] 63)) = W at *
  go_wp2
  go_loopw [18] (fun i wr => ∃ (k : Nat) (A : List Ac), k ≤ j0 ∧ i = .int .i64 k ∧ Hid (GdAt wr ⟨w.heap.size + 1 + 1, w.heap.size, w.heap.size + 1, A, []⟩ ∧ Fresh w.heap.size (l.take k) ⟨w.heap.size + 1 + 1, w.heap.size, w.heap.size + 1, A, []⟩ ∧ Below w.heap.size w wr)) (fun i _ => j0 - (intOf i).toNat)
  case atStart => exact ⟨0, [], by omega, rfl, HG0.out.1, ⟨rfl, fun j x hj => by simp at hj, rfl, ⟨by show w.heap.size ≤ w.heap.size + 1 + 1; omega, Nat.le_refl _, Nat.le_succ _⟩⟩, HG0.out.2⟩
  case round =>
    obtain ⟨k, A, hk, rfl, HI⟩ := hrel
    by_cases hlt0 : k < j0
    · have hlt : k < l.length := by omega
      have hlt' : (k : Int) < (l.length : Int) := by omega
      obtain ⟨x, hx⟩ : ∃ x, l[k]? = some x := ⟨l[k], List.getElem?_eq_getElem hlt⟩
      have hxm : x ∈ l.take j0 := List.mem_of_getElem? (i := k) (by rw [List.getElem?_take_of_lt hlt0]; exact hx)
      have hok := HL.out.2.ok x hxm
      obtain ⟨q0, q1, q2, q3, q4, q5⟩ := HL.out.1 k x hx
      have hbl : b < w.heap.size := World.block_lt_of_cell? _ _ q0
      have m0 := HI.out.2.2.cell (p := ⟨b, off + k * 6, none⟩) hbl
      have m1 := HI.out.2.2.cell (p := ⟨b, off + k * 6 + 1, none⟩) hbl
      have m2 := HI.out.2.2.cell (p := ⟨b, off + k * 6 + 2, none⟩) hbl
      have m3 := HI.out.2.2.cell (p := ⟨b, off + k * 6 + 3, none⟩) hbl
      have m4 := HI.out.2.2.cell (p := ⟨b, off + k * 6 + 4, none⟩) hbl
      have m5 := HI.out.2.2.cell (p := ⟨b, off + k * 6 + 5, none⟩) hbl
      rw [q0] at m0; rw [q1] at m1; rw [q2] at m2; rw [q3] at m3; rw [q4] at m4; rw [q5] at m5
      have HX : Hid (x.ok = true ∧ l[k]? = some x ∧ x ∈ l.take j0) := ⟨hok, hx, hxm⟩
      have hsz : x.nm.size ≤ maxLen := by have := Lim.small hok; unfold maxLen; omega
      have HNO : Hid (∀ y ∈ A, (y.nm.toList == x.nm.toList) = false) := fun y hy => by
        obtain ⟨j, hj⟩ := List.mem_iff_getElem?.1 hy
        have hjl : j < (l.take k).length := by rw [← HI.out.2.1.len]; exact (List.getElem?_eq_some_iff.1 hj).1
        have hjk : j < k := by rw [List.length_take] at hjl; omega
        have hje : (l.take k)[j]? = some l[j] := by rw [List.getElem?_take_of_lt hjk]; exact List.getElem?_eq_getElem (by omega)
        obtain ⟨b1, m1, e, _⟩ := HI.out.2.1.ac j _ hje
        have e' : y = l[j].ac b1 m1 := by have := hj.symm.trans e; injection this
        rw [e']
        have hjl2 : j < (l.take j0).length := by rw [List.length_take]; omega
        have hkl2 : k < (l.take j0).length := by rw [List.length_take]; omega
        have hp := List.pairwise_iff_getElem.1 HL.out.2.apart j k hjl2 hkl2 hjk
        have hxe : (l.take j0)[k] = x := by have := (List.getElem?_eq_getElem hkl2).symm.trans ((List.getElem?_take_of_lt hlt0).trans hx); injection this
        have hje2 : (l.take j0)[j] = l[j] := by rw [List.getElem_take]
        rw [hxe, hje2] at hp
        exact hp
      have HKA : Hid (∀ w, Calls Try.prog 19 #[.agg #[.string x.nm, .int .i64 x.od, .int .i64 x.op, .int .i64 x.po, .int .i64 x.bu, .int .i64 x.pe]] w fun e w' => e = .returned (.bool true) ∧ Below w.heap.size w w') := fun w => by
        have := isAccount_any x.nm x.od x.op x.po x.bu x.pe w
        rw [show isaB x.nm x.od x.op x.po x.bu x.pe = true from hok] at this
        exact this
      have HKN : Hid (∀ w, Calls Try.prog 20 #[.agg #[.string x.nm, .int .i64 x.od, .int .i64 x.op, .int .i64 x.po, .int .i64 x.bu, .int .i64 x.pe]] w fun e w' => e = .returned (.pointer (some ⟨w.heap.size + 2, 0, none⟩)) ∧ AcAt w' (x.ac (w.heap.size + 2) (w.heap.size + 1)) ∧ Below w.heap.size w w' ∧ w'.heap.size = w.heap.size + 3) := fun w => newAccount_any x w hok
      clear hok hx hxm q0 q1 q2 q3 q4 q5 hbl
      go_upto_region 7 with fail
      have HX1 : Hid (Below wr.heap.size wr (wr.alloc (.cells #[.string x.nm, .int .i64 x.od, .int .i64 x.op, .int .i64 x.po, .int .i64 x.bu, .int .i64 x.pe] 30)) ∧ Blk (wr.alloc (.cells #[.string x.nm, .int .i64 x.od, .int .i64 x.op, .int .i64 x.po, .int .i64 x.bu, .int .i64 x.pe] 30)) wr.heap.size 30 #[.string x.nm, .int .i64 x.od, .int .i64 x.op, .int .i64 x.po, .int .i64 x.bu, .int .i64 x.pe]) := ⟨(Below.refl _ wr).alloc (Nat.le_refl _) _, Blk.new _ _ _⟩
      clear m0 m1 m2 m3 m4 m5
      generalize (wr.alloc (.cells #[.string x.nm, .int .i64 x.od, .int .i64 x.op, .int .i64 x.po, .int .i64 x.bu, .int .i64 x.pe] 30)) = X1 at *
      have HS : Hid (∀ w', Below X1.heap.size X1 w' → w'.cell? ⟨w.heap.size + 1 + 1, 0, none⟩ = some (.map (some w.heap.size)) ∧ w'.cell? ⟨wr.heap.size, 0, none⟩ = some (.string x.nm) ∧ w'.cell? ⟨wr.heap.size, 1, none⟩ = some (.int .i64 x.od) ∧ w'.cell? ⟨wr.heap.size, 2, none⟩ = some (.int .i64 x.op) ∧ w'.cell? ⟨wr.heap.size, 3, none⟩ = some (.int .i64 x.po) ∧ w'.cell? ⟨wr.heap.size, 4, none⟩ = some (.int .i64 x.bu) ∧ w'.cell? ⟨wr.heap.size, 5, none⟩ = some (.int .i64 x.pe)) := fun w' hb => by
        have b1 := HX1.out.2.below hb HX1.out.2.lt
        have g1 := (HI.out.1.below (below_step HX1.out.1 hb)).blk
        exact ⟨g1.cell 0, b1.cell 0, b1.cell 1, b1.cell 2, b1.cell 3, b1.cell 4, b1.cell 5⟩
      obtain ⟨d0, e0, e1, e2, e3, e4, e5⟩ := HS.out X1 (Below.refl _ _)
      go_wp2_with (go_at_call 19; fail)
      refine (HKA.out _).mono ?_
      rintro e X2 ⟨rfl, hb2⟩
      clear d0 e0 e1 e2 e3 e4 e5
      have HB2 : Hid (Below X1.heap.size X1 X2) := hb2
      clear hb2
      obtain ⟨d0, e0, e1, e2, e3, e4, e5⟩ := HS.out X2 HB2.out
      have hlk : ∀ n, Sem.run Try.prog (Instr.lookup 60 (.map (some w.heap.size)) (.string x.nm) true) (X2.drewN n) = .ok (.tuple #[.pointer none, .bool false]) (X2.drewN n) := fun n => by
        have g2 := HI.out.1.below (below_step HX1.out.1 (below_drewN HB2.out n))
        refine look_none g2 hsz ?_
        unfold Gd.acc
        rw [List.find?_eq_none]
        intro y hy
        rw [HNO.out y hy]; simp
      go_upto_region 9 with fail
      go_quiet (fail)
      have HB3 : Hid (Below X1.heap.size X1 (X2.drewN nq)) := below_drewN HB2.out nq
      clear hlk d0 e0 e1 e2 e3 e4 e5 HB2
      generalize X2.drewN nq = X3 at *
      go_upto_region 12 with fail
      have hBx : Below X1.heap.size X1 X3.drew := ⟨HB3.out.os, HB3.out.tape, HB3.out.output, HB3.out.size, HB3.out.block⟩
      have HG3 : Hid (∀ w', Below X1.heap.size X1 w' → GdAt w' ⟨w.heap.size + 1 + 1, w.heap.size, w.heap.size + 1, A, []⟩) := fun w' hb => HI.out.1.below (below_step HX1.out.1 hb)
      have hAl : (A.map Ac.ent).length < maxLen := by
        have := HI.out.2.1.len
        rw [List.length_take] at this
        simp only at this
        rw [List.length_map]; unfold maxLen; omega
      have hkey : keyOf Try.prog 9 (.string x.nm) = some (sK x.nm) := keyS Try.underlying9 hsz
      have HS9 : Hid (∀ w8 w', Below X1.heap.size X1 w8 → Fr w8 w' (fun x => x = w.heap.size) → w'.cell? ⟨w.heap.size + 1 + 1, 0, none⟩ = some (.map (some w.heap.size)) ∧ w'.cell? ⟨wr.heap.size, 0, none⟩ = some (.string x.nm) ∧ w'.cell? ⟨wr.heap.size, 1, none⟩ = some (.int .i64 x.od) ∧ w'.cell? ⟨wr.heap.size, 2, none⟩ = some (.int .i64 x.op) ∧ w'.cell? ⟨wr.heap.size, 3, none⟩ = some (.int .i64 x.po) ∧ w'.cell? ⟨wr.heap.size, 4, none⟩ = some (.int .i64 x.bu) ∧ w'.cell? ⟨wr.heap.size, 5, none⟩ = some (.int .i64 x.pe)) := fun w8 w' hb hf => by
        have g8 := HG3.out w8 hb
        obtain ⟨d0, e0, e1, e2, e3, e4, e5⟩ := HS.out w8 hb
        have n1 : w.heap.size + 1 + 1 ≠ w.heap.size := by omega
        have n2 : wr.heap.size ≠ w.heap.size := fun e => by
          have := HX1.out.2.below hb HX1.out.2.lt
          exact g8.accs.ne_blk this e.symm
        exact ⟨hf.cell d0 n1, hf.cell e0 n2, hf.cell e1 n2, hf.cell e2 n2, hf.cell e3 n2, hf.cell e4 n2, hf.cell e5 n2⟩
      go_region_held (fun w' => w'.cell? ⟨w.heap.size + 1 + 1, 0, none⟩ = some (.map (some w.heap.size)) ∧ w'.cell? ⟨wr.heap.size, 0, none⟩ = some (.string x.nm) ∧ w'.cell? ⟨wr.heap.size, 1, none⟩ = some (.int .i64 x.od) ∧ w'.cell? ⟨wr.heap.size, 2, none⟩ = some (.int .i64 x.op) ∧ w'.cell? ⟨wr.heap.size, 3, none⟩ = some (.int .i64 x.po) ∧ w'.cell? ⟨wr.heap.size, 4, none⟩ = some (.int .i64 x.bu) ∧ w'.cell? ⟨wr.heap.size, 5, none⟩ = some (.int .i64 x.pe)) (first | exact hS9 | exact HS.out _ hB8 | exact HS.out _ hBx) (first | (go_at_call 20; refine (HKN.out _).mono ?_; rintro e w8 ⟨rfl, hA8, hb8, hz8⟩; have hB8 : Below X1.heap.size X1 w8 := below_step hBx hb8; obtain ⟨w9, hrun9, hm9, hf9, hz9⟩ := (HG3.out w8 hB8).accs.store law9 Try.underlying60 hAl (val := .pointer (some ⟨X3.heap.size + 2, 0, none⟩)) hkey; have hS9 := HS9.out w8 w9 hB8 hf9) | fail)
      have HN : Hid (GdAt w9 ⟨w.heap.size + 1 + 1, w.heap.size, w.heap.size + 1, A ++ [x.ac (X3.heap.size + 2) (X3.heap.size + 1)], []⟩ ∧ Fresh w.heap.size (l.take (k + 1)) ⟨w.heap.size + 1 + 1, w.heap.size, w.heap.size + 1, A ++ [x.ac (X3.heap.size + 2) (X3.heap.size + 1)], []⟩ ∧ Below w.heap.size w w9) := by
        have b1 : Below w.heap.size w X1 := below_step HI.out.2.2 HX1.out.1
        have b3 : Below w.heap.size w X3 := below_step b1 HB3.out
        have b8 : Below w.heap.size w w8 := below_step b1 hB8
        refine ⟨?_, ?_, ?_⟩
        · exact GdAt.more (w := X3) (w1 := w8) (G := ⟨w.heap.size + 1 + 1, w.heap.size, w.heap.size + 1, A, []⟩) (a := x.ac (X3.heap.size + 2) (X3.heap.size + 1)) (HG3.out X3 HB3.out) ⟨hb8.os, hb8.tape, hb8.output, hb8.size, hb8.block⟩ hA8 (by show X3.heap.size ≤ X3.heap.size + 2; omega) (by show X3.heap.size ≤ X3.heap.size + 1; omega) HNO.out hf9 hm9
        · have hf := HI.out.2.1
          have hln := hf.len
          have htk : l.take (k + 1) = l.take k ++ [x] := by rw [List.take_add_one, HX.out.2.1]; rfl
          rw [htk]
          refine ⟨by show (A ++ [_]).length = _; rw [List.length_append, List.length_append]; simp only at hln; rw [hln]; rfl, fun j y hy => ?_, rfl, hf.g⟩
          show ∃ b m, (A ++ [_])[j]? = _ ∧ _
          rw [List.getElem?_append] at hy ⊢
          simp only at hln
          rw [hln]
          split at hy
          · rename_i hjl
            rw [if_pos hjl]
            exact hf.ac j y hy
          · rename_i hjl
            rw [if_neg hjl]
            have h0 : j - (l.take k).length = 0 := by
              rcases Nat.eq_zero_or_pos (j - (l.take k).length) with h | h
              · exact h
              · rw [List.getElem?_eq_none (by show 1 ≤ _; exact h)] at hy; cases hy
            rw [h0] at hy ⊢
            have hy' : y = x := by simpa using hy.symm
            rw [hy']
            exact ⟨X3.heap.size + 2, X3.heap.size + 1, rfl, by have := b3.size; omega, by have := b3.size; omega⟩
        · exact ⟨hf9.os.trans b8.os, hf9.tape.trans b8.tape, hf9.output.trans b8.output, Nat.le_trans b8.size hf9.size, fun q hq => (hf9.block q (Nat.lt_of_lt_of_le hq b8.size) (by omega)).trans (b8.block q hq)⟩
      clear hm9 hf9 hB8 hb8 hrun9 hS9 hA8 hz8 hz9
      go_wp2
      exact ⟨⟨k + 1, _, by omega, by go_num, HN⟩, by simp [intOf]; omega⟩
    · obtain rfl : k = j0 := by omega
      have hlt : k < l.length := hj0
      have hlt' : (k : Int) < (l.length : Int) := by omega
      obtain ⟨x, hx⟩ : ∃ x, l[k]? = some x := ⟨l[k], List.getElem?_eq_getElem hlt⟩
      have hok := HBad.out x hx
      obtain ⟨q0, q1, q2, q3, q4, q5⟩ := HL.out.1 k x hx
      have hbl : b < w.heap.size := World.block_lt_of_cell? _ _ q0
      have m0 := HI.out.2.2.cell (p := ⟨b, off + k * 6, none⟩) hbl
      have m1 := HI.out.2.2.cell (p := ⟨b, off + k * 6 + 1, none⟩) hbl
      have m2 := HI.out.2.2.cell (p := ⟨b, off + k * 6 + 2, none⟩) hbl
      have m3 := HI.out.2.2.cell (p := ⟨b, off + k * 6 + 3, none⟩) hbl
      have m4 := HI.out.2.2.cell (p := ⟨b, off + k * 6 + 4, none⟩) hbl
      have m5 := HI.out.2.2.cell (p := ⟨b, off + k * 6 + 5, none⟩) hbl
      rw [q0] at m0; rw [q1] at m1; rw [q2] at m2; rw [q3] at m3; rw [q4] at m4; rw [q5] at m5
      have HKA : Hid (∀ w, Calls Try.prog 19 #[.agg #[.string x.nm, .int .i64 x.od, .int .i64 x.op, .int .i64 x.po, .int .i64 x.bu, .int .i64 x.pe]] w fun e w' => e = .returned (.bool false) ∧ Below w.heap.size w w') := fun w => by
        have := isAccount_any x.nm x.od x.op x.po x.bu x.pe w
        rw [show isaB x.nm x.od x.op x.po x.bu x.pe = false from hok] at this
        exact this
      clear hok hx q0 q1 q2 q3 q4 q5 hbl
      go_upto_region 7 with fail
      have HX1 : Hid (Below wr.heap.size wr (wr.alloc (.cells #[.string x.nm, .int .i64 x.od, .int .i64 x.op, .int .i64 x.po, .int .i64 x.bu, .int .i64 x.pe] 30)) ∧ Blk (wr.alloc (.cells #[.string x.nm, .int .i64 x.od, .int .i64 x.op, .int .i64 x.po, .int .i64 x.bu, .int .i64 x.pe] 30)) wr.heap.size 30 #[.string x.nm, .int .i64 x.od, .int .i64 x.op, .int .i64 x.po, .int .i64 x.bu, .int .i64 x.pe]) := ⟨(Below.refl _ wr).alloc (Nat.le_refl _) _, Blk.new _ _ _⟩
      clear m0 m1 m2 m3 m4 m5
      generalize (wr.alloc (.cells #[.string x.nm, .int .i64 x.od, .int .i64 x.op, .int .i64 x.po, .int .i64 x.bu, .int .i64 x.pe] 30)) = X1 at *
      have e0 := HX1.out.2.cell 0
      have e1 := HX1.out.2.cell 1
      have e2 := HX1.out.2.cell 2
      have e3 := HX1.out.2.cell 3
      have e4 := HX1.out.2.cell 4
      have e5 := HX1.out.2.cell 5
      simp only [List.getElem?_toArray, List.getElem?_cons_succ, List.getElem?_cons_zero] at e0 e1 e2 e3 e4 e5
      go_wp2_with (go_at_call 19; fail)
      refine (HKA.out _).mono ?_
      rintro e X2 ⟨rfl, hb2⟩
      have HB : Hid (Below w.heap.size w X2) := below_step (below_step HI.out.2.2 HX1.out.1) hb2
      clear hb2
      go_wp2
      go_ret2
      exact ⟨rfl, HB.out⟩
end Go.Proofs.Ytgioknkfppaaaaa
