/-
  risk: how far a position could go; is an order above a limit?
-/
import Derived.Test.YtgioknkfppaaaaaGSum
namespace Go.Proofs.Ytgioknkfppaaaaa
set_option linter.unusedVariables false
set_option linter.unusedSimpArgs false
open Go.RowKit Go.Great Go.Maps

def rcC (o : Ord) (x : Oo) : Bool := (((!(x.id == o.id) && (x.ac.toList == o.ac.toList)) && (x.sy.toList == o.sy.toList)) && x.sd == o.sd)
theorem rcL_app (l k : List Oo) (o : Ord) : rcL (l ++ k) o = rcL l o ++ rcL k o := by simp [rcL]
theorem rcL_one (o : Ord) (x : Oo) : rcL [x] o = if rcC o x then [x] else [] := by
  show List.filter (fun x => rcC o x) [x] = _
  simp only [List.filter_cons, List.filter_nil]
theorem rcL_perm {O O' : List Oo} (h : O.Perm O') (o : Ord) : (rcL O o).Perm (rcL O' o) := h.filter _
set_option maxRecDepth 100000 in
set_option maxHeartbeats 1000000 in
theorem reach_any (G : Gd) (a : Ac) (o : Ord) (w : World) (h : GdAt w G) (ha : AcAt w a) (hsy : o.sy.size ≤ maxLen) :
    Calls Try.prog 42 #[.pointer (some ⟨G.g, 0, none⟩), .pointer (some ⟨a.blk, 0, none⟩), .agg o.cs] w fun e w' => e = .returned (.int .i64 (rcI a G.O o)) ∧ Below w.heap.size w w' := by
  have HP : Hid (-1000000000000000000 ≤ posI a o.sy ∧ posI a o.sy ≤ 1000000000000000000) := posI_bd ha.ok o.sy
  have hkey : keyOf Try.prog 9 (.string o.sy) = some (sK o.sy) := keyS Try.underlying9 hsy
  have hlk0 := fun (w' : World) (hb : Below w.heap.size w w') => (ha.mp.keep (hb.block a.mp ha.mp.lt)).look law9 Try.underlying70 (zero2 w') hkey
  have HL : Hid (∀ (w' : World), Below w.heap.size w w' → Sem.run Try.prog (Instr.lookup 70 (.map (some a.mp)) (.string o.sy) false) w' = .ok (.int .i64 (posI a o.sy)) w') := fun w' hb => by rw [(hlk0 w' hb).2, getD_pos]
  have HA8 : Hid (∀ (w' : World), Below w.heap.size w w' → w'.cell? ⟨a.blk, 8, none⟩ = some (.map (some a.mp))) := fun w' hb => by
    rw [hb.cell (p := ⟨a.blk, 8, none⟩) ha.blk.lt, ha.blk.cell 8]; rfl
  have HV : Hid (rcI a G.O o = clI ((if o.sd = 2 then -posI a o.sy else posI a o.sy) + min (sumQ (rcL G.O o)) 1000000000000000000)) := rfl
  have HB0 : Hid (Below w.heap.size w (w.alloc (.cells o.cs 35)) ∧ Blk (w.alloc (.cells o.cs 35)) w.heap.size 35 o.cs ∧ GdAt (w.alloc (.cells o.cs 35)) G ∧ w.heap.size < (w.alloc (.cells o.cs 35)).heap.size) := ⟨(Below.refl _ w).alloc (Nat.le_refl _) _, Blk.new _ _ _, h.below ((Below.refl _ w).alloc (Nat.le_refl _) _), by simp⟩
  generalize posI a o.sy = p0 at *
  generalize rcI a G.O o = R at *
  clear hlk0 h ha hsy hkey
  generalize a.blk = ab at *
  generalize a.mp = am at *
  have HO : Hid (∃ o', o' = o) := ⟨o, rfl⟩
  generalize hocs : o.cs = ocs at *
  obtain rfl : ocs = #[.int .i64 o.id, .string o.nm, .string o.ac, .string o.sy, .int .i64 o.sd, .int .i64 o.ty, .int .i64 o.lf, .int .i64 o.pr, .int .i64 o.sp, .int .i64 o.q, .int .i64 o.sh, .int .i64 o.dn, .int .i64 o.le, .int .i64 o.un, .int .i64 o.ow] := hocs.symm
  clear hocs
  go_enter Try.func42, Try.ntmps42
  go_upto_region 1 with fail
  generalize hW : (w.alloc (.cells #[.int .i64 o.id, .string o.nm, .string o.ac, .string o.sy, .int .i64 o.sd, .int .i64 o.ty, .int .i64 o.lf, .int .i64 o.pr, .int .i64 o.sp, .int .i64 o.q, .int .i64 o.sh, .int .i64 o.dn, .int .i64 o.le, .int .i64 o.un, .int .i64 o.ow] 35)) = W at *
  clear hW
  have c1 := HB0.out.2.2.1.blk.cell 1
  have HM : Hid (MapL Try.prog W 3 G.mo (G.O.map Oo.ent)) := HB0.out.2.2.1.opens
  have HK : Hid (∀ o ∈ G.O, o.ok) := HB0.out.2.2.1.ook
  have HC : Hid (∀ (w' : World), Below W.heap.size W w' → w'.cell? ⟨w.heap.size, 0, none⟩ = some (.int .i64 o.id) ∧ w'.cell? ⟨w.heap.size, 2, none⟩ = some (.string o.ac) ∧ w'.cell? ⟨w.heap.size, 3, none⟩ = some (.string o.sy) ∧ w'.cell? ⟨w.heap.size, 4, none⟩ = some (.int .i64 o.sd)) := fun w' hb => by
    have hblk : Blk w' w.heap.size 35 _ := HB0.out.2.1.below hb HB0.out.2.2.2
    exact ⟨hblk.cell 0, hblk.cell 2, hblk.cell 3, hblk.cell 4⟩
  simp only [List.getElem?_toArray, List.getElem?_cons_succ, List.getElem?_cons_zero] at c1
  have HBw : Hid (∀ w', Below W.heap.size W w' → Below w.heap.size w w') := fun w' hb => ⟨hb.os.trans HB0.out.1.os, hb.tape.trans HB0.out.1.tape, hb.output.trans HB0.out.1.output, Nat.le_trans HB0.out.1.size hb.size, fun b hb' => (hb.block b (by have := HB0.out.1.size; omega)).trans (HB0.out.1.block b hb')⟩
  have HZ : Hid (w.heap.size < W.heap.size) := HB0.out.2.2.2
  clear HB0
  generalize G.O = O at *
  generalize G.mo = mo at *
  generalize G.g = g at *
  go_wp2_with (at_range; refine wpL_range _ rfl _ 61 rfl 3 77 law3 Try.underlying61 mo (O.map Oo.ent) rfl HM.out ?_; intro w1 hr1 hb1 hs1)
  go_frame
  have HR1 : Hid (RgL Try.prog w1 3 mo W.heap.size (O.map Oo.ent) (O.map Oo.ent) ∧ Below W.heap.size W w1) := ⟨hr1, hb1⟩
  clear hr1 hb1
  go_loopw [7] (fun t wr => ∃ T D, O.Perm (D ++ T) ∧ t = .int .i64 (min (sumQ (rcL D o)) 1000000000000000000) ∧ RgL Try.prog wr 3 mo W.heap.size (O.map Oo.ent) (T.map Oo.ent) ∧ Below W.heap.size W wr) (fun _ wr => wr.rangeLeft mo W.heap.size)
  case atStart => exact ⟨O, [], by simp, by rfl, HR1.out⟩
  case round =>
    obtain ⟨T, D, hp, rfl, hr, hb⟩ := hrel
    have HH : Hid (O.Perm (D ++ T) ∧ RgL Try.prog wr 3 mo W.heap.size (O.map Oo.ent) (T.map Oo.ent) ∧ Below W.heap.size W wr) := ⟨hp, hr, hb⟩
    clear hp hr hb
    have HS : Hid (0 ≤ sumQ (rcL D o)) := sumQ_nonneg fun o ho => HK.out o (HH.out.1.mem_iff.2 (List.mem_append_left _ (List.mem_filter.1 ho).1))
    have hmn : 0 ≤ min (sumQ (rcL D o)) 1000000000000000000 ∧ min (sumQ (rcL D o)) 1000000000000000000 ≤ 1000000000000000000 := by have := HS.out; omega
    generalize hm : min (sumQ (rcL D o)) 1000000000000000000 = m at *
    have HMm : Hid (min (sumQ (rcL D o)) 1000000000000000000 = m) := hm
    clear hm
    go_wp2_with (at_next; refine wpL_nextF _ Oo.ent (fun x => .int .i64 x.id) (fun x => .agg #[.string x.ac, .string x.sy, .int .i64 x.sd, .int .i64 x.q, .int .i64 x.v]) (fun _ => rfl) rfl _ rfl 3 law3 ent_key mo W.heap.size (O.map Oo.ent) T rfl HH.out.2.1 ?_ ?_)
    · intro hT
      have HT : Hid (T = []) := hT
      clear hT
      have hq : min (sumQ (rcL O o)) 1000000000000000000 = m := by
        have hp := HH.out.1
        rw [HT.out, List.append_nil] at hp
        rw [← HMm.out, sumQ_perm (rcL_perm hp o)]
      rw [hq] at HV
      have hlk := fun n => HL.out (wr.drewN n) (below_drewN (HBw.out wr HH.out.2.2) n)
      have c8 := HA8.out wr (HBw.out wr HH.out.2.2)
      obtain ⟨_, _, d3, d4⟩ := HC.out wr HH.out.2.2
      have HBz : Hid (Below w.heap.size w wr) := HBw.out wr HH.out.2.2
      clear hq HMm HS
      have hP := HP.out
      have hsum1 := fun w => sum_any p0 m w (by omega) (by omega) (by omega) (by omega)
      have hsum2 : ∀ w, Calls Try.prog 41 #[.int .i64 (wrap64 (-p0)), .int .i64 m] w fun e w' => e = .returned (.int .i64 (clI (-p0 + m))) ∧ w' = w := by
        rw [show wrap64 (-p0) = -p0 by unfold wrap64; omega]
        exact fun w => sum_any (-p0) m w (by omega) (by omega) (by omega) (by omega)
      clear hP hmn
      by_cases hsd : o.sd = 2
      · rw [if_pos hsd] at HV
        have hs2 : (o.sd == 2) = true := by simp [hsd]
        clear hsd
        go_upto_region 7 with fail
        go_quiet (fail)
        go_wp2_with (go_at_call 41; fail)
        refine (hsum2 _).mono ?_
        rintro e w3 ⟨rfl, rfl⟩
        go_wp2
        go_ret
        exact ⟨ret_int HV.out.symm, below_drewN HBz.out _⟩
      · rw [if_neg hsd] at HV
        have hs2 : (o.sd == 2) = false := by simp [hsd]
        clear hsd
        go_upto_region 7 with fail
        go_quiet (fail)
        go_wp2_with (go_at_call 41; fail)
        refine (hsum1 _).mono ?_
        rintro e w3 ⟨rfl, rfl⟩
        go_wp2
        go_ret
        exact ⟨ret_int HV.out.symm, below_drewN HBz.out _⟩
    · intro x T' w2 hx hpm hrg hlt hfr hsz hen
      have hok : x.ok := HK.out x (HH.out.1.mem_iff.2 (List.mem_append_right _ hx))
      have hb2 : Below W.heap.size W w2 := ⟨hfr.os.trans HH.out.2.2.os, hfr.tape.trans HH.out.2.2.tape, hfr.output.trans HH.out.2.2.output, Nat.le_trans HH.out.2.2.size hfr.size, fun b hb => (hfr.block b (Nat.lt_of_lt_of_le hb HH.out.2.2.size) (by omega)).trans (HH.out.2.2.block b hb)⟩
      have HX : Hid (O.Perm ((D ++ [x]) ++ T') ∧ RgL Try.prog w2 3 mo W.heap.size (O.map Oo.ent) (T'.map Oo.ent) ∧ w2.rangeLeft mo W.heap.size < wr.rangeLeft mo W.heap.size ∧ Below W.heap.size W w2) := ⟨perm_move HH.out.1 hpm, hrg, hlt, hb2⟩
      have HXL : Hid (rcL (D ++ [x]) o = rcL D o ++ if rcC o x then [x] else []) := by
        show _ = _
        rw [rcL_app, rcL_one]
      have HRC : Hid (rcC o x = (((!(x.id == o.id) && (x.ac.toList == o.ac.toList)) && (x.sy.toList == o.sy.toList)) && x.sd == o.sd)) := rfl
      have hv := hok.q
      have HAl : Hid (∀ c : Obj, Below W.heap.size W (w2.alloc c)) := fun c => hb2.alloc hb2.size _
      clear hx hpm hrg hlt hfr hok hb2
      generalize hxid : x.id = xid at *
      generalize hxac : x.ac = xac at *
      generalize hxsy : x.sy = xsy at *
      generalize hxsd : x.sd = xsd at *
      generalize hxq : x.q = xq at *
      have HE : Hid (x.q = xq) := hxq
      clear hxid hxac hxsy hxsd hxq
      generalize x.v = xv at *
      have hsum := fun w => sum_any m xq w (by omega) (by omega) (by omega) (by omega)
      have HCl : Hid (clI (m + xq) = min (sumQ (rcL D o) + xq) 1000000000000000000) := by
        show _ = _
        rw [← HMm.out]; exact clI_add HS.out (by omega)
      clear hv
      generalize clI (m + xq) = m1 at *
      have HF : Hid (∀ (m' : Int) (c : Obj), m' = min (sumQ (rcL (D ++ [x]) o)) 1000000000000000000 → (∃ T D, O.Perm (D ++ T) ∧ Value.int .i64 m' = .int .i64 (min (sumQ (rcL D o)) 1000000000000000000) ∧ RgL Try.prog (w2.alloc c) 3 mo W.heap.size (O.map Oo.ent) (T.map Oo.ent) ∧ Below W.heap.size W (w2.alloc c)) ∧ (w2.alloc c).rangeLeft mo W.heap.size < wr.rangeLeft mo W.heap.size) := fun m' c e => ⟨⟨T', D ++ [x], HX.out.1, vint e, HX.out.2.1.fr (Fr.alloc w2 c (fun _ => False)) id id, HX.out.2.2.2.alloc (HX.out.2.2.2.size) _⟩, by rw [HX.out.2.1.left_fr (Fr.alloc w2 c (fun _ => False)) id id]; exact HX.out.2.2.1⟩
      obtain ⟨d0, d2, d3, d4⟩ := HC.out _ (HAl.out (.cells #[.string xac, .string xsy, .int .i64 xsd, .int .i64 xq, .int .i64 xv] 77))
      generalize rcC o x = C at *
      cases hi : (xid == o.id)
      · have hi' : (xid != o.id) = true := by simp [bne, hi]
        rw [hi] at HRC
        cases ha : (xac.toList == o.ac.toList)
        · rw [ha] at HRC
          go_wp2
          refine HF.out _ _ ?_
          rw [HXL.out, ← HMm.out, HRC.out, if_neg (by simp), List.append_nil]
        · rw [ha] at HRC
          cases hy : (xsy.toList == o.sy.toList)
          · rw [hy] at HRC
            go_wp2
            refine HF.out _ _ ?_
            rw [HXL.out, ← HMm.out, HRC.out, if_neg (by simp), List.append_nil]
          · rw [hy] at HRC
            cases hd : (xsd == o.sd)
            · rw [hd] at HRC
              go_wp2
              refine HF.out _ _ ?_
              rw [HXL.out, ← HMm.out, HRC.out, if_neg (by simp), List.append_nil]
            · rw [hd] at HRC
              go_wp2_with (go_at_call 41; fail)
              refine (hsum _).mono ?_
              rintro e w3 ⟨rfl, rfl⟩
              go_wp2
              refine HF.out _ _ ?_
              rw [HXL.out, HCl.out, HRC.out, if_pos (by decide), sumQ_app, sumQ_cons, HE.out]
              simp [sumQ]
      · have hi' : (xid != o.id) = false := by simp [bne, hi]
        rw [hi] at HRC
        go_wp2
        refine HF.out _ _ ?_
        rw [HXL.out, ← HMm.out, HRC.out, if_neg (by simp), List.append_nil]
end Go.Proofs.Ytgioknkfppaaaaa
