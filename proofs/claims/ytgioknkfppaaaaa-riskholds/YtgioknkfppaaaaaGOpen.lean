/-
  risk: Open.
-/
import Derived.Test.YtgioknkfppaaaaaGFace
namespace Go.Proofs.Ytgioknkfppaaaaa
set_option linter.unusedVariables false
set_option linter.unusedSimpArgs false
open Go.RowKit Go.Great Go.Maps

def Ord.oo (o : Ord) (mark : Int) : Oo := ⟨o.id, o.ac, o.sy, o.sd, o.q, valI o mark⟩
set_option maxRecDepth 100000 in
set_option maxHeartbeats 1000000 in
theorem Open_yes (G : Gd) (o : Ord) (mark : Int) (w : World) (h : GdAt w G) (hac : o.ac.size ≤ maxLen) (hi : isoB o mark = true) (i0 : 1 ≤ o.id) (i1 : o.id ≤ 9223372036854775807) {a : Ac} (hn : G.acc o.ac = some a) (hat : ∀ x, G.at o.id = some x → x.ac = o.ac) (hl : G.O.length < maxLen) :
    Calls Try.prog 12 #[.pointer (some ⟨G.g, 0, none⟩), .agg o.cs, .int .i64 mark] w fun e w' => e = .returned (.int .i64 0) ∧ GdAt w' { G with O := o.oo mark :: doO G.O o.id } ∧ Fr w w' G.own := by
  have hidr : -9223372036854775808 ≤ o.id ∧ o.id ≤ 9223372036854775807 := by omega
  have HOK : Hid (Oo.ok (o.oo mark)) := by
    have hv := valI_bd hi
    unfold isoB at hi
    simp only [Bool.and_eq_true] at hi
    exact ⟨hidr, wiB_iff.1 hi.1.1.1, hv⟩
  have HW0 : Hid (Below w.heap.size w (w.alloc (.cells o.cs 35)) ∧ Blk (w.alloc (.cells o.cs 35)) w.heap.size 35 o.cs ∧ GdAt (w.alloc (.cells o.cs 35)) G) := ⟨(Below.refl _ w).alloc (Nat.le_refl _) _, Blk.new _ _ _, h.below ((Below.refl _ w).alloc (Nat.le_refl _) _)⟩
  have HIO : Hid (∀ w, Calls Try.prog 21 #[.agg o.cs, .int .i64 mark] w fun e w' => e = .returned (.bool (isoB o mark)) ∧ Below w.heap.size w w') := fun w => isOrder_any o mark w
  have HVO : Hid (∀ w, Calls Try.prog 25 #[.agg o.cs, .int .i64 mark] w fun e w' => e = .returned (.int .i64 (valI o mark)) ∧ Below w.heap.size w w') := fun w => valueOf_any o mark w hi
  have HOC : Hid (o.cs = #[.int .i64 o.id, .string o.nm, .string o.ac, .string o.sy, .int .i64 o.sd, .int .i64 o.ty, .int .i64 o.lf, .int .i64 o.pr, .int .i64 o.sp, .int .i64 o.q, .int .i64 o.sh, .int .i64 o.dn, .int .i64 o.le, .int .i64 o.un, .int .i64 o.ow]) := rfl
  rw [HOC.out] at HW0 HIO HVO ⊢
  rw [hi] at HIO
  have hkey := keyI hidr
  have HLA : Hid (∀ w', GdAt w' G → Sem.run Try.prog (Instr.lookup 60 (.map (some G.ma)) (.string o.ac) true) w' = .ok (.tuple #[.pointer (some ⟨a.blk, 0, none⟩), .bool true]) w') := fun w' hg => look_some hg hac hn
  have HLO : Hid (∀ w', GdAt w' G → Sem.run Try.prog (Instr.lookup 61 (.map (some G.mo)) (.int .i64 o.id) true) w' = .ok (.tuple #[.agg #[.string (vOo (G.at o.id)).ac, .string (vOo (G.at o.id)).sy, .int .i64 (vOo (G.at o.id)).sd, .int .i64 (vOo (G.at o.id)).q, .int .i64 (vOo (G.at o.id)).v], .bool (G.at o.id).isSome]) w') := fun w' hg => by rw [look_open hg hidr, vOo_val]
  have hsame : (G.at o.id).isSome = true → ((vOo (G.at o.id)).ac.toList == o.ac.toList) = true := fun hs => by
    cases hg : G.at o.id with
    | none => rw [hg] at hs; cases hs
    | some x => rw [← hat x hg]; exact str_self _
  generalize vOo (G.at o.id) = X at *
  obtain ⟨xid, xac, xsy, xsd, xq, xv⟩ := X
  simp only at HLO hsame
  have HL : Hid ((G.O.map Oo.ent).length < maxLen) := by rw [List.length_map]; exact hl
  clear h hi hat hn hl hac hidr
  generalize (G.at o.id).isSome = isS at *
  go_enter Try.func12, Try.ntmps12
  go_upto_region 1 with fail
  generalize hW : (w.alloc (.cells #[.int .i64 o.id, .string o.nm, .string o.ac, .string o.sy, .int .i64 o.sd, .int .i64 o.ty, .int .i64 o.lf, .int .i64 o.pr, .int .i64 o.sp, .int .i64 o.q, .int .i64 o.sh, .int .i64 o.dn, .int .i64 o.le, .int .i64 o.un, .int .i64 o.ow] 35)) = W at *
  clear hW
  have HS : Hid (∀ w', Below W.heap.size W w' → w'.cell? ⟨w.heap.size, 0, none⟩ = some (.int .i64 o.id) ∧ w'.cell? ⟨w.heap.size, 1, none⟩ = some (.string o.nm) ∧ w'.cell? ⟨w.heap.size, 2, none⟩ = some (.string o.ac) ∧ w'.cell? ⟨w.heap.size, 3, none⟩ = some (.string o.sy) ∧ w'.cell? ⟨w.heap.size, 4, none⟩ = some (.int .i64 o.sd) ∧ w'.cell? ⟨w.heap.size, 5, none⟩ = some (.int .i64 o.ty) ∧ w'.cell? ⟨w.heap.size, 6, none⟩ = some (.int .i64 o.lf) ∧ w'.cell? ⟨w.heap.size, 7, none⟩ = some (.int .i64 o.pr) ∧ w'.cell? ⟨w.heap.size, 8, none⟩ = some (.int .i64 o.sp) ∧ w'.cell? ⟨w.heap.size, 9, none⟩ = some (.int .i64 o.q) ∧ w'.cell? ⟨w.heap.size, 10, none⟩ = some (.int .i64 o.sh) ∧ w'.cell? ⟨w.heap.size, 11, none⟩ = some (.int .i64 o.dn) ∧ w'.cell? ⟨w.heap.size, 12, none⟩ = some (.int .i64 o.le) ∧ w'.cell? ⟨w.heap.size, 13, none⟩ = some (.int .i64 o.un) ∧ w'.cell? ⟨w.heap.size, 14, none⟩ = some (.int .i64 o.ow)) := fun w' hb => by
    have b1 := HW0.out.2.1.below hb HW0.out.2.1.lt
    exact ⟨b1.cell 0, b1.cell 1, b1.cell 2, b1.cell 3, b1.cell 4, b1.cell 5, b1.cell 6, b1.cell 7, b1.cell 8, b1.cell 9, b1.cell 10, b1.cell 11, b1.cell 12, b1.cell 13, b1.cell 14⟩
  obtain ⟨e0, e1, e2, e3, e4, e5, e6, e7, e8, e9, e10, e11, e12, e13, e14⟩ := HS.out W (Below.refl _ _)
  go_wp2_with (go_at_call 21; fail)
  refine (HIO.out _).mono ?_
  rintro e W1 ⟨rfl, hb1⟩
  have HB1 : Hid (Below W.heap.size W W1) := hb1
  have HG1 : Hid (GdAt W1 G) := HW0.out.2.2.below hb1
  clear hb1 e0 e1 e2 e3 e4 e5 e6 e7 e8 e9 e10 e11 e12 e13 e14
  obtain ⟨e0, e1, e2, e3, e4, e5, e6, e7, e8, e9, e10, e11, e12, e13, e14⟩ := HS.out W1 HB1.out
  have d0 := HG1.out.blk.cell 0
  simp only [List.getElem?_toArray, List.getElem?_cons_succ, List.getElem?_cons_zero] at d0
  have hi1 : ¬ o.id < 1 := by omega
  have hlk := fun n => HLA.out (W1.drewN n) (HG1.out.below (below_drewN (Below.refl _ _) n))
  go_upto_region 3 with fail
  go_quiet (fail)
  have HB2 : Hid (Below W.heap.size W (W1.drewN nq)) := below_drewN HB1.out nq
  have HG2 : Hid (GdAt (W1.drewN nq) G) := HG1.out.below (below_drewN (Below.refl _ _) nq)
  clear hlk d0 e0 e1 e2 e3 e4 e5 e6 e7 e8 e9 e10 e11 e12 e13 e14
  generalize W1.drewN nq = W2 at *
  go_upto_region 6 with fail
  have HK6 : Hid (∀ w', Below W2.heap.size W2 w' → w'.cell? ⟨G.g, 1, none⟩ = some (.map (some G.mo)) ∧ w'.cell? ⟨w.heap.size, 0, none⟩ = some (.int .i64 o.id) ∧ Sem.run Try.prog (Instr.lookup 61 (.map (some G.mo)) (.int .i64 o.id) true) w' = .ok (.tuple #[.agg #[.string xac, .string xsy, .int .i64 xsd, .int .i64 xq, .int .i64 xv], .bool isS]) w') := fun w' hb => ⟨(HG2.out.below hb).blk.cell 1, (HS.out _ (below_step HB2.out hb)).1, HLO.out _ (HG2.out.below hb)⟩
  have hBx : Below W2.heap.size W2 W2.drew := ⟨rfl, rfl, rfl, Nat.le_refl _, fun _ _ => rfl⟩
  have hBy : ∀ o : Obj, Below W2.heap.size W2 (W2.drew.alloc o) := fun o => hBx.alloc hBx.size _
  go_region_held (fun w' => w'.cell? ⟨G.g, 1, none⟩ = some (.map (some G.mo)) ∧ w'.cell? ⟨w.heap.size, 0, none⟩ = some (.int .i64 o.id) ∧ Sem.run Try.prog (Instr.lookup 61 (.map (some G.mo)) (.int .i64 o.id) true) w' = .ok (.tuple #[.agg #[.string xac, .string xsy, .int .i64 xsd, .int .i64 xq, .int .i64 xv], .bool isS]) w') (first | exact HK6.out _ hBx | exact HK6.out _ (hBy _)) (fail)
  all_goals (
    have HB3 : Hid (Below W2.heap.size W2 ((W2.alloc (.cells #[.string xac, .string xsy, .int .i64 xsd, .int .i64 xq, .int .i64 xv] 77)).drew)) := below_drewN ((Below.refl _ W2).alloc (Nat.le_refl _) _) 1
    have HBk : Hid (Blk ((W2.alloc (.cells #[.string xac, .string xsy, .int .i64 xsd, .int .i64 xq, .int .i64 xv] 77)).drew) W2.heap.size 77 #[.string xac, .string xsy, .int .i64 xsd, .int .i64 xq, .int .i64 xv]) := Blk.new W2 _ _
    have d7 := HBk.out.cell 0
    simp only [List.getElem?_toArray, List.getElem?_cons_succ, List.getElem?_cons_zero] at d7
    clear HBk hBy hBx
    generalize ((W2.alloc (.cells #[.string xac, .string xsy, .int .i64 xsd, .int .i64 xq, .int .i64 xv] 77)).drew) = W3 at *
    have HB4 : Hid (Below W.heap.size W W3) := below_step HB2.out HB3.out
    have HG4 : Hid (GdAt W3 G) := HG2.out.below HB3.out
    obtain ⟨e0, e1, e2, e3, e4, e5, e6, e7, e8, e9, e10, e11, e12, e13, e14⟩ := HS.out W3 HB4.out
    have hneq : isS = true → (!(xac.toList == o.ac.toList)) = false := fun hz => by rw [hsame hz]; rfl
    cases isS)
  all_goals first | (have hnq := hneq rfl; clear hneq hsame) | clear hneq hsame
  all_goals go_upto_region 9 with fail
  all_goals (
    clear e0 e1 e2 e3 e4 e5 e6 e7 e8 e9 e10 e11 e12 e13 e14 d7
    have hBx : Below W3.heap.size W3 W3.drew := ⟨rfl, rfl, rfl, Nat.le_refl _, fun _ _ => rfl⟩
    have HK9b : Hid (∀ w8 w', Below W3.heap.size W3 w8 → Fr w8 w' (fun x => x = G.mo) → w'.cell? ⟨G.g, 1, none⟩ = some (.map (some G.mo)) ∧ w'.cell? ⟨w.heap.size, 0, none⟩ = some (.int .i64 o.id) ∧ w'.cell? ⟨w.heap.size, 1, none⟩ = some (.string o.nm) ∧ w'.cell? ⟨w.heap.size, 2, none⟩ = some (.string o.ac) ∧ w'.cell? ⟨w.heap.size, 3, none⟩ = some (.string o.sy) ∧ w'.cell? ⟨w.heap.size, 4, none⟩ = some (.int .i64 o.sd) ∧ w'.cell? ⟨w.heap.size, 5, none⟩ = some (.int .i64 o.ty) ∧ w'.cell? ⟨w.heap.size, 6, none⟩ = some (.int .i64 o.lf) ∧ w'.cell? ⟨w.heap.size, 7, none⟩ = some (.int .i64 o.pr) ∧ w'.cell? ⟨w.heap.size, 8, none⟩ = some (.int .i64 o.sp) ∧ w'.cell? ⟨w.heap.size, 9, none⟩ = some (.int .i64 o.q) ∧ w'.cell? ⟨w.heap.size, 10, none⟩ = some (.int .i64 o.sh) ∧ w'.cell? ⟨w.heap.size, 11, none⟩ = some (.int .i64 o.dn) ∧ w'.cell? ⟨w.heap.size, 12, none⟩ = some (.int .i64 o.le) ∧ w'.cell? ⟨w.heap.size, 13, none⟩ = some (.int .i64 o.un) ∧ w'.cell? ⟨w.heap.size, 14, none⟩ = some (.int .i64 o.ow)) := fun w8 w' hb hf => by
      have g8 := HG4.out.below hb
      have c8 := HS.out _ (below_step HB4.out hb)
      have n1 : G.g ≠ G.mo := fun e => g8.opens.ne_blk g8.blk e.symm
      have n2 : w.heap.size ≠ G.mo := fun e => by
        have := HW0.out.2.1.below (below_step HB4.out hb) HW0.out.2.1.lt
        exact g8.opens.ne_blk this e.symm
      obtain ⟨e0, e1, e2, e3, e4, e5, e6, e7, e8, e9, e10, e11, e12, e13, e14⟩ := c8
      exact ⟨hf.cell (g8.blk.cell 1) n1, hf.cell e0 n2, hf.cell e1 n2, hf.cell e2 n2, hf.cell e3 n2, hf.cell e4 n2, hf.cell e5 n2, hf.cell e6 n2, hf.cell e7 n2, hf.cell e8 n2, hf.cell e9 n2, hf.cell e10 n2, hf.cell e11 n2, hf.cell e12 n2, hf.cell e13 n2, hf.cell e14 n2⟩
    have HK9 : Hid (∀ w', Below W3.heap.size W3 w' → w'.cell? ⟨G.g, 1, none⟩ = some (.map (some G.mo)) ∧ w'.cell? ⟨w.heap.size, 0, none⟩ = some (.int .i64 o.id) ∧ w'.cell? ⟨w.heap.size, 1, none⟩ = some (.string o.nm) ∧ w'.cell? ⟨w.heap.size, 2, none⟩ = some (.string o.ac) ∧ w'.cell? ⟨w.heap.size, 3, none⟩ = some (.string o.sy) ∧ w'.cell? ⟨w.heap.size, 4, none⟩ = some (.int .i64 o.sd) ∧ w'.cell? ⟨w.heap.size, 5, none⟩ = some (.int .i64 o.ty) ∧ w'.cell? ⟨w.heap.size, 6, none⟩ = some (.int .i64 o.lf) ∧ w'.cell? ⟨w.heap.size, 7, none⟩ = some (.int .i64 o.pr) ∧ w'.cell? ⟨w.heap.size, 8, none⟩ = some (.int .i64 o.sp) ∧ w'.cell? ⟨w.heap.size, 9, none⟩ = some (.int .i64 o.q) ∧ w'.cell? ⟨w.heap.size, 10, none⟩ = some (.int .i64 o.sh) ∧ w'.cell? ⟨w.heap.size, 11, none⟩ = some (.int .i64 o.dn) ∧ w'.cell? ⟨w.heap.size, 12, none⟩ = some (.int .i64 o.le) ∧ w'.cell? ⟨w.heap.size, 13, none⟩ = some (.int .i64 o.un) ∧ w'.cell? ⟨w.heap.size, 14, none⟩ = some (.int .i64 o.ow)) := fun w' hb => ⟨(HG4.out.below hb).blk.cell 1, HS.out _ (below_step HB4.out hb)⟩)
  all_goals go_region_held (fun w' => w'.cell? ⟨G.g, 1, none⟩ = some (.map (some G.mo)) ∧ w'.cell? ⟨w.heap.size, 0, none⟩ = some (.int .i64 o.id) ∧ w'.cell? ⟨w.heap.size, 1, none⟩ = some (.string o.nm) ∧ w'.cell? ⟨w.heap.size, 2, none⟩ = some (.string o.ac) ∧ w'.cell? ⟨w.heap.size, 3, none⟩ = some (.string o.sy) ∧ w'.cell? ⟨w.heap.size, 4, none⟩ = some (.int .i64 o.sd) ∧ w'.cell? ⟨w.heap.size, 5, none⟩ = some (.int .i64 o.ty) ∧ w'.cell? ⟨w.heap.size, 6, none⟩ = some (.int .i64 o.lf) ∧ w'.cell? ⟨w.heap.size, 7, none⟩ = some (.int .i64 o.pr) ∧ w'.cell? ⟨w.heap.size, 8, none⟩ = some (.int .i64 o.sp) ∧ w'.cell? ⟨w.heap.size, 9, none⟩ = some (.int .i64 o.q) ∧ w'.cell? ⟨w.heap.size, 10, none⟩ = some (.int .i64 o.sh) ∧ w'.cell? ⟨w.heap.size, 11, none⟩ = some (.int .i64 o.dn) ∧ w'.cell? ⟨w.heap.size, 12, none⟩ = some (.int .i64 o.le) ∧ w'.cell? ⟨w.heap.size, 13, none⟩ = some (.int .i64 o.un) ∧ w'.cell? ⟨w.heap.size, 14, none⟩ = some (.int .i64 o.ow)) (first | exact hS9 | exact HK9.out _ hB8 | exact HK9.out _ hBx) (first | (go_at_call 25; refine (HVO.out _).mono ?_; rintro e w8 ⟨rfl, hb8⟩; have hB8 : Below W3.heap.size W3 w8 := below_step hBx hb8; obtain ⟨w9, hrun9, hm9, hf9, hz9⟩ := (HG4.out.below hB8).opens.store law3 Try.underlying61 HL.out (val := .agg #[.string o.ac, .string o.sy, .int .i64 o.sd, .int .i64 o.q, .int .i64 (valI o mark)]) hkey; have hS9 := HK9b.out w8 w9 hB8 hf9) | fail)
  all_goals (
    have HM9 : Hid (MapL Try.prog w9 3 G.mo ((.int .i64 o.id, .agg #[.string o.ac, .string o.sy, .int .i64 o.sd, .int .i64 o.q, .int .i64 (valI o mark)]) :: butL (G.O.map Oo.ent) (.int .i64 o.id)) ∧ Fr w8 w9 (fun x => x = G.mo) ∧ Below W3.heap.size W3 w8) := ⟨hm9, hf9, hB8⟩
    clear hm9 hf9 hB8 hb8 hrun9 hS9)
  all_goals go_wp2
  all_goals go_ret
  all_goals (
    have hm := HM9.out.1
    rw [butL_oo] at hm
    refine ⟨rfl, GdAt.opened (HG4.out.below HM9.out.2.2) HM9.out.2.1 (O' := o.oo mark :: doO G.O o.id) hm ?_, ?_⟩
    · intro x hx
      rcases List.mem_cons.1 hx with rfl | hx
      · exact HOK.out
      · exact HG4.out.ook x (List.mem_filter.1 hx).1
    · have f1 : Fr w w8 (fun _ => False) := Fr.of_below (below_step HW0.out.1 (below_step HB4.out HM9.out.2.2)) _
      exact f1.trans HM9.out.2.1 fun i _ hh => hh.elim False.elim fun e => .inr (.inr (.inl e)))
end Go.Proofs.Ytgioknkfppaaaaa
