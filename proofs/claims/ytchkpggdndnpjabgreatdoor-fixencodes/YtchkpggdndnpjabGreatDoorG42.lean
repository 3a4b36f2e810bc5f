import Derived.Test.YtchkpggdndnpjabGreatDoorG34
import Derived.Deep.DeepCutAuto

namespace Go.Proofs.YtchkpggdndnpjabGreatDoor
set_option linter.unusedVariables false
set_option linter.unusedSimpArgs false
open Go.RowKit Go.Great

theorem bne_t {a b : Bool} (h : (a != b) = true) : (a == b) = false := by cases a <;> cases b <;> simp_all
theorem bne_f {a b : Bool} (h : (a != b) = false) : (a == b) = true := by cases a <;> cases b <;> simp_all
def fitE (ot : Int) (dup : Bool) (k en bg : Int) (p q : Bool) (price stop qty shw least life til ex lp lq left don : Int) : Int :=
  if ot != 0 && !dup then 122 else if k == 3 && (en != 0 && decide (en < bg)) then 16 else
  if k == 8 then (if p != (price != 0) then 44 else if q != (stop != 0) then 99 else if qty < shw then 111 else if qty < least then 110 else if (life == 5) != (til != 0) then 432 else 0) else
  if k == 13 then (if (ex == 3) != (lp != 0) then 31 else if (ex == 3) != (lq != 0) then 32 else if qty < wrap64 (left + don) then 14 else 0) else 0
theorem fit_eq (M : Msg) : fitN M = fitE (M.z 6) (M.b 4) (M.z 0) (M.z 11) (M.z 10) (M.z 24 == 1 || M.z 24 == 4) (M.z 24 == 3 || M.z 24 == 4) (M.z 26) (M.z 27) (M.z 28) (M.z 29) (M.z 30) (M.z 25) (M.z 31) (M.z 34) (M.z 36) (M.z 37) (M.z 38) (M.z 39) := rfl
set_option maxRecDepth 100000 in
set_option maxHeartbeats 8000000 in
theorem fits_any (M : Msg) (w : World) : Calls Tryz.prog 50 #[.agg M.cs] w fun e w' => e = .returned (.int .i64 (fitN M)) ∧ Below w.heap.size w w' := by
  have HO := box_own M w
  rw [fit_eq]
  generalize hRES : fitE (M.z 6) (M.b 4) (M.z 0) (M.z 11) (M.z 10) (M.z 24 == 1 || M.z 24 == 4) (M.z 24 == 3 || M.z 24 == 4) (M.z 26) (M.z 27) (M.z 28) (M.z 29) (M.z 30) (M.z 25) (M.z 31) (M.z 34) (M.z 36) (M.z 37) (M.z 38) (M.z 39) = RES
  have HRES : Hid (_ = RES) := hRES
  clear hRES
  go_enter Tryz.func50, Tryz.ntmps50
  go_upto_region 1 with fail
  generalize w.alloc (.cells M.cs 23) = w1 at *
  have c0 : w1.cell? ⟨w.heap.size, 0, none⟩ = some (.int .i64 (M.z 0)) := HO.out.1.cell 0 (by decide)
  have c6 : w1.cell? ⟨w.heap.size, 6, none⟩ = some (.int .i64 (M.z 6)) := HO.out.1.cell 6 (by decide)
  have c10 : w1.cell? ⟨w.heap.size, 10, none⟩ = some (.int .i64 (M.z 10)) := HO.out.1.cell 10 (by decide)
  have c11 : w1.cell? ⟨w.heap.size, 11, none⟩ = some (.int .i64 (M.z 11)) := HO.out.1.cell 11 (by decide)
  have c24 : w1.cell? ⟨w.heap.size, 24, none⟩ = some (.int .i64 (M.z 24)) := HO.out.1.cell 24 (by decide)
  have c25 : w1.cell? ⟨w.heap.size, 25, none⟩ = some (.int .i64 (M.z 25)) := HO.out.1.cell 25 (by decide)
  have c26 : w1.cell? ⟨w.heap.size, 26, none⟩ = some (.int .i64 (M.z 26)) := HO.out.1.cell 26 (by decide)
  have c27 : w1.cell? ⟨w.heap.size, 27, none⟩ = some (.int .i64 (M.z 27)) := HO.out.1.cell 27 (by decide)
  have c28 : w1.cell? ⟨w.heap.size, 28, none⟩ = some (.int .i64 (M.z 28)) := HO.out.1.cell 28 (by decide)
  have c29 : w1.cell? ⟨w.heap.size, 29, none⟩ = some (.int .i64 (M.z 29)) := HO.out.1.cell 29 (by decide)
  have c30 : w1.cell? ⟨w.heap.size, 30, none⟩ = some (.int .i64 (M.z 30)) := HO.out.1.cell 30 (by decide)
  have c31 : w1.cell? ⟨w.heap.size, 31, none⟩ = some (.int .i64 (M.z 31)) := HO.out.1.cell 31 (by decide)
  have c34 : w1.cell? ⟨w.heap.size, 34, none⟩ = some (.int .i64 (M.z 34)) := HO.out.1.cell 34 (by decide)
  have c36 : w1.cell? ⟨w.heap.size, 36, none⟩ = some (.int .i64 (M.z 36)) := HO.out.1.cell 36 (by decide)
  have c37 : w1.cell? ⟨w.heap.size, 37, none⟩ = some (.int .i64 (M.z 37)) := HO.out.1.cell 37 (by decide)
  have c38 : w1.cell? ⟨w.heap.size, 38, none⟩ = some (.int .i64 (M.z 38)) := HO.out.1.cell 38 (by decide)
  have c39 : w1.cell? ⟨w.heap.size, 39, none⟩ = some (.int .i64 (M.z 39)) := HO.out.1.cell 39 (by decide)
  have c4 : w1.cell? ⟨w.heap.size, 4, none⟩ = some (.bool (M.b 4)) := HO.out.1.cell 4 (by decide)
  have HB : Hid (Below w.heap.size w w1) := HO.out.2
  clear HO
  generalize M.cs = CS at *
  generalize M.z 0 = k at *
  generalize M.z 6 = ot at *
  generalize M.z 10 = bg at *
  generalize M.z 11 = en at *
  generalize M.z 24 = ty at *
  generalize M.z 25 = life at *
  generalize M.z 26 = price at *
  generalize M.z 27 = stop at *
  generalize M.z 28 = qty at *
  generalize M.z 29 = shw at *
  generalize M.z 30 = least at *
  generalize M.z 31 = til at *
  generalize M.z 34 = ex at *
  generalize M.z 36 = lp at *
  generalize M.z 37 = lq at *
  generalize M.z 38 = left at *
  generalize M.z 39 = don at *
  generalize M.b 4 = dup at *
  go_cut [3] (fun b wx => b = .bool (ty == 1 || ty == 4) ∧ wx = w1)
  case first => as_aux_lemma =>
    by_cases t1 : ty = 1
    · subst t1
      go_wp2_with fail
      go_meet
      exact ⟨rfl, rfl⟩
    · have t1b : (ty == 1) = false := by simp [t1]
      go_wp2_with fail
      go_meet
      exact ⟨by rw [t1b]; rfl, rfl⟩
  case rest =>
    obtain ⟨rfl, rfl⟩ := hcut
    go_upto_region 2 with fail
    go_cut [4] (fun b wx => b = .bool (ty == 3 || ty == 4) ∧ wx = wc)
    case first => as_aux_lemma =>
      by_cases t1 : ty = 3
      · subst t1
        go_wp2_with fail
        go_meet
        exact ⟨rfl, rfl⟩
      · have t1b : (ty == 3) = false := by simp [t1]
        go_wp2_with fail
        go_meet
        exact ⟨by rw [t1b]; rfl, rfl⟩
    case rest =>
      obtain ⟨rfl, rfl⟩ := hcut
      go_upto_region 3 with fail
      clear c24
      generalize hp : (ty == 1 || ty == 4) = p at *
      generalize hq : (ty == 3 || ty == 4) = q at *
      clear hp hq
      go_cut [21] (fun b wx => b = .bool (ot != 0 && !dup) ∧ wx = wc)
      case first => as_aux_lemma =>
        cases o0 : (ot != 0)
        · go_wp2_with fail
          go_meet
          exact ⟨by rw [o0]; rfl, rfl⟩
        · go_wp2_with fail
          go_meet
          exact ⟨by rw [o0]; rfl, rfl⟩
      case rest =>
        obtain ⟨rfl, rfl⟩ := hcut
        clear c6 c4
        have HE : Hid (∀ x, (ot != 0 && !dup) = x → fitE ot dup k en bg p q price stop qty shw least life til ex lp lq left don = if x then 122 else if k == 3 && (en != 0 && decide (en < bg)) then 16 else if k == 8 then (if p != (price != 0) then 44 else if q != (stop != 0) then 99 else if qty < shw then 111 else if qty < least then 110 else if (life == 5) != (til != 0) then 432 else 0) else if k == 13 then (if (ex == 3) != (lp != 0) then 31 else if (ex == 3) != (lq != 0) then 32 else if qty < wrap64 (left + don) then 14 else 0) else 0) := fun x hx => by rw [← hx]; rfl
        have HE2 := HE.out _ rfl
        have HE3 : Hid (_ = _) := HE2
        clear HE HE2
        generalize (ot != 0 && !dup) = r at *
        cases r
        · cases k3 : (k == 3)
          · cases k8 : (k == 8)
            · cases k13 : (k == 13)
              · go_wp2
                go_ret
                exact ⟨ret_int (by rw [← HRES.out, HE3.out]; simp only [k3, k8, k13, Bool.false_eq_true, Bool.true_and, Bool.and_true, Bool.false_and, Bool.and_false, reduceIte]; try ((repeat' split) <;> omega)), HB.out⟩
              · cases e1 : ((ex == 3) != (lp != 0))
                · have e1w := bne_f e1
                  cases e2 : ((ex == 3) != (lq != 0))
                  · have e2w := bne_f e2
                    by_cases s0 : qty < wrap64 (left + don)
                    · go_wp2
                      go_ret
                      exact ⟨ret_int (by rw [← HRES.out, HE3.out]; simp only [k3, k8, k13, e1, e2, s0, Bool.false_eq_true, Bool.true_and, Bool.and_true, Bool.false_and, Bool.and_false, reduceIte]; try ((repeat' split) <;> omega)), HB.out⟩
                    · go_wp2
                      go_ret
                      exact ⟨ret_int (by rw [← HRES.out, HE3.out]; simp only [k3, k8, k13, e1, e2, s0, Bool.false_eq_true, Bool.true_and, Bool.and_true, Bool.false_and, Bool.and_false, reduceIte]; try ((repeat' split) <;> omega)), HB.out⟩
                  · have e2w := bne_t e2
                    go_wp2
                    go_ret
                    exact ⟨ret_int (by rw [← HRES.out, HE3.out]; simp only [k3, k8, k13, e1, e2, Bool.false_eq_true, Bool.true_and, Bool.and_true, Bool.false_and, Bool.and_false, reduceIte]; try ((repeat' split) <;> omega)), HB.out⟩
                · have e1w := bne_t e1
                  go_wp2
                  go_ret
                  exact ⟨ret_int (by rw [← HRES.out, HE3.out]; simp only [k3, k8, k13, e1, Bool.false_eq_true, Bool.true_and, Bool.and_true, Bool.false_and, Bool.and_false, reduceIte]; try ((repeat' split) <;> omega)), HB.out⟩
            · have k13 : (k == 13) = false := by
                obtain rfl : k = 8 := by simpa using k8
                rfl
              cases e1 : (p != (price != 0))
              · have e1w := bne_f e1
                cases e2 : (q != (stop != 0))
                · have e2w := bne_f e2
                  by_cases s0 : qty < shw
                  · go_wp2
                    go_ret
                    exact ⟨ret_int (by rw [← HRES.out, HE3.out]; simp only [k3, k8, k13, e1, e2, s0, Bool.false_eq_true, Bool.true_and, Bool.and_true, Bool.false_and, Bool.and_false, reduceIte]; try ((repeat' split) <;> omega)), HB.out⟩
                  · by_cases s1 : qty < least
                    · go_wp2
                      go_ret
                      exact ⟨ret_int (by rw [← HRES.out, HE3.out]; simp only [k3, k8, k13, e1, e2, s0, s1, Bool.false_eq_true, Bool.true_and, Bool.and_true, Bool.false_and, Bool.and_false, reduceIte]; try ((repeat' split) <;> omega)), HB.out⟩
                    · cases e3 : ((life == 5) != (til != 0))
                      · have e3w := bne_f e3
                        go_wp2
                        go_ret
                        exact ⟨ret_int (by rw [← HRES.out, HE3.out]; simp only [k3, k8, k13, e1, e2, s0, s1, e3, Bool.false_eq_true, Bool.true_and, Bool.and_true, Bool.false_and, Bool.and_false, reduceIte]; try ((repeat' split) <;> omega)), HB.out⟩
                      · have e3w := bne_t e3
                        go_wp2
                        go_ret
                        exact ⟨ret_int (by rw [← HRES.out, HE3.out]; simp only [k3, k8, k13, e1, e2, s0, s1, e3, Bool.false_eq_true, Bool.true_and, Bool.and_true, Bool.false_and, Bool.and_false, reduceIte]; try ((repeat' split) <;> omega)), HB.out⟩
                · have e2w := bne_t e2
                  go_wp2
                  go_ret
                  exact ⟨ret_int (by rw [← HRES.out, HE3.out]; simp only [k3, k8, k13, e1, e2, Bool.false_eq_true, Bool.true_and, Bool.and_true, Bool.false_and, Bool.and_false, reduceIte]; try ((repeat' split) <;> omega)), HB.out⟩
              · have e1w := bne_t e1
                go_wp2
                go_ret
                exact ⟨ret_int (by rw [← HRES.out, HE3.out]; simp only [k3, k8, k13, e1, Bool.false_eq_true, Bool.true_and, Bool.and_true, Bool.false_and, Bool.and_false, reduceIte]; try ((repeat' split) <;> omega)), HB.out⟩
          · have k8 : (k == 8) = false := by
              obtain rfl : k = 3 := by simpa using k3
              rfl
            have k13 : (k == 13) = false := by
              obtain rfl : k = 3 := by simpa using k3
              rfl
            cases n0 : (en != 0)
            · go_wp2
              go_ret
              exact ⟨ret_int (by rw [← HRES.out, HE3.out]; simp only [k3, k8, k13, n0, Bool.false_eq_true, Bool.true_and, Bool.and_true, Bool.false_and, Bool.and_false, reduceIte]; try ((repeat' split) <;> omega)), HB.out⟩
            · cases l0 : decide (en < bg)
              · go_wp2
                go_ret
                exact ⟨ret_int (by rw [← HRES.out, HE3.out]; simp only [k3, k8, k13, n0, l0, Bool.false_eq_true, Bool.true_and, Bool.and_true, Bool.false_and, Bool.and_false, reduceIte]; try ((repeat' split) <;> omega)), HB.out⟩
              · go_wp2
                go_ret
                exact ⟨ret_int (by rw [← HRES.out, HE3.out]; simp only [k3, k8, k13, n0, l0, Bool.false_eq_true, Bool.true_and, Bool.and_true, Bool.false_and, Bool.and_false, reduceIte]; try ((repeat' split) <;> omega)), HB.out⟩
        · go_wp2
          go_ret
          exact ⟨ret_int (by rw [← HRES.out, HE3.out]; simp only [Bool.false_eq_true, Bool.true_and, Bool.and_true, Bool.false_and, Bool.and_false, reduceIte]; try ((repeat' split) <;> omega)), HB.out⟩

end Go.Proofs.YtchkpggdndnpjabGreatDoor
