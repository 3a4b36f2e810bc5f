/-
  heap: the three orders; made; two things compared.
-/
import Derived.Test.YtdnhhcbabdoomaaHFace6
import Derived.Laws.StructEq
import Derived.ChangeKeysEq
namespace Go.Proofs.Ytdnhhcbabdoomaa
set_option linter.unusedVariables false
set_option linter.unusedSimpArgs false
open Go.RowKit Go.Great

def dgI (n : Int) : Int := if n < 0 then -(n.tmod 10) else n.tmod 10
def lsB (o : Nat) (a b : Th) : Bool := if o = 1 then decide (b.k < a.k) else if o = 2 then decide (dgI a.k < dgI b.k) else decide (a.k < b.k)
theorem ordr_of (f : Th → Int) : Ordr fun a b => decide (f a < f b) :=
  ⟨fun a => by simp, fun a b c h1 h2 => by simp only [decide_eq_true_eq] at *; omega, fun a b c h1 h2 => by simp only [decide_eq_false_iff_not] at *; omega⟩
theorem lsB_ord (o : Nat) : Ordr (lsB o) := by
  by_cases h1 : o = 1
  · have e : lsB o = fun a b => decide ((fun x : Th => -x.k) a < (fun x : Th => -x.k) b) := by
      funext a b; unfold lsB; rw [if_pos h1]; exact decide_eq_decide.2 (by show b.k < a.k ↔ -a.k < -b.k; omega)
    rw [e]; exact ordr_of _
  · by_cases h2 : o = 2
    · have e : lsB o = fun a b => decide ((fun x : Th => dgI x.k) a < (fun x : Th => dgI x.k) b) := by
        funext a b; unfold lsB; rw [if_neg h1, if_pos h2]
      rw [e]; exact ordr_of _
    · have e : lsB o = fun a b => decide ((fun x : Th => x.k) a < (fun x : Th => x.k) b) := by
        funext a b; unfold lsB; rw [if_neg h1, if_neg h2]
      rw [e]; exact ordr_of _
theorem tmod10 (n : Int) : -10 < n.tmod 10 ∧ n.tmod 10 < 10 := by
  by_cases h : 0 ≤ n
  · rw [Int.tmod_eq_emod_of_nonneg h]; omega
  · have e : n.tmod 10 = -((-n).tmod 10) := by rw [Int.neg_tmod]; omega
    rw [e, Int.tmod_eq_emod_of_nonneg (by omega)]; omega
set_option maxRecDepth 100000 in
theorem digit_any (n : Int) (w : World) : Calls Try.prog 49 #[.int .i64 n] w fun e w' => e = .returned (.int .i64 (dgI n)) ∧ w' = w := by
  have h := tmod10 n
  have HT : Hid (-10 < n.tmod 10 ∧ n.tmod 10 < 10) := h
  clear h
  unfold dgI
  by_cases h0 : n < 0
  · rw [if_pos h0]
    go_enter Try.func49, Try.ntmps49
    go_wp2
    go_ret
    refine ⟨?_, rfl⟩
    have := HT.out
    rw [show wrap64 (-(n.tmod 10)) = -(n.tmod 10) by unfold wrap64; omega]
    rfl
  · rw [if_neg h0]
    go_enter Try.func49, Try.ntmps49
    go_wp2
    go_ret
    refine ⟨?_, rfl⟩
    have := HT.out
    rw [Int.tmod_eq_emod_of_nonneg (show 0 ≤ n by omega)]
    rfl
set_option maxRecDepth 100000 in
set_option maxHeartbeats 1000000 in
theorem Less_any (o : Nat) (z : Int) (hz : z = (o : Int)) (a b : Th) (w : World) :
    Calls Try.prog 15 #[.int .i64 z, .agg #[.int .i64 a.k, .int .i64 a.g], .agg #[.int .i64 b.k, .int .i64 b.g]] w fun e w' => e = .returned (.bool (lsB o a b)) ∧ Fr w w' (fun _ => False) := by
  subst hz
  have HF : Hid (Fr w ((w.alloc (.cells #[.int .i64 a.k, .int .i64 a.g] 30)).alloc (.cells #[.int .i64 b.k, .int .i64 b.g] 30)) (fun _ => False)) := (Fr.alloc _ _ (fun _ => False)).trans (Fr.alloc _ _ (fun _ => False)) fun _ _ q => by rcases q with q | q <;> exact q
  unfold lsB
  by_cases h1 : o = 1
  · rw [if_pos h1]
    subst h1
    go_enter Try.func15, Try.ntmps15
    go_wp2
    go_ret
    exact ⟨rfl, HF.out⟩
  · rw [if_neg h1]
    have h1' : ¬ (o : Int) = 1 := by omega
    have h1b : ((o : Int) == 1) = false := by rw [beq_eq_false_iff_ne]; exact h1'
    by_cases h2 : o = 2
    · rw [if_pos h2]
      subst h2
      have HR : Hid ((decide (dgI a.k < dgI b.k)) = decide (dgI a.k < dgI b.k)) := rfl
      go_enter Try.func15, Try.ntmps15
      go_upto_region 5 with fail
      go_quiet ((go_at_call 49; refine Calls.quiet_of_same (digit_any _ _)))
      go_wp2
      go_ret
      exact ⟨rfl, HF.out.drewN _⟩
    · rw [if_neg h2]
      have h2' : ¬ (o : Int) = 2 := by omega
      have h2b : ((o : Int) == 2) = false := by rw [beq_eq_false_iff_ne]; exact h2'
      go_enter Try.func15, Try.ntmps15
      go_wp2
      go_ret
      exact ⟨rfl, HF.out⟩
theorem pl3 : Try.prog.plainKey 3 = true := by kernel_rfl
theorem fldT : (Try.prog.fieldsOf 30).toList.map (fun f => (f.type, f.offset, f.name)) = [(3, 0, "Key"), (3, 1, "Tag")] := by kernel_rfl
theorem two_list {α β : Type} {l : List α} {f : α → β} {a b : β} (h : l.map f = [a, b]) : ∃ x y, l = [x, y] ∧ f x = a ∧ f y = b := by
  match l, h with
  | [x, y], h =>
    simp only [List.map_cons, List.map_nil, List.cons.injEq, and_true] at h
    exact ⟨x, y, rfl, h.1, h.2⟩
set_option maxRecDepth 100000 in
theorem thing_eq (a b : Th) (w : World) : (Op.equalIn 10000 30 (.agg #[.int .i64 a.k, .int .i64 a.g]) (.agg #[.int .i64 b.k, .int .i64 b.g])).run Try.prog w = .ok (a.k == b.k && a.g == b.g) w := by
  rw [run_equalIn_agg w 9999 30 _ _ Try.underlying30 (by kernel_rfl)]
  obtain ⟨f, g, hl, hf, hg⟩ := two_list fldT
  rw [hl]
  obtain ⟨f1, f2, f3⟩ : f.type = 3 ∧ f.offset = 0 ∧ f.name = "Key" := by simpa using hf
  obtain ⟨g1, g2, g3⟩ : g.type = 3 ∧ g.offset = 1 ∧ g.name = "Tag" := by simpa using hg
  have e1 : (part f.type #[.int .i64 a.k, .int .i64 a.g] f.offset).run Try.prog w = .ok (.int .i64 a.k) w := by rw [f1, f2]; exact run_part_plain w pl3 rfl
  have e2 : (part f.type #[.int .i64 b.k, .int .i64 b.g] f.offset).run Try.prog w = .ok (.int .i64 b.k) w := by rw [f1, f2]; exact run_part_plain w pl3 rfl
  have e3 : (part g.type #[.int .i64 a.k, .int .i64 a.g] g.offset).run Try.prog w = .ok (.int .i64 a.g) w := by rw [g1, g2]; exact run_part_plain w pl3 rfl
  have e4 : (part g.type #[.int .i64 b.k, .int .i64 b.g] g.offset).run Try.prog w = .ok (.int .i64 b.g) w := by rw [g1, g2]; exact run_part_plain w pl3 rfl
  have e5 : (Op.equalIn 9999 f.type (.int .i64 a.k) (.int .i64 b.k)).run Try.prog w = .ok (a.k == b.k) w := by rw [f1]; exact run_equalIn_int w 9998 3 .i64 .i64 _ _ Try.underlying3
  have e6 : (Op.equalIn 9999 g.type (.int .i64 a.g) (.int .i64 b.g)).run Try.prog w = .ok (a.g == b.g) w := by rw [g1]; exact run_equalIn_int w 9998 3 .i64 .i64 _ _ Try.underlying3
  have n1 : f.name ≠ "_" := by rw [f3]; decide
  have n2 : g.name ≠ "_" := by rw [g3]; decide
  simp only [Op.eqFields, if_pos n1, if_pos n2, Sem.run_bind, Sem.run_ite, e1, e2, e3, e4, e5, e6, Result.andThen_ok, Sem.run_pure]
  cases a.k == b.k <;> cases a.g == b.g <;> rfl
theorem thing_eql (a b : Th) (w : World) : (binOp .eql 30 (.agg #[.int .i64 a.k, .int .i64 a.g]) (.agg #[.int .i64 b.k, .int .i64 b.g])).run Try.prog w = .ok (.bool (a.k == b.k && a.g == b.g)) w := by
  rw [run_eql_struct, thing_eq]; rfl
theorem thing_neq (a b : Th) (w : World) : (binOp .neq 30 (.agg #[.int .i64 a.k, .int .i64 a.g]) (.agg #[.int .i64 b.k, .int .i64 b.g])).run Try.prog w = .ok (.bool (!(a.k == b.k && a.g == b.g))) w := by
  rw [run_neq_struct, thing_eq]; rfl
/-- The three orders, as functions of the program. -/
def askO (o : Nat) : Ask := ⟨if o = 1 then 43 else if o = 2 then 44 else 45, lsB o, fun _ => False, fun _ _ => True⟩
theorem cfK (a : Array Value) (w : World) : Sem.run Try.prog (callFunc 45 a) w = .ok (.enter 45 a) w := by kernel_rfl
theorem cfG (a : Array Value) (w : World) : Sem.run Try.prog (callFunc 43 a) w = .ok (.enter 43 a) w := by kernel_rfl
theorem cfD (a : Array Value) (w : World) : Sem.run Try.prog (callFunc 44 a) w = .ok (.enter 44 a) w := by kernel_rfl
theorem fr_two {w : World} (o1 o2 : Obj) {w' : World} (h : Fr ((w.alloc o1).alloc o2) w' (fun _ => False)) : Fr w w' (fun _ => False) :=
  ((Fr.alloc w o1 (fun _ => False)).trans (Fr.alloc _ o2 (fun _ => False)) (e3 := fun _ => False) fun _ _ q => by rcases q with q | q <;> exact q).trans h fun _ _ q => by rcases q with q | q <;> exact q
set_option maxRecDepth 100000 in
theorem byKey_any (a b : Th) (w : World) : Calls Try.prog 45 #[.agg #[.int .i64 a.k, .int .i64 a.g], .agg #[.int .i64 b.k, .int .i64 b.g]] w fun e w' => e = .returned (.bool (lsB 0 a b)) ∧ Fr w w' (fun _ => False) := by
  have hl := Less_any 0 0 rfl a b ((w.alloc (.cells #[.int .i64 a.k, .int .i64 a.g] 30)).alloc (.cells #[.int .i64 b.k, .int .i64 b.g] 30))
  generalize lsB 0 a b = R at *
  go_enter Try.func45, Try.ntmps45
  go_wp2_with (go_at_call 15; fail)
  refine hl.mono ?_
  rintro e w1 ⟨rfl, hf⟩
  have HF : Hid (Fr w w1 (fun _ => False)) := fr_two _ _ hf
  clear hf hl
  go_wp2
  go_ret
  exact ⟨rfl, HF.out⟩
set_option maxRecDepth 100000 in
theorem byGreat_any (a b : Th) (w : World) : Calls Try.prog 43 #[.agg #[.int .i64 a.k, .int .i64 a.g], .agg #[.int .i64 b.k, .int .i64 b.g]] w fun e w' => e = .returned (.bool (lsB 1 a b)) ∧ Fr w w' (fun _ => False) := by
  have hl := Less_any 1 1 rfl a b ((w.alloc (.cells #[.int .i64 a.k, .int .i64 a.g] 30)).alloc (.cells #[.int .i64 b.k, .int .i64 b.g] 30))
  generalize lsB 1 a b = R at *
  go_enter Try.func43, Try.ntmps43
  go_wp2_with (go_at_call 15; fail)
  refine hl.mono ?_
  rintro e w1 ⟨rfl, hf⟩
  have HF : Hid (Fr w w1 (fun _ => False)) := fr_two _ _ hf
  clear hf hl
  go_wp2
  go_ret
  exact ⟨rfl, HF.out⟩
set_option maxRecDepth 100000 in
theorem byDigit_any (a b : Th) (w : World) : Calls Try.prog 44 #[.agg #[.int .i64 a.k, .int .i64 a.g], .agg #[.int .i64 b.k, .int .i64 b.g]] w fun e w' => e = .returned (.bool (lsB 2 a b)) ∧ Fr w w' (fun _ => False) := by
  have hl := Less_any 2 2 rfl a b ((w.alloc (.cells #[.int .i64 a.k, .int .i64 a.g] 30)).alloc (.cells #[.int .i64 b.k, .int .i64 b.g] 30))
  generalize lsB 2 a b = R at *
  go_enter Try.func44, Try.ntmps44
  go_wp2_with (go_at_call 15; fail)
  refine hl.mono ?_
  rintro e w1 ⟨rfl, hf⟩
  have HF : Hid (Fr w w1 (fun _ => False)) := fr_two _ _ hf
  clear hf hl
  go_wp2
  go_ret
  exact ⟨rfl, HF.out⟩
theorem askO_ok (o : Nat) (ho : o < 3) : (askO o).Ok := by
  refine ⟨fun args w => ?_, fun _ _ _ => trivial, fun _ h => h.elim, fun a b w c _ => ?_⟩
  · rcases (by omega : o = 0 ∨ o = 1 ∨ o = 2) with rfl | rfl | rfl
    · exact cfK args w
    · exact cfG args w
    · exact cfD args w
  · rcases (by omega : o = 0 ∨ o = 1 ∨ o = 2) with rfl | rfl | rfl
    · exact (byKey_any a b w).mono fun e w' q => ⟨q.1, q.2, trivial⟩
    · exact (byGreat_any a b w).mono fun e w' q => ⟨q.1, q.2, trivial⟩
    · exact (byDigit_any a b w).mono fun e w' q => ⟨q.1, q.2, trivial⟩
set_option maxRecDepth 100000 in
theorem made_any (o : Nat) (z : Int) (hz : z = (o : Int)) (ho : o < 3) (w : World) :
    Calls Try.prog 10 #[.int .i64 z] w fun e w' => e = .returned (ptr w.heap.size) ∧ HpA (askO o) w' w.heap.size (.slice none 0 0) [] 0 0 ∧ Fr w w' (fun _ => False) := by
  subst hz
  have hn := New_any (A := askO o) (w := w) (c := 0) (askO_ok o ho) trivial
  rcases (by omega : o = 0 ∨ o = 1 ∨ o = 2) with rfl | rfl | rfl
  all_goals
    simp only [askO] at hn
    go_enter Try.func10, Try.ntmps10
    go_wp2_with (go_at_call 42; fail)
    refine hn.mono ?_
    rintro e w1 ⟨rfl, h1, h2⟩
    have HX : Hid _ := And.intro h1 h2
    clear h1 h2 hn
    go_wp2
    go_ret
    exact ⟨rfl, HX.out⟩
set_option maxRecDepth 100000 in
theorem All_any (h : Nat) (w : World) : Calls Try.prog 12 #[ptr h] w fun e w' => e = .returned (.func (.func 47) #[] #[ptr w.heap.size]) ∧ w' = w.alloc (.cells #[ptr h] 25) := by
  go_enter Try.func12, Try.ntmps12
  go_wp2
  go_ret
  exact ⟨rfl, rfl⟩
end Go.Proofs.Ytdnhhcbabdoomaa
