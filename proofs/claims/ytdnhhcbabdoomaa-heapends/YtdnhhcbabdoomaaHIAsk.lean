/-
  heap of numbers: what is no order; All.
-/
import Derived.Test.YtdnhhcbabdoomaaHIFace6
namespace Go.Proofs.Ytdnhhcbabdoomaa.I
set_option linter.unusedVariables false
set_option linter.unusedSimpArgs false
open Go.RowKit Go.Great

/-- The law's round: no order. -/
def rdB (a b : Th) : Bool := !(a.k.tmod 3 == b.k.tmod 3) && ((wrap64 (a.k + 1)).tmod 3 == b.k.tmod 3)
def askE (o : Nat) : Ask := ⟨if o = 1 then 21 else 20, if o = 1 then rdB else fun _ _ => true, fun _ => False, fun _ _ => True⟩
theorem cfR (a : Array Value) (w : World) : Sem.run Try.prog (callFunc 21 a) w = .ok (.enter 21 a) w := by kernel_rfl
theorem cfL (a : Array Value) (w : World) : Sem.run Try.prog (callFunc 20 a) w = .ok (.enter 20 a) w := by kernel_rfl
set_option maxRecDepth 100000 in
theorem always_any (a b : Th) (w : World) : Calls Try.prog 20 #[.int .i64 a.k, .int .i64 b.k] w fun e w' => e = .returned (.bool true) ∧ Fr w w' (fun _ => False) := by
  go_enter Try.func20, Try.ntmps20
  go_wp2
  first | go_ret | go_ret2
  exact ⟨rfl, Fr.refl _ _⟩
set_option maxRecDepth 100000 in
theorem round_any (a b : Th) (w : World) : Calls Try.prog 21 #[.int .i64 a.k, .int .i64 b.k] w fun e w' => e = .returned (.bool (rdB a b)) ∧ Fr w w' (fun _ => False) := by
  obtain ⟨x⟩ := a
  obtain ⟨y⟩ := b
  have HR : Hid (rdB ⟨x⟩ ⟨y⟩ = (!(x.tmod 3 == y.tmod 3) && ((wrap64 (x + 1)).tmod 3 == y.tmod 3))) := rfl
  generalize rdB ⟨x⟩ ⟨y⟩ = R at *
  by_cases h : x.tmod 3 = y.tmod 3
  · have hR : R = false := by rw [HR.out, h]; simp
    clear HR
    subst hR
    go_enter Try.func21, Try.ntmps21
    go_wp2
    first | go_ret | go_ret2
    exact ⟨rfl, Fr.refl _ _⟩
  · have hR : R = (!(x.tmod 3 == y.tmod 3) && ((wrap64 (x + 1)).tmod 3 == y.tmod 3)) := HR.out
    clear HR
    subst hR
    go_enter Try.func21, Try.ntmps21
    go_wp2
    first | go_ret | go_ret2
    exact ⟨rfl, Fr.refl _ _⟩
theorem askE_ok (o : Nat) (ho : o < 2) : (askE o).Ok := by
  refine ⟨fun args w => ?_, fun _ _ _ => trivial, fun _ h => h.elim, fun a b w c _ => ?_⟩
  · rcases (by omega : o = 0 ∨ o = 1) with rfl | rfl
    · exact cfL args w
    · exact cfR args w
  · rcases (by omega : o = 0 ∨ o = 1) with rfl | rfl
    · exact (always_any a b w).mono fun e w' q => ⟨q.1, q.2, trivial⟩
    · exact (round_any a b w).mono fun e w' q => ⟨q.1, q.2, trivial⟩
set_option maxRecDepth 100000 in
theorem All_any (h : Nat) (w : World) : Calls Try.prog 26 #[ptr h] w fun e w' => e = .returned (.func (.func 57) #[] #[ptr w.heap.size]) ∧ w' = w.alloc (.cells #[ptr h] 47) := by
  go_enter Try.func26, Try.ntmps26
  go_wp2
  first | go_ret | go_ret2
  exact ⟨rfl, rfl⟩
section
variable {A : Ask} {w w' : World} {h : Nat} {v : Value} {t L : List (It Th)} {N c : Nat}
set_option maxRecDepth 100000 in
theorem Peek_any (H : HpA A w h v L N c) : Calls Try.prog 27 #[ptr h] w fun e w' => (∃ a b, e = .returned (.tuple #[.int .i64 a, .int .i64 b])) ∧ w' = w := by
  obtain ⟨t, h1, h2, _⟩ := H
  obtain ⟨d0, d1, d2⟩ := h1.hd
  by_cases h0 : t.length = 0
  · obtain ⟨ao, cap, hvf, hcap⟩ := h1.form
    rw [h0] at hvf
    subst hvf
    clear h1 d0 d2 h2 hcap h0
    go_enter Try.func27, Try.ntmps27
    go_wp2
    first | go_ret | go_ret2
    exact ⟨⟨_, _, rfl⟩, rfl⟩
  · obtain ⟨it, hk⟩ := get_some t (show 0 < t.length by omega)
    obtain ⟨g, off, cap, hv, _, _, _, h4, _⟩ := h1.slice (by omega)
    have hc := h4 0 it hk
    rw [Nat.add_zero] at hc
    obtain ⟨a0, _, _, _⟩ := h1.at hk
    subst hv
    have hl1 : ¬ t.length = 0 := h0
    have hl2 : (0 : Int) < (t.length : Int) := by omega
    have hl3 : 0 < t.length := by omega
    have hne0 : ((t.length : Int) == 0) = false := by rw [beq_eq_false_iff_ne]; omega
    clear h1 h2 d0 d2 h4 hk h0
    go_enter Try.func27, Try.ntmps27
    go_wp2
    first | go_ret | go_ret2
    exact ⟨⟨_, _, rfl⟩, rfl⟩
end
end Go.Proofs.Ytdnhhcbabdoomaa.I
