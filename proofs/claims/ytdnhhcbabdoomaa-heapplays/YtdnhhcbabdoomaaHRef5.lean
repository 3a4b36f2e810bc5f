/-
  The reference's heap: has, Remove, Set.
-/
import Derived.Test.YtdnhhcbabdoomaaHRef4
namespace Go.Proofs.Ytdnhhcbabdoomaa
set_option linter.unusedVariables false
set_option linter.unusedSimpArgs false
open Go.RowKit Go.Great

theorem infoRI : ∃ i, Try.prog.info? 137 = some i ∧ i.size ≠ 0 := by
  have h : (Try.prog.info? 137).map (fun i => i.size) = some 4 := by kernel_rfl
  obtain ⟨i, hi, he⟩ := Option.map_eq_some_iff.1 h
  exact ⟨i, hi, by rw [he]; decide⟩
theorem rptr_same (p : Nat) (w : World) : (binOp .eql 133 (ptr p) (ptr p)).run Try.prog w = .ok (.bool true) w := by
  obtain ⟨i, hi, _⟩ := infoRI
  exact run_eql_ptr_same w _ Try.underlying133 hi
theorem rptr_other {p q : Nat} {w : World} {c d : Array Value} (hp : Blk w p 137 c) (hq : Blk w q 137 d) (hne : p ≠ q) : (binOp .eql 133 (ptr p) (ptr q)).run Try.prog w = .ok (.bool false) w := by
  obtain ⟨i, hi, hz⟩ := infoRI
  exact run_eql_ptr_other w Try.underlying133 hi hz (fun e => hne (by injection e)) hp hq
section
variable {w w' : World} {o h : Nat} {v : Value} {R : List RIt}
set_option maxRecDepth 100000 in
set_option maxHeartbeats 2000000 in
theorem rhas_own (H : RH w o h v R) {k : Nat} {a : RIt} (hk : R[k]? = some a) :
    Calls Try.prog 96 #[ptr h, ptr a.p] w fun e w' => e = .returned (.bool (!a.gone)) ∧ Fr w w' (fun _ => False) := by
  have hb := H.its k a hk
  have a2 : w.cell? ⟨a.p, 2, none⟩ = some (.int .i64 (k : Int)) := hb.cell 2
  have a3 : w.cell? ⟨a.p, 3, none⟩ = some (.bool a.gone) := hb.cell 3
  have d1 : w.cell? ⟨h, 1, none⟩ = some v := H.blk.cell 1
  have hkl := get_lt hk
  obtain ⟨g, off, cap, hv, _, _, h4⟩ := H.slice (by omega)
  subst hv
  have hc := h4 _ a hk
  have hlt : (k : Int) < (R.length : Int) := by omega
  have hd1 : decide ((k : Int) < (R.length : Int)) = true := by simpa using hkl
  have hpq := rptr_same a.p
  cases hgo : a.gone with
  | true =>
    rw [hgo] at a3
    clear H hk h4 hkl hb
    go_enter Try.func96, Try.ntmps96
    go_upto_region 1 with fail
    go_quiet (fail)
    go_wp2
    go_ret
    exact ⟨rfl, (Fr.refl _ _).drewN _⟩
  | false =>
    rw [hgo] at a3
    clear H hk h4 hkl hb
    go_enter Try.func96, Try.ntmps96
    go_upto_region 1 with fail
    go_quiet (fail)
    go_wp2
    go_ret
    exact ⟨rfl, (Fr.refl _ _).drewN _⟩
set_option maxRecDepth 100000 in
set_option maxHeartbeats 2000000 in
theorem rhas_other (H : RH w o h v R) {p k : Nat} {x : Th} {gn : Bool} (hb : Blk w p 137 #[.int .i64 x.k, .int .i64 x.g, .int .i64 (k : Int), .bool gn]) (hn : ∀ a, a ∈ R → a.p ≠ p) :
    Calls Try.prog 96 #[ptr h, ptr p] w fun e w' => e = .returned (.bool false) ∧ Fr w w' (fun _ => False) := by
  have a2 : w.cell? ⟨p, 2, none⟩ = some (.int .i64 (k : Int)) := hb.cell 2
  have a3 : w.cell? ⟨p, 3, none⟩ = some (.bool gn) := hb.cell 3
  have d1 : w.cell? ⟨h, 1, none⟩ = some v := H.blk.cell 1
  cases gn with
  | true =>
    clear H hb hn
    go_enter Try.func96, Try.ntmps96
    go_upto_region 1 with fail
    go_quiet (fail)
    go_wp2
    go_ret
    exact ⟨rfl, (Fr.refl _ _).drewN _⟩
  | false =>
    by_cases hkl : k < R.length
    · obtain ⟨g, off, cap, hv, _, _, h4⟩ := H.slice (by omega)
      subst hv
      obtain ⟨b, hbk⟩ := get_some R hkl
      have hc := h4 _ b hbk
      have hne := hn b (List.mem_of_getElem? hbk)
      have hlt : (k : Int) < (R.length : Int) := by omega
      have hd1 : decide ((k : Int) < (R.length : Int)) = true := by simpa using hkl
      have hpq : ∀ n, (binOp .eql 133 (ptr b.p) (ptr p)).run Try.prog (w.drewN n) = .ok (.bool false) (w.drewN n) := fun n => rptr_other (w := w.drewN n) (H.its k b hbk) hb hne
      clear H h4 hkl hb hn hbk
      go_enter Try.func96, Try.ntmps96
      go_upto_region 1 with fail
      go_quiet (fail)
      go_wp2
      go_ret
      exact ⟨rfl, (Fr.refl _ _).drewN _⟩
    · obtain ⟨ao, cap, hvf, _⟩ := H.row.form
      subst hvf
      have hlt : ¬ (k : Int) < (R.length : Int) := by omega
      have hd1 : decide ((k : Int) < (R.length : Int)) = false := by simpa using hkl
      clear H hkl hb hn
      go_enter Try.func96, Try.ntmps96
      go_upto_region 1 with fail
      go_quiet (fail)
      go_wp2
      go_ret
      exact ⟨rfl, (Fr.refl _ _).drewN _⟩
end
end Go.Proofs.Ytdnhhcbabdoomaa
