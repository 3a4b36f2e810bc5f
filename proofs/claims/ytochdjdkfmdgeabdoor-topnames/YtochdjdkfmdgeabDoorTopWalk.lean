/-
  TopNames: the walk. Outcry, stage 1.
-/
import Derived.Test.YtochdjdkfmdgeabDoorProg
import Derived.WalkKit
import Derived.WalkSpells
import Derived.WalkLawsBesides
import Derived.Deep.QuietTactic
import Derived.BigQuiet
import Derived.Deep.RegionWith
namespace Go.Proofs.YtochdjdkfmdgeabDoor
open Go.RowKit

set_option maxRecDepth 100000 in
set_option maxHeartbeats 1000000 in
theorem itoa_7 (w : World) :
    Calls Tryd.prog 58 #[.int .i64 7] w fun e w' => e = .returned (.string ⟨#[55]⟩) ∧ w' = w := by
  go_enter Tryd.func58, Tryd.ntmps58
  go_wp2
  go_ret
  exact ⟨rfl, rfl⟩

set_option maxRecDepth 100000 in
set_option maxHeartbeats 1000000 in
theorem err_40 (w : World) :
    Calls Tryd.prog 35 #[.int .i64 40] w fun e w' => e = .returned (.string ⟨#[111, 117, 116, 99, 114, 121, 58, 32, 101, 114, 114, 111, 114, 32, 52, 48]⟩) ∧ w' = w := by
  go_enter Tryd.func35, Tryd.ntmps35
  go_wp2
  go_ret
  exact ⟨rfl, rfl⟩

set_option maxRecDepth 100000 in
set_option maxHeartbeats 1000000 in
theorem err_1 (w : World) :
    Calls Tryd.prog 35 #[.int .i64 1] w fun e w' => e = .returned (.string ⟨#[111, 117, 116, 99, 114, 121, 58, 32, 101, 114, 114, 111, 114, 32, 49]⟩) ∧ w' = w := by
  go_enter Tryd.func35, Tryd.ntmps35
  go_wp2
  go_ret
  exact ⟨rfl, rfl⟩

set_option maxRecDepth 100000 in
set_option maxHeartbeats 1000000 in
theorem fault_err (b : Nat) (w : World) (h0 : w.cell? ⟨b, 0, none⟩ = some (.int .i64 7)) (h1 : w.cell? ⟨b, 1, none⟩ = some (.int .i64 40)) :
    Calls Tryd.prog 34 #[.pointer (some ⟨b, 0, none⟩)] w fun e w' => (∃ x xs, e = .returned (.string ⟨(x :: xs).toArray⟩)) ∧ ∃ n, w' = w.drewN n := by
  go_enter Tryd.func34, Tryd.ntmps34
  go_wp2
  go_quiet ((first | (go_at_call 35; exact Calls.quiet_of_same (err_40 _)) | (go_at_call 58; exact Calls.quiet_of_same (itoa_7 _))))
  go_wp2
  go_ret
  exact ⟨⟨111, _, rfl⟩, _, rfl⟩

set_option maxRecDepth 100000 in
set_option maxHeartbeats 1000000 in
theorem topNames_any (w : World) :
    Calls Tryd.prog 6 #[] w fun e w' => e = .returned (.bool true) ∧ Below w.heap.size w w' := by
  have heq : ∀ wx : World, (binOp BinOp.eql 51 (Value.iface 31 (Value.int IntKind.i64 40)) (Value.iface 31 (Value.int IntKind.i64 40))).run Tryd.prog wx = .ok (.bool true) wx := fun _ => by kernel_rfl
  go_enter Tryd.func6, Tryd.ntmps6
  go_wp2_with (first | (go_at_call 34; refine (fault_err _ _ (by simp) (by simp)).mono ?_; rintro e w' ⟨⟨x, xs, rfl⟩, n, rfl⟩) | (go_at_call 35; refine (err_1 _).mono ?_; rintro e w' ⟨rfl, rfl⟩) | go_in)
  go_ret
  exact ⟨rfl, below_drewN ((Below.refl _ _).alloc (Nat.le_refl _) _) _⟩
end Go.Proofs.YtochdjdkfmdgeabDoor
