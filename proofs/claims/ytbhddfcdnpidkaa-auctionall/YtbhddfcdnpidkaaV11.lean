/-
  A stable sort over rows of four cells: two stretches of a row are exchanged.
-/
import Derived.Test.YtbhddfcdnpidkaaV10
import Derived.Test.YtbhddfcdnpidkaaU5
import Derived.Shelf.SlSortCmp.KitK
import Derived.Sort.WalkB2
import Derived.Sort.WalkB12
import Derived.Deep.LoopGhost
namespace Go.Proofs.Ytbhddfcdnpidkaa
set_option linter.unusedVariables false
set_option linter.unusedSimpArgs false
set_option linter.unusedSectionVars false
open Go.RowKit Go.Great Go.Shelf Go.Lib Go.Sort
variable {P : Program} {k : Nat} {α : Type} [Inhabited α]

/-- A program that bears the stable sort's functions, with rows of k cells. -/
structure Ly (P : Program) (k : Nat) : Prop where
  mixed : P.follows .mixedOrders = true
  f59 : P.funcs[(59 : Nat)]? = some Try.f59
  f70 : P.funcs[(70 : Nat)]? = some Try.f70
  f84 : P.funcs[(84 : Nat)]? = some Try.f84
  f90 : P.funcs[(90 : Nat)]? = some Try.f90
  t3 : P.underlying 3 = some (TypeDesc.int IntKind.i64)
  a3 : ∀ w, (isAgg 3).run P w = .ok false w
  z3 : ∀ w, (Go.sizeOf 3).run P w = .ok 1 w
  v3 : ∀ w, (zeroValue 3).run P w = .ok (Value.int IntKind.i64 0) w
  t4 : P.underlying 4 = some (TypeDesc.bool)
  a4 : ∀ w, (isAgg 4).run P w = .ok false w
  z4 : ∀ w, (Go.sizeOf 4).run P w = .ok 1 w
  v4 : ∀ w, (zeroValue 4).run P w = .ok (Value.bool false) w
  t58 : P.underlying 58 = some (TypeDesc.slice 69)
  a58 : ∀ w, (isAgg 58).run P w = .ok false w
  z58 : ∀ w, (Go.sizeOf 58).run P w = .ok 1 w
  v58 : ∀ w, (zeroValue 58).run P w = .ok (Value.slice none 0 0) w
  t79 : P.underlying 79 = some (TypeDesc.func #[69, 69] #[3] false)
  a79 : ∀ w, (isAgg 79).run P w = .ok false w
  z79 : ∀ w, (Go.sizeOf 79).run P w = .ok 1 w
  v79 : ∀ w, (zeroValue 79).run P w = .ok (Value.nilFunc) w
  t96 : P.underlying 96 = some (TypeDesc.int IntKind.u64)
  a96 : ∀ w, (isAgg 96).run P w = .ok false w
  z96 : ∀ w, (Go.sizeOf 96).run P w = .ok 1 w
  v96 : ∀ w, (zeroValue 96).run P w = .ok (Value.int IntKind.u64 0) w
  aE : ∀ w, (isAgg 69).run P w = .ok true w
  zE : ∀ w, (Go.sizeOf 69).run P w = .ok k w
theorem Ly.of : Ly Try.prog 4 where
  mixed := by kernel_rfl
  f59 := Try.func59
  f70 := Try.func70
  f84 := Try.func84
  f90 := Try.func90
  t3 := Try.underlying3
  a3 := fun w => by kernel_rfl
  z3 := fun w => by kernel_rfl
  v3 := fun w => by kernel_rfl
  t4 := Try.underlying4
  a4 := fun w => by kernel_rfl
  z4 := fun w => by kernel_rfl
  v4 := fun w => by kernel_rfl
  t58 := Try.underlying58
  a58 := fun w => by kernel_rfl
  z58 := fun w => by kernel_rfl
  v58 := fun w => by kernel_rfl
  t79 := Try.underlying79
  a79 := fun w => by kernel_rfl
  z79 := fun w => by kernel_rfl
  v79 := fun w => by kernel_rfl
  t96 := Try.underlying96
  a96 := fun w => by kernel_rfl
  z96 := fun w => by kernel_rfl
  v96 := fun w => by kernel_rfl
  aE := fun w => by kernel_rfl
  zE := fun w => by kernel_rfl
set_option maxHeartbeats 4000000 in
set_option maxRecDepth 1000000 in
theorem swapRange_any (L : Ly P k) (enc : α → List Value) (g : Nat) (cb : Array Value) (blk off cap x y n : Nat) (d0 d : Array α) (w0 w : World) (R : RowK enc k w0 blk off d0) (hs : d0.size = d.size) (S : SWK enc k w0 blk off d w) (hxy : x + n ≤ y) (hb : y + n ≤ d.size) (hsz : d.size < 4611686018427387904) :
    Calls P 90 #[.slice (some ⟨blk, off, none⟩) d.size cap, .int .i64 x, .int .i64 y, .int .i64 n, .func (.func g) #[] cb] w fun e w' => e = .returned (.tuple #[]) ∧ SWK enc k w0 blk off (swapR d x y n) w' := by
  have mixed := L.mixed; have aE := L.aE; have zE := L.zE; have u58 := run_underlying L.t58; have t3 := L.t3; have a3 := L.a3; have z3 := L.z3; have v3 := L.v3; have t4 := L.t4; have a4 := L.a4; have z4 := L.z4; have v4 := L.v4; have t58 := L.t58; have a58 := L.a58; have z58 := L.z58; have v58 := L.v58; have t79 := L.t79; have a79 := L.a79; have z79 := L.z79; have v79 := L.v79; have t96 := L.t96; have a96 := L.a96; have z96 := L.z96; have v96 := L.v96
  have S0 : Aside (SWK enc k w0 blk off d w) := S
  clear S
  go_enter L.f90, Try.ntmps90
  go_wp2
  go_loopg [10] n (fun kx s10 wr => ∃ (i : Nat) (dk : Array α), s10 = .int .i64 i ∧ i ≤ n ∧ n - i ≤ kx ∧ dk.size = d.size ∧ Aside (SWK enc k w0 blk off dk wr) ∧ Hid (dk = swapR d x y i))
  case atStart => exact ⟨0, d, rfl, by omega, by omega, rfl, S0, rfl⟩
  case round =>
    clear S0
    obtain ⟨i, dk, rfl, hin, hkx, hds, S1, HE⟩ := hrel
    by_cases hlt : i < n
    · have hltz : (i : Int) < (n : Int) := by omega
      go_wp2_with fail
      have eas : ((x : Int) + (i : Int) : Int).toNat = x + i := by omega
      have pas : (0 : Int) ≤ (x : Int) + (i : Int) := by omega
      have bas : (x : Int) + (i : Int) < (d.size : Int) := by omega
      have ras : IntKind.i64.wrap ((x : Int) + (i : Int)) = (x : Int) + (i : Int) := by rw [IntKind.wrap_i64]; omega
      have ecs : ((y : Int) + (i : Int) : Int).toNat = y + i := by omega
      have pcs : (0 : Int) ≤ (y : Int) + (i : Int) := by omega
      have bcs : (y : Int) + (i : Int) < (d.size : Int) := by omega
      have rcs : IntKind.i64.wrap ((y : Int) + (i : Int)) = (y : Int) + (i : Int) := by rw [IntKind.wrap_i64]; omega
      have S2 : Aside (SWK enc k w0 blk off (swp dk (x + i) (y + i)) ((wr.drew.setCells blk (off + (x + i) * k) (enc dk[y + i]!)).setCells blk (off + (y + i) * k) (enc dk[x + i]!))) := S1.out.swapped R (x + i) (y + i) (by omega) (by omega)
      have lsa := S1.out.ld1 R (by omega) P (x + i) (by omega)
      have lsb := S1.out.ld1 R (by omega) P (y + i) (by omega)
      have ssa := S1.out.st1 R (by omega) P (x + i) (by omega) dk[y + i]!
      have ssb := S1.out.st2 R (by omega) P (x + i) (y + i) (by omega) (by omega) dk[y + i]! dk[x + i]!
      have nsa : (enc dk[x + i]!).length = k := R.hk _
      have nsb : (enc dk[y + i]!).length = k := R.hk _
      generalize enc dk[x + i]! = cIs at S2 lsa ssb nsa
      generalize enc dk[y + i]! = cJs at S2 lsb ssa ssb nsb
      clear S1
      go_wp2_with fail
      go_big_region_o
      clear lsa lsb ssa ssb nsa nsb
      generalize (wr.drew.setCells blk (off + (x + i) * k) cJs).setCells blk (off + (y + i) * k) cIs = w2 at S2 ⊢
      clear eas ecs pas pcs bas bcs ras rcs

      go_wp2
      go_roundg (n - (i + 1))
      case measure => omega
      case rel => exact ⟨i + 1, swp dk (x + i) (y + i), by first | rfl | go_num, by omega, Nat.le_refl _, by rw [size_swp]; exact hds, S2, (show _ = _ by rw [HE.out]; rfl)⟩
    · have hltz : ¬ (i : Int) < (n : Int) := by omega
      have e : i = n := by omega
      subst e
      go_wp2
      go_end0
      exact ⟨rfl, by rw [← HE.out]; exact S1.out⟩
end Go.Proofs.Ytbhddfcdnpidkaa
