/-
  framer's rows: the tables that the rows list; bytes and cuts that came in.
-/
import Derived.Test.YtkpoheknmcepnaaGreatDoorRows
import Derived.Test.YtkpoheknmcepnaaGreatDoorTie
import Derived.Test.YtkpoheknmcepnaaGreatDoorCards
import Derived.Test.YtkpoheknmcepnaaGreatDoorFrE
import Derived.ProofKit
import Derived.LaidMore
import Derived.Lay
import Derived.OpenShut
import Derived.ShutString
import Derived.Stop.Joined
import Derived.Stop.LaidErr
import Derived.SevenTiedAt
import Derived.ChangeOld
import Derived.Below
import Derived.Deep.DeepHandedRow
import Derived.SizedLaws
import Derived.ChangeSlices
namespace Go.Proofs.YtkpoheknmcepnaaGreatDoor
set_option linter.unusedVariables false
open Go.ChangeShapes Go.WideShapes Go.ChangeAt Go.RowKit Go.Deep

theorem own : ownKnob Tryz.prog.godebug = none := by kernel_rfl
theorem laidOut : laidOutB Tryz.prog = true := by kernel_rfl
/-- The list that every row of the seat bears. -/
abbrev tabs : List (String × DataW Unit) := [("math/bits.deBruijn32tab", Rows.laid_math_bits_deBruijn32tab), ("math/bits.deBruijn64tab", Rows.laid_math_bits_deBruijn64tab), ("internal/strconv.uint64pow10", Rows.laid_internal_strconv_uint64pow10), ("outcry/clock.monthDays", Rows.laid_outcry_clock_monthDays)]
theorem pow10_data : (Rows.laid_internal_strconv_uint64pow10 : DataW Unit) = Lib.tabData .u64 Lib.pow10Tab := by kernel_rfl
theorem gPow : Tryz.prog.globalNamed "internal/strconv.uint64pow10" = some 0 := by kernel_rfl
theorem tPow : (Tryz.prog.globals[0]?).map (·.type) = some 178 := by kernel_rfl
theorem mon_data : (Rows.laid_outcry_clock_monthDays : DataW Unit) = Lib.tabData .i64 monTab := by kernel_rfl
theorem gMon : Tryz.prog.globalNamed "outcry/clock.monthDays" = some 1 := by kernel_rfl
theorem tMon : (Tryz.prog.globals[1]?).map (·.type) = some 188 := by kernel_rfl
theorem pow_of {W : World} (h : laidMetH Tryz.prog tabs W) : Pow W := by
  rw [MakeChecks.laidMetH_plain _ _ _ (by kernel_rfl)] at h
  have h2 := h.tail.tail
  rw [pow10_data] at h2
  exact Lib.tabIs_of_head gPow tPow Tryz.underlying178 Tryz.underlying79 (by kernel_rfl) (by kernel_rfl) h2
theorem tab_of {W : World} (h : laidMetH Tryz.prog tabs W) : Mon W := by
  rw [MakeChecks.laidMetH_plain _ _ _ (by kernel_rfl)] at h
  have h2 := h.tail.tail.tail
  rw [mon_data] at h2
  have t := Lib.tabIs_of_head gMon tMon Tryz.underlying188 Tryz.underlying3 (by kernel_rfl) (by kernel_rfl) h2
  exact fun k hk => t.cell gMon k hk
theorem tabs_met (os : Os) (args : Array Value) : laidMetH Tryz.prog tabs ((World.laidAll Tryz.prog os tabs).forCall (fun _ _ => 0) ⟨#[], args, []⟩).memory := by
  rw [MakeChecks.laidMetH_plain _ _ _ (by kernel_rfl)]
  exact laidMet_laidAll _ (by kernel_rfl) (by kernel_rfl)
theorem bulk_lits {H : Type} (k : IntKind) : ∀ zs : List Int, Rows.uptoBulkAll (lits k zs : List (DataW H)) = zs.length
  | [] => rfl
  | z :: zs => by
    have := bulk_lits (H := H) k zs
    show Rows.uptoBulk (.lit (.int k z)) + Rows.uptoBulkAll (lits k zs : List (DataW H)) = _
    rw [this, List.length_cons]
    simp [Rows.uptoBulk]; omega
theorem wf_i64 {z : Int} (h : (Lit.int .i64 z).wf = true) : -9223372036854775808 ≤ z ∧ z ≤ 9223372036854775807 := by
  simp [Lit.wf, IntKind.min, IntKind.max, IntKind.signed, IntKind.bits] at h
  omega
/-- Bytes that came in. -/
theorem open_bytes {H : Type} {enc : TypeId × Value → H} {W : World} {a : Option Addr} {len cap fuel : Nat} {x : DataW H × List MemPlace} (h : DataW.trod enc Tryz.prog W 0 (fun _ => true) true fuel 22 [.slice a len cap] = some x) :
    ∃ g l, PcAt g W (.slice a len cap) l ∧ l.length = len ∧ len ≤ Rows.uptoBulk x.1 := by
  rcases open_ints Tryz.underlying22 Tryz.underlying5 (by kernel_rfl) h with ⟨hcs, _⟩ | ⟨ad, l, c, zs, hcs, _, hl, hm, hz, hx, hcell, hwz⟩
  · simp at hcs
    obtain ⟨rfl, rfl, rfl⟩ := hcs
    exact ⟨0, [], ⟨none, 0, 0, rfl, Nat.le_refl _, fun h => absurd h (Nat.lt_irrefl _), .inl rfl⟩, rfl, Nat.zero_le _⟩
  · simp at hcs
    obtain ⟨rfl, rfl, rfl⟩ := hcs
    have hz' : zs.length = cap := by simpa using hz
    have hb : len ≤ Rows.uptoBulk x.1 := by
      rw [hx]
      show len ≤ Rows.uptoBulkAll _ + Rows.uptoBulkAll _ + 1
      rw [bulk_lits, bulk_lits, List.length_take]
      omega
    by_cases h0 : len = 0
    · subst h0
      exact ⟨0, [], ⟨some ad, 0, cap, rfl, Nat.zero_le _, fun h => absurd h (Nat.lt_irrefl _), .inl rfl⟩, rfl, hb⟩
    · obtain ⟨b, off, spot⟩ := ad
      have h1 := hcell 0 (by omega)
      have hsp : spot = none := by
        cases spot with
        | none => rfl
        | some s =>
          simp [Addr.add, World.cell?] at h1
          split at h1 <;> simp at h1
      subst hsp
      have hll : ((List.range len).map fun j => UInt8.ofNat (zs.getD j 0).toNat).length = len := by simp
      refine ⟨b, (List.range len).map fun j => UInt8.ofNat (zs.getD j 0).toNat, ⟨_, off, cap, by rw [hll], by rw [hll]; exact hl, fun _ => rfl, .inr ⟨b, off, rfl, fun j hj => ?_⟩⟩, hll, hb⟩
      rw [hll] at hj
      have h2 := hcell j (by omega)
      rw [show (⟨b, off, none⟩ : Addr).add j = ⟨b, off + j, none⟩ by unfold Addr.add; split <;> simp_all] at h2
      have h3 := hwz (zs.getD j 0) (by rw [List.getD_eq_getElem?_getD, List.getElem?_eq_getElem (by omega)]; exact List.getElem_mem _)
      simp [Lit.wf, IntKind.min, IntKind.max, IntKind.signed, IntKind.bits, -List.getD_eq_getElem?_getD] at h3
      rw [h2, List.getElem_map, List.getElem_range]
      generalize zs.getD j 0 = z at *
      have : (UInt8.ofNat z.toNat).toNat = z.toNat := by simp [UInt8.toNat_ofNat']; omega
      rw [this, Int.toNat_of_nonneg (by omega)]
/-- Cuts that came in. -/
theorem open_cuts {H : Type} {enc : TypeId × Value → H} {W : World} {a : Option Addr} {len cap fuel : Nat} {x : DataW H × List MemPlace} (h : DataW.trod enc Tryz.prog W 0 (fun _ => true) true fuel 23 [.slice a len cap] = some x) :
    (∀ k, k < len → ∃ z : Int, -9223372036854775808 ≤ z ∧ z ≤ 9223372036854775807 ∧ ∃ gc oc, a = some ⟨gc, oc, none⟩ ∧ W.cell? ⟨gc, oc + k, none⟩ = some (.int .i64 z)) ∧ len ≤ Rows.uptoBulk x.1 := by
  rcases open_ints Tryz.underlying23 Tryz.underlying3 (by kernel_rfl) h with ⟨hcs, _⟩ | ⟨ad, l, c, zs, hcs, _, hl, hm, hz, hx, hcell, hwz⟩
  · simp at hcs
    obtain ⟨rfl, rfl, rfl⟩ := hcs
    exact ⟨fun k hk => absurd hk (Nat.not_lt_zero _), Nat.zero_le _⟩
  · simp at hcs
    obtain ⟨rfl, rfl, rfl⟩ := hcs
    have hz' : zs.length = cap := by simpa using hz
    refine ⟨fun k hk => ?_, ?_⟩
    · obtain ⟨b, off, spot⟩ := ad
      have h1 := hcell 0 (by omega)
      have hsp : spot = none := by
        cases spot with
        | none => rfl
        | some s =>
          simp [Addr.add, World.cell?] at h1
          split at h1 <;> simp at h1
      subst hsp
      have h2 := hcell k (by omega)
      rw [show (⟨b, off, none⟩ : Addr).add k = ⟨b, off + k, none⟩ by unfold Addr.add; split <;> simp_all] at h2
      have h3 := hwz (zs.getD k 0) (by rw [List.getD_eq_getElem?_getD, List.getElem?_eq_getElem (by omega)]; exact List.getElem_mem _)
      simp [Lit.wf, IntKind.min, IntKind.max, IntKind.signed, IntKind.bits, -List.getD_eq_getElem?_getD] at h3
      exact ⟨_, by omega, by omega, b, off, rfl, h2⟩
    · rw [hx]
      show len ≤ Rows.uptoBulkAll _ + Rows.uptoBulkAll _ + 1
      rw [bulk_lits, bulk_lits, List.length_take]
      omega
end Go.Proofs.YtkpoheknmcepnaaGreatDoor
