/-
  Plain mathematics for FieldsParts: parts that are written behind one another come back as they were.
-/
import Derived.Test.YtfgfjkchcnpakaaDoorFGroups
import Derived.Test.YtfgfjkchcnpakaaDoorFMath2
namespace Go.Proofs.YtfgfjkchcnpakaaDoor
set_option linter.unusedVariables false
open Go.RowKit Go.Lib

def not268 (f : Fld) : Bool := decide (f.1 ≠ 268)
def not269 (f : Fld) : Bool := decide (f.1 ≠ 269)
def partOf (p : List Fld) : List Fld := (269, [120]) :: p.filter not269
/-- A number below 100 as digits. -/
def dgt (n : Nat) : List UInt8 := if 9 < n then [UInt8.ofNat (48 + n / 10), UInt8.ofNat (48 + n % 10)] else [UInt8.ofNat (48 + n % 10)]
theorem dgt_dec {n : Nat} (h : n ≤ 99) : dgt n = decDigits n := by
  unfold dgt
  split
  · rw [decDigits_two (by omega) (by omega)]
  · rw [decDigits_one (by omega), Nat.mod_eq_of_lt (by omega)]
def offs : Nat → List (List Fld) → List Nat
  | _, [] => []
  | o, p :: ps => o :: offs (o + p.length) ps
theorem offs_len : ∀ (ps : List (List Fld)) (o : Nat), (offs o ps).length = ps.length
  | [], _ => rfl
  | p :: ps, o => by simp [offs, offs_len ps]
theorem findI_none (t : Int) : ∀ (fs : List Fld) (i : Nat), (∀ f ∈ fs, f.1 ≠ t) → findI t fs i = []
  | [], i, _ => rfl
  | f :: fs, i, h => by
    unfold findI
    rw [if_neg (h f (by simp)), findI_none t fs (i + 1) (fun g hg => h g (by simp [hg]))]
theorem findI_part (p : List Fld) (o : Nat) : findI 269 (partOf p) o = [o] := by
  show (if (269 : Int) = 269 then o :: findI 269 (p.filter not269) (o + 1) else _) = _
  rw [if_pos rfl, findI_none]
  intro f hf
  have := (List.mem_filter.1 hf).2
  simpa [not269] using this
theorem find_offs : ∀ (ps : List (List Fld)) (o : Nat), findI 269 (ps.map partOf).flatten o = offs o (ps.map partOf)
  | [], o => rfl
  | p :: ps, o => by
    rw [List.map_cons, List.flatten_cons, findI_app, findI_part, find_offs ps]
    rfl
theorem cut_offs : ∀ (ps : List (List Fld)) (pre : List Fld), cutL (pre ++ ps.flatten) (offs pre.length ps) = ps
  | [], pre => rfl
  | [p], pre => by
    show [(pre ++ [p].flatten).drop pre.length] = [p]
    rw [List.drop_left' rfl]; simp
  | p :: q :: r, pre => by
    have ih := cut_offs (q :: r) (pre ++ p)
    rw [List.append_assoc, List.length_append] at ih
    show ((pre ++ (p :: q :: r).flatten).take (pre.length + p.length)).drop pre.length :: cutL (pre ++ (p :: q :: r).flatten) (offs (pre.length + p.length) (q :: r)) = _
    rw [List.flatten_cons, ih]
    congr 1
    rw [← List.append_assoc, List.take_left' (by simp), List.drop_left' rfl]
theorem grp_parts (A : List Fld) (hA : ∀ f ∈ A, f.1 ≠ 268) (ps : List (List Fld)) (hn : ps.length ≤ 99) :
    grpL (A ++ [(268, dgt ps.length)] ++ (ps.map partOf).flatten) 268 269 = .ok (ps.map partOf, A) := by
  generalize hP : ps.map partOf = P
  have hlen : P.length = ps.length := by rw [← hP]; simp
  have hfs : (A ++ [((268 : Int), dgt ps.length)] ++ P.flatten) = A ++ (((268 : Int), dgt ps.length) :: P.flatten) := by simp
  rw [hfs]
  have hat : (A ++ (((268 : Int), dgt ps.length) :: P.flatten))[A.length]? = some (268, dgt ps.length) := by rw [List.getElem?_append_right (Nat.le_refl _)]; simp
  have hix : ix (isT 268) (A ++ (((268 : Int), dgt ps.length) :: P.flatten)) = some A.length := by
    refine ix_some _ _ _ _ hat (fun j g hj hg => ?_) (by simp [isT])
    rw [List.getElem?_append_left hj] at hg
    have := hA g (List.mem_of_getElem? hg)
    simp [isT, this]
  unfold grpL
  rw [hix]
  show grpAt _ A.length (((A ++ (((268 : Int), dgt ps.length) :: P.flatten))[A.length]?.map (·.2)).getD []) 269 = _
  rw [hat]
  have hd : (A ++ (((268 : Int), dgt ps.length) :: P.flatten)).drop (A.length + 1) = P.flatten := by
    rw [← List.drop_drop, List.drop_left' rfl]; rfl
  have ht : (A ++ (((268 : Int), dgt ps.length) :: P.flatten)).take A.length = A := List.take_left' rfl
  have hp := pu_dec (u := ps.length) (m := 99) (by omega)
  rw [← dgt_dec hn] at hp
  have hfd : findL 269 P.flatten = offs 0 P := by
    have h := find_offs ps 0
    rw [hP] at h
    exact h
  have hol := offs_len P 0
  have hst : stray P.flatten (offs 0 P) = false := by
    cases P with
    | nil => rfl
    | cons p P' => rfl
  have hcut := cut_offs P []
  rw [List.nil_append] at hcut
  unfold grpAt
  rw [hd, ht, hfd]
  show (if puE (dgt ps.length) 99 = 0 then _ else _) = _
  rw [if_pos hp.2, if_pos ⟨by show ((offs 0 P).length : Int) = puN (dgt ps.length) 99; rw [hol, hp.1, hlen], hst⟩]
  show Except.ok (cutL P.flatten (offs ([] : List Fld).length P), A) = _
  rw [hcut]
end Go.Proofs.YtfgfjkchcnpakaaDoor
