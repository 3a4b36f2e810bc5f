/-
  Plain mathematics for package fields: frames as lists of bytes. Nothing of the dump is imported.
-/
import Derived.Test.YtkpoheknmcepnaaGreatDoorFNum
namespace Go.Proofs.YtkpoheknmcepnaaGreatDoor
set_option linter.unusedVariables false
open Go.RowKit Go.Lib

/-- A text as a value's bytes, and back. -/
def bs (l : List UInt8) : ByteArray := ⟨l.toArray⟩
theorem bs_list (l : List UInt8) : (bs l).data.toList = l := rfl
theorem bs_data (s : ByteArray) : bs s.data.toList = s := rfl
theorem bs_size (l : List UInt8) : (bs l).size = l.length := by show l.toArray.size = _; simp
theorem bs_inj {a b : List UInt8} (h : bs a = bs b) : a = b := by have := congrArg (fun x => x.data.toList) h; simpa [bs_list] using this

/-- Is a byte one of a value? -/
def vby (c : UInt8) : Bool := decide (32 ≤ (c.toNat : Int)) && decide ((c.toNat : Int) ≤ 126)
theorem vby_iff (c : UInt8) : vby c = true ↔ 32 ≤ (c.toNat : Int) ∧ (c.toNat : Int) ≤ 126 := by simp [vby]
/-- How many bytes at the head of a list are such. -/
def cnt (p : UInt8 → Bool) : List UInt8 → Nat
  | [] => 0
  | c :: l => if p c then cnt p l + 1 else 0
theorem cnt_le (p : UInt8 → Bool) : ∀ l : List UInt8, cnt p l ≤ l.length
  | [] => Nat.le_refl _
  | c :: l => by
    unfold cnt
    split
    · have := cnt_le p l; simp; omega
    · simp
theorem cnt_all (p : UInt8 → Bool) : ∀ l : List UInt8, ∀ c ∈ l.take (cnt p l), p c = true
  | [], c, h => by simp [cnt] at h
  | d :: l, c, h => by
    unfold cnt at h
    split at h
    · rename_i hd
      rw [List.take_succ_cons, List.mem_cons] at h
      rcases h with rfl | h
      · exact hd
      · exact cnt_all p l c h
    · simp at h
theorem cnt_next (p : UInt8 → Bool) : ∀ l : List UInt8, ∀ c, l[cnt p l]? = some c → p c = false
  | [], c, h => by simp [cnt] at h
  | d :: l, c, h => by
    unfold cnt at h
    split at h
    · rw [List.getElem?_cons_succ] at h
      exact cnt_next p l c h
    · rename_i hd
      simp at h
      subst h
      simpa using hd
/-- Where all of a beginning are such, and what follows is not. -/
theorem cnt_eq (p : UInt8 → Bool) : ∀ (a b : List UInt8), (∀ c ∈ a, p c = true) → (∀ c, b[0]? = some c → p c = false) → cnt p (a ++ b) = a.length
  | [], [], _, _ => rfl
  | [], d :: b, _, h => by
    have := h d rfl
    show cnt p (d :: b) = 0
    unfold cnt
    rw [if_neg (by simp [this])]
  | c :: a, b, h, g => by
    show cnt p (c :: (a ++ b)) = _
    unfold cnt
    rw [if_pos (h c (by simp)), cnt_eq p a b (fun x hx => h x (by simp [hx])) g]
    rfl
theorem cnt_step (p : UInt8 → Bool) : ∀ (l : List UInt8) (k : Nat) (h : k < l.length), (∀ c ∈ l.take k, p c = true) → p l[k] = false → cnt p l = k := by
  intro l k h h1 h2
  have e : l = l.take k ++ l.drop k := (List.take_append_drop k l).symm
  rw [e, cnt_eq p _ _ h1 (fun c hc => ?_)]
  · simp; omega
  · rw [List.getElem?_drop, Nat.add_zero, List.getElem?_eq_getElem h] at hc
    injection hc with hc
    rw [← hc]; exact h2
theorem cnt_whole (p : UInt8 → Bool) (l : List UInt8) (h : ∀ c ∈ l, p c = true) : cnt p l = l.length := by
  have := cnt_eq p l [] h (fun c hc => by simp at hc)
  simpa using this

/-- How far two lists are the same. -/
def pre : List UInt8 → List UInt8 → Nat
  | a :: s, b :: t => if a = b then pre s t + 1 else 0
  | _, _ => 0
theorem pre_app : ∀ a b : List UInt8, pre (a ++ b) a = a.length
  | [], b => by cases b <;> rfl
  | c :: a, b => by
    show pre (c :: (a ++ b)) (c :: a) = _
    unfold pre
    rw [if_pos rfl, pre_app a b]; rfl
theorem pre_le : ∀ a b : List UInt8, pre a b ≤ b.length
  | [], b => by unfold pre; exact Nat.zero_le _
  | _ :: _, [] => by unfold pre; exact Nat.zero_le _
  | a :: s, b :: t => by
    unfold pre
    split
    · have := pre_le s t; simp; omega
    · simp
theorem pre_le' : ∀ a b : List UInt8, pre a b ≤ a.length
  | [], b => by unfold pre; exact Nat.zero_le _
  | _ :: _, [] => by unfold pre; exact Nat.zero_le _
  | a :: s, b :: t => by
    unfold pre
    split
    · have := pre_le' s t; simp; omega
    · simp
theorem pre_full : ∀ a b : List UInt8, ¬ pre a b < b.length → a = b ++ a.drop b.length
  | a, [], _ => by simp
  | [], b :: t, h => by unfold pre at h; simp at h
  | a :: s, b :: t, h => by
    unfold pre at h
    split at h
    · rename_i e
      subst e
      simp only [List.length_cons, List.drop_succ_cons, List.cons_append]
      rw [← pre_full s t (by simpa using h)]
    · simp at h
theorem pre_at : ∀ (a b : List UInt8) (k : Nat), (∀ j, j < k → a[j]? = b[j]? ∧ a[j]? ≠ none) → (a[k]? ≠ b[k]? ∨ a[k]? = none) → pre a b = k
  | a, b, 0, _, h => by
    cases a with
    | nil => rfl
    | cons c a =>
      cases b with
      | nil => rfl
      | cons d b =>
        unfold pre
        rw [if_neg]
        intro e
        subst e
        simp at h
  | a, b, k + 1, h, g => by
    have h0 := h 0 (by omega)
    cases a with
    | nil => simp at h0
    | cons c a =>
      cases b with
      | nil => simp at h0
      | cons d b =>
        simp at h0
        subst h0
        unfold pre
        rw [if_pos rfl, pre_at a b k (fun j hj => by have := h (j + 1) (by omega); simpa using this) (by simpa using g)]

/-- The sum of bytes, modulo 256. -/
def sumL (l : List UInt8) : Nat := (l.foldl (fun a c => a + c.toNat) 0) % 256
theorem sum_from : ∀ (l : List UInt8) (n : Nat), l.foldl (fun a c => a + c.toNat) n = n + l.foldl (fun a c => a + c.toNat) 0
  | [], n => by simp
  | c :: l, n => by
    rw [List.foldl_cons, List.foldl_cons, sum_from l (n + c.toNat), sum_from l (0 + c.toNat)]; omega
theorem sumL_lt (l : List UInt8) : sumL l < 256 := Nat.mod_lt _ (by decide)
theorem sumL_snoc (l : List UInt8) (c : UInt8) : sumL (l ++ [c]) = (sumL l + c.toNat) % 256 := by
  unfold sumL
  rw [List.foldl_append, List.foldl_cons, List.foldl_nil]; omega
/-- A number below 1000 as three digits. -/
def three (n : Nat) : List UInt8 := [UInt8.ofNat (48 + n / 100), UInt8.ofNat (48 + n / 10 % 10), UInt8.ofNat (48 + n % 10)]
theorem dec_thousand {r : Nat} (h : r < 256) : decDigits (1000 + r) = 49 :: three r := by
  have e1 : decDigits (1000 + r) = decDigits ((1000 + r) / 10) ++ [UInt8.ofNat (48 + (1000 + r) % 10)] := by rw [decDigits, dif_neg (by omega)]
  have e2 : decDigits ((1000 + r) / 10) = decDigits ((1000 + r) / 10 / 10) ++ [UInt8.ofNat (48 + (1000 + r) / 10 % 10)] := by rw [decDigits, dif_neg (by omega)]
  rw [e1, e2, decDigits_two (by omega) (by omega)]
  rw [show (1000 + r) / 10 / 10 / 10 = 1 by omega, show (1000 + r) / 10 / 10 % 10 = r / 100 by omega, show (1000 + r) / 10 % 10 = r / 10 % 10 by omega, show (1000 + r) % 10 = r % 10 by omega]
  rfl
theorem three_inj {a b : Nat} (ha : a < 1000) (hb : b < 1000) (h : three a = three b) : a = b := by
  unfold three at h
  simp only [List.cons.injEq, and_true] at h
  obtain ⟨h1, h2, h3⟩ := h
  have f : ∀ x y : Nat, x < 10 → y < 10 → UInt8.ofNat (48 + x) = UInt8.ofNat (48 + y) → x = y := fun x y hx hy e => by
    have := congrArg UInt8.toNat e
    rw [chr_nat hx, chr_nat hy] at this; omega
  have g1 := f _ _ (by omega) (by omega) h1
  have g2 := f _ _ (by omega) (by omega) h2
  have g3 := f _ _ (by omega) (by omega) h3
  omega
theorem three_digs {a : Nat} (ha : a < 1000) : ∀ c ∈ three a, dig c = true := by
  intro c hc
  unfold three at hc
  simp only [List.mem_cons, List.not_mem_nil, or_false] at hc
  rcases hc with rfl | rfl | rfl <;> exact dig_chr (by omega)

/-- A field: its tag and its value. -/
abbrev Fld := Int × List UInt8
def isTg (t : Int) : Bool := decide (1 ≤ t) && decide (t ≤ 9999) && (decide (t < 8) || decide (10 < t))
theorem isTg_iff (t : Int) : isTg t = true ↔ 1 ≤ t ∧ t ≤ 9999 ∧ (t < 8 ∨ 10 < t) := by
  simp [isTg, and_assoc]
def okV (l : List UInt8) : Bool := !l.isEmpty && l.all vby
/-- What stands at the head of a body: a field and how many bytes it has; or a fault: its number, and how far behind. -/
abbrev RF := Except (Int × Nat) (Fld × Nat)
def rdV (t : Int) (d : Nat) (q : List UInt8) : RF :=
  if 0 < cnt vby q ∧ q[cnt vby q]? = some 1 then .ok ((t, q.take (cnt vby q)), d + 1 + cnt vby q + 1) else .error (42, d + 1 + cnt vby q)
def tagOk (l : List UInt8) : Bool := decide (puE (l.take (cnt dig l)) 9999 = 0) && isTg (puN (l.take (cnt dig l)) 9999) && decide (l[cnt dig l]? = some 61)
def rdFF (l : List UInt8) : RF :=
  if tagOk l = true then rdV (puN (l.take (cnt dig l)) 9999) (cnt dig l) (l.drop (cnt dig l + 1)) else .error (41, 0)
/-- The fields of a text from a place on. -/
def addF (f : Fld) : Except (Int × Nat) (List Fld) → Except (Int × Nat) (List Fld)
  | .ok l => .ok (f :: l)
  | .error x => .error x
def rdAll (t : List UInt8) : Nat → Nat → Except (Int × Nat) (List Fld)
  | 0, _ => .ok []
  | n + 1, a => if a < t.length then (match rdFF (t.drop a) with | .ok (f, k) => addF f (rdAll t n (a + k)) | .error (e, k) => .error (e, a + k)) else .ok []
def addFs (fs : List Fld) (r : Except (Int × Nat) (List Fld)) : Except (Int × Nat) (List Fld) := fs.foldr addF r
theorem addFs_snoc (fs : List Fld) (f : Fld) (r : Except (Int × Nat) (List Fld)) : addFs (fs ++ [f]) r = addFs fs (addF f r) := by
  unfold addFs; rw [List.foldr_append]; rfl
theorem addFs_ok (fs l : List Fld) : addFs fs (.ok l) = .ok (fs ++ l) := by
  induction fs with
  | nil => rfl
  | cons f fs ih => show addF f (addFs fs (.ok l)) = _; rw [ih]; rfl
theorem addFs_err (fs : List Fld) (x : Int × Nat) : addFs fs (.error x) = .error x := by
  induction fs with
  | nil => rfl
  | cons f fs ih => show addF f (addFs fs (.error x)) = _; rw [ih]; rfl

/-- The head of a frame; where the length's digits end. -/
def headL : List UInt8 := [56, 61, 70, 73, 88, 46, 52, 46, 52, 1, 57, 61]
def numEnd (t : List UInt8) (a : Nat) : Nat := if t[a]? = some 48 then a + 1 else a + min (cnt dig (t.drop a)) 4
def bodyL (s : List UInt8) : Except (Int × Nat) Nat :=
  if pre s headL < 12 then .error (40, pre s headL)
  else if numEnd s 12 = 12 ∨ s[numEnd s 12]? ≠ some 1 then .error (40, numEnd s 12)
  else if (s.length : Int) - ((numEnd s 12 : Int) + 1) = puN ((s.drop 12).take (numEnd s 12 - 12)) 9999 + 7 then .ok (numEnd s 12 + 1) else .error (43, 12)
def tenL : List UInt8 := [49, 48, 61]
def lastL (s : List UInt8) (a n : Nat) : Option (Int × Nat) :=
  if pre (s.drop a) tenL < 3 then some (40, a + pre (s.drop a) tenL)
  else if cnt dig ((s.drop (a + 3)).take 3) < 3 then some (40, a + 3 + cnt dig ((s.drop (a + 3)).take 3))
  else if s[a + 6]? ≠ some 1 then some (40, a + 6)
  else if (s.drop (a + 3)).take 3 = three n then none else some (44, a + 3)
def splitL (s : List UInt8) : Except (Int × Nat) (List Fld) :=
  if 1024 < s.length then .error (43, 1024) else
  match bodyL s with
  | .error x => .error x
  | .ok b => match lastL s (s.length - 7) (sumL (s.take (s.length - 7))) with
    | some x => .error x
    | none => rdAll (s.take (s.length - 7)) s.length b

/-- What Join makes. -/
def fldL (f : Fld) : List UInt8 := itoa f.1 ++ [61] ++ f.2 ++ [1]
def bodyFB (fs : List Fld) : List UInt8 := fs.flatMap fldL
def aheadL (b : List UInt8) : List UInt8 := headL ++ itoa (b.length : Int) ++ [1] ++ b
def closeL (h : List UInt8) : List UInt8 := h ++ tenL ++ three (sumL h) ++ [1]
def joinL (fs : List Fld) : Except Int (List UInt8) :=
  if (fs.all fun f => isTg f.1) = false then .error 41
  else if (fs.all fun f => okV f.2) = false then .error 42
  else if 1024 < (closeL (aheadL (bodyFB fs))).length then .error 43 else .ok (closeL (aheadL (bodyFB fs)))
theorem close_length (h : List UInt8) : (closeL h).length = h.length + 7 := by simp [closeL, tenL, three]
end Go.Proofs.YtkpoheknmcepnaaGreatDoor
