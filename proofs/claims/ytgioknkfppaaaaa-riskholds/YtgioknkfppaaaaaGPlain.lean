/-
  risk: accounts, open orders, and what may come, as plain functions.
-/
import Derived.Test.YtgioknkfppaaaaaGMap
namespace Go.Proofs.Ytgioknkfppaaaaa
set_option linter.unusedVariables false
open Go.RowKit

/-- An account, and the blocks in which it lies. -/
structure Ac where
  nm : ByteArray
  od : Int
  op : Int
  po : Int
  bu : Int
  pe : Int
  st : Bool
  due : Int
  pos : List (ByteArray × Int)
  blk : Nat
  mp : Nat
/-- Its limits, as they are handed in. -/
def limV (nm : ByteArray) (od op po bu pe : Int) : Array Value := #[.string nm, .int .i64 od, .int .i64 op, .int .i64 po, .int .i64 bu, .int .i64 pe]
def Ac.lim (a : Ac) : Array Value := limV a.nm a.od a.op a.po a.bu a.pe
def Ac.cs (a : Ac) : Array Value := #[.string a.nm, .int .i64 a.od, .int .i64 a.op, .int .i64 a.po, .int .i64 a.bu, .int .i64 a.pe, .bool a.st, .int .i64 a.due, .map (some a.mp)]
def Ac.ent (a : Ac) : Lit × Value := (sK a.nm, .pointer (some ⟨a.blk, 0, none⟩))
def posE (p : ByteArray × Int) : Lit × Value := (sK p.1, .int .i64 p.2)
/-- An order that is open. -/
structure Oo where
  id : Int
  ac : ByteArray
  sy : ByteArray
  sd : Int
  q : Int
  v : Int
def Oo.val (o : Oo) : Value := .agg #[.string o.ac, .string o.sy, .int .i64 o.sd, .int .i64 o.q, .int .i64 o.v]
def Oo.ent (o : Oo) : Lit × Value := (.int .i64 o.id, o.val)
/-- An order. -/
structure Ord where
  id : Int
  nm : ByteArray
  ac : ByteArray
  sy : ByteArray
  sd : Int
  ty : Int
  lf : Int
  pr : Int
  sp : Int
  q : Int
  sh : Int
  dn : Int
  le : Int
  un : Int
  ow : Int
def Ord.cs (o : Ord) : Array Value := #[.int .i64 o.id, .string o.nm, .string o.ac, .string o.sy, .int .i64 o.sd, .int .i64 o.ty, .int .i64 o.lf, .int .i64 o.pr, .int .i64 o.sp, .int .i64 o.q, .int .i64 o.sh, .int .i64 o.dn, .int .i64 o.le, .int .i64 o.un, .int .i64 o.ow]
def wiB (x a b : Int) : Bool := decide (a ≤ x) && decide (x ≤ b)
theorem wiB_iff {x a b : Int} : wiB x a b = true ↔ a ≤ x ∧ x ≤ b := by simp [wiB]
/-- Cut at 10^18, either way. -/
def clI (n : Int) : Int := min (max n (-1000000000000000000)) 1000000000000000000
theorem clI_bd (n : Int) : -1000000000000000000 ≤ clI n ∧ clI n ≤ 1000000000000000000 := by unfold clI; omega
def isnB (s : List UInt8) : Bool := decide (1 ≤ s.length) && decide (s.length ≤ 12) && s.all fun c => !((decide (c.toNat < 65) || decide (90 < c.toNat)) && (decide (c.toNat < 48) || decide (57 < c.toNat)))
def isaB (nm : ByteArray) (od op po bu pe : Int) : Bool := wiB od 0 1000000000000000000 && wiB op 0 1000000000000000000 && wiB po 0 1000000000000000000 && (isnB nm.data.toList && wiB bu 0 1000 && wiB pe 0 86400000)
def isoB (o : Ord) (mark : Int) : Bool := wiB o.q 1 1000000 && wiB o.pr 0 1000000000 && wiB mark 0 1000000000 && (o.sd == 1 || o.sd == 2)
def valI (o : Ord) (mark : Int) : Int := o.q * (if o.pr = 0 then mark else o.pr)
theorem valI_bd {o : Ord} {mark : Int} (h : isoB o mark = true) : 0 ≤ valI o mark ∧ valI o mark ≤ 1000000000000000 := by
  unfold isoB at h
  simp only [Bool.and_eq_true] at h
  obtain ⟨⟨⟨h1, h2⟩, h3⟩, _⟩ := h
  rw [wiB_iff] at h1 h2 h3
  unfold valI
  split
  · exact ⟨Int.mul_nonneg (by omega) h3.1, Int.le_trans (Int.mul_le_mul h1.2 h3.2 h3.1 (by omega)) (by omega)⟩
  · exact ⟨Int.mul_nonneg (by omega) h2.1, Int.le_trans (Int.mul_le_mul h1.2 h2.2 h2.1 (by omega)) (by omega)⟩
/-- May one more command come? -/
def tkB (a : Ac) (now : Int) : Bool := (a.bu == 0 || a.pe == 0) || !decide (now + (a.bu - 1) * a.pe < a.due)
def tkD (a : Ac) (now : Int) : Int := if a.bu = 0 ∨ a.pe = 0 ∨ now + (a.bu - 1) * a.pe < a.due then a.due else max a.due now + a.pe
/-- A position. -/
def posI (a : Ac) (sy : ByteArray) : Int := ((a.pos.find? fun p => (p.1.toList == sy.toList)).map (·.2)).getD 0
def sumV (l : List Oo) : Int := (l.map (·.v)).sum
def sumQ (l : List Oo) : Int := (l.map (·.q)).sum
/-- What is open of an account, but for a number. -/
def ovL (O : List Oo) (ac : ByteArray) (but : Int) : List Oo := O.filter fun x => !(x.id == but) && (x.ac.toList == ac.toList)
def ovI (O : List Oo) (ac : ByteArray) (but : Int) : Int := min (sumV (ovL O ac but)) 1000000000000000000
def rcL (O : List Oo) (o : Ord) : List Oo := O.filter fun x => (((!(x.id == o.id) && (x.ac.toList == o.ac.toList)) && (x.sy.toList == o.sy.toList)) && x.sd == o.sd)
def rcI (a : Ac) (O : List Oo) (o : Ord) : Int := clI ((if o.sd = 2 then -posI a o.sy else posI a o.sy) + min (sumQ (rcL O o)) 1000000000000000000)
def abB (a : Ac) (O : List Oo) (o : Ord) (v : Int) : Bool := (!(a.od == 0) && decide (a.od < v)) || (!(a.op == 0) && decide (a.op < clI (ovI O o.ac o.id + v))) || (!(a.po == 0) && decide (a.po < clI (rcI a O o + o.q)))
/-- All that may be. -/
structure Ac.ok (a : Ac) : Prop where
  nm : a.nm.size ≤ maxLen
  od : 0 ≤ a.od ∧ a.od ≤ 1000000000000000000
  op : 0 ≤ a.op ∧ a.op ≤ 1000000000000000000
  po : 0 ≤ a.po ∧ a.po ≤ 1000000000000000000
  bu : 0 ≤ a.bu ∧ a.bu ≤ 1000
  pe : 0 ≤ a.pe ∧ a.pe ≤ 86400000
  due : 0 ≤ a.due ∧ a.due ≤ 300000000000000
  pos : ∀ p ∈ a.pos, p.1.size ≤ maxLen ∧ -1000000000000000000 ≤ p.2 ∧ p.2 ≤ 1000000000000000000
structure Oo.ok (o : Oo) : Prop where
  id : -9223372036854775808 ≤ o.id ∧ o.id ≤ 9223372036854775807
  q : 1 ≤ o.q ∧ o.q ≤ 1000000
  v : 0 ≤ o.v ∧ o.v ≤ 1000000000000000
theorem tkD_bd {a : Ac} {now : Int} (h : a.ok) (n0 : 0 ≤ now) (n1 : now ≤ 253402300799999) : 0 ≤ tkD a now ∧ tkD a now ≤ 300000000000000 := by
  have h1 := h.due; have h2 := h.bu; have h3 := h.pe
  unfold tkD
  split
  · exact h1
  · rename_i hn
    have : (a.bu - 1) * a.pe ≤ 999 * 86400000 := Int.mul_le_mul (by omega) h3.2 h3.1 (by omega)
    omega
theorem sameKey_sK (s t : ByteArray) : (sK s).sameKey (sK t) = (s.toList == t.toList) := by
  rw [ByteArray.toList_eq, ByteArray.toList_eq]; rfl
theorem str_eq {s t : ByteArray} (h : (s.toList == t.toList) = true) : s = t := by
  rw [← sameKey_sK] at h
  exact sK_inj (WideAt.sameKey_eq h)
theorem str_self (s : ByteArray) : (s.toList == s.toList) = true := by simp
theorem posI_bd {a : Ac} (h : a.ok) (sy : ByteArray) : -1000000000000000000 ≤ posI a sy ∧ posI a sy ≤ 1000000000000000000 := by
  unfold posI
  cases hf : a.pos.find? (fun p => (p.1.toList == sy.toList)) with
  | none => simp
  | some p => exact (h.pos p (List.mem_of_find?_eq_some hf)).2
theorem atL_pos (l : List (ByteArray × Int)) (sy : ByteArray) : atL (l.map posE) (sK sy) = (l.find? fun p => (p.1.toList == sy.toList)).map fun p => .int .i64 p.2 := by
  unfold atL
  rw [List.find?_map, show ((fun p : Lit × Value => p.1.sameKey (sK sy)) ∘ posE) = fun p => (p.1.toList == sy.toList) from funext fun p => sameKey_sK _ _]
  cases l.find? (fun p => (p.1.toList == sy.toList)) <;> rfl
theorem atL_acc (l : List Ac) (nm : ByteArray) : atL (l.map Ac.ent) (sK nm) = (l.find? fun a => (a.nm.toList == nm.toList)).map fun a => .pointer (some ⟨a.blk, 0, none⟩) := by
  unfold atL
  rw [List.find?_map, show ((fun p : Lit × Value => p.1.sameKey (sK nm)) ∘ Ac.ent) = fun a => (a.nm.toList == nm.toList) from funext fun p => sameKey_sK _ _]
  cases l.find? (fun a => (a.nm.toList == nm.toList)) <;> rfl
theorem sameKey_int (x y : Int) : (Lit.int .i64 x).sameKey (.int .i64 y) = (x == y) := by
  simp only [Lit.sameKey, true_and]
  by_cases h : x = y
  · subst h; simp
  · simp [h]
theorem atL_oo (l : List Oo) (id : Int) : atL (l.map Oo.ent) (.int .i64 id) = (l.find? fun o => o.id == id).map Oo.val := by
  unfold atL
  rw [List.find?_map, show ((fun p : Lit × Value => p.1.sameKey (.int .i64 id)) ∘ Oo.ent) = fun o => o.id == id from funext fun p => sameKey_int _ _]
  cases l.find? (fun o => o.id == id) <;> rfl
theorem butL_oo (l : List Oo) (id : Int) : butL (l.map Oo.ent) (.int .i64 id) = (l.filter fun o => !(o.id == id)).map Oo.ent := by
  unfold butL
  rw [List.filter_map, show ((fun p : Lit × Value => !p.1.sameKey (.int .i64 id)) ∘ Oo.ent) = fun o => !(o.id == id) from funext fun p => by simp only [Function.comp]; rw [show (Oo.ent p).1 = .int .i64 p.id from rfl, sameKey_int]]
theorem butL_pos (l : List (ByteArray × Int)) (sy : ByteArray) : butL (l.map posE) (sK sy) = (l.filter fun p => !((p.1.toList == sy.toList))).map posE := by
  unfold butL
  rw [List.filter_map, show ((fun p : Lit × Value => !p.1.sameKey (sK sy)) ∘ posE) = fun p => !((p.1.toList == sy.toList)) from funext fun p => by simp only [Function.comp]; rw [show (posE p).1 = sK p.1 from rfl, sameKey_sK]]
theorem sum_perm {l l' : List Int} (h : l.Perm l') : l.sum = l'.sum := by
  induction h with
  | nil => rfl
  | cons x _ ih => simp [ih]
  | swap x y l => simp; omega
  | trans _ _ h1 h2 => exact h1.trans h2
theorem sumV_perm {l l' : List Oo} (h : l.Perm l') : sumV l = sumV l' := sum_perm (h.map _)
theorem sumQ_perm {l l' : List Oo} (h : l.Perm l') : sumQ l = sumQ l' := sum_perm (h.map _)
theorem sumV_nonneg {l : List Oo} (h : ∀ o ∈ l, Oo.ok o) : 0 ≤ sumV l := by
  induction l with
  | nil => simp [sumV]
  | cons a t ih =>
    have h1 := ih fun o ho => h o (List.mem_cons_of_mem _ ho)
    have h2 := (h a List.mem_cons_self).v
    simp only [sumV, List.map_cons, List.sum_cons] at *
    omega
theorem sumQ_nonneg {l : List Oo} (h : ∀ o ∈ l, Oo.ok o) : 0 ≤ sumQ l := by
  induction l with
  | nil => simp [sumQ]
  | cons a t ih =>
    have h1 := ih fun o ho => h o (List.mem_cons_of_mem _ ho)
    have h2 := (h a List.mem_cons_self).q
    simp only [sumQ, List.map_cons, List.sum_cons] at *
    omega
theorem sumV_cons (a : Oo) (l : List Oo) : sumV (a :: l) = a.v + sumV l := by simp [sumV]
theorem sumQ_cons (a : Oo) (l : List Oo) : sumQ (a :: l) = a.q + sumQ l := by simp [sumQ]
theorem ov_bd {O : List Oo} (h : ∀ o ∈ O, Oo.ok o) (ac : ByteArray) (but : Int) : 0 ≤ ovI O ac but ∧ ovI O ac but ≤ 1000000000000000000 := by
  have := sumV_nonneg (l := ovL O ac but) fun o ho => h o (List.mem_filter.1 ho).1
  unfold ovI; omega
end Go.Proofs.Ytgioknkfppaaaaa
