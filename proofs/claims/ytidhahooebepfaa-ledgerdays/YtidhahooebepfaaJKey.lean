/-
  ledger: places as keys; lines and totals as maps in memory.
-/
import Derived.Test.YtidhahooebepfaaJPlain
import Derived.DeepKeys4
namespace Go.Proofs.Ytidhahooebepfaa
set_option linter.unusedVariables false
set_option linter.unusedSimpArgs false
open Go.RowKit Go.Maps

theorem laidOutT : laidOutB Try.prog = true := by kernel_rfl
theorem rowP : (75 : TypeId) < Try.prog.types.size := of_decide_eq_true (by kernel_rfl)
theorem wideP : (match Try.prog.underlying 75 with | some (.array _ _) | some (.struct _) => true | _ => false) = true := by rw [Try.underlying75]
set_option maxRecDepth 100000 in
theorem lawP : Keyed Try.prog 75 := Keyed.of_law (deep_law_laid laidOutT (m := 2) (by omega) rowP (by kernel_rfl) wideP)
theorem law9 : Keyed Try.prog 9 := string_keyed Try.underlying9
def plK (ac sy : ByteArray) : Lit := .string (keyBytes [.string ac.data.toList, .string sy.data.toList])
theorem cellsP : Try.prog.cellsOf 75 = 2 := by kernel_rfl
theorem cells9 : Try.prog.cellsOf 9 = 1 := by kernel_rfl
theorem keyTP : Try.prog.keyType 75 = true := by kernel_rfl
theorem formP (ac sy : ByteArray) : (Value.agg #[.string ac, .string sy]).formed Try.prog 75 = true := by simp [Value.formed, Try.underlying75, cellsP]
theorem litsP (d : Nat) (ac sy : ByteArray) (h1 : ac.size ≤ maxLen) (h2 : sy.size ≤ maxLen) : Try.prog.keyLits (d + 2) 75 [.string ac, .string sy] = some [.string ac.data.toList, .string sy.data.toList] := by
  have h9 : ∀ (s : ByteArray), s.size ≤ maxLen → Try.prog.keyLits (d + 1) 9 [.string s] = some [.string s.data.toList] := fun s hs => by
    rw [Program.keyLits.eq_def]
    simp only [Try.underlying9]
    rw [if_pos hs]
  rw [Program.keyLits.eq_def]
  simp only [Try.underlying75]
  rw [if_pos ⟨by rw [cellsP]; rfl, by kernel_rfl⟩]
  simp [List.mapM_cons, cells9, h9 ac h1, h9 sy h2]
theorem keyP (ac sy : ByteArray) (h1 : ac.size ≤ maxLen) (h2 : sy.size ≤ maxLen) : keyOf Try.prog 75 (.agg #[.string ac, .string sy]) = some (plK ac sy) := by
  obtain ⟨d, hd⟩ : ∃ d, Try.prog.types.size + 1 = d + 2 := ⟨Try.prog.types.size - 1, by have h : (75 : Nat) < Try.prog.types.size := rowP; omega⟩
  unfold keyOf
  rw [Try.underlying75]
  simp only [keyTP, formP, Bool.and_self, if_true, hd]
  have e : (Value.agg #[.string ac, .string sy]).cells.toList = [.string ac, .string sy] := rfl
  rw [e, litsP d ac sy h1 h2]
  rfl
theorem plK_inj {a s a' s' : ByteArray} (h1 : a.size ≤ maxLen) (h2 : s.size ≤ maxLen) (h3 : a'.size ≤ maxLen) (h4 : s'.size ≤ maxLen) (h : plK a s = plK a' s') : a = a' ∧ s = s' := by
  have k1 := keyP a s h1 h2
  have k2 := keyP a' s' h3 h4
  rw [← h] at k2
  have := lawP.inj k1 k2
  injection this with this
  have e0 := congrArg (·[0]?) this
  have e1 := congrArg (·[1]?) this
  simp at e0 e1
  exact ⟨e0, e1⟩
def Bk.ent (b : Bk) : Lit × Value := (plK b.ac b.sy, .agg b.am.cs)
def To.ent (t : To) : Lit × Value := (sK t.ac, .agg t.cs)
theorem same_hasK {b : Bk} (hb : b.sz) {ac sy : ByteArray} (h1 : ac.size ≤ maxLen) (h2 : sy.size ≤ maxLen) : b.ent.1.sameKey (plK ac sy) = hasK ac sy b := by
  cases hh : hasK ac sy b with
  | true =>
    obtain ⟨rfl, rfl⟩ := hasK_iff.1 hh
    exact WideAt.sameKey_self (lawP.key (keyP b.ac b.sy hb.1 hb.2))
  | false =>
    rw [← Bool.not_eq_true]
    intro h
    have e := WideAt.sameKey_eq h
    have := plK_inj hb.1 hb.2 h1 h2 e
    rw [hasK_iff.2 this] at hh
    cases hh
theorem find_congr {α : Type} {p q : α → Bool} : ∀ {l : List α}, (∀ a ∈ l, p a = q a) → l.find? p = l.find? q
  | [], _ => rfl
  | a :: l, h => by
    rw [List.find?_cons, List.find?_cons, h a List.mem_cons_self, find_congr fun b hb => h b (List.mem_cons_of_mem _ hb)]
theorem atL_amt {L : List Bk} (hL : SzL L) {ac sy : ByteArray} (h1 : ac.size ≤ maxLen) (h2 : sy.size ≤ maxLen) : (atL (L.map Bk.ent) (plK ac sy)).getD (.agg Am.zero.cs) = .agg (amt L ac sy).cs := by
  have e : (L.map Bk.ent).find? (fun p => p.1.sameKey (plK ac sy)) = (L.find? (hasK ac sy)).map Bk.ent := by
    rw [List.find?_map]
    refine congrArg (Option.map Bk.ent) (find_congr fun b hb => ?_)
    exact same_hasK (hL b hb) h1 h2
  unfold atL amt
  rw [e]
  cases L.find? (hasK ac sy) <;> rfl
theorem butL_but {L : List Bk} (hL : SzL L) {ac sy : ByteArray} (h1 : ac.size ≤ maxLen) (h2 : sy.size ≤ maxLen) : butL (L.map Bk.ent) (plK ac sy) = (but L ac sy).map Bk.ent := by
  unfold butL but
  rw [List.filter_map]
  refine congrArg (List.map Bk.ent) (List.filter_congr fun b hb => ?_)
  exact congrArg (fun x => !x) (same_hasK (hL b hb) h1 h2)
theorem same_ac {t : To} {ac : ByteArray} : t.ent.1.sameKey (sK ac) = decide (t.ac = ac) := by
  cases hh : decide (t.ac = ac) with
  | true =>
    have e : t.ac = ac := of_decide_eq_true hh
    show (sK t.ac).sameKey (sK ac) = true
    rw [e]
    unfold sK Lit.sameKey
    simp
  | false =>
    rw [← Bool.not_eq_true]
    intro h
    exact of_decide_eq_false hh (sK_inj (WideAt.sameKey_eq h))
theorem atL_tot (O : List To) (ac : ByteArray) : (atL (O.map To.ent) (sK ac)).getD (.agg #[.int .i64 0, .int .i64 0]) = .agg #[.int .i64 (tot O ac).1, .int .i64 (tot O ac).2] := by
  have e : (O.map To.ent).find? (fun p => p.1.sameKey (sK ac)) = (O.find? fun t => decide (t.ac = ac)).map To.ent := by
    rw [List.find?_map]
    exact congrArg (Option.map To.ent) (find_congr fun b hb => same_ac)
  unfold atL tot
  rw [e]
  cases O.find? (fun t => decide (t.ac = ac)) <;> rfl
theorem butL_tot (O : List To) (ac : ByteArray) : butL (O.map To.ent) (sK ac) = (butT O ac).map To.ent := by
  unfold butL butT
  rw [List.filter_map]
  refine congrArg (List.map To.ent) (List.filter_congr fun b hb => ?_)
  exact congrArg (fun x => !x) same_ac
end Go.Proofs.Ytidhahooebepfaa
