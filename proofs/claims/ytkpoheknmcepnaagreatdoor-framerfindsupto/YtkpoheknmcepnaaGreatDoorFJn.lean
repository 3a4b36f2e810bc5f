import Derived.Test.YtkpoheknmcepnaaGreatDoorFPlain
import Derived.Test.YtkpoheknmcepnaaGreatDoorFFmt
import Derived.Test.YtkpoheknmcepnaaGreatDoorStr
import Derived.Deep.QuietTactic
import Derived.BigQuiet
import Derived.Test.YtkpoheknmcepnaaGreatDoorStart
import Derived.Test.YtkpoheknmcepnaaGreatDoorFrLookT
import Derived.Deep.RegionWith
import Derived.Deep.CutBlock
import Derived.Deep.RegionHeld
import Derived.Laws.Rows
import Derived.Deep.AppendLies
import Derived.Deep.OwnRows
import Derived.Test.YtkpoheknmcepnaaGreatDoorBNum
import Derived.WalkLawsBesides
import Derived.Laws.BytesArg
import Derived.Laws.IdiomStrings
import Derived.Lib.AppendStr
import Derived.OwnWalk

namespace Go.Proofs.YtkpoheknmcepnaaGreatDoor
set_option linter.unusedVariables false
open Go.RowKit

set_option maxRecDepth 100000 in
theorem isValueByte_any (c : UInt8) (w : World) : Calls Tryz.prog 67 #[.int .u8 (c.toNat : Int)] w fun e w' => e = .returned (.bool (vby c)) ∧ w' = w := by
  have hE : Hid (vby c = (decide (32 ≤ (c.toNat : Int)) && decide ((c.toNat : Int) ≤ 126))) := rfl
  generalize vby c = d at *
  by_cases h : 32 ≤ (c.toNat : Int)
  · go_enter Tryz.func67, Tryz.ntmps67
    go_wp2
    go_ret
    exact ⟨ret_bool (by rw [hE.out]; simp [h]), rfl⟩
  · go_enter Tryz.func67, Tryz.ntmps67
    go_wp2
    go_ret
    exact ⟨ret_bool (by rw [hE.out]; simp; omega), rfl⟩

theorem all_take_succ (p : UInt8 → Bool) (s : ByteArray) (k : Nat) (h : k < s.size) (h1 : ∀ c ∈ s.data.toList.take k, p c = true) (h2 : p s[k] = true) : ∀ c ∈ s.data.toList.take (k + 1), p c = true := by
  rw [take_snoc s k h]
  intro c hc
  rcases List.mem_append.1 hc with hc | hc
  · exact h1 c hc
  · simp at hc; rw [hc]; exact h2
theorem cnt_stop (p : UInt8 → Bool) (s : ByteArray) (k : Nat) (h : k < s.size) (h1 : ∀ c ∈ s.data.toList.take k, p c = true) (h2 : p s[k] = false) : cnt p s.data.toList = k :=
  cnt_step p s.data.toList k (by simpa using h) h1 (by rw [← h2]; rfl)
theorem cnt_end (p : UInt8 → Bool) (s : ByteArray) (k : Nat) (h : ¬ k < s.size) (hk : k ≤ s.size) (h1 : ∀ c ∈ s.data.toList.take k, p c = true) : cnt p s.data.toList = k := by
  rw [List.take_of_length_le (by simp; omega)] at h1
  rw [cnt_whole p _ h1, ← Lib.size_eq]; omega
set_option maxRecDepth 100000 in
set_option maxHeartbeats 400000 in
theorem countWhile_any (f : Nat) (p : UInt8 → Bool) (hcf : ∀ (c : Int) w', Sem.run Tryz.prog (callFunc f #[.int .u8 c]) w' = .ok (.enter f #[.int .u8 c]) w')
    (hf : ∀ (c : UInt8) (w : World), Calls Tryz.prog f #[.int .u8 (c.toNat : Int)] w fun e w' => e = .returned (.bool (p c)) ∧ w' = w)
    (s : ByteArray) (w : World) (hs : s.size ≤ maxLen) :
    Calls Tryz.prog 66 #[.string s, .func (.func f) #[] #[]] w fun e w' => e = .returned (.int .i64 (cnt p s.data.toList : Int)) ∧ w' = w := by
  unfold maxLen at hs
  have HF : Hid (∀ (c : UInt8) (w : World), Calls Tryz.prog f #[.int .u8 (c.toNat : Int)] w fun e w' => e = .returned (.bool (p c)) ∧ w' = w) := hf
  clear hf
  go_enter Tryz.func66, Tryz.ntmps66
  go_wp2
  go_loopw [5] (fun i wr => ∃ k : Nat, k ≤ s.size ∧ i = .int .i64 k ∧ (∀ c ∈ s.data.toList.take k, p c = true) ∧ wr = w) (fun i _ => s.size - (intOf i).toNat)
  case atStart => exact ⟨0, Nat.zero_le _, rfl, fun c hc => by simp at hc, rfl⟩
  case round =>
    obtain ⟨k, hk, rfl, hd, rfl⟩ := hrel
    have HD : Hid (∀ c ∈ s.data.toList.take k, p c = true) := hd
    clear hd
    by_cases hlt : k < s.size
    · have hlt' : (k : Int) < (s.size : Int) := by omega
      by_cases hp : p s[k] = true
      · go_wp2
        refine (HF.out _ _).mono ?_
        rintro e w2 ⟨rfl, rfl⟩
        rw [hp]
        go_wp2
        go_roundw
        case rel => exact ⟨k + 1, by omega, by go_num, all_take_succ p s k hlt HD.out hp, by first | rfl | trivial⟩
        case measure => simp [intOf]; omega
      · have hp' : p s[k] = false := by simpa using hp
        go_wp2
        refine (HF.out _ _).mono ?_
        rintro e w2 ⟨rfl, rfl⟩
        rw [hp']
        go_wp2
        go_ret
        exact ⟨ret_int (by rw [cnt_stop p s k hlt HD.out hp']), rfl⟩
    · go_wp2
      go_ret
      exact ⟨ret_int (by rw [cnt_end p s k hlt hk HD.out]), rfl⟩
theorem cfValue (c : Int) (w : World) : Sem.run Tryz.prog (callFunc 67 #[.int .u8 c]) w = .ok (.enter 67 #[.int .u8 c]) w := by kernel_rfl
theorem count_val (s : ByteArray) (w : World) (hs : s.size ≤ maxLen) :
    Calls Tryz.prog 66 #[.string s, .func (.func 67) #[] #[]] w fun e w' => e = .returned (.int .i64 (cnt vby s.data.toList : Int)) ∧ w' = w :=
  countWhile_any _ vby cfValue isValueByte_any s w hs

/-- Does a byte stand at a place? -/
def isAt (l : List UInt8) (a : Nat) (c : UInt8) : Bool := decide (l[a]? = some c)
theorem u8_of_nat {a b : UInt8} (h : (a.toNat : Int) = (b.toNat : Int)) : a = b := UInt8.toNat_inj.1 (by omega)
end Go.Proofs.YtkpoheknmcepnaaGreatDoor

namespace Go.Proofs.YtkpoheknmcepnaaGreatDoor
set_option linter.unusedVariables false
open Go.RowKit

theorem numEnd_ge (l : List UInt8) (a : Nat) : a ≤ numEnd l a := by unfold numEnd; split <;> omega
theorem numEnd_le (l : List UInt8) (a : Nat) (h : a ≤ l.length) : numEnd l a ≤ l.length := by
  unfold numEnd
  split
  · rename_i e
    have := (List.getElem?_eq_some_iff.1 e).1; omega
  · have := cnt_le dig (l.drop a)
    simp at this; omega
theorem numEnd_four (l : List UInt8) (a : Nat) : numEnd l a ≤ a + 4 := by unfold numEnd; split <;> omega
theorem drop_data (s : ByteArray) (a : Nat) : (s.extract a s.size).data.toList = s.data.toList.drop a := by
  rw [Lib.extract_data, List.take_of_length_le]; simp
theorem size_data (s : ByteArray) : s.data.toList.length = s.size := (Lib.size_eq s).symm
theorem puN_le (l : List UInt8) (m : Int) (hm : 0 ≤ m) : puN l m ≤ m := by
  unfold puN; split
  · rename_i h; exact h.2
  · exact hm
theorem extract_le (s : ByteArray) (a b : Nat) : (s.extract a b).size ≤ s.size := by
  rw [Lib.size_eq, Lib.extract_data, Lib.size_eq]; simp; omega
def headB : ByteArray := ⟨#[56, 61, 70, 73, 88, 46, 52, 46, 52, 1, 57, 61]⟩
end Go.Proofs.YtkpoheknmcepnaaGreatDoor

namespace Go.Proofs.YtkpoheknmcepnaaGreatDoor
set_option linter.unusedVariables false
open Go.RowKit

set_option maxRecDepth 100000 in
theorem printSum_fld (n : Nat) (hn : n < 256) (w : World) (hp : Pow w) :
    Calls Tryz.prog 35 #[.int .i64 (n : Int)] w fun e w' => e = .returned (.string (bs (three n))) ∧ Below w.heap.size w w' := by
  have h1 := Print_any ((1000 : Int) + (n : Int)) (by omega) (by omega) w hp
  rw [print_thousand hn] at h1
  have h2 : (⟨(49 :: three n).toArray⟩ : ByteArray) = bs (49 :: three n) := rfl
  rw [h2] at h1
  have h3 := bs_tail (49 :: three n)
  have h4 : (bs (49 :: three n)).size = 4 := rfl
  rw [h4] at h3
  rw [show (49 :: three n : List UInt8).tail = three n from rfl] at h3
  generalize bs (49 :: three n) = B at *
  generalize bs (three n) = C at *
  go_enter Tryz.func35, Tryz.ntmps35
  go_wp2_with (go_at_call 32; refine h1.mono ?_; rintro e w' ⟨rfl, hb⟩)
  go_ret
  refine ⟨?_, hb⟩
  first | exact rfl | exact ret_str h3 | (rw [← h3]; rfl)

def tenB : ByteArray := ⟨#[49, 48, 61]⟩
theorem neq_str (a b : List UInt8) : ((bs a).toList == (bs b).toList) = decide (a = b) := by
  rw [Lib.toList_data, Lib.toList_data, bs_list, bs_list]
  by_cases h : a = b <;> simp [h]
end Go.Proofs.YtkpoheknmcepnaaGreatDoor

namespace Go.Proofs.YtkpoheknmcepnaaGreatDoor
set_option linter.unusedVariables false
open Go.RowKit

set_option maxRecDepth 100000 in
theorem isTag_any (t : Int) (w : World) : Calls Tryz.prog 65 #[.int .i64 t] w fun e w' => e = .returned (.bool (isTg t)) ∧ w' = w := by
  have hE : Hid (isTg t = (decide (1 ≤ t) && decide (t ≤ 9999) && (decide (t < 8) || decide (10 < t)))) := rfl
  generalize isTg t = d at *
  by_cases h1 : 1 ≤ t
  · by_cases h2 : t ≤ 9999
    · by_cases h3 : t < 8
      · have HE : Hid (d = true) := by show d = true; rw [hE.out]; simp [h1, h2, h3]
        go_enter Tryz.func65, Tryz.ntmps65
        go_wp2
        go_ret
        exact ⟨ret_bool HE.out.symm, rfl⟩
      · by_cases h4 : 10 < t
        · have HE : Hid (d = true) := by show d = true; rw [hE.out]; simp [h1, h2, h4]
          have h3' : decide (t < 8) = false := decide_eq_false h3
          go_enter Tryz.func65, Tryz.ntmps65
          go_wp2
          go_ret
          exact ⟨ret_bool HE.out.symm, rfl⟩
        · have HE : Hid (d = false) := by show d = false; rw [hE.out]; simp; omega
          have h3' : decide (t < 8) = false := decide_eq_false h3
          have h4' : decide (10 < t) = false := decide_eq_false h4
          go_enter Tryz.func65, Tryz.ntmps65
          go_wp2
          go_ret
          exact ⟨ret_bool HE.out.symm, rfl⟩
    · have HE : Hid (d = false) := by show d = false; rw [hE.out]; simp; omega
      have h2' : decide (t ≤ 9999) = false := decide_eq_false h2
      go_enter Tryz.func65, Tryz.ntmps65
      go_wp2
      go_ret
      exact ⟨ret_bool HE.out.symm, rfl⟩
  · have HE : Hid (d = false) := by show d = false; rw [hE.out]; simp; omega
    have h1' : decide (1 ≤ t) = false := decide_eq_false h1
    go_enter Tryz.func65, Tryz.ntmps65
    go_wp2
    go_ret
    exact ⟨ret_bool HE.out.symm, rfl⟩

theorem results_cell2 {P : Program} {fn : Func} {p u v : Tmp} {ty : TypeId} (h : fn.results = #[.cell p ty, .tmp u, .tmp v]) (tmps : Array Value) (w : World) (g : Nat) (t : TypeId) (cs : Array Value) (fr : Nat × Nat) (d : TypeDesc)
    (hp : tmps.getD p undef = .pointer (some ⟨g, 0, none⟩)) (hg : w.heap[g]? = some (.cells cs t fr))
    (hu : P.underlying ty = some d) (hd : (match d with | .struct _ | .array _ _ => true | _ => false) = true) (hi : (P.info? ty).map (·.size) = some cs.size) :
    (results fn tmps).run P w = .ok (.tuple #[.agg cs, tmps.getD u undef, tmps.getD v undef]) w := by
  have hp' : tmps[p]?.getD undef = .pointer (some ⟨g, 0, none⟩) := by simpa using hp
  simp [results, h, hp', asAddr, run_loadVar_row w g t ty cs fr d hg hu hd hi]
/-- A field that lies in a block of its own. -/
def FldAt (w : World) (g : Nat) (t : Int) (v : ByteArray) : Prop := w.heap[g]? = some (.cells #[.int .i64 t, .string v] 94 (0, 0))
theorem FldAt.lt {w : World} {g : Nat} {t : Int} {v : ByteArray} (h : FldAt w g t v) : g < w.heap.size := by
  rcases Nat.lt_or_ge g w.heap.size with h' | h'
  · exact h'
  · unfold FldAt at h; rw [Array.getElem?_eq_none h'] at h; cases h
theorem FldAt.below {w w' : World} {g : Nat} {t : Int} {v : ByteArray} {B : Nat} (h : FldAt w g t v) (hb : Below B w w') (hg : g < B) : FldAt w' g t v := (hb.block g hg).trans h
theorem FldAt.cell0 {w : World} {g : Nat} {t : Int} {v : ByteArray} (h : FldAt w g t v) : w.cell? ⟨g, 0, none⟩ = some (.int .i64 t) := by
  unfold FldAt at h; simp [World.cell?, h]
theorem FldAt.cell1 {w : World} {g : Nat} {t : Int} {v : ByteArray} (h : FldAt w g t v) : w.cell? ⟨g, 1, none⟩ = some (.string v) := by
  unfold FldAt at h; simp [World.cell?, h]
theorem FldAt.froz {w : World} {g : Nat} {t : Int} {v : ByteArray} (h : FldAt w g t v) (j : Nat) : w.frozen? ⟨g, j, none⟩ = false := by
  unfold FldAt at h; simp [World.frozen?, h]
theorem FldAt.set {w : World} {g : Nat} {t : Int} {v : ByteArray} (h : FldAt w g t v) (t' : Int) (v' : ByteArray) : FldAt ((w.setCell ⟨g, 0, none⟩ (.int .i64 t')).setCell ⟨g, 1, none⟩ (.string v')) g t' v' := by
  unfold FldAt at *
  have h1 : (w.setCell ⟨g, 0, none⟩ (.int .i64 t')).heap[g]? = some (.cells #[.int .i64 t', .string v] 94 (0, 0)) := by
    rw [setCell_eq_setRow w g 0 _ 94 (0, 0) _ h]
    exact setRow_heap w g _ _ 94 (0, 0) h
  rw [setCell_eq_setRow _ g 1 _ 94 (0, 0) _ h1]
  exact setRow_heap _ g _ _ 94 (0, 0) h1
theorem below_set2 {B : Nat} {w0 w : World} {g : Nat} (h : Below B w0 w) (hg : B ≤ g) (x y : Value) : Below B w0 ((w.setCell ⟨g, 0, none⟩ x).setCell ⟨g, 1, none⟩ y) := (h.setCell hg _).setCell hg _
end Go.Proofs.YtkpoheknmcepnaaGreatDoor

namespace Go.Proofs.YtkpoheknmcepnaaGreatDoor
set_option linter.unusedVariables false
open Go.RowKit

theorem ownsRow_of_block {w w' : World} {base size n : Nat} {e : TypeId} {v : Value} {xs : List Value} (h : w.ownsRow base e size v n xs) (hk : ∀ g, v.ownBlock = some g → w'.heap[g]? = w.heap[g]?) : w'.ownsRow base e size v n xs := by
  obtain ⟨h1, h2⟩ := h
  refine ⟨h1, ?_⟩
  rcases h2 with h2 | ⟨g, cap, cur, rfl, r1, r2, r3⟩
  · exact .inl h2
  · exact .inr ⟨g, cap, cur, rfl, r1, (hk g rfl).trans r2, r3⟩
theorem ownsRow_mono {w : World} {base base' size n : Nat} {e : TypeId} {v : Value} {xs : List Value} (h : w.ownsRow base e size v n xs) (hb : base' ≤ base) : w.ownsRow base' e size v n xs := by
  obtain ⟨h1, h2⟩ := h
  refine ⟨h1, ?_⟩
  rcases h2 with h2 | ⟨g, cap, cur, rfl, r1, r2, r3⟩
  · exact .inl h2
  · exact .inr ⟨g, cap, cur, rfl, Nat.le_trans hb r1, r2, r3⟩
theorem ownsRow_below {w w' : World} {base size n : Nat} {e : TypeId} {v : Value} {xs : List Value} (h : w.ownsRow base e size v n xs) (hb : Below w.heap.size w w') : w'.ownsRow base e size v n xs :=
  ownsRow_of_block h fun g hg => hb.block g (h.lt g hg).2
theorem info_parts {T : TypeId} {z : Value} {s b : Nat} (h : (Tryz.prog.info? T).map (fun i => (i.zero, i.size, i.bytes)) = some (some z, s, b)) : ∃ i, Tryz.prog.info? T = some i ∧ i.zero = some z ∧ i.size = s ∧ i.bytes = b := by
  cases hq : Tryz.prog.info? T with
  | none => simp [hq] at h
  | some i => simp [hq] at h; exact ⟨i, rfl, h.1, h.2.1, h.2.2⟩
theorem infoF : (Tryz.prog.info? 94).map (fun i => (i.zero, i.size, i.bytes)) = some (some (.agg #[.int .i64 0, .string ⟨#[]⟩]), 2, 24) := by kernel_rfl
theorem info5F : (Tryz.prog.info? 5).map (fun i => (i.zero, i.size, i.bytes)) = some (some (.int .u8 0), 1, 1) := by kernel_rfl
/-- The cells of fields. -/
def fcs (fs : List Fld) : List Value := fs.flatMap fun f => [.int .i64 f.1, .string (bs f.2)]
theorem fcs_nil : fcs [] = [] := rfl
theorem fcs_app (a b : List Fld) : fcs (a ++ b) = fcs a ++ fcs b := by simp [fcs]
theorem fcs_length (fs : List Fld) : (fcs fs).length = fs.length * 2 := by
  induction fs with
  | nil => rfl
  | cons f fs ih => show (([_, _] : List Value) ++ fcs fs).length = _; simp [ih]; omega
theorem fcs_one (fs : List Fld) : ∀ u ∈ fcs fs, u.oneCell' = true := by
  intro u hu
  unfold fcs at hu
  simp only [List.mem_flatMap, List.mem_cons, List.not_mem_nil, or_false] at hu
  obtain ⟨f, _, rfl | rfl⟩ := hu <;> rfl
/-- A list of fields that the call has made. -/
def OwnF (w : World) (B : Nat) (v : Value) (fs : List Fld) : Prop := w.ownsRow B 94 2 v fs.length (fcs fs)
theorem OwnF.below {w w' : World} {B : Nat} {v : Value} {fs : List Fld} (h : OwnF w B v fs) (hb : Below w.heap.size w w') : OwnF w' B v fs := ownsRow_below h hb
theorem OwnF.mono {w : World} {B B' : Nat} {v : Value} {fs : List Fld} (h : OwnF w B v fs) (hb : B' ≤ B) : OwnF w B' v fs := ownsRow_mono h hb
theorem OwnF.nil (w : World) (B : Nat) : OwnF w B (.slice none 0 0) [] := World.ownsRow_nil w B _ 2
/-- Fields in memory: what may be read. -/
def SrcF (w : World) (v : Value) (fs : List Fld) : Prop := ∃ ao cap, v = .slice ao fs.length cap ∧ fs.length ≤ cap ∧ (fs = [] ∨ ∃ b off, ao = some ⟨b, off, none⟩ ∧ ∀ j f, fs[j]? = some f → w.cell? ⟨b, off + j * 2, none⟩ = some (.int .i64 f.1) ∧ w.cell? ⟨b, off + j * 2 + 1, none⟩ = some (.string (bs f.2)))
theorem fcs_at : ∀ (fs : List Fld) (j : Nat) (f : Fld), fs[j]? = some f → (fcs fs)[j * 2]? = some (.int .i64 f.1) ∧ (fcs fs)[j * 2 + 1]? = some (.string (bs f.2))
  | [], j, f, h => by simp at h
  | g :: fs, 0, f, h => by simp at h; subst h; exact ⟨rfl, rfl⟩
  | g :: fs, j + 1, f, h => by
    have := fcs_at fs j f (by simpa using h)
    show (([_, _] : List Value) ++ fcs fs)[(j + 1) * 2]? = _ ∧ (([_, _] : List Value) ++ fcs fs)[(j + 1) * 2 + 1]? = _
    rw [show (j + 1) * 2 = j * 2 + 2 by omega]
    simpa using this
theorem OwnF.src {w : World} {B : Nat} {v : Value} {fs : List Fld} (h : OwnF w B v fs) : SrcF w v fs := by
  obtain ⟨h1, h2⟩ := h
  rcases h2 with ⟨rfl, h0⟩ | ⟨g, cap, cur, rfl, r1, r2, r3, r4, r5, r6⟩
  · have : fs = [] := List.length_eq_zero_iff.1 h0
    subst this
    exact ⟨none, 0, rfl, Nat.le_refl _, .inl rfl⟩
  · refine ⟨_, cap, rfl, r3, .inr ⟨g, 0, rfl, fun j f hf => ?_⟩⟩
    have hj : j < fs.length := (List.getElem?_eq_some_iff.1 hf).1
    obtain ⟨e1, e2⟩ := fcs_at fs j f hf
    rw [← r6, List.getElem?_take] at e1 e2
    rw [if_pos (by omega)] at e1 e2
    rw [Nat.zero_add]
    constructor
    · rw [cell_of_row w g _ cur _ _ r2]; simpa using e1
    · rw [cell_of_row w g _ cur _ _ r2]; simpa using e2
theorem SrcF.below {w w' : World} {v : Value} {fs : List Fld} (h : SrcF w v fs) (hb : Below w.heap.size w w') : SrcF w' v fs := by
  obtain ⟨ao, cap, rfl, hc, h⟩ := h
  refine ⟨ao, cap, rfl, hc, ?_⟩
  rcases h with h | ⟨b, off, e, h⟩
  · exact .inl h
  · refine .inr ⟨b, off, e, fun j f hf => ?_⟩
    obtain ⟨h1, h2⟩ := h j f hf
    have hlt : b < w.heap.size := World.block_lt_of_cell? _ _ h1
    exact ⟨by rw [hb.cell (p := ⟨b, _, none⟩) hlt]; exact h1, by rw [hb.cell (p := ⟨b, _, none⟩) hlt]; exact h2⟩
end Go.Proofs.YtkpoheknmcepnaaGreatDoor

namespace Go.Proofs.YtkpoheknmcepnaaGreatDoor
set_option linter.unusedVariables false
open Go.RowKit

theorem rdF_bound (l : List UInt8) {f : Fld} {n : Nat} (h : rdFF l = .ok (f, n)) : 1 ≤ n ∧ n ≤ l.length := by
  unfold rdFF at h
  split at h
  · unfold rdV at h
    split at h
    · rename_i h1 h2
      injection h with h
      obtain ⟨_, h⟩ := Prod.mk.inj h
      have := (List.getElem?_eq_some_iff.1 h2.2).1
      simp at this
      omega
    · cases h
  · cases h
end Go.Proofs.YtkpoheknmcepnaaGreatDoor

namespace Go.Proofs.YtkpoheknmcepnaaGreatDoor
set_option linter.unusedVariables false
open Go.RowKit

/-- Bytes in memory: what may be read. -/
def SrcB (w : World) (v : Value) (l : List UInt8) : Prop := ∃ ao cap, v = .slice ao l.length cap ∧ l.length ≤ cap ∧ (l = [] ∨ ∃ b off, ao = some ⟨b, off, none⟩ ∧ ∀ j c, l[j]? = some c → w.cell? ⟨b, off + j, none⟩ = some (.int .u8 (c.toNat : Int)))
theorem SrcB.below {w w' : World} {v : Value} {l : List UInt8} (h : SrcB w v l) (hb : Below w.heap.size w w') : SrcB w' v l := by
  obtain ⟨ao, cap, rfl, hc, h⟩ := h
  refine ⟨ao, cap, rfl, hc, ?_⟩
  rcases h with h | ⟨b, off, e, h⟩
  · exact .inl h
  · refine .inr ⟨b, off, e, fun j c hj => ?_⟩
    have h1 := h j c hj
    have hlt : b < w.heap.size := World.block_lt_of_cell? _ _ h1
    rw [hb.cell (p := ⟨b, _, none⟩) hlt]; exact h1
theorem addr_addF (b off j : Nat) : (⟨b, off, none⟩ : Addr).add j = ⟨b, off + j, none⟩ := by unfold Addr.add; split <;> simp_all
theorem SrcB.conv {w : World} {v : Value} {l : List UInt8} (h : SrcB w v l) : (convert 22 9 v).run Tryz.prog w = .ok (.string (bs l)) w := by
  obtain ⟨ao, cap, rfl, hc, h⟩ := h
  rcases h with rfl | ⟨b, off, rfl, h⟩
  · cases ao with
    | none => exact run_convert_bytes_nil w 22 5 Tryz.underlying22 Tryz.underlying5 0 cap 9 Tryz.underlying9
    | some a => exact run_convert_bytes_back (P := Tryz.prog) w 22 9 5 a cap [] Tryz.underlying22 Tryz.underlying5 Tryz.underlying9 (fun j hj => by simp at hj)
  · exact run_convert_bytes_back (P := Tryz.prog) w 22 9 5 ⟨b, off, none⟩ cap l Tryz.underlying22 Tryz.underlying5 Tryz.underlying9 (fun j hj => by
      rw [addr_addF]; exact h j l[j] (List.getElem?_eq_getElem hj))
/-- The sum that num.Sum tells. -/
def dOf (l : List UInt8) (j : Nat) : Nat := (l.getD j 0).toNat
theorem sumRow_list (l : List UInt8) : ∀ k, k ≤ l.length → sumRow 0 (dOf l) k = sumL (l.take k)
  | 0, _ => rfl
  | k + 1, h => by
    have e : l.take (k + 1) = l.take k ++ [l[k]] := List.take_succ_eq_append_getElem (by omega)
    rw [e, sumL_snoc, ← sumRow_list l k (by omega)]
    show (sumRow 0 (dOf l) k + dOf l k) % 256 = _
    rw [show dOf l k = l[k].toNat by unfold dOf; rw [List.getD_eq_getElem?_getD, List.getElem?_eq_getElem (by omega)]; rfl]
theorem Sum_one (B : Nat) (b off k cap : Nat) (l : List UInt8) (w : World) (hk : k ≤ l.length) (hl : l.length ≤ 1048576)
    (hB : w.cell? ⟨B, 0, none⟩ = some (.slice (some ⟨b, off, none⟩) k cap)) (h : ∀ j c, l[j]? = some c → w.cell? ⟨b, off + j, none⟩ = some (.int .u8 (c.toNat : Int))) :
    Calls Tryz.prog 34 #[.slice (some ⟨B, 0, none⟩) 1 1] w fun e w' => e = .returned (.int .i64 (sumL (l.take k) : Int)) ∧ w' = w := by
  have h1 := Sum_any B 0 1 1 (fun _ => k) (fun _ => dOf l) w (by decide) ⟨fun i hi => by
    obtain rfl : i = 0 := by omega
    refine ⟨some ⟨b, off, none⟩, cap, hB, by unfold maxLen; omega, .inr ⟨b, off, rfl, fun j hj => ⟨?_, ?_⟩⟩⟩
    · have := h j l[j] (List.getElem?_eq_getElem (by omega))
      rw [this]
      show _ = some (Value.int .u8 ((dOf l j : Nat) : Int))
      unfold dOf
      rw [List.getD_eq_getElem?_getD, List.getElem?_eq_getElem (by omega)]; rfl
    · unfold dOf; exact UInt8.toNat_lt _⟩
  have e : sumRows (fun _ => k) (fun _ => dOf l) 1 = sumL (l.take k) := by
    show sumRow 0 (dOf l) k = _
    exact sumRow_list l k hk
  rw [e] at h1
  exact h1
theorem body_len {l : List UInt8} {b : Nat} (h : bodyL l = .ok b) : b + 7 ≤ l.length := by
  unfold bodyL at h
  split at h
  · cases h
  · split at h
    · cases h
    · split at h
      · rename_i h1 h2 h3
        injection h with h
        have := (pu_bd ((l.drop 12).take (numEnd l 12 - 12)) 9999 (by decide)).1
        omega
      · cases h
theorem split_e1 {l : List UInt8} {x : Int × Nat} (h : ¬ 1024 < l.length) (hb : bodyL l = .error x) : splitL l = .error x := by unfold splitL; rw [if_neg h, hb]
theorem split_e2 {l : List UInt8} {b : Nat} {x : Int × Nat} (h : ¬ 1024 < l.length) (hb : bodyL l = .ok b) (hx : lastL l (l.length - 7) (sumL (l.take (l.length - 7))) = some x) : splitL l = .error x := by
  unfold splitL; rw [if_neg h, hb]; simp only [hx]
theorem split_e3 {l : List UInt8} {b : Nat} (h : ¬ 1024 < l.length) (hb : bodyL l = .ok b) (hx : lastL l (l.length - 7) (sumL (l.take (l.length - 7))) = none) : splitL l = rdAll (l.take (l.length - 7)) l.length b := by
  unfold splitL; rw [if_neg h, hb]; simp only [hx]
end Go.Proofs.YtkpoheknmcepnaaGreatDoor

namespace Go.Proofs.YtkpoheknmcepnaaGreatDoor
set_option linter.unusedVariables false
open Go.RowKit

/-- A field as a value. -/
def fval (f : Fld) : Value := .agg #[.int .i64 f.1, .string (bs f.2)]
set_option maxRecDepth 100000 in
theorem rightTag_any (f : Fld) (w : World) :
    Calls Tryz.prog 29 #[.agg #[.int .i64 f.1, .string (bs f.2)]] w fun e w' => e = .returned (.bool (isTg f.1)) ∧ Below w.heap.size w w' := by
  obtain ⟨t, v⟩ := f
  have h1 := fun w => isTag_any t w
  generalize hd : isTg t = d at *
  clear hd
  go_enter Tryz.func29, Tryz.ntmps29
  go_wp2_with (go_at_call 65; refine (h1 _).mono ?_; rintro e w' ⟨rfl, rfl⟩)
  go_ret
  exact ⟨rfl, (Below.refl _ w).alloc (Nat.le_refl _) _⟩
theorem okV_cnt (l : List UInt8) (h : l ≠ []) : okV l = decide ((cnt vby l : Int) = (l.length : Int)) := by
  unfold okV
  have h0 : l.isEmpty = false := by cases l with | nil => exact absurd rfl h | cons _ _ => rfl
  rw [h0]
  show (true && l.all vby) = _
  rw [Bool.true_and]
  cases ha : l.all vby with
  | true =>
    rw [List.all_eq_true] at ha
    rw [cnt_whole vby l ha]; simp
  | false =>
    symm
    apply decide_eq_false
    intro e
    have e' : cnt vby l = l.length := by omega
    have := cnt_all vby l
    rw [e', List.take_length] at this
    rw [List.all_eq_true.2 this] at ha
    cases ha
set_option maxRecDepth 100000 in
theorem rightValue_any (f : Fld) (w : World) (hl : f.2.length ≤ maxLen) :
    Calls Tryz.prog 30 #[.agg #[.int .i64 f.1, .string (bs f.2)]] w fun e w' => e = .returned (.bool (okV f.2)) ∧ Below w.heap.size w w' := by
  obtain ⟨t, v⟩ := f
  by_cases hv : v = []
  · have HE : Hid (okV v = false) := by show okV v = false; rw [hv]; rfl
    have h0 : (bs v).toList = [] := by rw [Lib.toList_data, bs_list]; exact hv
    clear hv hl
    show Calls Tryz.prog 30 #[.agg #[.int .i64 t, .string (bs v)]] w fun e w' => e = .returned (.bool (okV v)) ∧ Below w.heap.size w w'
    generalize okV v = d at *
    generalize bs v = V at *
    go_enter Tryz.func30, Tryz.ntmps30
    go_wp2
    go_quiet (fail)
    go_wp2
    go_ret
    exact ⟨ret_bool HE.out.symm, below_drewN ((Below.refl _ w).alloc (Nat.le_refl _) _) _⟩
  · have HE : Hid (okV v = decide ((cnt vby v : Int) = (v.length : Int))) := okV_cnt v hv
    have h0 : ¬ (bs v).toList = [] := by rw [Lib.toList_data, bs_list]; exact hv
    have h0b : ((bs v).toList == []) = false := by simpa using h0
    have h1 := fun w => count_val (bs v) w (by rw [bs_size]; exact hl)
    simp only [bs_list] at h1
    have hsz : (bs v).size = v.length := bs_size v
    clear hv hl
    show Calls Tryz.prog 30 #[.agg #[.int .i64 t, .string (bs v)]] w fun e w' => e = .returned (.bool (okV v)) ∧ Below w.heap.size w w'
    generalize okV v = d at *
    generalize bs v = V at *
    go_enter Tryz.func30, Tryz.ntmps30
    go_wp2
    go_quiet ((go_at_call 66; refine Calls.quiet_of_same (h1 _)))
    go_wp2
    go_ret
    exact ⟨ret_bool (by rw [HE.out]; rfl), below_drewN ((Below.refl _ w).alloc (Nat.le_refl _) _) _⟩

/-- The place of the first such field, or -1. -/
def ix (p : Fld → Bool) : List Fld → Option Nat
  | [] => none
  | f :: fs => if p f then some 0 else (ix p fs).map (· + 1)
def ixI (p : Fld → Bool) (fs : List Fld) : Int := match ix p fs with | some i => (i : Int) | none => -1
theorem ix_none (p : Fld → Bool) : ∀ fs : List Fld, (∀ f ∈ fs, p f = false) → ix p fs = none
  | [], _ => rfl
  | f :: fs, h => by
    unfold ix
    rw [h f (by simp), ix_none p fs (fun g hg => h g (by simp [hg]))]; rfl
theorem ix_some (p : Fld → Bool) : ∀ (fs : List Fld) (k : Nat) (f : Fld), fs[k]? = some f → (∀ j g, j < k → fs[j]? = some g → p g = false) → p f = true → ix p fs = some k
  | [], k, f, h, _, _ => by simp at h
  | g :: fs, 0, f, h, _, hp => by
    simp at h; subst h
    unfold ix; rw [hp]; rfl
  | g :: fs, k + 1, f, h, h1, hp => by
    unfold ix
    rw [h1 0 g (by omega) rfl, ix_some p fs k f (by simpa using h) (fun j g' hj hg => h1 (j + 1) g' (by omega) (by simpa using hg)) hp]; rfl
set_option maxRecDepth 100000 in
set_option maxHeartbeats 400000 in
theorem IndexFunc_any (f : Nat) (c : Value) (p : Fld → Bool) (v : Value) (fs : List Fld) (w : World) (hcf : ∀ x w', Sem.run Tryz.prog (callFunc f #[x, c]) w' = .ok (.enter f #[x, c]) w')
    (hf : ∀ g ∈ fs, ∀ w', Below w.heap.size w w' → Calls Tryz.prog f #[.agg #[.int .i64 g.1, .string (bs g.2)], c] w' fun e w2 => e = .returned (.bool (p g)) ∧ Below w'.heap.size w' w2)
    (hn : fs.length ≤ 4611686018427387904) (hs : SrcF w v fs) :
    Calls Tryz.prog 131 #[v, .func (.func f) #[] #[c]] w fun e w' => e = .returned (.int .i64 (ixI p fs)) ∧ Below w.heap.size w w' := by
  have HF : Hid (∀ g ∈ fs, ∀ w', Below w.heap.size w w' → Calls Tryz.prog f #[.agg #[.int .i64 g.1, .string (bs g.2)], c] w' fun e w2 => e = .returned (.bool (p g)) ∧ Below w'.heap.size w' w2) := hf
  have HS : Hid (SrcF w v fs) := hs
  obtain ⟨ao, cap, rfl, hc, _⟩ := hs
  clear hf
  generalize hI : ixI p fs = I
  have HI : Hid (ixI p fs = I) := hI
  clear hI
  go_enter Tryz.func131, Tryz.ntmps131
  go_wp2
  go_loopw [5, 8] (fun _ i wr => ∃ k : Nat, k ≤ fs.length ∧ i = .int .i64 k ∧ (∀ j g, j < k → fs[j]? = some g → p g = false) ∧ Below w.heap.size w wr) (fun _ i _ => fs.length - (intOf i).toNat)
  case atStart => exact ⟨0, Nat.zero_le _, rfl, fun j g hj => by omega, Below.refl _ _⟩
  case round =>
    obtain ⟨k, hk, rfl, hp, hb⟩ := hrel
    have HA : Hid ((∀ j g, j < k → fs[j]? = some g → p g = false) ∧ Below w.heap.size w wr) := ⟨hp, hb⟩
    clear hp hb
    by_cases hlt : k < fs.length
    · have hlt' : (k : Int) < (fs.length : Int) := by omega
      have hfk : fs[k]? = some fs[k] := List.getElem?_eq_getElem hlt
      obtain ⟨ao', cap', e1, _, h0 | ⟨b, off, e2, hcell⟩⟩ := HS.out.below HA.out.2
      · rw [h0] at hlt; simp at hlt
      injection e1 with e1 _ e3
      subst e1 e2 e3
      obtain ⟨c0, c1⟩ := hcell k _ hfk
      have hcall := HF.out fs[k] (List.getElem_mem hlt) wr HA.out.2
      clear hcell
      by_cases hpk : p fs[k] = true
      · have HX : Hid (I = (k : Int)) := by
          show I = _
          rw [← HI.out]; unfold ixI; rw [ix_some p fs k _ hfk HA.out.1 hpk]
        rw [hpk] at hcall
        generalize fs[k] = g at *
        obtain ⟨t, V⟩ := g
        go_wp2
        refine hcall.mono ?_
        rintro e w2 ⟨rfl, hb2⟩
        have HB2 : Hid (Below w.heap.size w w2) := HA.out.2.trans (hb2.mono HA.out.2.size)
        clear hb2 hcall
        go_wp2
        go_ret
        exact ⟨ret_int HX.out.symm, HB2.out⟩
      · have hpk' : p fs[k] = false := by simpa using hpk
        have HX : Hid (∀ j g, j < k + 1 → fs[j]? = some g → p g = false) := fun j g hj hg => by
          by_cases e : j < k
          · exact HA.out.1 j g e hg
          · obtain rfl : j = k := by omega
            rw [hfk] at hg; injection hg with hg; rw [← hg]; exact hpk'
        rw [hpk'] at hcall
        clear hpk hpk' hfk
        generalize fs[k] = g at *
        obtain ⟨t, V⟩ := g
        go_wp2
        refine hcall.mono ?_
        rintro e w2 ⟨rfl, hb2⟩
        have HB2 : Hid (Below w.heap.size w w2) := HA.out.2.trans (hb2.mono HA.out.2.size)
        clear hb2 hcall
        go_wp2
        go_roundw
        case rel => exact ⟨k + 1, by omega, by go_num, HX.out, HB2.out⟩
        case measure => simp [intOf]; omega
    · have HX : Hid (I = -1) := by
        show I = _
        rw [← HI.out]; unfold ixI
        rw [ix_none p fs (fun g hg => by
          obtain ⟨j, hj, e⟩ := List.getElem_of_mem hg
          exact HA.out.1 j g (by omega) (by rw [List.getElem?_eq_getElem hj, e]))]
      go_wp2
      go_ret
      exact ⟨ret_int HX.out.symm, HA.out.2⟩

theorem cfAll (x c : Value) (w : World) : Sem.run Tryz.prog (callFunc 64 #[x, c]) w = .ok (.enter 64 #[x, c]) w := by kernel_rfl
theorem cfTag (x : Value) (w : World) : Sem.run Tryz.prog (callFunc 29 #[x]) w = .ok (.enter 29 #[x]) w := by kernel_rfl
theorem cfVal (x : Value) (w : World) : Sem.run Tryz.prog (callFunc 30 #[x]) w = .ok (.enter 30 #[x]) w := by kernel_rfl
set_option maxRecDepth 100000 in
theorem all1_any (f : Nat) (B : Nat) (p : Bool) (g : Fld) (w : World) (hcf : ∀ x w', Sem.run Tryz.prog (callFunc f #[x]) w' = .ok (.enter f #[x]) w')
    (hf : ∀ w', Calls Tryz.prog f #[.agg #[.int .i64 g.1, .string (bs g.2)]] w' fun e w2 => e = .returned (.bool p) ∧ Below w'.heap.size w' w2)
    (hB : w.cell? ⟨B, 0, none⟩ = some (.func (.func f) #[] #[])) :
    Calls Tryz.prog 64 #[.agg #[.int .i64 g.1, .string (bs g.2)], .pointer (some ⟨B, 0, none⟩)] w fun e w' => e = .returned (.bool (!p)) ∧ Below w.heap.size w w' := by
  obtain ⟨t, V⟩ := g
  have HF : Hid (∀ w', Calls Tryz.prog f #[.agg #[.int .i64 t, .string (bs V)]] w' fun e w2 => e = .returned (.bool p) ∧ Below w'.heap.size w' w2) := hf
  clear hf
  have hlt : B < w.heap.size := World.block_lt_of_cell? _ _ hB
  have hB2 : (w.alloc (.cells #[.int .i64 t, .string (bs V)] 94)).cell? ⟨B, 0, none⟩ = some (.func (.func f) #[] #[]) := by
    rw [((Below.refl _ w).alloc (Nat.le_refl _) _).cell (p := ⟨B, 0, none⟩) hlt]; exact hB
  show Calls Tryz.prog 64 #[.agg #[.int .i64 t, .string (bs V)], .pointer (some ⟨B, 0, none⟩)] w fun e w' => e = .returned (.bool (!p)) ∧ Below w.heap.size w w'
  generalize bs V = S at *
  go_enter Tryz.func64, Tryz.ntmps64
  go_wp2
  refine (HF.out _).mono ?_
  rintro e w2 ⟨rfl, hb⟩
  have HB : Hid (Below w.heap.size w w2) := ((Below.refl _ w).alloc (Nat.le_refl _) _).trans (hb.mono (by simp))
  clear hb hB2
  go_wp2
  go_ret
  exact ⟨rfl, HB.out⟩
theorem ixI_ge (p : Fld → Bool) : ∀ fs : List Fld, decide (0 ≤ ixI (fun f => !p f) fs) = !(fs.all p) := by
  intro fs
  have h : (ix (fun f => !p f) fs = none ↔ fs.all p = true) := by
    induction fs with
    | nil => simp [ix]
    | cons f fs ih =>
      unfold ix
      cases hp : p f with
      | true => simp [hp, ih]
      | false => simp [hp]
  unfold ixI
  cases hx : ix (fun f => !p f) fs with
  | none => rw [h.1 hx]; rfl
  | some i =>
    have : fs.all p = false := by
      cases ha : fs.all p with
      | false => rfl
      | true => rw [h.2 ha] at hx; cases hx
    rw [this]
    show decide ((0 : Int) ≤ (i : Int)) = _
    rw [decide_eq_true (by omega)]; rfl
set_option maxRecDepth 100000 in
theorem all_any (f : Nat) (p : Fld → Bool) (v : Value) (fs : List Fld) (w : World) (hcf : ∀ x w', Sem.run Tryz.prog (callFunc f #[x]) w' = .ok (.enter f #[x]) w')
    (hf : ∀ g ∈ fs, ∀ w', Calls Tryz.prog f #[.agg #[.int .i64 g.1, .string (bs g.2)]] w' fun e w2 => e = .returned (.bool (p g)) ∧ Below w'.heap.size w' w2)
    (hn : fs.length ≤ 4611686018427387904) (hs : SrcF w v fs) :
    Calls Tryz.prog 28 #[v, .func (.func f) #[] #[]] w fun e w' => e = .returned (.bool (fs.all p)) ∧ Below w.heap.size w w' := by
  have hB : (w.alloc (.cells #[.func (.func f) #[] #[]] 90)).cell? ⟨w.heap.size, 0, none⟩ = some (.func (.func f) #[] #[]) := cell_of_row _ _ 0 _ _ _ (heap_alloc_new w _)
  have hb0 : Below w.heap.size w (w.alloc (.cells #[.func (.func f) #[] #[]] 90)) := (Below.refl _ w).alloc (Nat.le_refl _) _
  have h1 := IndexFunc_any 64 (.pointer (some ⟨w.heap.size, 0, none⟩)) (fun g => !p g) v fs (w.alloc (.cells #[.func (.func f) #[] #[]] 90)) (fun x w' => cfAll x _ w')
    (fun g hg w' hb => all1_any f w.heap.size (p g) g w' hcf (fun w2 => hf g hg w2) (by rw [hb.cell (p := ⟨w.heap.size, 0, none⟩) (by simp)]; exact hB)) hn (hs.below hb0)
  have HG : Hid (decide (0 ≤ ixI (fun f => !p f) fs) = !(fs.all p)) := ixI_ge p fs
  have hmf : ∀ (fn : Fn) (first cap : Array Value) (w : World), (Instr.makeFunc fn first cap).run Tryz.prog w = .ok (.func fn first cap) w := fun _ _ _ _ => rfl
  generalize ixI (fun f => !p f) fs = I at *
  generalize fs.all p = A at *
  have HW : Hid (Below w.heap.size w (w.alloc (.cells #[.func (.func f) #[] #[]] 90))) := hb0
  clear hf hs hb0 hB
  go_enter Tryz.func28, Tryz.ntmps28
  go_wp2_with (first | (go_at_call 131; refine h1.mono ?_; rintro e w2 ⟨rfl, hb2⟩; have HB2 : Hid (Below w.heap.size w w2) := HW.out.trans (hb2.mono HW.out.size); clear hb2) | (go_at_call 63; go_in))
  go_ret
  exact ⟨ret_bool (by first | rw [HG.out, Bool.not_not] | (have := HG.out; simp at this ⊢; exact this)), HB2.out⟩
end Go.Proofs.YtkpoheknmcepnaaGreatDoor

namespace Go.Proofs.YtkpoheknmcepnaaGreatDoor
set_option linter.unusedVariables false
open Go.RowKit

/-- The cells of bytes; bytes that the call has made. -/
def bcs (l : List UInt8) : List Value := l.map fun c => .int .u8 (c.toNat : Int)
theorem bcs_length (l : List UInt8) : (bcs l).length = l.length := by simp [bcs]
theorem bcs_app (a b : List UInt8) : bcs (a ++ b) = bcs a ++ bcs b := by simp [bcs]
theorem bcs_one (l : List UInt8) : ∀ u ∈ bcs l, u.oneCell' = true := by
  intro u hu
  unfold bcs at hu
  simp only [List.mem_map] at hu
  obtain ⟨c, _, rfl⟩ := hu
  rfl
theorem strCells_bs (l : List UInt8) : Lib.strCells (bs l) = bcs l := by
  unfold Lib.strCells bcs
  rfl
def OwnB (w : World) (B : Nat) (v : Value) (l : List UInt8) : Prop := w.ownsRow B 5 1 v l.length (bcs l)
theorem OwnB.below {w w' : World} {B : Nat} {v : Value} {l : List UInt8} (h : OwnB w B v l) (hb : Below w.heap.size w w') : OwnB w' B v l := ownsRow_below h hb
theorem OwnB.mono {w : World} {B B' : Nat} {v : Value} {l : List UInt8} (h : OwnB w B v l) (hb : B' ≤ B) : OwnB w B' v l := ownsRow_mono h hb
theorem OwnB.src {w : World} {B : Nat} {v : Value} {l : List UInt8} (h : OwnB w B v l) : SrcB w v l := by
  obtain ⟨h1, h2⟩ := h
  rcases h2 with ⟨rfl, h0⟩ | ⟨g, cap, cur, rfl, r1, r2, r3, r4, r5, r6⟩
  · have : l = [] := List.length_eq_zero_iff.1 h0
    subst this
    exact ⟨none, 0, rfl, Nat.le_refl _, .inl rfl⟩
  · refine ⟨_, cap, rfl, r3, .inr ⟨g, 0, rfl, fun j c hj => ?_⟩⟩
    have hjl : j < l.length := (List.getElem?_eq_some_iff.1 hj).1
    have e1 : (bcs l)[j]? = some (.int .u8 (c.toNat : Int)) := by unfold bcs; rw [List.getElem?_map, hj]; rfl
    rw [← r6, List.getElem?_take, if_pos (by omega)] at e1
    rw [Nat.zero_add, cell_of_row w g _ cur _ _ r2]; simpa using e1
/-- One step of append: the row and the frame. -/
theorem grow_ok {B : Nat} {w0 w w' : World} {v : Value} {n : Nat} {xs : List Value} (hown : w.ownsRow B 5 1 v n xs) (hg : w.grownBy w' v.ownBlock) (hb : Below B w0 w) (hB : B ≤ w0.heap.size) : Below B w0 w' :=
  hb.grown hg (Nat.le_trans hB hb.size) (fun k hk => (hown.lt k hk).1)
theorem one_new (w : World) (c : Int) : ∀ j u, ([.int .u8 c] : List Value)[j]? = some u → (w.alloc (.cells #[.int .u8 c] 5)).cell? ((⟨w.heap.size, 0, none⟩ : Addr).add j) = some u :=
  World.news_of_block (heap_alloc_new w (.cells #[.int .u8 c] 5))
theorem fldL_length (f : Fld) : (fldL f).length = (Lib.itoa f.1).length + f.2.length + 2 := by simp [fldL]; omega
theorem itoa_le (n : Int) (h0 : -9223372036854775808 ≤ n) (h1 : n ≤ 9223372036854775807) : (Lib.itoa n).length ≤ 21 := by
  have h : ∀ u : Nat, u < 18446744073709551616 → (Lib.decDigits u).length ≤ 20 := fun u hu => by
    by_cases h : 1 ≤ u
    · rw [Lib.decDigits_length]
      have := Lib.numDigits_eq u h hu; split at this <;> omega
    · rw [Lib.decDigits_one (by omega)]; simp
  unfold Lib.itoa
  split
  · have := h n.natAbs (by omega); simp; omega
  · have := h n.toNat (by omega); omega
theorem OwnB.ne_fld {w : World} {B g : Nat} {v : Value} {l : List UInt8} {t : Int} {V : ByteArray} (h : OwnB w B v l) (hf : FldAt w g t V) : v.ownBlock ≠ some g := by
  intro hk
  rcases h.2 with ⟨e, _⟩ | ⟨g', cap, cur, e, _, hg, _⟩
  · rw [e] at hk; cases hk
  · rw [e] at hk
    have e2 : g' = g := by simpa [Value.ownBlock] using hk
    subst e2
    unfold FldAt at hf
    rw [hf] at hg
    simp at hg
theorem FldAt.grown {w w' : World} {g : Nat} {t : Int} {V : ByteArray} {row : Option Nat} (h : FldAt w g t V) (hg : w.grownBy w' row) (hne : row ≠ some g) : FldAt w' g t V :=
  (hg.block g h.lt (fun e => hne e.symm)).trans h
set_option maxRecDepth 100000 in
set_option maxHeartbeats 400000 in
theorem appendField_any (B : Nat) (v : Value) (l : List UInt8) (f : Fld) (w0 w : World) (hown : OwnB w B v l) (hb : Below B w0 w) (hB : B ≤ w0.heap.size) (hp : Pow w) (h0 : -9223372036854775808 ≤ f.1) (h1 : f.1 ≤ 9223372036854775807) (hl : l.length ≤ 1048576) (hf : f.2.length ≤ 1048576) :
    Calls Tryz.prog 33 #[v, .agg #[.int .i64 f.1, .string (bs f.2)]] w fun e w' => ∃ v', e = .returned v' ∧ OwnB w' B v' (l ++ fldL f) ∧ Below B w0 w' := by
  obtain ⟨t, V⟩ := f
  obtain ⟨i0, hi, hz0, hz1, hz2⟩ := info_parts info5F
  have hil := itoa_le t h0 h1
  have hb1 : Below w.heap.size w (w.alloc (.cells #[.int .i64 t, .string (bs V)] 94)) := (Below.refl _ w).alloc (Nat.le_refl _) _
  have hP := Print_any t h0 h1 (w.alloc (.cells #[.int .i64 t, .string (bs V)] 94)) (hp.below hb1)
  have hbs : (⟨(Lib.itoa t).toArray⟩ : ByteArray) = bs (Lib.itoa t) := rfl
  rw [hbs] at hP
  have hfa : FldAt (w.alloc (.cells #[.int .i64 t, .string (bs V)] 94)) w.heap.size t (bs V) := heap_alloc_new w _
  have HS : Hid (OwnB w B v l ∧ Below B w0 w) := ⟨hown, hb⟩
  have hwB : B ≤ w.heap.size := Nat.le_trans hB hb.size
  clear hown hb hp
  show Calls Tryz.prog 33 #[v, .agg #[.int .i64 t, .string (bs V)]] w fun e w' => ∃ v', e = .returned v' ∧ OwnB w' B v' (l ++ fldL (t, V)) ∧ Below B w0 w'
  have HFL : Hid (fldL (t, V) = Lib.itoa t ++ ([61] : List UInt8) ++ V ++ ([1] : List UInt8)) := rfl
  generalize fldL (t, V) = FL at *
  have hV : V.length ≤ 1048576 := hf
  have hsV := bs_size V
  have hsI := bs_size (Lib.itoa t)
  have HcV := strCells_bs V
  have HcI := strCells_bs (Lib.itoa t)
  generalize Lib.itoa t = I at *
  have HVC : Hid (Lib.strCells (bs V) = bcs V ∧ Lib.strCells (bs I) = bcs I) := ⟨HcV, HcI⟩
  clear HcV HcI hf
  go_enter Tryz.func33, Tryz.ntmps33
  go_wp2_with (go_at_call 32; fail)
  refine hP.mono ?_
  rintro e w1 ⟨rfl, hb2⟩
  have HA1 : Hid (OwnB w1 B v l ∧ Below B w0 w1 ∧ FldAt w1 w.heap.size t (bs V)) := ⟨ownsRow_below (World.ownsRow.alloc HS.out.1 _) hb2, HS.out.2.trans ((hb1.trans (hb2.mono hb1.size)).mono hwB), hfa.below hb2 (by simp)⟩
  have hwB1 : B ≤ w1.heap.size := Nat.le_trans hB HA1.out.2.1.size
  clear hb2 hb1 hfa HS hP
  go_upto_region 2 with (at_builtin; refine Lib.wpList_append_own_string _ rfl _ _ 22 9 rfl B 5 i0 Tryz.underlying22 Tryz.underlying9 hi hz0 hz1 hz2 _ l.length (bcs l) rfl HA1.out.1 (bs I) rfl (by unfold maxLen; omega) (by omega) hwB1 ?_; intro v2 w2 ho2 hg2 hn2)
  have HA2 : Hid (OwnB w2 B v2 (l ++ I) ∧ Below B w0 w2 ∧ FldAt w2 w.heap.size t (bs V)) := by
    refine ⟨?_, grow_ok HA1.out.1 hg2 HA1.out.2.1 hB, HA1.out.2.2.grown hg2 (HA1.out.1.ne_fld HA1.out.2.2)⟩
    rw [HVC.out.2, hsI] at ho2
    unfold OwnB; rw [bcs_app, List.length_append]; exact ho2
  clear ho2 hg2 hn2 HA1 hwB1
  have hwB2 : B ≤ (w2.alloc (.cells #[.int .u8 61] 5)).heap.size := by have := HA2.out.2.1.size; simp; omega
  have hl2 : (l ++ I).length ≤ 1048600 := by simp; omega
  have hn2 := one_new w2 61
  go_upto_region 3 with (at_builtin; refine wpList_append_own _ rfl _ _ 22 rfl B 5 i0 (.int .u8 0) 1 1 Tryz.underlying22 hi hz0 hz1 hz2 rfl (by decide) _ (l ++ I).length (bcs (l ++ I)) rfl (World.ownsRow.alloc HA2.out.1 _) ⟨w2.heap.size, 0, none⟩ 1 1 [.int .u8 61] rfl rfl hn2 (fun x hx => by simp at hx; subst hx; rfl) (by unfold maxLen; omega) (by omega) hwB2 ?_; intro v3 w3 ho3 hg3 hn3)
  have HA3 : Hid (OwnB w3 B v3 (l ++ I ++ ([61] : List UInt8)) ∧ Below B w0 w3 ∧ FldAt w3 w.heap.size t (bs V)) := by
    have hb' : Below B w0 (w2.alloc (.cells #[.int .u8 61] 5)) := HA2.out.2.1.alloc (Nat.le_trans hB HA2.out.2.1.size) _
    have ho' : OwnB (w2.alloc (.cells #[.int .u8 61] 5)) B v2 (l ++ I) := World.ownsRow.alloc HA2.out.1 _
    have hf' : FldAt (w2.alloc (.cells #[.int .u8 61] 5)) w.heap.size t (bs V) := HA2.out.2.2.below ((Below.refl _ w2).alloc (Nat.le_refl _) _) HA2.out.2.2.lt
    refine ⟨?_, grow_ok ho' hg3 hb' hB, hf'.grown hg3 (ho'.ne_fld hf')⟩
    unfold OwnB; rw [bcs_app, List.length_append]; exact ho3
  clear ho3 hg3 hn3 hn2 HA2 hwB2 hl2
  have hwB3 : B ≤ w3.heap.size := Nat.le_trans hB HA3.out.2.1.size
  have hl3 : (l ++ I ++ ([61] : List UInt8)).length ≤ 1048601 := by simp; omega
  have c1 := HA3.out.2.2.cell1
  go_upto_region 4 with (at_builtin; refine Lib.wpList_append_own_string _ rfl _ _ 22 9 rfl B 5 i0 Tryz.underlying22 Tryz.underlying9 hi hz0 hz1 hz2 _ (l ++ I ++ ([61] : List UInt8)).length (bcs (l ++ I ++ ([61] : List UInt8))) rfl HA3.out.1 (bs V) rfl (by unfold maxLen; omega) (by omega) hwB3 ?_; intro v4 w4 ho4 hg4 hn4)
  have HA4 : Hid (OwnB w4 B v4 (l ++ I ++ ([61] : List UInt8) ++ V) ∧ Below B w0 w4) := by
    refine ⟨?_, grow_ok HA3.out.1 hg4 HA3.out.2.1 hB⟩
    rw [HVC.out.1, hsV] at ho4
    unfold OwnB; rw [bcs_app, List.length_append]; exact ho4
  clear ho4 hg4 hn4 HA3 hwB3 hl3 c1
  have hwB4 : B ≤ (w4.alloc (.cells #[.int .u8 1] 5)).heap.size := by have := HA4.out.2.size; simp; omega
  have hl4 : (l ++ I ++ ([61] : List UInt8) ++ V).length ≤ 2097300 := by simp; omega
  have hn4 := one_new w4 1
  go_wp2_with (at_builtin; refine wpList_append_own _ rfl _ _ 22 rfl B 5 i0 (.int .u8 0) 1 1 Tryz.underlying22 hi hz0 hz1 hz2 rfl (by decide) _ (l ++ I ++ ([61] : List UInt8) ++ V).length (bcs (l ++ I ++ ([61] : List UInt8) ++ V)) rfl (World.ownsRow.alloc HA4.out.1 _) ⟨w4.heap.size, 0, none⟩ 1 1 [.int .u8 1] rfl rfl hn4 (fun x hx => by simp at hx; subst hx; rfl) (by unfold maxLen; omega) (by omega) hwB4 ?_; intro v5 w5 ho5 hg5 hn5)
  have HA5 : Hid (OwnB w5 B v5 (l ++ FL) ∧ Below B w0 w5) := by
    have hb' : Below B w0 (w4.alloc (.cells #[.int .u8 1] 5)) := HA4.out.2.alloc (Nat.le_trans hB HA4.out.2.size) _
    refine ⟨?_, grow_ok (World.ownsRow.alloc HA4.out.1 _) hg5 hb' hB⟩
    rw [HFL.out, show l ++ (I ++ ([61] : List UInt8) ++ V ++ ([1] : List UInt8)) = (l ++ I ++ ([61] : List UInt8) ++ V) ++ ([1] : List UInt8) by simp]
    unfold OwnB; rw [bcs_app, List.length_append]; exact ho5
  clear ho5 hg5 hn5
  go_ret
  exact ⟨v5, rfl, HA5.out.1, HA5.out.2⟩
end Go.Proofs.YtkpoheknmcepnaaGreatDoor

namespace Go.Proofs.YtkpoheknmcepnaaGreatDoor
set_option linter.unusedVariables false
open Go.RowKit

theorem bodyB_snoc (fs : List Fld) (k : Nat) (h : k < fs.length) : bodyFB (fs.take (k + 1)) = bodyFB (fs.take k) ++ fldL fs[k] := by
  rw [List.take_succ_eq_append_getElem h]
  unfold bodyFB
  rw [List.flatMap_append]
  simp only [List.flatMap_cons, List.flatMap_nil, List.append_nil]
theorem bodyB_le (fs : List Fld) (k : Nat) : (bodyFB (fs.take k)).length ≤ (bodyFB fs).length := by
  conv => rhs; rw [← List.take_append_drop k fs]
  unfold bodyFB
  rw [List.flatMap_append, List.length_append]; omega
/-- Tags that a number of 64 bits can be. -/
def okT (fs : List Fld) : Prop := ∀ f ∈ fs, -9223372036854775808 ≤ f.1 ∧ f.1 ≤ 9223372036854775807
set_option maxRecDepth 100000 in
set_option maxHeartbeats 400000 in
theorem bodySize_any (v : Value) (fs : List Fld) (w : World) (hs : SrcF w v fs) (hp : Pow w) (ht : okT fs) (hsz : (bodyFB fs).length ≤ 1099511627776) (hn : fs.length ≤ 1099511627776) :
    Calls Tryz.prog 31 #[v] w fun e w' => e = .returned (.int .i64 ((bodyFB fs).length : Int)) ∧ Below w.heap.size w w' := by
  have HS : Hid (SrcF w v fs ∧ Pow w ∧ okT fs) := ⟨hs, hp, ht⟩
  obtain ⟨ao, cap, rfl, hc, _⟩ := hs
  clear hp ht
  go_enter Tryz.func31, Tryz.ntmps31
  go_wp2
  go_loopw [3, 5, 8] (fun z _ i wr => ∃ k : Nat, k ≤ fs.length ∧ i = .int .i64 k ∧ z = .int .i64 ((bodyFB (fs.take k)).length : Int) ∧ Below w.heap.size w wr) (fun _ _ i _ => fs.length - (intOf i).toNat)
  case atStart => exact ⟨0, Nat.zero_le _, rfl, rfl, Below.refl _ _⟩
  case round =>
    obtain ⟨k, hk, rfl, rfl, hb⟩ := hrel
    have HA : Hid (Below w.heap.size w wr) := hb
    clear hb
    by_cases hlt : k < fs.length
    · have hlt' : (k : Int) < (fs.length : Int) := by omega
      have hfk : fs[k]? = some fs[k] := List.getElem?_eq_getElem hlt
      obtain ⟨ao', cap', e1, _, h0 | ⟨b, off, e2, hcell⟩⟩ := HS.out.1.below HA.out
      · rw [h0] at hlt; simp at hlt
      injection e1 with e1 _ e3
      subst e1 e2 e3
      obtain ⟨c0, c1⟩ := hcell k _ hfk
      have htk := HS.out.2.2 fs[k] (List.getElem_mem hlt)
      have hle := bodyB_le fs (k + 1)
      have HX : Hid ((bodyFB (fs.take (k + 1))).length = (bodyFB (fs.take k)).length + (fldL fs[k]).length) := by
        show List.length _ = _
        rw [bodyB_snoc fs k hlt, List.length_append]
      have hfl := fldL_length fs[k]
      have hle2 : (bodyFB (fs.take k)).length + (fldL fs[k]).length ≤ 1099511627776 := by rw [← HX.out]; omega
      clear hle hcell hfk
      generalize fs[k] = g at *
      obtain ⟨t, V⟩ := g
      simp only at hfl htk
      have hP := fun w' hw' => Print_any t htk.1 htk.2 w' hw'
      have hbs : (⟨(Lib.itoa t).toArray⟩ : ByteArray) = bs (Lib.itoa t) := rfl
      have hbz := bs_size (Lib.itoa t)
      have hvz := bs_size V
      generalize (bodyFB (fs.take k)).length = n at *
      generalize (fldL (t, V)).length = m at *
      rw [hbs] at hP
      generalize Lib.itoa t = I at *
      clear hbs
      go_upto_region 5 with fail
      have HF : Hid (FldAt (wr.alloc (.cells #[.int .i64 t, .string (bs V)] 94)) wr.heap.size t (bs V) ∧ Below w.heap.size w (wr.alloc (.cells #[.int .i64 t, .string (bs V)] 94))) := ⟨heap_alloc_new wr _, HA.out.alloc HA.out.size _⟩
      clear c0 c1
      generalize wr.heap.size = G at *
      generalize wr.alloc (.cells #[.int .i64 t, .string (bs V)] 94) = w1 at *
      have HK : Hid (∀ w', Below w1.heap.size w1 w' → w'.cell? ⟨G, 0, none⟩ = some (.int .i64 t) ∧ w'.cell? ⟨G, 1, none⟩ = some (.string (bs V))) := fun w' hb => by
        have := HF.out.1.below hb HF.out.1.lt
        exact ⟨this.cell0, this.cell1⟩
      have HPw : Hid (∀ w', Below w1.heap.size w1 w' → Calls Tryz.prog 32 #[.int .i64 t] w' fun e w2 => e = .returned (.string (bs I)) ∧ Below w'.heap.size w' w2) := fun w' hb => hP w' ((HS.out.2.1.below HF.out.2).below hb)
      clear hP
      have hB1 : Below w1.heap.size w1 w1.drew := (Below.refl _ w1).drew
      go_region_held (fun w' => Below w1.heap.size w1 w' ∧ w'.cell? ⟨G, 0, none⟩ = some (.int .i64 t) ∧ w'.cell? ⟨G, 1, none⟩ = some (.string (bs V))) (first | exact ⟨hB2, HK.out _ hB2⟩ | exact ⟨hB1, HK.out _ hB1⟩) (first | (go_at_call 32; refine (HPw.out _ hB1).mono ?_; rintro e w2 ⟨rfl, hb2⟩; have hB2 : Below w1.heap.size w1 w2 := hB1.trans (hb2.mono hB1.size); clear hb2))
      have hw1 : IntKind.i64.wrap ((I.length : Int) + (V.length : Int)) = (I.length : Int) + (V.length : Int) := by rw [IntKind.wrap_i64]; omega
      have hw2 : IntKind.i64.wrap ((I.length : Int) + (V.length : Int) + 2) = (I.length : Int) + (V.length : Int) + 2 := by rw [IntKind.wrap_i64]; omega
      have hw3 : IntKind.i64.wrap ((n : Int) + ((I.length : Int) + (V.length : Int) + 2)) = (n : Int) + ((I.length : Int) + (V.length : Int) + 2) := by rw [IntKind.wrap_i64]; omega
      simp only [hw1, hw2, hw3]
      clear hw1 hw2 hw3
      have HB2 : Hid (Below w.heap.size w w2) := HF.out.2.trans (hB2.mono HF.out.2.size)
      go_wp2
      refine ⟨⟨k + 1, by omega, by go_num, vint ?_, HB2.out⟩, by simp [intOf]; omega⟩
      rw [HX.out]; omega
    · have e : k = fs.length := by omega
      subst e
      rw [List.take_length]
      go_wp2
      go_ret
      exact ⟨rfl, HA.out⟩
end Go.Proofs.YtkpoheknmcepnaaGreatDoor

namespace Go.Proofs.YtkpoheknmcepnaaGreatDoor
set_option linter.unusedVariables false
open Go.RowKit

/-- What Join tells. -/
def JoinRet (r : Except Int (List UInt8)) (w : World) (x : Ending) (w' : World) : Prop :=
  Below w.heap.size w w' ∧ match r with
  | .ok l => ∃ v, x = .returned (.tuple #[v, .int .i64 0]) ∧ OwnB w' w.heap.size v l
  | .error e => x = .returned (.tuple #[.slice none 0 0, .int .i64 e])
theorem JoinRet.good {r : Except Int (List UInt8)} {w w' : World} {x : Ending} {l : List UInt8} {v : Value} (h : r = .ok l) (hb : Below w.heap.size w w') (hx : x = .returned (.tuple #[v, .int .i64 0])) (ho : OwnB w' w.heap.size v l) : JoinRet r w x w' := by
  refine ⟨hb, ?_⟩; rw [h]; exact ⟨v, hx, ho⟩
theorem JoinRet.fail {r : Except Int (List UInt8)} {w w' : World} {x : Ending} {e : Int} (h : r = .error e) (hb : Below w.heap.size w w') (hx : x = .returned (.tuple #[.slice none 0 0, .int .i64 e])) : JoinRet r w x w' := by
  refine ⟨hb, ?_⟩; rw [h]; exact hx
theorem OwnB.form {w : World} {B : Nat} {v : Value} {l : List UInt8} (h : OwnB w B v l) : ∃ ao cv, v = .slice ao l.length cv := by
  rcases h.2 with ⟨e, h0⟩ | ⟨g, cap, cur, e, _⟩
  · exact ⟨none, 0, by rw [e, h0]⟩
  · exact ⟨_, cap, e⟩
theorem val_le_body : ∀ (fs : List Fld) (f : Fld), f ∈ fs → f.2.length ≤ (bodyFB fs).length
  | g :: fs, f, h => by
    have e : bodyFB (g :: fs) = fldL g ++ bodyFB fs := by simp [bodyFB]
    rw [e, List.length_append]
    rcases List.mem_cons.1 h with rfl | h
    · rw [fldL_length]; omega
    · have := val_le_body fs f h; omega
theorem head_length (b : List UInt8) : (aheadL b).length = 12 + (Lib.itoa (b.length : Int)).length + 1 + b.length := by
  unfold aheadL headL; simp; omega
set_option maxRecDepth 100000 in
set_option maxHeartbeats 800000 in
theorem Join_any (v : Value) (fs : List Fld) (w : World) (hs : SrcF w v fs) (hp : Pow w) (ht : okT fs) (hsz : (bodyFB fs).length ≤ 1099511627776) (hn : fs.length ≤ 1099511627776) :
    Calls Tryz.prog 15 #[v] w fun x w' => JoinRet (joinL fs) w x w' := by
  obtain ⟨i0, hi, hz0, hz1, hz2⟩ := info_parts info5F
  have h1 := all_any 29 (fun f => isTg f.1) v fs w (fun x w' => cfTag x w') (fun g hg w' => rightTag_any g w') (by omega) hs
  by_cases hT : (fs.all fun f => isTg f.1) = false
  · have HJ : Hid (joinL fs = .error 41) := by show joinL _ = _; unfold joinL; rw [if_pos hT]
    generalize joinL fs = R at *
    rw [hT] at h1
    clear hT hs hp ht hsz
    go_enter Tryz.func15, Tryz.ntmps15
    go_wp2_with (go_at_call 28; fail)
    refine h1.mono ?_
    rintro e w1 ⟨rfl, hb1⟩
    have HB1 : Hid (Below w.heap.size w w1) := hb1
    clear hb1 h1
    go_wp2
    go_ret2
    exact .fail HJ.out HB1.out rfl
  have hT' : (fs.all fun f => isTg f.1) = true := by simpa using hT
  rw [hT'] at h1
  have h2 := fun w' (hb : Below w.heap.size w w') => all_any 30 (fun f => okV f.2) v fs w' (fun x w' => cfVal x w') (fun g hg w2 => rightValue_any g w2 (by have := val_le_body fs g hg; unfold maxLen; omega)) (by omega) (hs.below hb)
  by_cases hV : (fs.all fun f => okV f.2) = false
  · have HJ : Hid (joinL fs = .error 42) := by show joinL _ = _; unfold joinL; rw [if_neg hT, if_pos hV]
    generalize joinL fs = R at *
    simp only [hV] at h2
    clear hT hT' hV hs hp ht hsz
    go_enter Tryz.func15, Tryz.ntmps15
    go_wp2_with (go_at_call 28; fail)
    refine h1.mono ?_
    rintro e w1 ⟨rfl, hb1⟩
    have HB1 : Hid (Below w.heap.size w w1) := hb1
    clear hb1 h1
    go_wp2_with (go_at_call 28; fail)
    refine (h2 w1 HB1.out).mono ?_
    rintro e w2 ⟨rfl, hb2⟩
    have HB2 : Hid (Below w.heap.size w w2) := HB1.out.trans (hb2.mono HB1.out.size)
    clear hb2 h2
    go_wp2
    go_ret2
    exact .fail HJ.out HB2.out rfl
  have hV' : (fs.all fun f => okV f.2) = true := by simpa using hV
  simp only [hV'] at h2
  have h3 := fun w' (hb : Below w.heap.size w w') => bodySize_any v fs w' (hs.below hb) (hp.below hb) ht hsz hn
  have h4 := fun w' (hb : Below w.heap.size w w') => Print_any ((bodyFB fs).length : Int) (by omega) (by omega) w' (hp.below hb)
  have hbs : (⟨(Lib.itoa ((bodyFB fs).length : Int)).toArray⟩ : ByteArray) = bs (Lib.itoa ((bodyFB fs).length : Int)) := rfl
  simp only [hbs] at h4
  have hiz := bs_size (Lib.itoa ((bodyFB fs).length : Int))
  have hil := itoa_le ((bodyFB fs).length : Int) (by omega) (by omega)
  have hcl : (closeL (aheadL (bodyFB fs))).length = 12 + (Lib.itoa ((bodyFB fs).length : Int)).length + 1 + (bodyFB fs).length + 7 := by rw [close_length, head_length]
  by_cases hL : 1024 < (closeL (aheadL (bodyFB fs))).length
  · have HJ : Hid (joinL fs = .error 43) := by show joinL _ = _; unfold joinL; rw [if_neg hT, if_neg hV, if_pos hL]
    generalize joinL fs = R at *
    rw [hcl] at hL
    clear hT hT' hV hV' hs hp ht hcl hbs
    generalize (bodyFB fs).length = n at *
    generalize Lib.itoa (n : Int) = I at *
    have hL' : (1024 : Int) < 12 + (I.length : Int) + 1 + (n : Int) + 7 := by omega
    go_enter Tryz.func15, Tryz.ntmps15
    go_wp2_with (go_at_call 28; fail)
    refine h1.mono ?_
    rintro e w1 ⟨rfl, hb1⟩
    have HB1 : Hid (Below w.heap.size w w1) := hb1
    clear hb1 h1
    go_wp2_with (go_at_call 28; fail)
    refine (h2 w1 HB1.out).mono ?_
    rintro e w2 ⟨rfl, hb2⟩
    have HB2 : Hid (Below w.heap.size w w2) := HB1.out.trans (hb2.mono HB1.out.size)
    clear hb2 h2 HB1
    go_wp2_with (go_at_call 31; fail)
    refine (h3 w2 HB2.out).mono ?_
    rintro e w3 ⟨rfl, hb3⟩
    have HB3 : Hid (Below w.heap.size w w3) := HB2.out.trans (hb3.mono HB2.out.size)
    clear hb3 h3 HB2
    go_wp2_with (go_at_call 32; fail)
    refine (h4 w3 HB3.out).mono ?_
    rintro e w4 ⟨rfl, hb4⟩
    have HB4 : Hid (Below w.heap.size w w4) := HB3.out.trans (hb4.mono HB3.out.size)
    clear hb4 h4 HB3
    go_wp2
    go_ret2
    exact .fail HJ.out HB4.out rfl
  have HJ : Hid (joinL fs = .ok (closeL (aheadL (bodyFB fs)))) := by show joinL _ = _; unfold joinL; rw [if_neg hT, if_neg hV, if_neg hL]
  generalize joinL fs = R at *
  rw [hcl] at hL
  have HS : Hid (SrcF w v fs ∧ Pow w ∧ okT fs ∧ (bodyFB fs).length ≤ 1024 ∧ (∀ f ∈ fs, f.2.length ≤ 1024)) := ⟨hs, hp, ht, by omega, fun f hf => by have := val_le_body fs f hf; omega⟩
  have HD : Hid (aheadL (bodyFB fs) = headL ++ Lib.itoa ((bodyFB fs).length : Int) ++ [1] ++ bodyFB fs) := rfl
  have HC : Hid (closeL (aheadL (bodyFB fs)) = aheadL (bodyFB fs) ++ tenL ++ three (sumL (aheadL (bodyFB fs))) ++ [1]) := rfl
  have HN : Hid ((bodyFB fs).length + (Lib.itoa ((bodyFB fs).length : Int)).length ≤ 1004) := by show _ ≤ _; omega
  have HIc := strCells_bs (Lib.itoa ((bodyFB fs).length : Int))
  generalize closeL (aheadL (bodyFB fs)) = CL at *
  generalize aheadL (bodyFB fs) = AL at *
  clear hT hT' hV hV' hp ht hcl hbs
  obtain ⟨n, hbn⟩ : ∃ n, (bodyFB fs).length = n := ⟨_, rfl⟩
  rw [hbn] at h3 h4 hiz hil hL HIc hsz HD HN
  have HBN : Hid ((bodyFB fs).length = n) := hbn
  clear hbn
  generalize Lib.itoa (n : Int) = I at *
  have hL' : decide ((1024 : Int) < 12 + (I.length : Int) + 1 + (n : Int) + 7) = false := decide_eq_false (by omega)
  have hI0 : I.length ≤ 21 := hil
  obtain ⟨ao, cap, rfl, hc, _⟩ := hs
  go_enter Tryz.func15, Tryz.ntmps15
  go_wp2_with (go_at_call 28; fail)
  refine h1.mono ?_
  rintro e w1 ⟨rfl, hb1⟩
  have HB1 : Hid (Below w.heap.size w w1) := hb1
  clear hb1 h1
  go_wp2_with (go_at_call 28; fail)
  refine (h2 w1 HB1.out).mono ?_
  rintro e w2 ⟨rfl, hb2⟩
  have HB2 : Hid (Below w.heap.size w w2) := HB1.out.trans (hb2.mono HB1.out.size)
  clear hb2 h2 HB1
  go_wp2_with (go_at_call 31; fail)
  refine (h3 w2 HB2.out).mono ?_
  rintro e w3 ⟨rfl, hb3⟩
  have HB3 : Hid (Below w.heap.size w w3) := HB2.out.trans (hb3.mono HB2.out.size)
  clear hb3 h3 HB2
  go_wp2_with (go_at_call 32; fail)
  refine (h4 w3 HB3.out).mono ?_
  rintro e w4 ⟨rfl, hb4⟩
  have HB4 : Hid (Below w.heap.size w w4) := HB3.out.trans (hb4.mono HB3.out.size)
  clear hb4 h4 HB3
  go_upto_region 11 with (at_make; refine wpList_make_own _ rfl _ _ 22 rfl w.heap.size 5 i0 (.int .u8 0) 1 Tryz.underlying22 hi hz0 hz1 _ _ _ (12 + I.length + 1 + n + 7) rfl rfl (by omega) (by rw [hz2]; omega) (by unfold maxLen; omega) HB4.out.size ?_; intro w5 hown5 hgrow5)
  have HA5 : Hid (w5.ownsRow w.heap.size 5 1 (.slice (some ⟨w4.heap.size, 0, none⟩) 0 (12 + I.length + 1 + n + 7)) 0 [] ∧ Below w.heap.size w w5) := ⟨hown5, HB4.out.grown hgrow5 HB4.out.size (fun k hk => by cases hk)⟩
  have hB5 : w.heap.size ≤ w5.heap.size := HA5.out.2.size
  clear hown5 hgrow5
  have hhz := bs_size headL
  have hhc := strCells_bs headL
  have htz := bs_size tenL
  have htc := strCells_bs tenL
  have HSC : Hid (Lib.strCells (bs headL) = bcs headL ∧ Lib.strCells (bs tenL) = bcs tenL ∧ Lib.strCells (bs I) = bcs I) := ⟨hhc, htc, HIc⟩
  clear hhc htc HIc
  have hh12 : (bs headL).size = 12 := hhz
  go_upto_region 12 with (at_builtin; refine Lib.wpList_append_own_string _ rfl _ _ 22 9 rfl w.heap.size 5 i0 Tryz.underlying22 Tryz.underlying9 hi hz0 hz1 hz2 _ 0 [] rfl HA5.out.1 (bs headL) rfl (by unfold maxLen; omega) (by omega) hB5 ?_; intro v6 w6 ho6 hg6 hn6)
  have HA6 : Hid (OwnB w6 w.heap.size v6 headL ∧ Below w.heap.size w w6) := by
    refine ⟨?_, grow_ok HA5.out.1 hg6 HA5.out.2 (Nat.le_refl _)⟩
    rw [HSC.out.1, hhz] at ho6
    unfold OwnB
    simpa using ho6
  clear ho6 hg6 hn6 HA5 hB5
  have hB6 : w.heap.size ≤ w6.heap.size := HA6.out.2.size
  have hl6 : headL.length = 12 := rfl
  go_upto_region 13 with (at_builtin; refine Lib.wpList_append_own_string _ rfl _ _ 22 9 rfl w.heap.size 5 i0 Tryz.underlying22 Tryz.underlying9 hi hz0 hz1 hz2 _ headL.length (bcs headL) rfl HA6.out.1 (bs I) rfl (by unfold maxLen; omega) (by omega) hB6 ?_; intro v7 w7 ho7 hg7 hn7)
  have HA7 : Hid (OwnB w7 w.heap.size v7 (headL ++ I) ∧ Below w.heap.size w w7) := by
    refine ⟨?_, grow_ok HA6.out.1 hg7 HA6.out.2 (Nat.le_refl _)⟩
    rw [HSC.out.2.2, hiz] at ho7
    unfold OwnB; rw [bcs_app, List.length_append]; exact ho7
  clear ho7 hg7 hn7 HA6 hB6
  have hB7 : w.heap.size ≤ (w7.alloc (.cells #[.int .u8 1] 5)).heap.size := by have := HA7.out.2.size; simp; omega
  have hl7 : (headL ++ I).length ≤ 33 := by simp; omega
  have hn7 := one_new w7 1
  go_upto_region 14 with (at_builtin; refine wpList_append_own _ rfl _ _ 22 rfl w.heap.size 5 i0 (.int .u8 0) 1 1 Tryz.underlying22 hi hz0 hz1 hz2 rfl (by decide) _ (headL ++ I).length (bcs (headL ++ I)) rfl (World.ownsRow.alloc HA7.out.1 _) ⟨w7.heap.size, 0, none⟩ 1 1 [.int .u8 1] rfl rfl hn7 (fun x hx => by simp at hx; subst hx; rfl) (by unfold maxLen; omega) (by omega) hB7 ?_; intro v8 w8 ho8 hg8 hn8)
  have HA8 : Hid (OwnB w8 w.heap.size v8 (headL ++ I ++ ([1] : List UInt8)) ∧ Below w.heap.size w w8) := by
    have hb' : Below w.heap.size w (w7.alloc (.cells #[.int .u8 1] 5)) := HA7.out.2.alloc HA7.out.2.size _
    refine ⟨?_, grow_ok (World.ownsRow.alloc HA7.out.1 _) hg8 hb' (Nat.le_refl _)⟩
    unfold OwnB; rw [bcs_app, List.length_append]; exact ho8
  clear ho8 hg8 hn8 hn7 HA7 hB7 hl7
  have hl8 : (headL ++ I ++ ([1] : List UInt8)).length = 13 + I.length := by simp; omega
  have HL8 : Hid ((headL ++ I ++ ([1] : List UInt8)).length = 13 + I.length) := hl8
  have HD8 : Hid (AL = headL ++ I ++ ([1] : List UInt8) ++ bodyFB fs) := HD.out
  clear hl8 hl6 hh12
  generalize headL ++ I ++ ([1] : List UInt8) = H8 at *
  obtain ⟨a8, c8, hv8⟩ := HA8.out.1.form
  subst hv8
  go_wp2
  go_loopw [7, 9, 42] (fun z _ i wr => ∃ (k : Nat) (ao' : Option Addr) (cv : Nat), k ≤ fs.length ∧ i = .int .i64 k ∧ z = .slice ao' (H8 ++ bodyFB (fs.take k)).length cv ∧ OwnB wr w.heap.size (.slice ao' (H8 ++ bodyFB (fs.take k)).length cv) (H8 ++ bodyFB (fs.take k)) ∧ Below w.heap.size w wr) (fun _ _ i _ => fs.length - (intOf i).toNat)
  case atStart => exact ⟨0, a8, c8, Nat.zero_le _, rfl, by simp [bodyFB], by simpa [bodyFB] using HA8.out.1, HA8.out.2⟩
  case round =>
    obtain ⟨k, ao', cv, hk, rfl, rfl, ho, hb⟩ := hrel
    have HA : Hid (OwnB wr w.heap.size (.slice ao' (H8 ++ bodyFB (fs.take k)).length cv) (H8 ++ bodyFB (fs.take k)) ∧ Below w.heap.size w wr) := ⟨ho, hb⟩
    clear ho hb
    have hlb : (H8 ++ bodyFB (fs.take k)).length ≤ 2048 := by
      have h1 := bodyB_le fs k
      have h2 := HS.out.2.2.2.1
      have h3 := HL8.out
      rw [List.length_append]; omega
    by_cases hlt : k < fs.length
    · have hlt' : (k : Int) < (fs.length : Int) := by omega
      have hfk : fs[k]? = some fs[k] := List.getElem?_eq_getElem hlt
      obtain ⟨ao2, cap2, e1, _, h0 | ⟨b, off, e2, hcell⟩⟩ := HS.out.1.below HA.out.2
      · rw [h0] at hlt; simp at hlt
      injection e1 with e1 _ e3
      subst e1 e2 e3
      obtain ⟨c0, c1⟩ := hcell k _ hfk
      have htk := HS.out.2.2.1 fs[k] (List.getElem_mem hlt)
      have hvk := HS.out.2.2.2.2 fs[k] (List.getElem_mem hlt)
      have HX : Hid (H8 ++ bodyFB (fs.take (k + 1)) = H8 ++ bodyFB (fs.take k) ++ fldL fs[k]) := by
        show _ = _
        rw [bodyB_snoc fs k hlt, List.append_assoc]
      have hP := fun w' ho hb hp => appendField_any w.heap.size (.slice ao' (H8 ++ bodyFB (fs.take k)).length cv) (H8 ++ bodyFB (fs.take k)) fs[k] w w' ho hb (Nat.le_refl _) hp htk.1 htk.2 (by omega) (by omega)
      clear hcell hfk
      generalize fs[k] = g at *
      generalize H8 ++ bodyFB (fs.take k) = L at *
      obtain ⟨t, V⟩ := g
      go_wp2_with (go_at_call 33; fail)
      have hbb : Below w.heap.size w (wr.alloc (.cells #[.int .i64 t, .string (bs V)] 94)) := HA.out.2.alloc HA.out.2.size _
      refine (hP _ (World.ownsRow.alloc HA.out.1 _) hbb (HS.out.2.1.below hbb)).mono ?_
      rintro e w9 ⟨v9, rfl, ho9, hb9⟩
      obtain ⟨a9, c9, hv9⟩ := ho9.form
      subst hv9
      have HA9 : Hid (OwnB w9 w.heap.size (.slice a9 (L ++ fldL (t, V)).length c9) (L ++ fldL (t, V)) ∧ Below w.heap.size w w9) := ⟨ho9, hb9⟩
      clear ho9 hb9 hP hbb
      go_wp2
      refine ⟨⟨k + 1, a9, c9, by omega, by go_num, ?_, ?_, HA9.out.2⟩, by simp [intOf]; omega⟩
      · rw [HX.out, List.length_append]
      · rw [HX.out]; exact HA9.out.1
    · have e : k = fs.length := by omega
      subst e
      have HE : Hid (H8 ++ bodyFB (fs.take fs.length) = AL) := by
        show _ = _
        rw [List.take_length, HD8.out]
      have h12 : 12 < (H8 ++ bodyFB (fs.take fs.length)).length := by
        have h3 := HL8.out
        rw [List.length_append]; omega
      rw [HE.out] at h12 hlb HA
      simp only [HE.out]
      rcases HA.out.1.2 with ⟨_, h0⟩ | ⟨g, cg, cur, hv, hg1, hg2, hg3⟩
      · omega
      injection hv with hv1 _ hv2
      subst hv1 hv2
      clear hg1 hg2 hg3
      have hsrc := HA.out.1.src
      have hsr2 : ∃ b off, (some ⟨g, 0, none⟩ : Option Addr) = some ⟨b, off, none⟩ ∧ ∀ j c, AL[j]? = some c → wr.cell? ⟨b, off + j, none⟩ = some (.int .u8 (c.toNat : Int)) := by
        obtain ⟨ao3, c3, e1, _, h0 | ⟨b', off', e2, hcl⟩⟩ := hsrc
        · rw [h0] at h12; simp at h12
        · injection e1 with e1 _ e5
          exact ⟨b', off', by rw [e1, e2], hcl⟩
      obtain ⟨b', off', e2, hcl⟩ := hsr2
      clear hsrc
      injection e2 with e2
      injection e2 with e3 e4
      subst e3 e4
      have HCL : Hid (∀ j c, AL[j]? = some c → wr.cell? ⟨g, 0 + j, none⟩ = some (.int .u8 (c.toNat : Int))) := hcl
      clear hcl
      go_wp2_with (go_at_call 34; fail)
      have hba : Below wr.heap.size wr (wr.alloc (.cells #[.slice (some ⟨g, 0, none⟩) AL.length cv] 22)) := (Below.refl _ wr).alloc (Nat.le_refl _) _
      refine (Sum_one wr.heap.size g 0 AL.length cv AL (wr.alloc (.cells #[.slice (some ⟨g, 0, none⟩) AL.length cv] 22)) (Nat.le_refl _) (by omega) (cell_of_row _ _ 0 _ _ _ (heap_alloc_new wr _)) (fun j c hj => by
        have h := HCL.out j c hj
        rw [hba.cell (p := ⟨g, _, none⟩) (World.block_lt_of_cell? _ _ h)]; exact h)).mono ?_
      rw [List.take_length]
      rintro e w9 ⟨rfl, rfl⟩
      have HA9 : Hid (OwnB (wr.alloc (.cells #[.slice (some ⟨g, 0, none⟩) AL.length cv] 22)) w.heap.size (.slice (some ⟨g, 0, none⟩) AL.length cv) AL ∧ Below w.heap.size w (wr.alloc (.cells #[.slice (some ⟨g, 0, none⟩) AL.length cv] 22))) := ⟨World.ownsRow.alloc HA.out.1 _, HA.out.2.alloc HA.out.2.size _⟩
      clear hba HCL HA
      generalize wr.alloc (.cells #[.slice (some ⟨g, 0, none⟩) AL.length cv] 22) = w9 at *
      have hsm := sumL_lt AL
      have hP := fun w' hw' => printSum_fld (sumL AL) hsm w' hw'
      have hpz := bs_size (three (sumL AL))
      have hpl : (three (sumL AL)).length = 3 := rfl
      have hpc := strCells_bs (three (sumL AL))
      generalize sumL AL = SM at *
      generalize three SM = T3 at *
      have HPC : Hid (Lib.strCells (bs T3) = bcs T3) := hpc
      clear hpc
      have hB9 : w.heap.size ≤ w9.heap.size := HA9.out.2.size
      have ht3 : (bs tenL).size = 3 := htz
      go_upto_region 21 with (at_builtin; refine Lib.wpList_append_own_string _ rfl _ _ 22 9 rfl w.heap.size 5 i0 Tryz.underlying22 Tryz.underlying9 hi hz0 hz1 hz2 _ AL.length (bcs AL) rfl HA9.out.1 (bs tenL) rfl (by unfold maxLen; omega) (by omega) hB9 ?_; intro v10 w10 ho10 hg10 hn10)
      have HA10 : Hid (OwnB w10 w.heap.size v10 (AL ++ tenL) ∧ Below w.heap.size w w10) := by
        refine ⟨?_, grow_ok HA9.out.1 hg10 HA9.out.2 (Nat.le_refl _)⟩
        rw [HSC.out.2.1, htz] at ho10
        unfold OwnB; rw [bcs_app, List.length_append]; exact ho10
      clear ho10 hg10 hn10 HA9 hB9
      go_wp2_with (go_at_call 35; fail)
      refine (hP w10 (HS.out.2.1.below HA10.out.2)).mono ?_
      rintro e w11 ⟨rfl, hb11⟩
      have HA11 : Hid (OwnB w11 w.heap.size v10 (AL ++ tenL) ∧ Below w.heap.size w w11) := ⟨HA10.out.1.below hb11, HA10.out.2.trans (hb11.mono HA10.out.2.size)⟩
      clear hb11 HA10 hP
      have hB11 : w.heap.size ≤ w11.heap.size := HA11.out.2.size
      have hl11 : (AL ++ tenL).length ≤ 2051 := by rw [List.length_append]; have : tenL.length = 3 := rfl; omega
      go_upto_region 22 with (at_builtin; refine Lib.wpList_append_own_string _ rfl _ _ 22 9 rfl w.heap.size 5 i0 Tryz.underlying22 Tryz.underlying9 hi hz0 hz1 hz2 _ (AL ++ tenL).length (bcs (AL ++ tenL)) rfl HA11.out.1 (bs T3) rfl (by unfold maxLen; omega) (by omega) hB11 ?_; intro v12 w12 ho12 hg12 hn12)
      have HA12 : Hid (OwnB w12 w.heap.size v12 (AL ++ tenL ++ T3) ∧ Below w.heap.size w w12) := by
        refine ⟨?_, grow_ok HA11.out.1 hg12 HA11.out.2 (Nat.le_refl _)⟩
        rw [HPC.out, hpz] at ho12
        unfold OwnB; rw [bcs_app, List.length_append]; exact ho12
      clear ho12 hg12 hn12 HA11 hB11
      have hB12 : w.heap.size ≤ (w12.alloc (.cells #[.int .u8 1] 5)).heap.size := by have := HA12.out.2.size; simp; omega
      have hl12 : (AL ++ tenL ++ T3).length ≤ 2054 := by rw [List.length_append]; omega
      have hn12 := one_new w12 1
      go_wp2_with (at_builtin; refine wpList_append_own _ rfl _ _ 22 rfl w.heap.size 5 i0 (.int .u8 0) 1 1 Tryz.underlying22 hi hz0 hz1 hz2 rfl (by decide) _ (AL ++ tenL ++ T3).length (bcs (AL ++ tenL ++ T3)) rfl (World.ownsRow.alloc HA12.out.1 _) ⟨w12.heap.size, 0, none⟩ 1 1 [.int .u8 1] rfl rfl hn12 (fun x hx => by simp at hx; subst hx; rfl) (by unfold maxLen; omega) (by omega) hB12 ?_; intro v13 w13 ho13 hg13 hn13)
      have HA13 : Hid (OwnB w13 w.heap.size v13 CL ∧ Below w.heap.size w w13) := by
        have hb' : Below w.heap.size w (w12.alloc (.cells #[.int .u8 1] 5)) := HA12.out.2.alloc HA12.out.2.size _
        refine ⟨?_, grow_ok (World.ownsRow.alloc HA12.out.1 _) hg13 hb' (Nat.le_refl _)⟩
        rw [HC.out]
        unfold OwnB; rw [bcs_app, List.length_append]; exact ho13
      clear ho13 hg13 hn13
      go_ret2
      exact .good HJ.out HA13.out.2 rfl HA13.out.1
end Go.Proofs.YtkpoheknmcepnaaGreatDoor
