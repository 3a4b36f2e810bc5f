import Derived.Test.YtchkpggdndnpjaaGreatDoorG31
import Derived.Test.YtchkpggdndnpjaaGreatDoorG32
import Derived.Test.YtchkpggdndnpjaaGreatDoorG27
import Derived.Test.YtchkpggdndnpjaaGreatDoorG29
import Derived.Test.YtchkpggdndnpjaaGreatDoorG16
import Derived.Test.YtchkpggdndnpjaaGreatDoorG25

namespace Go.Proofs.YtchkpggdndnpjaaGreatDoor
set_option linter.unusedVariables false
open Go.RowKit Go.Great

theorem OwnM.low {w w' : World} {g : Nat} {M : Msg} (h : OwnM w g M) (hb : Below w.heap.size w w') : OwnM w' g M := h.below hb h.lt
theorem own_block {w : World} {B e s n : Nat} {v : Value} {xs : List Value} {g : Nat} (h : w.ownsRow B e s v n xs) (hg : v.ownBlock = some g) : ∃ cs, w.heap[g]? = some (.cells cs e (0, 0)) := by
  obtain ⟨h1, h2⟩ := h
  rcases h2 with ⟨rfl, h0⟩ | ⟨g', cap, cur, rfl, r1, r2, r3⟩
  · cases hg
  · cases hg; exact ⟨_, r2⟩
theorem own_apart {w : World} {B1 e1 s1 n1 B2 e2 s2 n2 : Nat} {v1 v2 : Value} {x1 x2 : List Value} (h1 : w.ownsRow B1 e1 s1 v1 n1 x1) (h2 : w.ownsRow B2 e2 s2 v2 n2 x2) (hne : e1 ≠ e2) {g : Nat} (hg : v1.ownBlock = some g) : v2.ownBlock ≠ some g := fun e => by
  obtain ⟨c1, q1⟩ := own_block h1 hg
  obtain ⟨c2, q2⟩ := own_block h2 e
  rw [q1] at q2
  exact hne (by injection q2 with q2; injection q2)
theorem own_off {w : World} {B e s n g : Nat} {v : Value} {xs : List Value} {M : Msg} (h : w.ownsRow B e s v n xs) (hM : OwnM w g M) (hne : e ≠ 25) : v.ownBlock ≠ some g := fun e2 => by
  obtain ⟨c1, q1⟩ := own_block h e2
  rw [hM] at q1
  exact hne (by injection q1 with q1; injection q1 with _ q; exact q.symm)
theorem own_kept {w w' : World} {base size n : Nat} {e : TypeId} {v : Value} {xs : List Value} (h : w.ownsRow base e size v n xs) (hk : ∀ g, v.ownBlock = some g → w'.heap[g]? = w.heap[g]?) : w'.ownsRow base e size v n xs := ownsRow_of_block h hk
theorem ownsForm {w : World} {B e s n : Nat} {v : Value} {xs : List Value} (h : w.ownsRow B e s v n xs) : ∃ ao cv, v = .slice ao n cv := by
  obtain ⟨h1, h2⟩ := h
  rcases h2 with ⟨rfl, h0⟩ | ⟨g, cap, cur, rfl, r1⟩
  · exact ⟨none, 0, by rw [h0]⟩
  · exact ⟨_, _, rfl⟩
/-- A field as it is written. -/
def fldF (M : Msg) (t : Slt) : Option Fld := cond (t.2.1 || thB t.2.2 M) (some (t.1, (wrS t.2.2 M).data.toList)) none
def encU (M : Msg) (l : List Slt) (j : Nat) : List Fld := (l.take j).filterMap (fldF M)
def encF (M : Msg) : List Fld := (slts (M.z 0)).filterMap (fldF M)
theorem encU_yes {M : Msg} {l : List Slt} {j : Nat} {t : Slt} (h : l[j]? = some t) (hb : (t.2.1 || thB t.2.2 M) = true) : encU M l (j + 1) = encU M l j ++ [(t.1, (wrS t.2.2 M).data.toList)] := by
  unfold encU
  rw [List.take_add_one, h, List.filterMap_append]
  simp [fldF, hb]
theorem encU_no {M : Msg} {l : List Slt} {j : Nat} {t : Slt} (h : l[j]? = some t) (hb : (t.2.1 || thB t.2.2 M) = false) : encU M l (j + 1) = encU M l j := by
  unfold encU
  rw [List.take_add_one, h, List.filterMap_append]
  simp [fldF, hb]
theorem encU_len (M : Msg) (l : List Slt) (j : Nat) : (encU M l j).length ≤ j := by
  refine Nat.le_trans (List.length_filterMap_le _ _) ?_
  rw [List.length_take]; omega
structure EI (w wr : World) (g : Nat) (M : Msg) (sv : Value) (l : List Slt) (vl : Value) (fs : List Fld) : Prop where
  msg : OwnM wr g M
  own : OwnF wr w.heap.size vl fs
  slt : OwnSl wr w.heap.size sv l
  below : Below w.heap.size w wr
theorem EI.low {w wr w' : World} {g : Nat} {M : Msg} {sv vl : Value} {l : List Slt} {fs : List Fld} (h : EI w wr g M sv l vl fs) (hb : Below wr.heap.size wr w') : EI w w' g M sv l vl fs :=
  ⟨h.msg.low hb, h.own.below hb, ownsRow_below h.slt hb, h.below.trans (hb.mono h.below.size)⟩
theorem EI.app {w wr w' : World} {g : Nat} {M : Msg} {sv vl v : Value} {l : List Slt} {fs fs' : List Fld} (h : EI w wr g M sv l vl fs) (hg : wr.grownBy w' vl.ownBlock) (ho : OwnF w' w.heap.size v fs') : EI w w' g M sv l v fs' := by
  refine ⟨(hg.block _ h.msg.lt (fun e => own_off h.own h.msg (by decide) e.symm)).trans h.msg, ho, own_kept h.slt fun q hq => hg.block _ (h.slt.lt q hq).2 (fun e => own_apart h.slt h.own (by decide) hq e.symm), below_grownBy h.below hg (Nat.le_refl _) (fun q hq => (h.own.lt q hq).1)⟩
set_option maxRecDepth 100000 in
set_option maxHeartbeats 1000000 in
theorem Encode_no (M : Msg) (w : World) (hM : Mon w) (hz : M.ok) (hv : valE M ≠ 0) :
    Calls Tryz.prog 13 #[.agg M.cs] w fun e w' => e = .returned (.tuple #[.slice none 0 0, .int .i64 (valE M)]) ∧ Below w.heap.size w w' := by
  have HM : Hid (2 < w.heap.size ∧ Mon w ∧ M.ok) := ⟨hM.lt, hM, hz⟩
  have HO1 : Hid (OwnM (w.alloc (.cells M.cs 25)) w.heap.size M ∧ Below w.heap.size w (w.alloc (.cells M.cs 25))) := ⟨heap_alloc_new w _, (Below.refl _ w).alloc (Nat.le_refl _) _⟩
  clear hM hz
  generalize hE : valE M = E at *
  have HE : Hid (valE M = E) := hE
  clear hE
  go_enter Tryz.func13, Tryz.ntmps13
  go_upto_region 1 with fail
  generalize w.alloc (.cells M.cs 25) = w1 at *
  generalize hcs : M.cs = CS at *
  refine wp_region_lit ?_
  refine wpList_loadM HO1.out.1 (.tmp 1) rfl rfl rfl ?_
  simp only [Act.put, List.setIfInBounds_toArray, List.set_cons_zero, List.set_cons_succ]
  rw [hcs]
  go_wp2_with (go_at_call 12; fail)
  have hvc := Valid_any M w1 (HM.out.2.1.below HO1.out.2 HM.out.1) HM.out.2.2
  rw [hcs, HE.out] at hvc
  refine hvc.mono ?_
  clear hvc
  rintro e w2 ⟨rfl, hb2⟩
  have HB2 : Hid (Below w.heap.size w w2) := HO1.out.2.trans (hb2.mono HO1.out.2.size)
  clear hb2
  have hvb : (E != 0) = true := by simpa using hv
  generalize valN M = N at *
  go_wp2
  go_ret2
  exact ⟨rfl, HB2.out⟩
end Go.Proofs.YtchkpggdndnpjaaGreatDoor

namespace Go.Proofs.YtchkpggdndnpjaaGreatDoor
set_option linter.unusedVariables false
open Go.RowKit

def tgB (t : Int) (f : Fld) : Bool := decide (f.1 = t)
/-- The place of the first field with a tag; the number of fields, if there is none. -/
def plN (fs : List Fld) (t : Int) : Nat := match ix (tgB t) fs with | some i => i | none => fs.length
theorem ix_lt (p : Fld → Bool) : ∀ (fs : List Fld) (i : Nat), ix p fs = some i → ∃ f, fs[i]? = some f ∧ p f = true
  | [], i, h => by simp [ix] at h
  | f :: fs, i, h => by
    unfold ix at h
    cases hp : p f with
    | true => rw [hp] at h; simp at h; subst h; exact ⟨f, rfl, hp⟩
    | false =>
      rw [hp] at h
      simp at h
      obtain ⟨j, hj, rfl⟩ := h
      obtain ⟨g, hg, hpg⟩ := ix_lt p fs j hj
      exact ⟨g, by simpa using hg, hpg⟩
theorem plN_le (fs : List Fld) (t : Int) : plN fs t ≤ fs.length := by
  unfold plN
  cases h : ix (tgB t) fs with
  | none => exact Nat.le_refl _
  | some i =>
    obtain ⟨f, hf, -⟩ := ix_lt _ _ _ h
    exact Nat.le_of_lt (List.getElem?_eq_some_iff.1 hf).1
theorem cfPlace (x c : Value) (w : World) : Sem.run Tryz.prog (callFunc 190 #[x, c]) w = .ok (.enter 190 #[x, c]) w := by kernel_rfl
set_option maxRecDepth 100000 in
theorem place1_any (t : Int) (B : Nat) (g : Fld) (w : World) (hB : w.cell? ⟨B, 0, none⟩ = some (.int .i64 t)) :
    Calls Tryz.prog 190 #[.agg #[.int .i64 g.1, .string (bs g.2)], .pointer (some ⟨B, 0, none⟩)] w fun e w' => e = .returned (.bool (tgB t g)) ∧ Below w.heap.size w w' := by
  have HB : Hid (Below w.heap.size w (w.alloc (.cells #[.int .i64 g.1, .string (bs g.2)] 51))) := (Below.refl _ w).alloc (Nat.le_refl _) _
  have hcl := cell_alloc hB (.cells #[.int .i64 g.1, .string (bs g.2)] 51)
  have HR : Hid (tgB t g = (g.1 == t)) := by show _ = _; unfold tgB; by_cases h : g.1 = t <;> simp [h]
  generalize tgB t g = R at *
  generalize g.1 = x at *
  clear hB
  go_enter Tryz.func190, Tryz.ntmps190
  go_wp2
  go_ret
  exact ⟨ret_bool HR.out.symm, HB.out⟩
set_option maxRecDepth 100000 in
theorem placeOf_any (v : Value) (fs : List Fld) (t : Int) (w : World) (hs : SrcF w v fs) (hn : fs.length ≤ 1048576) :
    Calls Tryz.prog 122 #[v, .int .i64 t] w fun e w' => e = .returned (.int .i64 (plN fs t : Nat)) ∧ Below w.heap.size w w' := by
  have hB : (w.alloc (.cells #[.int .i64 t] 3)).cell? ⟨w.heap.size, 0, none⟩ = some (.int .i64 t) := cell_of_row _ _ 0 _ _ _ (heap_alloc_new w _)
  have hb0 : Below w.heap.size w (w.alloc (.cells #[.int .i64 t] 3)) := (Below.refl _ w).alloc (Nat.le_refl _) _
  have h1 := IndexFunc_any 190 (.pointer (some ⟨w.heap.size, 0, none⟩)) (tgB t) v fs (w.alloc (.cells #[.int .i64 t] 3)) (fun x w' => cfPlace x _ w')
    (fun g hg w' hb => place1_any t w.heap.size g w' (by rw [hb.cell (p := ⟨w.heap.size, 0, none⟩) (by simp)]; exact hB)) (by omega) (hs.below hb0)
  have hmf : ∀ (fn : Fn) (first cap : Array Value) (w : World), (Instr.makeFunc fn first cap).run Tryz.prog w = .ok (.func fn first cap) w := fun _ _ _ _ => rfl
  have HB0 : Hid (Below w.heap.size w (w.alloc (.cells #[.int .i64 t] 3))) := hb0
  obtain ⟨ao, cap, rfl, hc, _⟩ := hs
  have hpl := plN_le fs t
  clear hb0 hB
  unfold plN at hpl ⊢
  unfold ixI at h1
  cases hix : ix (tgB t) fs with
  | none =>
    rw [hix] at h1
    clear hix hpl
    dsimp only at h1 ⊢
    go_enter Tryz.func122, Tryz.ntmps122
    go_wp2_with (go_at_call 187; fail)
    refine h1.mono ?_
    rintro e w2 ⟨rfl, hb2⟩
    have HB2 : Hid (Below w.heap.size w w2) := HB0.out.trans (hb2.mono HB0.out.size)
    clear hb2 h1
    go_wp2
    go_ret
    exact ⟨rfl, HB2.out⟩
  | some i =>
    rw [hix] at h1 hpl
    clear hix
    dsimp only at h1 hpl ⊢
    have hi0 : ¬ (i : Int) < 0 := by omega
    go_enter Tryz.func122, Tryz.ntmps122
    go_wp2_with (go_at_call 187; fail)
    refine h1.mono ?_
    rintro e w2 ⟨rfl, hb2⟩
    have HB2 : Hid (Below w.heap.size w w2) := HB0.out.trans (hb2.mono HB0.out.size)
    clear hb2 h1
    go_wp2
    go_ret
    exact ⟨rfl, HB2.out⟩
/-- A fault of a frame whose fields could be told: what is wrong, where, the tag. -/
def WrongAt (w : World) (B h : Nat) (e : Int) (a : Nat) (t : Int) : Prop := ∃ f, B ≤ h ∧ B ≤ f ∧ w.heap[h]? = some (.cells #[.int .i64 t, .pointer (some ⟨f, 0, none⟩)] 96 (0, 0)) ∧ FaultAt w f e a
def ErrAt (w : World) (B : Nat) (v : Value) (x : Option (Int × Nat × Int)) : Prop := match x with
  | none => v = .nilIface
  | some (e, a, t) => ∃ h, v = .iface 92 (.pointer (some ⟨h, 0, none⟩)) ∧ WrongAt w B h e a t
theorem ErrAt.below {w w' : World} {B C : Nat} {v : Value} {x : Option (Int × Nat × Int)} (h : ErrAt w C v x) (hb : Below w.heap.size w w') (hB : B ≤ C) : ErrAt w' B v x := by
  cases x with
  | none => exact h
  | some x =>
    obtain ⟨e, a, t⟩ := x
    obtain ⟨h1, rfl, f, q1, q2, q3, q4⟩ := h
    exact ⟨h1, rfl, f, Nat.le_trans hB q1, Nat.le_trans hB q2, (hb.block _ (Array.getElem?_eq_some_iff.1 q3).1).trans q3, (hb.block _ (Array.getElem?_eq_some_iff.1 q4).1).trans q4⟩
set_option maxRecDepth 100000 in
theorem ffault_any (e : Int) (a : Nat) (t : Int) (w : World) :
    Calls Tryz.prog 120 #[.int .i64 e, .int .i64 a, .int .i64 t] w fun x w' => ∃ v, x = .returned v ∧ ErrAt w' w.heap.size v (some (e, a, t)) ∧ Below w.heap.size w w' := by
  have h1 : Below w.heap.size w (w.alloc (.cells #[.int .i64 (a : Int), .int .i64 e] 61)) := (Below.refl _ w).alloc (Nat.le_refl _) _
  have h2 : Below (w.heap.size + 1) (w.alloc (.cells #[.int .i64 (a : Int), .int .i64 e] 61)) ((w.alloc (.cells #[.int .i64 (a : Int), .int .i64 e] 61)).alloc (.cells #[.int .i64 t, .pointer (some ⟨w.heap.size, 0, none⟩)] 96)) := (Below.refl _ _).alloc (by simp) _
  have HR : Hid (ErrAt ((w.alloc (.cells #[.int .i64 (a : Int), .int .i64 e] 61)).alloc (.cells #[.int .i64 t, .pointer (some ⟨w.heap.size, 0, none⟩)] 96)) w.heap.size (.iface 92 (.pointer (some ⟨w.heap.size + 1, 0, none⟩))) (some (e, a, t)) ∧ Below w.heap.size w ((w.alloc (.cells #[.int .i64 (a : Int), .int .i64 e] 61)).alloc (.cells #[.int .i64 t, .pointer (some ⟨w.heap.size, 0, none⟩)] 96))) := by
    refine ⟨⟨_, rfl, w.heap.size, by omega, Nat.le_refl _, ?_, ?_⟩, h1.trans (h2.mono (Nat.le_succ _))⟩
    · have := heap_alloc_new (w.alloc (.cells #[.int .i64 (a : Int), .int .i64 e] 61)) (.cells #[.int .i64 t, .pointer (some ⟨w.heap.size, 0, none⟩)] 96)
      simpa using this
    · exact (h2.block _ (Nat.lt_succ_self _)).trans (heap_alloc_new w _)
  clear h1 h2
  go_enter Tryz.func120, Tryz.ntmps120
  go_wp2
  go_ret
  exact ⟨_, rfl, HR.out⟩
def ktN (s : ByteArray) : Int := idS_ (xWords.getD 0 []) s + 1
theorem ktN_bd (s : ByteArray) : 0 ≤ ktN s ∧ ktN s ≤ 17 := by
  have := idS_bd (xWords.getD 0 []) s (by decide)
  unfold ktN
  omega
set_option maxRecDepth 100000 in
theorem kindOfType_any (s : ByteArray) (w : World) :
    Calls Tryz.prog 121 #[.string s] w fun e w' => e = .returned (.int .i64 (ktN s)) ∧ Below w.heap.size w w' := by
  have HT := types_any
  have hI := Index_any w.heap.size 17 (xWords.getD 0 []) s (w.alloc (wordsO (xWords.getD 0 []))) rfl (by decide) (fun j t hj => wd_alloc w 0 j t hj)
  have HB : Hid (Below w.heap.size w (w.alloc (wordsO (xWords.getD 0 [])))) := (Below.refl _ w).alloc (Nat.le_refl _) _
  have hbd := idS_bd (xWords.getD 0 []) s (by decide)
  unfold ktN
  generalize idS_ (xWords.getD 0 []) s = I at *
  generalize wordsO (xWords.getD 0 []) = O at *
  have hw : IntKind.i64.wrap (I + 1) = I + 1 := by rw [IntKind.wrap_i64]; omega
  have hw2 : wrap64 (I + 1) = I + 1 := by unfold wrap64; omega
  clear hbd
  go_enter Tryz.func121, Tryz.ntmps121
  go_wp2_with (first | (go_at_call 137; refine (HT _).mono ?_; rintro e w2 ⟨rfl, rfl⟩) | (go_at_call 189; refine hI.mono ?_; rintro e w3 ⟨rfl, rfl⟩))
  go_ret
  exact ⟨rfl, HB.out⟩
end Go.Proofs.YtchkpggdndnpjaaGreatDoor

namespace Go.Proofs.YtchkpggdndnpjaaGreatDoor
set_option linter.unusedVariables false
open Go.RowKit

def rkK (fs : List Fld) : Int := match fs with | [] => 0 | f :: _ => if f.1 = 35 then ktN (bs f.2) else 0
def rkE (fs : List Fld) : Option (Int × Nat × Int) := match fs with | [] => some (50, 0, 35) | f :: _ => if f.1 = 35 then (if ktN (bs f.2) = 0 then some (30, 0, 35) else none) else some (50, 0, 35)
set_option maxRecDepth 100000 in
set_option maxHeartbeats 800000 in
theorem readKind_any (v : Value) (fs : List Fld) (w : World) (hs : SrcF w v fs) :
    Calls Tryz.prog 42 #[v] w fun x w' => ∃ ev, x = .returned (.tuple #[.int .i64 (rkK fs), ev]) ∧ ErrAt w' w.heap.size ev (rkE fs) ∧ Below w.heap.size w w' := by
  obtain ⟨ao, cap, rfl, hc, hcase⟩ := hs
  have HF50 : Hid (Calls Tryz.prog 120 #[.int .i64 50, .int .i64 0, .int .i64 35] w fun x w' => ∃ v, x = .returned v ∧ ErrAt w' w.heap.size v (some (50, 0, 35)) ∧ Below w.heap.size w w') := ffault_any 50 0 35 w
  cases fs with
  | nil =>
    show Calls _ _ #[.slice ao 0 cap] w fun x w' => ∃ ev, x = .returned (.tuple #[.int .i64 0, ev]) ∧ ErrAt w' w.heap.size ev (some (50, 0, 35)) ∧ Below w.heap.size w w'
    go_enter Tryz.func42, Tryz.ntmps42
    go_wp2_with (go_at_call 120; fail)
    refine HF50.out.mono ?_
    rintro e w2 ⟨ev, rfl, he, hb⟩
    have HR : Hid (ErrAt w2 w.heap.size ev (some (50, 0, 35)) ∧ Below w.heap.size w w2) := ⟨he, hb⟩
    clear he hb
    go_wp2
    go_ret2
    exact ⟨_, rfl, HR.out⟩
  | cons f fs =>
    obtain hnil | ⟨b, off, rfl, hcel⟩ := hcase
    · cases hnil
    obtain ⟨c0, c1⟩ := hcel 0 f rfl
    clear hcel
    have c0' : w.cell? ⟨b, off, none⟩ = some (.int .i64 f.1) := c0
    have c1' : w.cell? ⟨b, off + 1, none⟩ = some (.string (bs f.2)) := c1
    clear c0 c1
    have hl0 : ((fs.length : Int) + 1 == 0) = false := by simp; omega
    have hl1 : (((fs.length + 1 : Nat) : Int) == 0) = false := by simp; omega
    have hl2 : ¬ (fs.length + 1 = 0) := by omega
    have hl3 : (0 : Int) < (fs.length : Int) + 1 := by omega
    by_cases h35 : f.1 = 35
    · rw [show rkK (f :: fs) = ktN (bs f.2) by simp [rkK, h35]]
      rw [h35] at c0'
      have HK : Hid (Calls Tryz.prog 121 #[.string (bs f.2)] w fun e w' => e = .returned (.int .i64 (ktN (bs f.2))) ∧ Below w.heap.size w w') := kindOfType_any (bs f.2) w
      by_cases hk : ktN (bs f.2) = 0
      · rw [show rkE (f :: fs) = some (30, 0, 35) by simp [rkE, h35, hk]]
        rw [hk] at HK ⊢
        clear h35 hk HF50
        have HF30 : Hid (∀ w2, Calls Tryz.prog 120 #[.int .i64 30, .int .i64 0, .int .i64 35] w2 fun x w' => ∃ v, x = .returned v ∧ ErrAt w' w2.heap.size v (some (30, 0, 35)) ∧ Below w2.heap.size w2 w') := fun w2 => ffault_any 30 0 35 w2
        generalize bs f.2 = s at *
        show Calls _ _ #[.slice (some ⟨b, off, none⟩) (fs.length + 1) cap] w _
        go_enter Tryz.func42, Tryz.ntmps42
        go_wp2_with (go_at_call 121; fail)
        refine HK.out.mono ?_
        rintro e w2 ⟨rfl, hb2⟩
        have HB2 : Hid (Below w.heap.size w w2) := hb2
        clear hb2
        go_wp2_with (go_at_call 120; fail)
        refine (HF30.out _).mono ?_
        rintro e w3 ⟨ev, rfl, he, hb⟩
        have HR : Hid (ErrAt w3 w.heap.size ev (some (30, 0, 35)) ∧ Below w.heap.size w w3) := ⟨he.below (Below.refl _ _) HB2.out.size, HB2.out.trans (hb.mono HB2.out.size)⟩
        clear he hb
        go_wp2
        go_ret2
        exact ⟨_, rfl, HR.out⟩
      · rw [show rkE (f :: fs) = none by simp [rkE, h35, hk]]
        have hkb : (ktN (bs f.2) == 0) = false := by simpa using hk
        clear h35 hk HF50
        generalize ktN (bs f.2) = K at *
        generalize bs f.2 = s at *
        show Calls _ _ #[.slice (some ⟨b, off, none⟩) (fs.length + 1) cap] w _
        go_enter Tryz.func42, Tryz.ntmps42
        go_wp2_with (go_at_call 121; fail)
        refine HK.out.mono ?_
        rintro e w2 ⟨rfl, hb2⟩
        have HB2 : Hid (Below w.heap.size w w2) := hb2
        clear hb2
        go_wp2
        go_ret2
        exact ⟨_, rfl, rfl, HB2.out⟩
    · rw [show rkK (f :: fs) = 0 by simp [rkK, h35], show rkE (f :: fs) = some (50, 0, 35) by simp [rkE, h35]]
      have hb35 := bne_no h35
      have hb36 := beq_no h35
      clear h35
      generalize bs f.2 = s at *
      generalize f.1 = t at *
      show Calls _ _ #[.slice (some ⟨b, off, none⟩) (fs.length + 1) cap] w _
      go_enter Tryz.func42, Tryz.ntmps42
      go_wp2_with (go_at_call 120; fail)
      refine HF50.out.mono ?_
      rintro e w2 ⟨ev, rfl, he, hb⟩
      have HR : Hid (ErrAt w2 w.heap.size ev (some (50, 0, 35)) ∧ Below w.heap.size w w2) := ⟨he, hb⟩
      clear he hb
      go_wp2
      go_ret2
      exact ⟨_, rfl, HR.out⟩
/-- The first slot with a tag. -/
def sx (t : Int) : List Slt → Option Nat
  | [] => none
  | s :: l => if s.1 = t then some 0 else (sx t l).map (· + 1)
def sxI (t : Int) (l : List Slt) : Int := match sx t l with | some i => (i : Int) | none => -1
theorem sx_none (t : Int) : ∀ l : List Slt, (∀ s ∈ l, ¬ s.1 = t) → sx t l = none
  | [], _ => rfl
  | s :: l, h => by
    unfold sx
    rw [if_neg (h s (by simp)), sx_none t l (fun g hg => h g (by simp [hg]))]; rfl
theorem sx_some (t : Int) : ∀ (l : List Slt) (k : Nat) (s : Slt), l[k]? = some s → (∀ j g, j < k → l[j]? = some g → ¬ g.1 = t) → s.1 = t → sx t l = some k
  | [], k, s, h, _, _ => by simp at h
  | g :: l, 0, s, h, _, hp => by
    simp at h; subst h
    unfold sx; rw [if_pos hp]
  | g :: l, k + 1, s, h, h1, hp => by
    unfold sx
    rw [if_neg (h1 0 g (by omega) rfl), sx_some t l k s (by simpa using h) (fun j g' hj hg => h1 (j + 1) g' (by omega) (by simpa using hg)) hp]; rfl
theorem sx_at (t : Int) : ∀ (l : List Slt) (i : Nat), sx t l = some i → ∃ s, l[i]? = some s ∧ s.1 = t
  | [], i, h => by simp [sx] at h
  | s :: l, i, h => by
    unfold sx at h
    split at h
    · rename_i hp; simp at h; subst h; exact ⟨s, rfl, hp⟩
    · simp at h
      obtain ⟨j, hj, rfl⟩ := h
      obtain ⟨g, hg, hpg⟩ := sx_at t l j hj
      exact ⟨g, by simpa using hg, hpg⟩
theorem cfEach (x c : Value) (w : World) : Sem.run Tryz.prog (callFunc 124 #[x, c]) w = .ok (.enter 124 #[x, c]) w := by kernel_rfl
set_option maxRecDepth 100000 in
theorem each1_any (t x : Int) (m : Bool) (fv : Value) (hv : fv.cells = #[fv]) (B : Nat) (w : World) (hB : w.cell? ⟨B, 0, none⟩ = some (.int .i64 t)) :
    Calls Tryz.prog 124 #[.agg #[.int .i64 x, .bool m, fv], .pointer (some ⟨B, 0, none⟩)] w fun e w' => e = .returned (.bool (x == t)) ∧ Below w.heap.size w w' := by
  have HB : Hid (Below w.heap.size w (w.alloc (.cells #[.int .i64 x, .bool m, fv] 76))) := (Below.refl _ w).alloc (Nat.le_refl _) _
  have hcl := cell_alloc hB (.cells #[.int .i64 x, .bool m, fv] 76)
  clear hB
  go_enter Tryz.func124, Tryz.ntmps124
  go_wp2
  go_ret
  exact ⟨rfl, HB.out⟩
set_option maxRecDepth 100000 in
set_option maxHeartbeats 800000 in
theorem IndexSlot_any (t : Int) (B : Nat) (v : Value) (l : List Slt) (w : World) (hB : w.cell? ⟨B, 0, none⟩ = some (.int .i64 t)) (hn : l.length ≤ 45) (hs : SltAt w v l) :
    Calls Tryz.prog 123 #[v, .func (.func 124) #[] #[.pointer (some ⟨B, 0, none⟩)]] w fun e w' => e = .returned (.int .i64 (sxI t l)) ∧ Below w.heap.size w w' := by
  have HF : Hid (∀ (s : Slt) w', Below w.heap.size w w' → Calls Tryz.prog 124 #[.agg #[.int .i64 s.1, .bool s.2.1, .func (.func (xFn.getD s.2.2 0)) #[] #[]], .pointer (some ⟨B, 0, none⟩)] w' fun e w2 => e = .returned (.bool (s.1 == t)) ∧ Below w'.heap.size w' w2) := fun s w' hb => each1_any t s.1 s.2.1 _ rfl B w' (by rw [hb.cell (p := ⟨B, 0, none⟩) (World.block_lt_of_cell? _ _ hB)]; exact hB)
  have HS : Hid (SltAt w v l) := hs
  obtain ⟨ao, cap, rfl, hc, _⟩ := hs
  generalize hI : sxI t l = I
  have HI : Hid (sxI t l = I) := hI
  clear hI hB
  have hcf := cfEach
  go_enter Tryz.func123, Tryz.ntmps123
  go_wp2
  go_loopw [5, 8] (fun _ i wr => ∃ k : Nat, k ≤ l.length ∧ i = .int .i64 k ∧ (∀ j g, j < k → l[j]? = some g → ¬ g.1 = t) ∧ Below w.heap.size w wr) (fun _ i _ => l.length - (intOf i).toNat)
  case atStart => exact ⟨0, Nat.zero_le _, rfl, fun j g hj => by omega, Below.refl _ _⟩
  case round =>
    obtain ⟨k, hk, rfl, hp, hb⟩ := hrel
    have HA : Hid ((∀ j g, j < k → l[j]? = some g → ¬ g.1 = t) ∧ Below w.heap.size w wr) := ⟨hp, hb⟩
    clear hp hb
    by_cases hlt : k < l.length
    · have hlt' : (k : Int) < (l.length : Int) := by omega
      have hfk : l[k]? = some l[k] := List.getElem?_eq_getElem hlt
      obtain ⟨ao', cap', e1, _, h0 | ⟨b, off, e2, hcell⟩⟩ := HS.out.below HA.out.2
      · rw [h0] at hlt; simp at hlt
      injection e1 with e1 _ e3
      subst e1 e2 e3
      obtain ⟨c0, c1, c2⟩ := hcell k _ hfk
      have hcall := HF.out l[k] wr HA.out.2
      clear hcell
      by_cases hpk : l[k].1 = t
      · have HX : Hid (I = (k : Int)) := by
          show I = _
          rw [← HI.out]; unfold sxI; rw [sx_some t l k _ hfk HA.out.1 hpk]
        rw [show (l[k].1 == t) = true by simpa using hpk] at hcall
        clear hpk hfk
        generalize l[k] = g at *
        obtain ⟨x, m, r⟩ := g
        dsimp only at c0 c1 c2 hcall
        generalize xFn.getD r 0 = F at *
        go_wp2_with (go_at_call 124; fail)
        refine hcall.mono ?_
        rintro e w2 ⟨rfl, hb2⟩
        have HB2 : Hid (Below w.heap.size w w2) := HA.out.2.trans (hb2.mono HA.out.2.size)
        clear hb2 hcall
        go_wp2
        go_ret
        exact ⟨ret_int HX.out.symm, HB2.out⟩
      · have HX : Hid (∀ j g, j < k + 1 → l[j]? = some g → ¬ g.1 = t) := fun j g hj hg => by
          by_cases e : j < k
          · exact HA.out.1 j g e hg
          · obtain rfl : j = k := by omega
            rw [hfk] at hg; injection hg with hg; rw [← hg]; exact hpk
        rw [show (l[k].1 == t) = false by simpa using hpk] at hcall
        clear hpk hfk
        generalize l[k] = g at *
        obtain ⟨x, m, r⟩ := g
        dsimp only at c0 c1 c2 hcall
        generalize xFn.getD r 0 = F at *
        go_wp2_with (go_at_call 124; fail)
        refine hcall.mono ?_
        rintro e w2 ⟨rfl, hb2⟩
        have HB2 : Hid (Below w.heap.size w w2) := HA.out.2.trans (hb2.mono HA.out.2.size)
        clear hb2 hcall
        go_wp2
        go_roundw
        case rel => exact ⟨k + 1, by omega, by go_num, HX.out, HB2.out⟩
        case measure => simp [intOf]; omega
    · have HX : Hid (I = -1) := by
        show I = _
        rw [← HI.out]; unfold sxI
        rw [sx_none t l (fun g hg => by
          obtain ⟨j, hj, e⟩ := List.getElem_of_mem hg
          exact HA.out.1 j g (by omega) (by rw [List.getElem?_eq_getElem hj, e]))]
      go_wp2
      go_ret
      exact ⟨ret_int HX.out.symm, HA.out.2⟩
end Go.Proofs.YtchkpggdndnpjaaGreatDoor
