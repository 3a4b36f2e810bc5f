import Derived.Test.YtchkpggdndnpjabGreatDoorG18

namespace Go.Proofs.YtchkpggdndnpjabGreatDoor
set_option linter.unusedVariables false
open Go.RowKit

/-- A field as a value. -/
def fval (f : Fld) : Value := .agg #[.int .i64 f.1, .string (bs f.2)]
set_option maxRecDepth 100000 in
theorem rightTag_any (f : Fld) (w : World) :
    Calls Tryz.prog 39 #[.agg #[.int .i64 f.1, .string (bs f.2)]] w fun e w' => e = .returned (.bool (isTg f.1)) ∧ Below w.heap.size w w' := by
  obtain ⟨t, v⟩ := f
  have h1 := fun w => isTag_any t w
  generalize hd : isTg t = d at *
  clear hd
  go_enter Tryz.func39, Tryz.ntmps39
  go_wp2_with (go_at_call 178; refine (h1 _).mono ?_; rintro e w' ⟨rfl, rfl⟩)
  go_ret
  exact ⟨rfl, (Below.refl _ w).alloc (Nat.le_refl _) _⟩
theorem okV_cnt (l : List UInt8) (h : l ≠ []) : okV l = decide ((cnt vby l : Int) = (l.length : Int)) := by
  unfold okV
  have h0 : l.isEmpty = false := by cases l with | nil => exact absurd rfl h | cons _ _ => rfl
  rw [h0]
  show (true && l.all vby) = _
  rw [Bool.true_and]
  cases ha : l.all vby with
  | true =>
    rw [List.all_eq_true] at ha
    rw [cnt_whole vby l ha]; simp
  | false =>
    symm
    apply decide_eq_false
    intro e
    have e' : cnt vby l = l.length := by omega
    have := cnt_all vby l
    rw [e', List.take_length] at this
    rw [List.all_eq_true.2 this] at ha
    cases ha
set_option maxRecDepth 100000 in
theorem rightValue_any (f : Fld) (w : World) (hl : f.2.length ≤ maxLen) :
    Calls Tryz.prog 40 #[.agg #[.int .i64 f.1, .string (bs f.2)]] w fun e w' => e = .returned (.bool (okV f.2)) ∧ Below w.heap.size w w' := by
  obtain ⟨t, v⟩ := f
  by_cases hv : v = []
  · have HE : Hid (okV v = false) := by show okV v = false; rw [hv]; rfl
    have h0 : (bs v).toList = [] := by rw [Lib.toList_data, bs_list]; exact hv
    clear hv hl
    show Calls Tryz.prog 40 #[.agg #[.int .i64 t, .string (bs v)]] w fun e w' => e = .returned (.bool (okV v)) ∧ Below w.heap.size w w'
    generalize okV v = d at *
    generalize bs v = V at *
    go_enter Tryz.func40, Tryz.ntmps40
    go_wp2
    go_quiet (fail)
    go_wp2
    go_ret
    exact ⟨ret_bool HE.out.symm, below_drewN ((Below.refl _ w).alloc (Nat.le_refl _) _) _⟩
  · have HE : Hid (okV v = decide ((cnt vby v : Int) = (v.length : Int))) := okV_cnt v hv
    have h0 : ¬ (bs v).toList = [] := by rw [Lib.toList_data, bs_list]; exact hv
    have h0b : ((bs v).toList == []) = false := by simpa using h0
    have h1 := fun w => count_val (bs v) w (by rw [bs_size]; exact hl)
    simp only [bs_list] at h1
    have hsz : (bs v).size = v.length := bs_size v
    clear hv hl
    show Calls Tryz.prog 40 #[.agg #[.int .i64 t, .string (bs v)]] w fun e w' => e = .returned (.bool (okV v)) ∧ Below w.heap.size w w'
    generalize okV v = d at *
    generalize bs v = V at *
    go_enter Tryz.func40, Tryz.ntmps40
    go_wp2
    go_quiet ((go_at_call 179; refine Calls.quiet_of_same (h1 _)))
    go_wp2
    go_ret
    exact ⟨ret_bool (by rw [HE.out]; rfl), below_drewN ((Below.refl _ w).alloc (Nat.le_refl _) _) _⟩

/-- The place of the first such field, or -1. -/
def ix (p : Fld → Bool) : List Fld → Option Nat
  | [] => none
  | f :: fs => if p f then some 0 else (ix p fs).map (· + 1)
def ixI (p : Fld → Bool) (fs : List Fld) : Int := match ix p fs with | some i => (i : Int) | none => -1
theorem ix_none (p : Fld → Bool) : ∀ fs : List Fld, (∀ f ∈ fs, p f = false) → ix p fs = none
  | [], _ => rfl
  | f :: fs, h => by
    unfold ix
    rw [h f (by simp), ix_none p fs (fun g hg => h g (by simp [hg]))]; rfl
theorem ix_some (p : Fld → Bool) : ∀ (fs : List Fld) (k : Nat) (f : Fld), fs[k]? = some f → (∀ j g, j < k → fs[j]? = some g → p g = false) → p f = true → ix p fs = some k
  | [], k, f, h, _, _ => by simp at h
  | g :: fs, 0, f, h, _, hp => by
    simp at h; subst h
    unfold ix; rw [hp]; rfl
  | g :: fs, k + 1, f, h, h1, hp => by
    unfold ix
    rw [h1 0 g (by omega) rfl, ix_some p fs k f (by simpa using h) (fun j g' hj hg => h1 (j + 1) g' (by omega) (by simpa using hg)) hp]; rfl
set_option maxRecDepth 100000 in
set_option maxHeartbeats 400000 in
theorem IndexFunc_any (f : Nat) (c : Value) (p : Fld → Bool) (v : Value) (fs : List Fld) (w : World) (hcf : ∀ x w', Sem.run Tryz.prog (callFunc f #[x, c]) w' = .ok (.enter f #[x, c]) w')
    (hf : ∀ g ∈ fs, ∀ w', Below w.heap.size w w' → Calls Tryz.prog f #[.agg #[.int .i64 g.1, .string (bs g.2)], c] w' fun e w2 => e = .returned (.bool (p g)) ∧ Below w'.heap.size w' w2)
    (hn : fs.length ≤ 4611686018427387904) (hs : SrcF w v fs) :
    Calls Tryz.prog 228 #[v, .func (.func f) #[] #[c]] w fun e w' => e = .returned (.int .i64 (ixI p fs)) ∧ Below w.heap.size w w' := by
  have HF : Hid (∀ g ∈ fs, ∀ w', Below w.heap.size w w' → Calls Tryz.prog f #[.agg #[.int .i64 g.1, .string (bs g.2)], c] w' fun e w2 => e = .returned (.bool (p g)) ∧ Below w'.heap.size w' w2) := hf
  have HS : Hid (SrcF w v fs) := hs
  obtain ⟨ao, cap, rfl, hc, _⟩ := hs
  clear hf
  generalize hI : ixI p fs = I
  have HI : Hid (ixI p fs = I) := hI
  clear hI
  go_enter Tryz.func228, Tryz.ntmps228
  go_wp2
  go_loopw [5, 8] (fun _ i wr => ∃ k : Nat, k ≤ fs.length ∧ i = .int .i64 k ∧ (∀ j g, j < k → fs[j]? = some g → p g = false) ∧ Below w.heap.size w wr) (fun _ i _ => fs.length - (intOf i).toNat)
  case atStart => exact ⟨0, Nat.zero_le _, rfl, fun j g hj => by omega, Below.refl _ _⟩
  case round =>
    obtain ⟨k, hk, rfl, hp, hb⟩ := hrel
    have HA : Hid ((∀ j g, j < k → fs[j]? = some g → p g = false) ∧ Below w.heap.size w wr) := ⟨hp, hb⟩
    clear hp hb
    by_cases hlt : k < fs.length
    · have hlt' : (k : Int) < (fs.length : Int) := by omega
      have hfk : fs[k]? = some fs[k] := List.getElem?_eq_getElem hlt
      obtain ⟨ao', cap', e1, _, h0 | ⟨b, off, e2, hcell⟩⟩ := HS.out.below HA.out.2
      · rw [h0] at hlt; simp at hlt
      injection e1 with e1 _ e3
      subst e1 e2 e3
      obtain ⟨c0, c1⟩ := hcell k _ hfk
      have hcall := HF.out fs[k] (List.getElem_mem hlt) wr HA.out.2
      clear hcell
      by_cases hpk : p fs[k] = true
      · have HX : Hid (I = (k : Int)) := by
          show I = _
          rw [← HI.out]; unfold ixI; rw [ix_some p fs k _ hfk HA.out.1 hpk]
        rw [hpk] at hcall
        generalize fs[k] = g at *
        obtain ⟨t, V⟩ := g
        go_wp2
        refine hcall.mono ?_
        rintro e w2 ⟨rfl, hb2⟩
        have HB2 : Hid (Below w.heap.size w w2) := HA.out.2.trans (hb2.mono HA.out.2.size)
        clear hb2 hcall
        go_wp2
        go_ret
        exact ⟨ret_int HX.out.symm, HB2.out⟩
      · have hpk' : p fs[k] = false := by simpa using hpk
        have HX : Hid (∀ j g, j < k + 1 → fs[j]? = some g → p g = false) := fun j g hj hg => by
          by_cases e : j < k
          · exact HA.out.1 j g e hg
          · obtain rfl : j = k := by omega
            rw [hfk] at hg; injection hg with hg; rw [← hg]; exact hpk'
        rw [hpk'] at hcall
        clear hpk hpk' hfk
        generalize fs[k] = g at *
        obtain ⟨t, V⟩ := g
        go_wp2
        refine hcall.mono ?_
        rintro e w2 ⟨rfl, hb2⟩
        have HB2 : Hid (Below w.heap.size w w2) := HA.out.2.trans (hb2.mono HA.out.2.size)
        clear hb2 hcall
        go_wp2
        go_roundw
        case rel => exact ⟨k + 1, by omega, by go_num, HX.out, HB2.out⟩
        case measure => simp [intOf]; omega
    · have HX : Hid (I = -1) := by
        show I = _
        rw [← HI.out]; unfold ixI
        rw [ix_none p fs (fun g hg => by
          obtain ⟨j, hj, e⟩ := List.getElem_of_mem hg
          exact HA.out.1 j g (by omega) (by rw [List.getElem?_eq_getElem hj, e]))]
      go_wp2
      go_ret
      exact ⟨ret_int HX.out.symm, HA.out.2⟩

theorem cfAll (x c : Value) (w : World) : Sem.run Tryz.prog (callFunc 177 #[x, c]) w = .ok (.enter 177 #[x, c]) w := by kernel_rfl
theorem cfTag (x : Value) (w : World) : Sem.run Tryz.prog (callFunc 39 #[x]) w = .ok (.enter 39 #[x]) w := by kernel_rfl
theorem cfVal (x : Value) (w : World) : Sem.run Tryz.prog (callFunc 40 #[x]) w = .ok (.enter 40 #[x]) w := by kernel_rfl
set_option maxRecDepth 100000 in
theorem all1_any (f : Nat) (B : Nat) (p : Bool) (g : Fld) (w : World) (hcf : ∀ x w', Sem.run Tryz.prog (callFunc f #[x]) w' = .ok (.enter f #[x]) w')
    (hf : ∀ w', Calls Tryz.prog f #[.agg #[.int .i64 g.1, .string (bs g.2)]] w' fun e w2 => e = .returned (.bool p) ∧ Below w'.heap.size w' w2)
    (hB : w.cell? ⟨B, 0, none⟩ = some (.func (.func f) #[] #[])) :
    Calls Tryz.prog 177 #[.agg #[.int .i64 g.1, .string (bs g.2)], .pointer (some ⟨B, 0, none⟩)] w fun e w' => e = .returned (.bool (!p)) ∧ Below w.heap.size w w' := by
  obtain ⟨t, V⟩ := g
  have HF : Hid (∀ w', Calls Tryz.prog f #[.agg #[.int .i64 t, .string (bs V)]] w' fun e w2 => e = .returned (.bool p) ∧ Below w'.heap.size w' w2) := hf
  clear hf
  have hlt : B < w.heap.size := World.block_lt_of_cell? _ _ hB
  have hB2 : (w.alloc (.cells #[.int .i64 t, .string (bs V)] 52)).cell? ⟨B, 0, none⟩ = some (.func (.func f) #[] #[]) := by
    rw [((Below.refl _ w).alloc (Nat.le_refl _) _).cell (p := ⟨B, 0, none⟩) hlt]; exact hB
  show Calls Tryz.prog 177 #[.agg #[.int .i64 t, .string (bs V)], .pointer (some ⟨B, 0, none⟩)] w fun e w' => e = .returned (.bool (!p)) ∧ Below w.heap.size w w'
  generalize bs V = S at *
  go_enter Tryz.func177, Tryz.ntmps177
  go_wp2
  refine (HF.out _).mono ?_
  rintro e w2 ⟨rfl, hb⟩
  have HB : Hid (Below w.heap.size w w2) := ((Below.refl _ w).alloc (Nat.le_refl _) _).trans (hb.mono (by simp))
  clear hb hB2
  go_wp2
  go_ret
  exact ⟨rfl, HB.out⟩
theorem ixI_ge (p : Fld → Bool) : ∀ fs : List Fld, decide (0 ≤ ixI (fun f => !p f) fs) = !(fs.all p) := by
  intro fs
  have h : (ix (fun f => !p f) fs = none ↔ fs.all p = true) := by
    induction fs with
    | nil => simp [ix]
    | cons f fs ih =>
      unfold ix
      cases hp : p f with
      | true => simp [hp, ih]
      | false => simp [hp]
  unfold ixI
  cases hx : ix (fun f => !p f) fs with
  | none => rw [h.1 hx]; rfl
  | some i =>
    have : fs.all p = false := by
      cases ha : fs.all p with
      | false => rfl
      | true => rw [h.2 ha] at hx; cases hx
    rw [this]
    show decide ((0 : Int) ≤ (i : Int)) = _
    rw [decide_eq_true (by omega)]; rfl
set_option maxRecDepth 100000 in
theorem all_any (f : Nat) (p : Fld → Bool) (v : Value) (fs : List Fld) (w : World) (hcf : ∀ x w', Sem.run Tryz.prog (callFunc f #[x]) w' = .ok (.enter f #[x]) w')
    (hf : ∀ g ∈ fs, ∀ w', Calls Tryz.prog f #[.agg #[.int .i64 g.1, .string (bs g.2)]] w' fun e w2 => e = .returned (.bool (p g)) ∧ Below w'.heap.size w' w2)
    (hn : fs.length ≤ 4611686018427387904) (hs : SrcF w v fs) :
    Calls Tryz.prog 38 #[v, .func (.func f) #[] #[]] w fun e w' => e = .returned (.bool (fs.all p)) ∧ Below w.heap.size w w' := by
  have hB : (w.alloc (.cells #[.func (.func f) #[] #[]] 88)).cell? ⟨w.heap.size, 0, none⟩ = some (.func (.func f) #[] #[]) := cell_of_row _ _ 0 _ _ _ (heap_alloc_new w _)
  have hb0 : Below w.heap.size w (w.alloc (.cells #[.func (.func f) #[] #[]] 88)) := (Below.refl _ w).alloc (Nat.le_refl _) _
  have h1 := IndexFunc_any 177 (.pointer (some ⟨w.heap.size, 0, none⟩)) (fun g => !p g) v fs (w.alloc (.cells #[.func (.func f) #[] #[]] 88)) (fun x w' => cfAll x _ w')
    (fun g hg w' hb => all1_any f w.heap.size (p g) g w' hcf (fun w2 => hf g hg w2) (by rw [hb.cell (p := ⟨w.heap.size, 0, none⟩) (by simp)]; exact hB)) hn (hs.below hb0)
  have HG : Hid (decide (0 ≤ ixI (fun f => !p f) fs) = !(fs.all p)) := ixI_ge p fs
  have hmf : ∀ (fn : Fn) (first cap : Array Value) (w : World), (Instr.makeFunc fn first cap).run Tryz.prog w = .ok (.func fn first cap) w := fun _ _ _ _ => rfl
  generalize ixI (fun f => !p f) fs = I at *
  generalize fs.all p = A at *
  have HW : Hid (Below w.heap.size w (w.alloc (.cells #[.func (.func f) #[] #[]] 88))) := hb0
  clear hf hs hb0 hB
  go_enter Tryz.func38, Tryz.ntmps38
  go_wp2_with (first | (go_at_call 228; refine h1.mono ?_; rintro e w2 ⟨rfl, hb2⟩; have HB2 : Hid (Below w.heap.size w w2) := HW.out.trans (hb2.mono HW.out.size); clear hb2) | (go_at_call 176; go_in))
  go_ret
  exact ⟨ret_bool (by first | rw [HG.out, Bool.not_not] | (have := HG.out; simp at this ⊢; exact this)), HB2.out⟩
end Go.Proofs.YtchkpggdndnpjabGreatDoor
