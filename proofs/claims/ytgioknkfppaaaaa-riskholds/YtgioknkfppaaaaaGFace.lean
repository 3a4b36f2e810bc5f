/-
  risk: Open, Done, Trade, Look.
-/
import Derived.Test.YtgioknkfppaaaaaGChk
namespace Go.Proofs.Ytgioknkfppaaaaa
set_option linter.unusedVariables false
set_option linter.unusedSimpArgs false
open Go.RowKit Go.Great Go.Maps

/-- What is open by a number. -/
def Gd.at (G : Gd) (id : Int) : Option Oo := G.O.find? fun x => x.id == id
def zOo : Value := .agg #[.string ⟨#[]⟩, .string ⟨#[]⟩, .int .i64 0, .int .i64 0, .int .i64 0]
theorem wf_i64' {x : Int} (h : -9223372036854775808 ≤ x ∧ x ≤ 9223372036854775807) : (Lit.int .i64 x).wf = true := by
  simp [Lit.wf, IntKind.min, IntKind.max, IntKind.signed, IntKind.bits]; omega
theorem keyI {x : Int} (h : -9223372036854775808 ≤ x ∧ x ≤ 9223372036854775807) : keyOf Try.prog 3 (.int .i64 x) = some (.int .i64 x) := keyOf_int_mk Try.underlying3 (wf_i64' h)
theorem look_open {G : Gd} {w : World} (h : GdAt w G) {id : Int} (hs : -9223372036854775808 ≤ id ∧ id ≤ 9223372036854775807) :
    Sem.run Try.prog (Instr.lookup 61 (.map (some G.mo)) (.int .i64 id) true) w = .ok (.tuple #[((G.at id).map Oo.val).getD zOo, .bool (G.at id).isSome]) w := by
  have := (h.opens.look law3 Try.underlying61 (zeroO w) (keyI hs)).1
  rw [atL_oo] at this
  rw [this]
  unfold Gd.at zOo
  cases G.O.find? (fun x => x.id == id) <;> rfl
def vOo (x : Option Oo) : Oo := x.getD ⟨0, ⟨#[]⟩, ⟨#[]⟩, 0, 0, 0⟩
theorem vOo_val (x : Option Oo) : (x.map Oo.val).getD zOo = .agg #[.string (vOo x).ac, .string (vOo x).sy, .int .i64 (vOo x).sd, .int .i64 (vOo x).q, .int .i64 (vOo x).v] := by
  cases x <;> rfl
/-- An order is open no more. -/
def doO (O : List Oo) (id : Int) : List Oo := O.filter fun x => !(x.id == id)
set_option maxRecDepth 100000 in
set_option maxHeartbeats 1000000 in
theorem Done_any (G : Gd) (id : Int) (w : World) (h : GdAt w G) (hs : -9223372036854775808 ≤ id ∧ id ≤ 9223372036854775807) :
    Calls Try.prog 14 #[.pointer (some ⟨G.g, 0, none⟩), .int .i64 id] w fun e w' => e = .returned (.int .i64 (if (G.at id).isSome then 0 else 121)) ∧ GdAt w' { G with O := if (G.at id).isSome then doO G.O id else G.O } ∧ Fr w w' G.own := by
  have hlk := look_open h hs
  rw [vOo_val] at hlk
  have hkey := keyI hs
  have c1 := h.blk.cell 1
  simp only [List.getElem?_toArray, List.getElem?_cons_succ, List.getElem?_cons_zero] at c1
  have HG : Hid (∀ c : Array Value, GdAt (w.alloc (.cells c 77)) G ∧ Fr w (w.alloc (.cells c 77)) G.own ∧ w.heap.size < (w.alloc (.cells c 77)).heap.size) := fun c => ⟨h.below ((Below.refl _ w).alloc (Nat.le_refl _) _), Fr.alloc _ _ _, by simp⟩
  have hlt := h.blk.lt
  generalize vOo (G.at id) = X at *
  obtain ⟨xid, xac, xsy, xsd, xq, xv⟩ := X
  cases hat : (G.at id).isSome
  · rw [hat] at hlk
    simp only [Bool.false_eq_true, if_false]
    clear h hat hs hkey
    go_enter Try.func14, Try.ntmps14
    go_wp2
    go_ret
    exact ⟨rfl, (HG.out _).1, (HG.out _).2.1⟩
  · rw [hat] at hlk
    simp only [if_true]
    clear hat hs
    have HX := HG.out #[.string xac, .string xsy, .int .i64 xsd, .int .i64 xq, .int .i64 xv]
    have HX2 : Hid (GdAt (w.alloc (.cells #[.string xac, .string xsy, .int .i64 xsd, .int .i64 xq, .int .i64 xv] 77)) G ∧ Fr w (w.alloc (.cells #[.string xac, .string xsy, .int .i64 xsd, .int .i64 xq, .int .i64 xv] 77)) G.own) := ⟨HX.1, HX.2.1⟩
    clear HX HG h
    go_enter Try.func14, Try.ntmps14
    go_upto_region 2 with fail
    have c1' := HX2.out.1.blk.cell 1
    simp only [List.getElem?_toArray, List.getElem?_cons_succ, List.getElem?_cons_zero] at c1'
    generalize (w.alloc (.cells #[.string xac, .string xsy, .int .i64 xsd, .int .i64 xq, .int .i64 xv] 77)) = W at *
    go_wp2_with (at_delete; refine wpL_delete _ rfl _ _ 61 3 rfl 77 law3 Try.underlying61 G.mo (G.O.map Oo.ent) rfl HX2.out.1.opens _ (.int .i64 id) rfl hkey ?_; intro w2 hm2 hf2 hs2)
    have HF2 : Hid (Fr W w2 (fun x => x = G.mo) ∧ MapL Try.prog w2 3 G.mo (butL (G.O.map Oo.ent) (.int .i64 id))) := ⟨hf2, hm2⟩
    clear hf2 hm2
    go_wp2
    go_ret
    refine ⟨rfl, ?_, HX2.out.2.trans HF2.out.1 fun i _ hh => hh.elim (fun z => z) fun e => .inr (.inr (.inl e))⟩
    have hm := HF2.out.2
    rw [butL_oo] at hm
    exact GdAt.opened HX2.out.1 HF2.out.1 hm fun o ho => HX2.out.1.ook o (List.mem_filter.1 ho).1
/-- A trade. -/
def trE (G : Gd) (ac : ByteArray) (q : Int) : Int := match G.acc ac with | none => 161 | some _ => if q = 0 ∨ wiB q (-1000000) 1000000 = false then 1 else 0
def trG (G : Gd) (ac sy : ByteArray) (q : Int) : Gd := match G.acc ac with | none => G | some a => if q = 0 ∨ wiB q (-1000000) 1000000 = false then G else { G with A := setA G.A { a with pos := mvL a sy q } }
set_option maxRecDepth 100000 in
set_option maxHeartbeats 1000000 in
theorem Trade_yes (G : Gd) (ac sy : ByteArray) (q : Int) (w : World) (h : GdAt w G) (hac : ac.size ≤ maxLen) (hsy : sy.size ≤ maxLen) {a : Ac} (hn : G.acc ac = some a) (hl : a.pos.length < maxLen) (q0 : q ≠ 0) (q1 : wiB q (-1000000) 1000000 = true) :
    Calls Try.prog 13 #[.pointer (some ⟨G.g, 0, none⟩), .string ac, .string sy, .int .i64 q] w fun e w' => e = .returned (.int .i64 0) ∧ GdAt w' { G with A := setA G.A { a with pos := mvL a sy q } } ∧ Fr w w' G.own ∧ ∀ b, Gd.own { G with A := setA G.A { a with pos := mvL a sy q } } b ↔ G.own b := by
  have hlk := look_some h hac hn
  have hA := h.acc a (Gd.acc_mem hn).1
  have hq := wiB_iff.1 q1
  have hm := move_any a sy q w hA hsy hl hq.1 hq.2
  have hw := fun w => within_any q (-1000000) 1000000 w
  rw [q1] at hw
  have q0' : (q == 0) = false := by rw [beq_eq_false_iff_ne]; exact q0
  have HH : Hid (GdAt w G ∧ a ∈ G.A) := ⟨h, (Gd.acc_mem hn).1⟩
  have c0 := h.blk.cell 0
  simp only [List.getElem?_toArray, List.getElem?_cons_succ, List.getElem?_cons_zero] at c0
  clear h hA hq q1 q0 hn hl hsy hac
  go_enter Try.func13, Try.ntmps13
  go_wp2_with (go_at_call 22; fail)
  refine (hw _).mono ?_
  rintro e w1 ⟨rfl, rfl⟩
  go_wp2_with (go_at_call 26; fail)
  refine hm.mono ?_
  rintro e w2 ⟨rfl, hA2, hF2⟩
  have HU : Hid (GdAt w2 { G with A := setA G.A { a with pos := mvL a sy q } } ∧ Fr w1 w2 G.own ∧ ∀ b, Gd.own { G with A := setA G.A { a with pos := mvL a sy q } } b ↔ G.own b) := HH.out.1.upd (a' := { a with pos := mvL a sy q }) HH.out.2 rfl rfl rfl (hF2.mono fun b _ e => .inr e) hA2
  clear hA2 hF2
  go_wp2
  go_ret
  exact ⟨rfl, HU.out⟩
set_option maxRecDepth 100000 in
set_option maxHeartbeats 1000000 in
theorem Trade_no (G : Gd) (ac sy : ByteArray) (q : Int) (w : World) (h : GdAt w G) (hac : ac.size ≤ maxLen) (hno : G.acc ac = none ∨ q = 0 ∨ wiB q (-1000000) 1000000 = false) :
    Calls Try.prog 13 #[.pointer (some ⟨G.g, 0, none⟩), .string ac, .string sy, .int .i64 q] w fun e w' => e = .returned (.int .i64 (trE G ac q)) ∧ w' = w := by
  have HE : Hid (trE G ac q = match G.acc ac with | none => 161 | some _ => if q = 0 ∨ wiB q (-1000000) 1000000 = false then 1 else 0) := rfl
  have c0 := h.blk.cell 0
  simp only [List.getElem?_toArray, List.getElem?_cons_succ, List.getElem?_cons_zero] at c0
  generalize trE G ac q = R at *
  cases hn : G.acc ac with
  | none =>
    have hlk := look_none h hac hn
    have hR : R = 161 := by rw [HE.out, hn]
    clear HE h hno hn
    subst hR
    go_enter Try.func13, Try.ntmps13
    go_wp2
    go_ret
    exact ⟨rfl, rfl⟩
  | some a =>
    have hlk := look_some h hac hn
    rw [hn] at hno
    have hno' : q = 0 ∨ wiB q (-1000000) 1000000 = false := hno.resolve_left (by simp)
    have hR : R = 1 := by rw [HE.out, hn]; exact if_pos hno'
    have hw := fun w => within_any q (-1000000) 1000000 w
    clear HE h hno hn
    subst hR
    by_cases q0 : q = 0
    · subst q0
      go_enter Try.func13, Try.ntmps13
      go_wp2
      go_ret
      exact ⟨rfl, rfl⟩
    · rw [hno'.resolve_left q0] at hw
      have q0' : (q == 0) = false := by rw [beq_eq_false_iff_ne]; exact q0
      clear q0 hno'
      go_enter Try.func13, Try.ntmps13
      go_wp2_with (go_at_call 22; fail)
      refine (hw _).mono ?_
      rintro e w1 ⟨rfl, rfl⟩
      go_wp2
      go_ret
      exact ⟨rfl, rfl⟩
set_option maxRecDepth 100000 in
set_option maxHeartbeats 1000000 in
theorem Look_yes (G : Gd) (ac sy : ByteArray) (w : World) (h : GdAt w G) (hac : ac.size ≤ maxLen) (hsy : sy.size ≤ maxLen) {a : Ac} (hn : G.acc ac = some a) :
    Calls Try.prog 15 #[.pointer (some ⟨G.g, 0, none⟩), .string ac, .string sy] w fun e w' => e = .returned (.tuple #[.int .i64 (ovI G.O ac 0), .int .i64 (posI a sy), .int .i64 0]) ∧ Below w.heap.size w w' := by
  have hlk := look_some h hac hn
  have hA := h.acc a (Gd.acc_mem hn).1
  have c0 := h.blk.cell 0
  simp only [List.getElem?_toArray, List.getElem?_cons_succ, List.getElem?_cons_zero] at c0
  have HOV : Hid (∀ w', Below w.heap.size w w' → Calls Try.prog 27 #[.pointer (some ⟨G.g, 0, none⟩), .string ac, .int .i64 0] w' fun e w'' => e = .returned (.int .i64 (ovI G.O ac 0)) ∧ Below w'.heap.size w' w'') := fun w' hb => openValue_any G ac 0 w' (h.below hb)
  have HK : Hid (∀ w', Below w.heap.size w w' → w'.cell? ⟨a.blk, 8, none⟩ = some (.map (some a.mp)) ∧ Sem.run Try.prog (Instr.lookup 70 (.map (some a.mp)) (.string sy) false) w' = .ok (.int .i64 (posI a sy)) w') := fun w' hb => by
    have ha' := hA.fr (Fr.of_below hb (fun _ => False)) (fun z => z) (fun z => z)
    refine ⟨by rw [ha'.blk.cell 8]; rfl, ?_⟩
    rw [(ha'.mp.look law9 Try.underlying70 (zero2 w') (keyS Try.underlying9 hsy)).2, getD_pos]
  generalize ovI G.O ac 0 = ov at *
  generalize posI a sy = p0 at *
  generalize a.blk = ab at *
  generalize a.mp = am at *
  clear h hA hn hac hsy
  have hBx : Below w.heap.size w w.drew := ⟨rfl, rfl, rfl, Nat.le_refl _, fun _ _ => rfl⟩
  go_enter Try.func15, Try.ntmps15
  go_upto_region 4 with fail
  go_region_held (fun w' => w'.cell? ⟨ab, 8, none⟩ = some (.map (some am)) ∧ Sem.run Try.prog (Instr.lookup 70 (.map (some am)) (.string sy) false) w' = .ok (.int .i64 p0) w') (first | exact HK.out _ hB3 | exact HK.out _ hBx) (first | (go_at_call 27; refine (HOV.out _ hBx).mono ?_; rintro e w3 ⟨rfl, hb3⟩; have hB3 : Below w.heap.size w w3 := below_step hBx hb3))
  all_goals go_wp2
  all_goals go_ret3
  all_goals exact ⟨rfl, hB3⟩
end Go.Proofs.Ytgioknkfppaaaaa
