/-
  The law's owner: fill.
-/
import Derived.Test.YtfgfjkchcnpakaaDoorFFill1
import Derived.Deep.RegionHeld3
import Derived.Deep.RegionLaw
import Derived.Deep.DeepCutAuto
namespace Go.Proofs.YtfgfjkchcnpakaaDoor
set_option linter.unusedVariables false
open Go.RowKit

def fillG (fs : List Fld) (x : Fld) (k : Nat) : List Fld := List.replicate k x ++ fs.drop k
theorem fillG_length (l : List Fld) (c : Fld) (k : Nat) (h : k ≤ l.length) : (fillG l c k).length = l.length := by simp [fillG]; omega
theorem fillG_zero (l : List Fld) (c : Fld) : fillG l c 0 = l := by simp [fillG]
theorem fillG_set (l : List Fld) (c : Fld) (k : Nat) (h : k < l.length) : (fillG l c k).set k c = fillG l c (k + 1) := by
  unfold fillG
  rw [List.set_append, if_neg (by simp), List.drop_eq_getElem_cons h, List.length_replicate, Nat.sub_self, List.set_cons_zero, List.replicate_succ']
  simp
theorem fillG_all (l : List Fld) (c : Fld) : fillG l c l.length = List.replicate l.length c := by simp [fillG]
/-- Which entry may lie with which list. -/
def Fk (s n k : Nat) (i j : Nat) : Prop := (i = s + j ∧ j < n) ∨ j < k
/-- The first half: so many lists are full of their marks. -/
structure L1 (s n : Nat) (us us1 : List (Value × List Fld)) (E1 : List (Value × Nat)) (k : Nat) : Prop where
  len : us1.length = us.length
  el : E1.length = s + k
  lo : ∀ (j : Nat) u fs, us[j]? = some (u, fs) → j < k → us1[j]? = some (u, List.replicate fs.length (mk ((s + j + 1 : Nat) : Int)))
  hi : ∀ (j : Nat), k ≤ j → us1[j]? = us[j]?
  en : ∀ (j : Nat) u fs, us[j]? = some (u, fs) → j < k → E1[s + j]? = some (u, s + j + 1)
/-- The second half: so many were grown. -/
structure L2 (s n : Nat) (us us2 : List (Value × List Fld)) (E2 : List (Value × Nat)) (k : Nat) : Prop where
  len : us2.length = us.length
  el : E2.length = s + n + k
  mid : ∀ (j : Nat) u fs, us[j]? = some (u, fs) → k ≤ j → j < n → us2[j]? = some (u, List.replicate fs.length (mk ((s + j + 1 : Nat) : Int)))
  hi : ∀ (j : Nat), n ≤ j → us2[j]? = us[j]?
  en : ∀ (j : Nat) u fs, us[j]? = some (u, fs) → j < n → E2[s + j]? = some (u, s + j + 1)
theorem set_self {α : Type} {l : List α} {k : Nat} {x : α} (h : l[k]? = some x) : l.set k x = l := by
  apply List.ext_getElem?
  intro j
  rw [List.getElem?_set]
  split
  · next e =>
    subst e
    rw [if_pos (List.getElem?_eq_some_iff.1 h).1, h]
  · rfl
theorem set_same {α : Type} {l : List α} {k : Nat} {x : α} (h : k < l.length) : (l.set k x)[k]? = some x := by rw [List.getElem?_set, if_pos rfl, if_pos h]
theorem L1.step {s n : Nat} {us us1 : List (Value × List Fld)} {E1 : List (Value × Nat)} {k : Nat} (h : L1 s n us us1 E1 k) {u : Value} {fs : List Fld} (hk : us[k]? = some (u, fs)) :
    L1 s n us (us1.set k (u, List.replicate fs.length (YtfgfjkchcnpakaaDoor.mk ((s + k + 1 : Nat) : Int)))) (E1 ++ [(u, s + k + 1)]) (k + 1) := by
  have hkl := (List.getElem?_eq_some_iff.1 hk).1
  refine ⟨by rw [List.length_set]; exact h.len, by rw [List.length_append, h.el]; rfl, fun j v gs hj hl => ?_, fun j hj => ?_, fun j v gs hj hl => ?_⟩
  · by_cases e : j = k
    · subst e
      rw [hk] at hj; injection hj with hj; injection hj with h1 h2; subst h1 h2
      exact set_same (by rw [h.len]; exact hkl)
    · rw [List.getElem?_set, if_neg (fun e2 => e e2.symm)]
      exact h.lo j v gs hj (by omega)
  · rw [List.getElem?_set, if_neg (by omega)]
    exact h.hi j (by omega)
  · by_cases e : j = k
    · subst e
      rw [hk] at hj; injection hj with hj; injection hj with h1 h2; subst h1 h2
      rw [List.getElem?_append_right (by rw [h.el]; omega), h.el, Nat.sub_self]; rfl
    · rw [List.getElem?_append_left (by rw [h.el]; omega)]
      exact h.en j v gs hj (by omega)
theorem L1.half {s n : Nat} {us us1 : List (Value × List Fld)} {E1 : List (Value × Nat)} (h : L1 s n us us1 E1 n) : L2 s n us us1 E1 0 :=
  ⟨h.len, h.el, fun j u fs hj _ hl => h.lo j u fs hj hl, h.hi, h.en⟩
theorem L2.step {s n : Nat} {us us2 : List (Value × List Fld)} {E2 : List (Value × Nat)} {k : Nat} (h : L2 s n us us2 E2 k) (x : Value × List Fld) (e : Value × Nat) (hk : k < n) : L2 s n us (us2.set k x) (E2 ++ [e]) (k + 1) := by
  refine ⟨by rw [List.length_set]; exact h.len, by rw [List.length_append, h.el]; rfl, fun j v gs hj h1 h2 => ?_, fun j hj => ?_, fun j v gs hj hl => ?_⟩
  · rw [List.getElem?_set, if_neg (by omega)]; exact h.mid j v gs hj (by omega) h2
  · rw [List.getElem?_set, if_neg (by omega)]; exact h.hi j hj
  · have := h.en j v gs hj hl
    rw [List.getElem?_append_left (List.getElem?_eq_some_iff.1 this).1]; exact this
/-- The owner's own cell, behind a new block, a draw and an append to its entries. -/
theorem FS.far {B : Nat} {w0 w : World} {p : Nat} {vo : Value} {E : List (Value × Nat)} {us : List (Value × List Fld)} {F : Nat → Nat → Prop} (h : FS B w0 w p vo E us F) (o : Obj) (w1 : World) (hg : (w.alloc o).drew.grownBy w1 vo.ownBlock) : w1.cell? ⟨p, 0, none⟩ = some vo ∧ w1.frozen? ⟨p, 0, none⟩ = false := by
  have hvo : vo.ownBlock ≠ some p := fun e => by obtain ⟨_, _, cur, t⟩ := row_typed h.row e; have := h.pb; rw [t] at this; cases this
  have hp : w1.heap[p]? = some (.cells #[vo] 48 (0, 0)) := by
    have hb0 : Below w.heap.size w (w.alloc o).drew := ((Below.refl _ w).alloc (Nat.le_refl _) _).drew
    rw [hg.block p (by have := hb0.size; have := h.plt; omega) (fun e => hvo e.symm), hb0.block p h.plt]; exact h.pb
  exact ⟨by rw [cell_of_row w1 p _ _ _ _ hp]; rfl, by simp [World.frozen?, hp]⟩
theorem FS.form {B : Nat} {w0 w : World} {p : Nat} {vo : Value} {E : List (Value × Nat)} {us : List (Value × List Fld)} {F : Nat → Nat → Prop} (h : FS B w0 w p vo E us F) : ∃ ao c, vo = .slice ao E.length c ∧ E.length ≤ c := by
  rcases h.row.2 with ⟨e, h0⟩ | ⟨g, cap, cur, e, _, _, r3, _⟩
  · exact ⟨none, 0, by rw [e, h0], by omega⟩
  · exact ⟨_, cap, e, r3⟩
theorem OwnF.form {w : World} {B : Nat} {v : Value} {fs : List Fld} (h : OwnF w B v fs) : ∃ ao c, v = .slice ao fs.length c ∧ fs.length ≤ c ∧ (0 < fs.length → ∃ g, ao = some ⟨g, 0, none⟩) := by
  rcases h.2 with ⟨e, h0⟩ | ⟨g, cap, cur, e, _, _, r3, _⟩
  · exact ⟨none, 0, by rw [e, h0], by omega, fun h => by omega⟩
  · exact ⟨_, cap, e, r3, fun _ => ⟨g, rfl⟩⟩
theorem OwnF.cells2 {w : World} {B g n c : Nat} {fs : List Fld} (h : OwnF w B (.slice (some ⟨g, 0, none⟩) n c) fs) (j : Nat) (hj : j < fs.length) :
    ∃ f, fs[j]? = some f ∧ w.cell? ⟨g, j * 2, none⟩ = some (.int .i64 f.1) ∧ w.cell? ⟨g, j * 2 + 1, none⟩ = some (.string (bs f.2)) ∧ w.frozen? ⟨g, j * 2, none⟩ = false ∧ w.frozen? ⟨g, j * 2 + 1, none⟩ = false := by
  have hf := List.getElem?_eq_getElem hj
  obtain ⟨ao, cap, e, _, hh⟩ := h.src
  injection e with e
  rcases hh with h0 | ⟨b, off, e1, hh⟩
  · rw [h0] at hj; simp at hj
  · rw [← e] at e1
    injection e1 with e1
    injection e1 with e1 e2
    subst e1 e2
    obtain ⟨a1, a2⟩ := hh j _ hf
    rw [Nat.zero_add] at a1 a2
    obtain ⟨_, _, cur, t⟩ := h.typed (k := g) rfl
    exact ⟨_, hf, a1, a2, by simp [World.frozen?, t], by simp [World.frozen?, t]⟩
/-- The lists that are handed in. -/
structure LV (w : World) (al : Option Addr) (n : Nat) (us : List (Value × List Fld)) : Prop where
  hn : n ≤ us.length
  at' : ∀ (j : Nat) u fs, j < n → us[j]? = some (u, fs) → ∃ b cur, al = some ⟨b, 0, none⟩ ∧ w.heap[b]? = some (.cells cur 22 (0, 0)) ∧ cur[j]? = some u
theorem LV.cell {B : Nat} {w wr : World} {al : Option Addr} {n p : Nat} {us us' : List (Value × List Fld)} {vo : Value} {E : List (Value × Nat)} {F : Nat → Nat → Prop} (h : LV w al n us) (hs : FS B w wr p vo E us' F) (hp : ∀ cur, w.heap[p]? ≠ some (.cells cur 22 (0, 0))) {j : Nat} {u : Value} {fs : List Fld} (hj : j < n) (hu : us[j]? = some (u, fs)) :
    ∃ b, al = some ⟨b, 0, none⟩ ∧ wr.cell? ⟨b, j, none⟩ = some u := by
  obtain ⟨b, cur, e1, e2, e3⟩ := h.at' j u fs hj hu
  have hk := hs.kp b _ e2 (fun _ h => by cases h) (fun _ h => by cases h) (fun e => hp cur (by rw [← e]; exact e2))
  exact ⟨b, e1, by rw [cell_of_row wr b _ cur _ _ hk]; simpa using e3⟩
set_option maxRecDepth 100000 in
set_option maxHeartbeats 4000000 in
theorem fill_any (B p : Nat) (vo : Value) (E : List (Value × Nat)) (us : List (Value × List Fld)) (al : Option Addr) (n cl : Nat) (w : World) (h : FS B w w p vo E us (fun _ _ => False)) (hl : LV w al n us)
    (s : Nat) (hs : E.length = s) (hE : s + 2 * n ≤ 1048000) (hlen : ∀ (j : Nat) u fs, us[j]? = some (u, fs) → fs.length ≤ 5864062014634) :
    Calls Tryd.prog 19 #[.pointer (some ⟨p, 0, none⟩), .slice al n cl] w fun e w' => e = .returned (.tuple #[]) ∧ ∃ vo' E' us', FS B w w' p vo' E' us' (fun _ j => j < n) ∧ L2 s n us us' E' n := by
  obtain ⟨i0, hi, hy0, hy1, hy2⟩ := info_parts infoF
  obtain ⟨i1, hi1, hx0, hx1, hx2⟩ := info_parts infoE
  have HP : Hid (∀ cur, w.heap[p]? ≠ some (.cells cur 22 (0, 0))) := fun cur e => by have := h.pb; rw [this] at e; cases e
  have H0 : Hid (FS B w w p vo E us (Fk s n 0) ∧ LV w al n us ∧ L1 s n us us E 0) := ⟨h.weaken (fun i j h => h.elim), hl, ⟨rfl, hs, fun j u fs _ h => by omega, fun j _ => rfl, fun j u fs _ h => by omega⟩⟩
  have HL : Hid (∀ (j : Nat) u fs, us[j]? = some (u, fs) → fs.length ≤ 5864062014634) := hlen
  obtain ⟨ao, c, rfl, hc⟩ := h.form
  have hcell := h.cell.1
  rw [hs] at hcell hc
  have HS : Hid (E.length = s) := hs
  clear h hl hlen hs
  go_enter Tryd.func19, Tryd.ntmps19
  go_wp2
  clear hcell
  go_loopw [5] (fun i wr => ∃ (k : Nat) (vo1 : Value) (E1 : List (Value × Nat)) (us1 : List (Value × List Fld)), k ≤ n ∧ i = .int .i64 (k : Int) ∧ FS B w wr p vo1 E1 us1 (Fk s n 0) ∧ L1 s n us us1 E1 k) (fun i _ => n - (intOf i).toNat)
  case atStart => exact ⟨0, _, _, _, Nat.zero_le _, rfl, H0.out.1, H0.out.2.2⟩
  case round =>
    obtain ⟨k, vo1, E1, us1, hk, rfl, hf, hl1⟩ := hrel
    have HF : Hid (FS B w wr p vo1 E1 us1 (Fk s n 0) ∧ L1 s n us us1 E1 k) := ⟨hf, hl1⟩
    obtain ⟨ao1, c1, rfl, hc1⟩ := hf.form
    have hcell := hf.cell.1
    have hel := hl1.el
    obtain ⟨L, hL⟩ : ∃ L, E1.length = L := ⟨_, rfl⟩
    rw [hL] at hc1 hcell HF hel
    have HEL : Hid (E1.length = L ∧ L = s + k) := ⟨hL, hel⟩
    have hLb : L ≤ 1048000 := by omega
    clear hf hl1 hL
    by_cases hlt : k < n
    · have hlt' : (k : Int) < (n : Int) := by omega
      have hkl : k < us.length := by have := H0.out.2.1.hn; omega
      obtain ⟨⟨u, fs⟩, hu⟩ : ∃ x, us[k]? = some x := ⟨_, List.getElem?_eq_getElem hkl⟩
      have hu1 : us1[k]? = some (u, fs) := (HF.out.2.hi k (Nat.le_refl _)).trans hu
      obtain ⟨au, cu, hue, hcu, hau⟩ := (HF.out.1.own k u fs hu1).form
      subst hue
      have hfl := HL.out k _ _ hu
      obtain ⟨b, hal, hbc⟩ := H0.out.2.1.cell HF.out.1 HP.out hlt hu
      subst hal
      have HU : Hid (us[k]? = some (.slice au fs.length cu, fs) ∧ us1[k]? = some (.slice au fs.length cu, fs) ∧ (0 < fs.length → ∃ g, au = some ⟨g, 0, none⟩)) := ⟨hu, hu1, hau⟩
      clear hu hu1 hel hau
      generalize hlen : fs.length = len at *
      have HLN : Hid (fs.length = len) := hlen
      clear hlen
      go_wp2
      clear hcell hbc
      go_loopw [7] (fun j wr2 => ∃ q : Nat, q ≤ len ∧ j = .int .i64 (q : Int) ∧ FS B w wr2 p (.slice ao1 L c1) E1 (us1.set k (.slice au len cu, fillG fs (mk ((L + 1 : Nat) : Int)) q)) (Fk s n 0)) (fun j _ => len - (intOf j).toNat)
      case atStart =>
        refine ⟨0, Nat.zero_le _, rfl, ?_⟩
        rw [fillG_zero, set_self HU.out.2.1]
        exact HF.out.1
      case round =>
        obtain ⟨q, hq, rfl, hf2⟩ := hrel
        obtain ⟨b', e1, hbc⟩ := H0.out.2.1.cell hf2 HP.out hlt HU.out.1
        injection e1 with e1
        injection e1 with e1
        subst e1
        have HF2 : Hid (FS B w wr p (.slice ao1 L c1) E1 (us1.set k (.slice au len cu, fillG fs (mk ((L + 1 : Nat) : Int)) q)) (Fk s n 0)) := hf2
        have hsk : (us1.set k (.slice au len cu, fillG fs (mk ((L + 1 : Nat) : Int)) q))[k]? = some (.slice au len cu, fillG fs (mk ((L + 1 : Nat) : Int)) q) := set_same (by rw [HF.out.2.len]; exact hkl)
        by_cases hlt2 : q < len
        · have hlt2' : (q : Int) < (len : Int) := by omega
          obtain ⟨g, rfl⟩ := HU.out.2.2 (by omega)
          have hq2 : q < (fillG fs (mk ((L + 1 : Nat) : Int)) q).length := by rw [fillG_length _ _ _ (by rw [HLN.out]; exact hq), HLN.out]; exact hlt2
          obtain ⟨f, _, d0, d1, z0, z1⟩ := (hf2.own k _ _ hsk).cells2 q hq2
          have HKP : Hid (∀ w', Below wr.heap.size wr w' → w'.cell? ⟨b, k, none⟩ = some (.slice (some ⟨g, 0, none⟩) len cu) ∧ w'.cell? ⟨g, q * 2, none⟩ = some (.int .i64 f.1) ∧ w'.cell? ⟨g, q * 2 + 1, none⟩ = some (.string (bs f.2)) ∧ w'.frozen? ⟨g, q * 2, none⟩ = false ∧ w'.frozen? ⟨g, q * 2 + 1, none⟩ = false) := fun w' hb => by
            have hf3 := hf2.below hb
            obtain ⟨f', e0, d0', d1', z0', z1'⟩ := (hf3.own k _ _ hsk).cells2 q hq2
            obtain ⟨b', e1, hbc'⟩ := H0.out.2.1.cell hf3 HP.out hlt HU.out.1
            injection e1 with e1
            injection e1 with e1
            subst e1
            refine ⟨hbc', ?_, ?_, z0', z1'⟩
            · rw [hb.cell (p := ⟨g, _, none⟩) (World.block_lt_of_cell? _ _ d0)]; exact d0
            · rw [hb.cell (p := ⟨g, _, none⟩) (World.block_lt_of_cell? _ _ d1)]; exact d1
          have hbg : b ≠ g := fun e => by
            subst e
            obtain ⟨b'', cur'', e1, e2, _⟩ := H0.out.2.1.at' k _ _ hlt HU.out.1
            injection e1 with e1
            injection e1 with e1
            subst e1
            have hk := hf2.kp b _ e2 (fun _ h => by cases h) (fun _ h => by cases h) (fun e => HP.out cur'' (by rw [← e]; exact e2))
            obtain ⟨_, _, cur, t⟩ := (hf2.own k _ _ hsk).typed (k := b) rfl
            rw [hk] at t; cases t
          have HKB : Hid (∀ (w' : World) (v1 v2 x : Value), w'.cell? ⟨b, k, none⟩ = some x → ((w'.setCell ⟨g, q * 2, none⟩ v1).setCell ⟨g, q * 2 + 1, none⟩ v2).cell? ⟨b, k, none⟩ = some x) := fun w' v1 v2 x hx => by
            have e : ((w'.setCell ⟨g, q * 2, none⟩ v1).setCell ⟨g, q * 2 + 1, none⟩ v2).cell? ⟨b, k, none⟩ = w'.cell? ⟨b, k, none⟩ := World.cell?_of_block (by rw [Below.heap_setCell _ _ _ _ hbg, Below.heap_setCell _ _ _ _ hbg])
            rw [e]; exact hx
          have h1 := fun w' => mark_any ((L : Int) + 1) w' (by omega) (by omega)
          have hB1 : Below wr.heap.size wr wr.drew := (Below.refl _ wr).drew
          clear hf2 d0 d1 z0 z1 hsk
          go_upto_region 8 with fail
          clear hbc
          go_region_held3 (fun w' => w'.cell? ⟨b, k, none⟩ = some (.slice (some ⟨g, 0, none⟩) len cu)) (first | exact (HKP.out _ hB3).1 | exact (HKP.out _ hB1).1 | exact HKB.out _ _ _ _ (HKP.out _ hB3).1) (first | (go_at_call 45; refine (h1 _).mono ?_; rintro e w3 ⟨rfl, hb3⟩; have hB3 : Below wr.heap.size wr w3 := hB1.trans (hb3.mono hB1.size); clear hb3; obtain ⟨q1, q2, q3, q4, q5⟩ := HKP.out w3 hB3))
          have HW : Hid (FS B w ((w3.setCell ⟨g, q * 2, none⟩ (.int .i64 (-((L : Int) + 1)))).setCell ⟨g, q * 2 + 1, none⟩ (.string ⟨#[109, 105, 110, 101]⟩)) p (.slice ao1 L c1) E1 (us1.set k (.slice (some ⟨g, 0, none⟩) len cu, fillG fs (mk ((L + 1 : Nat) : Int)) (q + 1))) (Fk s n 0)) := by
            have hsk : (us1.set k (.slice (some ⟨g, 0, none⟩) len cu, fillG fs (mk ((L + 1 : Nat) : Int)) q))[k]? = some (.slice (some ⟨g, 0, none⟩) len cu, fillG fs (mk ((L + 1 : Nat) : Int)) q) := set_same (by rw [HF.out.2.len]; exact hkl)
            have h5 := (HF2.out.below hB3).write hsk (fun i hi hf => by
              rcases hf with ⟨e, _⟩ | h
              · have := HEL.out.1; have := HEL.out.2; omega
              · omega) q hq2 (mk ((L + 1 : Nat) : Int))
            rw [List.set_set, fillG_set _ _ _ (by rw [HLN.out]; exact hlt2)] at h5
            exact h5
          clear hB3 hB1 q1 q2 q3 q4 q5 HKP HKB HF2 h1
          go_wp2
          exact ⟨⟨q + 1, by omega, by go_num, HW.out⟩, by simp [intOf]; omega⟩
        · obtain rfl : q = len := by omega
          have HF3 : Hid (FS B w wr p (.slice ao1 L c1) E1 (us1.set k (.slice au q cu, List.replicate q (mk ((L + 1 : Nat) : Int)))) (Fk s n 0)) := by
            have h5 := HF2.out
            have e := fillG_all fs (mk ((L + 1 : Nat) : Int))
            rw [HLN.out] at e
            rw [e] at h5
            exact h5
          have hcell := HF3.out.cell.1
          have hfz := HF3.out.cell.2
          have hrow := HF3.out.row
          rw [HEL.out.1] at hrow
          have HROW : Hid (wr.ownsRow B 89 2 (.slice ao1 L c1) L (ecs E1)) := hrow
          have hsz := HF3.out.size
          have HFAR : Hid (∀ (o : Obj) (w1 : World), (wr.alloc o).drew.grownBy w1 (Value.ownBlock (.slice ao1 L c1)) → w1.cell? ⟨p, 0, none⟩ = some (.slice ao1 L c1) ∧ w1.frozen? ⟨p, 0, none⟩ = false) := HF3.out.far
          clear hf2 HF2 hsk hrow
          go_upto_region 9 with fail
          have hA1 : (wr.alloc (.cells #[.slice au q cu, .int .i64 ((L : Int) + 1)] 89)).cell? ⟨p, 0, none⟩ = some (.slice ao1 L c1) := by
            rw [((Below.refl _ wr).alloc (Nat.le_refl _) _).cell (p := ⟨p, 0, none⟩) (World.block_lt_of_cell? _ _ hcell)]; exact hcell
          go_region_law (refine step_append_lies _ (by rfl) _ _ _ (by rfl) B 89 i1 _ 2 32 Tryd.underlying46 hi1 hx0 hx1 hx2 rfl (by omega) (.slice ao1 L c1) L (ecs E1) (by rfl) ((HROW.out.alloc _).drew) ⟨wr.heap.size, 0, none⟩ 1 1 [.slice au q cu, .int .i64 ((L : Int) + 1)] (by rfl) (by rfl) (World.news_of_block (cs := #[.slice au q cu, .int .i64 ((L : Int) + 1)]) (t := 89) (fr := (0, 0)) (heap_alloc_new wr _)) (by simp [Value.oneCell']) (by omega) (by unfold maxLen; omega) (by omega) (by simp; omega) (wr.heap.size + 1) (by simp) ?_; intro G cap w1 hown1 hgrow hat hlt1; obtain ⟨x1, x2⟩ := HFAR.out _ _ hgrow)
          all_goals
            have HR : Hid (∃ vo' E' us', FS B w (w1.setCell ⟨p, 0, none⟩ (.slice (some ⟨G, 0, none⟩) (L + 1) cap)) p vo' E' us' (Fk s n 0) ∧ L1 s n us us' E' (k + 1)) := by
              have hsk : (us1.set k (.slice au q cu, List.replicate q (mk ((L + 1 : Nat) : Int))))[k]? = some (.slice au q cu, List.replicate q (mk ((L + 1 : Nat) : Int))) := set_same (by rw [HF.out.2.len]; exact hkl)
              have h5 := HF3.out.snoc (F' := Fk s n 0) (v := .slice au q cu) (m := L + 1) ((HF3.out.own k _ _ hsk).ent (by omega) (by omega)) (fun i j _ h => h) (fun j u' fs' e hf => HF3.out.app k j _ _ _ _ hsk e (fun e2 => hf (.inl ⟨by rw [HEL.out.1, HEL.out.2, e2], by omega⟩))) (((Below.refl _ wr).alloc (Nat.le_refl _) (.cells #[.slice au q cu, .int .i64 ((L : Int) + 1)] 89)).drew) (G := G) (cap := cap) (by rw [HEL.out.1]; exact hown1) hgrow
              rw [HEL.out.1] at h5
              refine ⟨_, _, _, h5, ?_⟩
              have e := HF.out.2.step HU.out.1
              rw [HLN.out] at e
              rw [HEL.out.2]
              exact e
          all_goals clear hown1 hgrow hat hlt1 x1 x2 hA1 hcell hfz hbc
          all_goals go_wp2
          all_goals (obtain ⟨vo', E', us', h6, h7⟩ := HR.out)
          all_goals exact ⟨⟨k + 1, vo', E', us', by omega, by go_num, h6, h7⟩, by simp [intOf]; omega⟩
    · have hkn : n = k := by omega
      subst hkn
      clear hel
      go_wp2
      clear hcell
      have HEN : Hid (L = s + n) := HEL.out.2
      go_loopw [9] (fun i wr => ∃ (k : Nat) (vo2 : Value) (E2 : List (Value × Nat)) (us2 : List (Value × List Fld)), k ≤ n ∧ i = .int .i64 ((s + k : Nat) : Int) ∧ FS B w wr p vo2 E2 us2 (Fk s n k) ∧ L2 s n us us2 E2 k) (fun i _ => s + n - (intOf i).toNat)
      case atStart => exact ⟨0, _, _, _, Nat.zero_le _, rfl, HF.out.1, HF.out.2.half⟩
      case round =>
        clear HF HEL hc1 hlt hk
        obtain ⟨k, vo2, E2, us2, hk, rfl, hf, hl2⟩ := hrel
        have HF : Hid (FS B w wr p vo2 E2 us2 (Fk s n k) ∧ L2 s n us us2 E2 k) := ⟨hf, hl2⟩
        obtain ⟨e0, he0⟩ : ∃ e0, s + k = e0 := ⟨_, rfl⟩
        rw [he0]
        have HE0 : Hid (s + k = e0) := he0
        have heb : e0 ≤ 1048000 := by omega
        by_cases hlt : k < n
        · have hlt' : (e0 : Int) < (L : Int) := by have := HEN.out; omega
          have hkl : k < us.length := by have := H0.out.2.1.hn; omega
          obtain ⟨⟨u, fs⟩, hu⟩ : ∃ x, us[k]? = some x := ⟨_, List.getElem?_eq_getElem hkl⟩
          have hu2 := hl2.mid k u fs hu (Nat.le_refl _) hlt
          have hen := hl2.en k u fs hu hlt
          obtain ⟨m, hm⟩ : ∃ m, s + k + 1 = m := ⟨_, rfl⟩
          rw [hm] at hu2 hen
          rw [he0] at hen
          obtain ⟨M, hM⟩ : ∃ M, E2.length = M := ⟨_, rfl⟩
          obtain ⟨G, c2, rfl, hc2, d0, d1⟩ := hf.entry hen
          rw [hM] at hc2 HF hf
          have hMb : M ≤ 1048000 := by have := hl2.el; omega
          have heM : (e0 : Int) < (M : Int) := by have := (List.getElem?_eq_some_iff.1 hen).1; omega
          have HM : Hid (E2.length = M ∧ m = e0 + 1 ∧ E2[e0]? = some (u, m)) := ⟨hM, by omega, hen⟩
          have hmb : m ≤ 1048001 := by omega
          obtain ⟨au, cu, hue, hcu, _⟩ := (hf.own k u _ hu2).form
          rw [List.length_replicate] at hue hcu
          have hfl := HL.out k _ _ hu
          have hcell := hf.cell.1
          generalize hlen : fs.length = len at *
          subst hue
          have HU : Hid (us2[k]? = some (.slice au len cu, List.replicate len (mk (m : Int))) ∧ k < us2.length) := ⟨hu2, by rw [hl2.len]; exact hkl⟩
          clear hf hl2 he0 hu hu2 hen hm hM hlen
          go_wp2
          clear hcell d0 d1
          go_loopw [10, 11] (fun gv kv wr4 => ∃ (q : Nat) (ag : Option Addr) (cg : Nat), q ≤ 64 ∧ gv = .slice ag (len + q) cg ∧ kv = .int .i64 (q : Int) ∧ FS B w wr4 p (.slice (some ⟨G, 0, none⟩) M c2) E2 (us2.set k (.slice ag (len + q) cg, List.replicate (len + q) (mk (m : Int)))) (Fk s n k)) (fun _ kv _ => 64 - (intOf kv).toNat)
          case atStart =>
            refine ⟨0, au, cu, by omega, rfl, rfl, ?_⟩
            rw [Nat.add_zero, set_self HU.out.1]
            exact HF.out.1
          case round =>
            obtain ⟨q, ag, cg, hq, rfl, rfl, hf4⟩ := hrel
            have HF4 : Hid (FS B w wr p (.slice (some ⟨G, 0, none⟩) M c2) E2 (us2.set k (.slice ag (len + q) cg, List.replicate (len + q) (mk (m : Int)))) (Fk s n k)) := hf4
            obtain ⟨G', c2', e1, e3, d0, d1⟩ := hf4.entry HM.out.2.2
            injection e1 with e1 e4 e5
            injection e1 with e1
            injection e1 with e1
            subst e1
            clear e3 e4 e5
            have hcell := hf4.cell.1
            clear hf4
            by_cases hlt2 : q < 64
            · have hlt2' : (q : Int) < 64 := by omega
              have h1 := fun w' => mark_any (m : Int) w' (by omega) (by omega)
              go_wp2_with (go_at_call 45; fail)
              refine (h1 _).mono ?_
              rintro e w3 ⟨rfl, hb3⟩
              have hsk : (us2.set k (.slice ag (len + q) cg, List.replicate (len + q) (mk (m : Int))))[k]? = some (.slice ag (len + q) cg, List.replicate (len + q) (mk (m : Int))) := set_same HU.out.2
              have HB3 : Hid (Below wr.heap.size wr (w3.alloc (.cells #[.int .i64 (-(m : Int)), .string ⟨#[109, 105, 110, 101]⟩] 36))) := hb3.alloc hb3.size _
              have hown := (HF4.out.own k _ _ hsk).below HB3.out
              unfold OwnF at hown
              rw [List.length_replicate] at hown
              have HOW : Hid ((w3.alloc (.cells #[.int .i64 (-(m : Int)), .string ⟨#[109, 105, 110, 101]⟩] 36)).ownsRow B 36 2 (.slice ag (len + q) cg) (len + q) (fcs (List.replicate (len + q) (mk (m : Int))))) := hown
              have hBs : B ≤ w3.heap.size + 1 := by have := HF4.out.size; have := hb3.size; omega
              clear hb3 hown hsk h1 hcell d0 d1
              go_wp2_with (at_builtin; refine wpList_append_keep _ rfl _ _ 22 rfl B 36 i0 _ 2 24 Tryd.underlying22 hi hy0 hy1 hy2 rfl (by decide) _ (len + q) (fcs (List.replicate (len + q) (mk (m : Int)))) rfl HOW.out ⟨w3.heap.size, 0, none⟩ 1 1 (fcs [mk (m : Int)]) rfl rfl (World.news_of_block (cs := #[.int .i64 (-(m : Int)), .string ⟨#[109, 105, 110, 101]⟩]) (t := 36) (fr := (0, 0)) (heap_alloc_new w3 _)) (fcs_one _) (by decide) (by unfold maxLen; omega) (by omega) (by simp; omega) ?_; intro g' cap w5 ho5 hg5 hat5)
              have HW : Hid (FS B w w5 p (.slice (some ⟨G, 0, none⟩) M c2) E2 (us2.set k (.slice (some ⟨g', 0, none⟩) (len + (q + 1)) cap, List.replicate (len + (q + 1)) (mk (m : Int)))) (Fk s n k)) := by
                have hsk : (us2.set k (.slice ag (len + q) cg, List.replicate (len + q) (mk (m : Int))))[k]? = some (.slice ag (len + q) cg, List.replicate (len + q) (mk (m : Int))) := set_same HU.out.2
                have h5 := HF4.out.grow (d := k) (N := len + q) (m := m) (e0 := e0) (u := .slice au len cu) hsk (fun i hi hf => by
                  rcases hf with ⟨e, _⟩ | h
                  · have := HE0.out; omega
                  · omega) HM.out.2.2 (fun ao l c e => by injection e with _ e _; omega) HB3.out ho5 hg5 hat5
                rw [List.set_set] at h5
                exact h5
              clear ho5 hg5 hat5 HOW HB3 HF4
              go_roundw
              case rel => exact ⟨q + 1, some ⟨g', 0, none⟩, cap, by omega, rfl, by go_num, HW.out⟩
              case measure => simp [intOf]; omega
            · obtain rfl : q = 64 := by omega
              have hfz := HF4.out.cell.2
              have hrow := HF4.out.row
              rw [HM.out.1] at hrow
              have HROW : Hid (wr.ownsRow B 89 2 (.slice (some ⟨G, 0, none⟩) M c2) M (ecs E2)) := hrow
              have hsz := HF4.out.size
              have HFAR : Hid (∀ (o : Obj) (w1 : World), (wr.alloc o).drew.grownBy w1 (Value.ownBlock (.slice (some ⟨G, 0, none⟩) M c2)) → w1.cell? ⟨p, 0, none⟩ = some (.slice (some ⟨G, 0, none⟩) M c2) ∧ w1.frozen? ⟨p, 0, none⟩ = false) := HF4.out.far
              clear hrow d0
              go_upto_region 19 with fail
              have hA1 : (wr.alloc (.cells #[.slice ag (len + 64) cg, .int .i64 (m : Int)] 89)).cell? ⟨p, 0, none⟩ = some (.slice (some ⟨G, 0, none⟩) M c2) := by
                rw [((Below.refl _ wr).alloc (Nat.le_refl _) _).cell (p := ⟨p, 0, none⟩) (World.block_lt_of_cell? _ _ hcell)]; exact hcell
              go_region_law (refine step_append_lies _ (by rfl) _ _ _ (by rfl) B 89 i1 _ 2 32 Tryd.underlying46 hi1 hx0 hx1 hx2 rfl (by omega) (.slice (some ⟨G, 0, none⟩) M c2) M (ecs E2) (by rfl) ((HROW.out.alloc _).drew) ⟨wr.heap.size, 0, none⟩ 1 1 [.slice ag (len + 64) cg, .int .i64 (m : Int)] (by rfl) (by rfl) (World.news_of_block (cs := #[.slice ag (len + 64) cg, .int .i64 (m : Int)]) (t := 89) (fr := (0, 0)) (heap_alloc_new wr _)) (by simp [Value.oneCell']) (by omega) (by unfold maxLen; omega) (by omega) (by simp; omega) (wr.heap.size + 1) (by simp) ?_; intro G2 cap w1 hown1 hgrow hat hlt1; obtain ⟨x1, x2⟩ := HFAR.out _ _ hgrow)
              all_goals
                have HR : Hid (∃ vo' E' us', FS B w (w1.setCell ⟨p, 0, none⟩ (.slice (some ⟨G2, 0, none⟩) (M + 1) cap)) p vo' E' us' (Fk s n (k + 1)) ∧ L2 s n us us' E' (k + 1)) := by
                  have hsk : (us2.set k (.slice ag (len + 64) cg, List.replicate (len + 64) (mk (m : Int))))[k]? = some (.slice ag (len + 64) cg, List.replicate (len + 64) (mk (m : Int))) := set_same HU.out.2
                  have h5 := HF4.out.snoc (F' := Fk s n (k + 1)) (v := .slice ag (len + 64) cg) (m := m) ((HF4.out.own k _ _ hsk).ent (by omega) (by omega)) (fun i j _ h => h.elim .inl (fun h => .inr (by omega))) (fun j u' fs' e hf => HF4.out.app k j _ _ _ _ hsk e (fun e2 => hf (.inr (by omega)))) (((Below.refl _ wr).alloc (Nat.le_refl _) (.cells #[.slice ag (len + 64) cg, .int .i64 (m : Int)] 89)).drew) (G := G2) (cap := cap) (by rw [HM.out.1]; exact hown1) hgrow
                  rw [HM.out.1] at h5
                  exact ⟨_, _, _, h5, HF.out.2.step _ _ hlt⟩
              all_goals clear hown1 hgrow hat hlt1 x1 x2 hA1 hcell hfz d1
              all_goals have hmeas : e0 < s + n := by have := HE0.out; omega
              all_goals go_wp2
              all_goals (obtain ⟨vo', E', us', h6, h7⟩ := HR.out)
              all_goals exact ⟨⟨k + 1, vo', E', us', by omega, by rw [show s + (k + 1) = e0 + 1 by have := HE0.out; omega]; go_num, h6, h7⟩, by simp [intOf]; omega⟩
        · have hkn : n = k := by omega
          subst hkn
          have hnl : ¬ (e0 : Int) < (L : Int) := by have := HEN.out; have := HE0.out; omega
          clear hf hl2 he0
          go_wp2
          go_end0
          exact ⟨rfl, _, _, _, HF.out.1.weaken (fun i j h => h.elim (fun h => h.2) id), HF.out.2⟩
end Go.Proofs.YtfgfjkchcnpakaaDoor
