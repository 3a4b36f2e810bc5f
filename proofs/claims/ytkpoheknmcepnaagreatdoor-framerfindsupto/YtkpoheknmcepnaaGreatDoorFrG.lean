import Derived.Test.YtkpoheknmcepnaaGreatDoorFrE
import Derived.Lib.AppendZeros

namespace Go.Proofs.YtkpoheknmcepnaaGreatDoor
set_option linter.unusedVariables false
set_option linter.unusedSimpArgs false
open Go.RowKit Go.Great Go.Shelf Go.Lib

/-- So many noughts. -/
def nul (n : Nat) : List UInt8 := List.replicate n 0
theorem nul_length (n : Nat) : (nul n).length = n := List.length_replicate
theorem zero_cells (m : Nat) : (Builtin.zeroCells (Value.int .u8 0).cells m).toList = flatL u8V (nul m) := by
  have h : ∀ m, flatL u8V (nul m) = List.replicate m (Value.int .u8 0) := fun m => by
    induction m with
    | zero => rfl
    | succ m ih =>
      show u8V 0 ++ flatL u8V (nul m) = _
      rw [ih, List.replicate_succ]; rfl
  rw [h]
  apply List.ext_getElem
  · rw [Array.length_toList, size_zeroCells]; simp [Value.cells]
  · intro j h1 h2
    simp [Builtin.zeroCells, Value.cells, Nat.mod_one]
theorem row_setCells {w : World} {g : Nat} {e : TypeId} : ∀ (vs : List Value) (o : Nat) (w1 : World) (cur : Array Value), w1.heap[g]? = some (.cells cur e (0, 0)) → o + vs.length ≤ cur.size → (w1.setCells g o vs).heap[g]? = some (.cells (cur.toList.take o ++ vs ++ cur.toList.drop (o + vs.length)).toArray e (0, 0)) := by
  intro vs
  induction vs with
  | nil => intro o w1 cur h _; rw [World.setCells, h]; simp
  | cons u r ih =>
    intro o w1 cur h hsz
    rw [World.setCells, setCell_eq_setRow w1 g o cur e (0, 0) u h]
    simp only [List.length_cons] at hsz
    rw [ih (o + 1) _ _ (setRow_heap w1 g cur _ e (0, 0) h) (by simp; omega)]
    have hs : (cur.setIfInBounds o u).toList = cur.toList.set o u := by simp
    have hlt : o < cur.toList.length := by rw [Array.length_toList]; omega
    have e5 : (List.take (o + 1) cur.toList).set o u = List.take o cur.toList ++ [u] := by
      rw [List.take_succ_eq_append_getElem hlt, List.set_append_right _ _ (by simp; omega)]
      have e7 : (List.take o cur.toList).length = o := by rw [List.length_take]; omega
      rw [e7, Nat.sub_self]; rfl
    have e6 : List.take (o + 1) (cur.setIfInBounds o u).toList ++ r ++ List.drop (o + 1 + r.length) (cur.setIfInBounds o u).toList = List.take o cur.toList ++ (u :: r) ++ List.drop (o + (u :: r).length) cur.toList := by
      rw [hs, List.take_set, e5, List.drop_set, if_pos (by omega), List.length_cons, show o + 1 + r.length = o + (r.length + 1) by omega]; simp
    rw [e6]
theorem By.zeros {w : World} {g off n cap m : Nat} {l : List UInt8} (h : ByAt w (.slice (some ⟨g, off, none⟩) n cap) l) (hn : l.length = n) (hm0 : 0 < m) (hm : m ≤ 1000000) (hb : n + m ≤ 1000000000) :
    ∃ a8 c8 w8, (Builtin.append_ #[22, 3] 22 #[.slice (some ⟨g, off, none⟩) n cap, .int .i64 (m : Int)]).run Tryz.prog w = .ok (.slice a8 (n + m) c8) w8 ∧ ByAt w8 (.slice a8 (n + m) c8) (l ++ nul m) ∧ Fr w w8 (fun b => b = g) ∧ ((Value.slice a8 (n + m) c8).ownBlock = some g ∨ ∃ b, (Value.slice a8 (n + m) c8).ownBlock = some b ∧ w.heap.size ≤ b) := by
  subst hn
  obtain ⟨i, hi, hz, hsz, hby⟩ := infoB
  have hw : IntKind.i64.wrap (m : Int) = m := by rw [IntKind.wrap_i64]; omega
  have hneg : ¬ ((m : Int) < 0) := by omega
  have h48i : ¬ (281474976710656 < (m : Int) * (i.bytes : Int)) := by rw [hby]; omega
  have hns : ¬ (m * i.size = 0) := by rw [hsz]; omega
  have hlen : (flatL u8V (l ++ nul m)).length = l.length + m := by rw [flatL_len u8V_len, List.length_append, nul_length, Nat.mul_one]
  have hlz : (flatL u8V (nul m)).length = m := by rw [flatL_len u8V_len, nul_length, Nat.mul_one]
  have hmx : l.length + m ≤ maxLen := by unfold maxLen; omega
  rcases h.2 with ⟨e, _⟩ | ⟨g', off', cap', cur, e, hg, hnc, hcm, hcs, htake⟩
  · cases e
  injection e with e1 e2 e3
  injection e1 with e1
  injection e1 with e1 e1' _
  subst e1 e1' e3
  by_cases hroom : l.length + m ≤ cap
  · have hst := run_storeCells_cells (P := Tryz.prog) g (off + l.length * i.size) (flatL u8V (nul m)) 0 w (fun j hj => by
        rw [hlz] at hj
        rw [cell_of_row _ _ _ _ _ _ hg, Array.getElem?_eq_getElem (by rw [hsz]; omega)]; rfl) (fun j hj => frozen_of_row w g _ _ _ hg) (u8_one _)
    simp only [Nat.add_zero] at hst
    have hr : (Builtin.append_ #[22, 3] 22 #[.slice (some ⟨g, off, none⟩) l.length cap, .int .i64 (m : Int)]).run Tryz.prog w = .ok (.slice (some ⟨g, off, none⟩) (l.length + m) cap) (w.setCells g (off + l.length * i.size) (flatL u8V (nul m))) := by
      simp [Builtin.append_, run_underlying Tryz.underlying22, run_underlying Tryz.underlying3, sizeOf, typeInfo, zeroValue, hi, hz, asInt, asIntOf, hw, hneg, h48i, hns, hroom, Addr.add_lit, zero_cells, hst]
    refine ⟨_, _, _, hr, ?_, Fr.setCells g (fun b => b = g) rfl _ _ w, .inl rfl⟩
    rw [hsz, Nat.mul_one]
    unfold ByAt
    rw [List.length_append, nul_length]
    refine ⟨by rw [hlen, Nat.mul_one], .inr ⟨g, off, cap, _, rfl, row_setCells (w := w) _ _ w cur hg (by rw [hlz]; omega), hroom, hcm, ?_, ?_⟩⟩
    · simp only [List.size_toArray, List.length_append, List.length_take, List.length_drop, Array.length_toList]; omega
    · have hd : (List.take (off + l.length) cur.toList ++ flatL u8V (nul m) ++ List.drop (off + l.length + (flatL u8V (nul m)).length) cur.toList).drop off = flatL u8V l ++ flatL u8V (nul m) ++ List.drop (off + l.length + (flatL u8V (nul m)).length) cur.toList := by
        rw [Nat.mul_one] at htake
        rw [List.append_assoc, List.drop_append_of_le_length (by have e9 := Array.length_toList (xs := cur); rw [List.length_take]; omega), List.drop_take, show off + l.length - off = l.length by omega, htake, List.append_assoc]
      rw [hd, ← flatL_app, Nat.mul_one, ← hlen]
      exact List.take_left
  · have hge := grownCap_ge w (l.length + m) cap 5
    have hcm' : grownCap w (l.length + m) cap 5 ≤ maxLen := grownCap_le_maxLen w (l.length + m) cap 5 hmx
    have h63' : ¬ (9223372036854775807 < ((l.length : Int) + (m : Int))) := by omega
    have h48' : ¬ (281474976710656 < Builtin.nextslicecap (l.length + m) cap * i.bytes) := by
      have := growslice_fits (need := l.length + m) (old := cap) (bytes := i.bytes) (by omega) (by rw [hby]; omega)
      omega
    have hfo := run_firstCells_some (P := Tryz.prog) w.drew i.size l.length ⟨g, off, none⟩ l.length cap (flatL u8V l) (by rw [flatL_len u8V_len, hsz]) (fun j u hj => by rw [Addr.add_mid]; exact RowAt.cell h rfl hj)
    have hr : (Builtin.append_ #[22, 3] 22 #[.slice (some ⟨g, off, none⟩) l.length cap, .int .i64 (m : Int)]).run Tryz.prog w = .ok (.slice (some ⟨w.heap.size, 0, none⟩) (l.length + m) (grownCap w (l.length + m) cap 5)) (w.drew.alloc (.cells ((flatL u8V l).toArray ++ Builtin.zeroCells (Value.int .u8 0).cells m ++ Builtin.zeroCells (Value.int .u8 0).cells (grownCap w (l.length + m) cap 5 - (l.length + m))) 5)) := by
      simp [Builtin.append_, run_underlying Tryz.underlying22, run_underlying Tryz.underlying3, sizeOf, typeInfo, zeroValue, hi, hz, asInt, asIntOf, hw, hneg, h48i, hns, hroom, h63', h48', Question.forced, hfo, newRow, grownCap]
    refine ⟨_, _, _, hr, ?_, ⟨rfl, rfl, rfl, by simp, fun b hb _ => Below.heap_alloc w.drew _ b hb⟩, .inr ⟨_, rfl, Nat.le_refl _⟩⟩
    unfold ByAt
    rw [List.length_append, nul_length]
    refine ⟨by rw [hlen, Nat.mul_one], .inr ⟨w.heap.size, 0, _, _, rfl, heap_alloc_new w.drew _, hge, hcm', ?_, ?_⟩⟩
    · simp only [Array.size_append, List.size_toArray, size_zeroCells, flatL_len u8V_len]
      rw [show (Value.int IntKind.u8 0).cells.size = 1 from rfl]
      omega
    · simp only [Array.toList_append, List.append_assoc, List.drop_zero, zero_cells]
      rw [← List.append_assoc, ← flatL_app, Nat.mul_one, ← hlen]
      exact List.take_left
end Go.Proofs.YtkpoheknmcepnaaGreatDoor

namespace Go.Proofs.YtkpoheknmcepnaaGreatDoor
set_option linter.unusedVariables false

theorem walk_suffix {f : List UInt8 → Sight} (hf : Steady f) : ∀ (n : Nat) (b : List UInt8) (j : Nat), b.length ≤ n → ∃ p, b = p ++ (walkL f b j).r := fun n => by
  induction n with
  | zero =>
    intro b j hb
    obtain rfl : b = [] := List.length_eq_zero_iff.1 (by omega)
    obtain ⟨m, h⟩ := steady_nil hf
    exact ⟨[], by rw [walkL_begun h]; rfl⟩
  | succ n ih =>
    intro b j hb
    cases h : f b with
    | begun s => exact ⟨[], by rw [walkL_begun h]; rfl⟩
    | whole s =>
      obtain ⟨g1, g2, g3⟩ := hf.whole h
      obtain ⟨p, hp⟩ := ih (b.drop s) 0 (by rw [List.length_drop]; omega)
      refine ⟨b.take s ++ p, ?_⟩
      rw [walkL_whole hf h, List.append_assoc]
      show b = b.take s ++ (p ++ (walkL f (b.drop s) 0).r)
      rw [← hp, List.take_append_drop]
    | wrong =>
      have hl : 1 ≤ b.length := List.length_pos_iff.2 (hf.wrong h).1
      obtain ⟨p, hp⟩ := ih (b.drop 1) (j + 1) (by rw [List.length_drop]; omega)
      refine ⟨b.take 1 ++ p, ?_⟩
      rw [walkL_wrong hf h, List.append_assoc]
      show b = b.take 1 ++ (p ++ (walkL f (b.drop 1) (j + 1)).r)
      rw [← hp, List.take_append_drop]
/-- Behind noise and noughts nothing waits. -/
theorem walk_nul {f : List UInt8 → Sight} (hf : Steady f) (h0 : ∀ t, f (0 :: t) = .wrong) (hbeg : ∀ b n, f b = .begun n → n ≤ 1024) (x : List UInt8) : (walkL f (x ++ nul 1024) 0).r = [] := by
  obtain ⟨m, hm⟩ := (walk_junk hf _ (x ++ nul 1024) 0 (Nat.le_refl _)).2
  obtain ⟨p, hp⟩ := walk_suffix hf _ (x ++ nul 1024) 0 (Nat.le_refl _)
  generalize (walkL f (x ++ nul 1024) 0).r = r at *
  have h1 := (hf.begun hm).1
  have h2 := hbeg _ _ hm
  cases r with
  | nil => rfl
  | cons c t =>
    exfalso
    have hc : c ∈ nul 1024 := by
      rcases List.append_eq_append_iff.1 hp with ⟨a', -, e⟩ | ⟨c', -, e⟩
      · rw [e]; simp
      · have := congrArg List.length e
        rw [List.length_append, nul_length] at this
        omega
    obtain rfl : c = 0 := List.eq_of_mem_replicate hc
    rw [h0 t] at hm
    cases hm
/-- Frames, one behind the other, are found. -/
theorem walk_frames {f : List UInt8 → Sight} (hf : Steady f) : ∀ (Fs : List (List UInt8)) (j : Nat), (∀ F, F ∈ Fs → f F = .whole F.length) → (walkL f Fs.flatten j).fs.map (·.1) = Fs ∧ (walkL f Fs.flatten j).k = 0 ∧ (walkL f Fs.flatten j).r = []
  | [], j, h => by
    obtain ⟨m, hm⟩ := steady_nil hf
    rw [List.flatten_nil, walkL_begun hm]
    exact ⟨rfl, rfl, rfl⟩
  | F :: Fs, j, h => by
    have hF := (hf.whole (h F (by simp))).2.2 Fs.flatten
    obtain ⟨i1, i2, i3⟩ := walk_frames hf Fs 0 fun G hG => h G (by simp [hG])
    rw [List.flatten_cons, walkL_whole hf hF, List.drop_left, List.take_left]
    exact ⟨by simp only [List.map_cons, i1], i2, i3⟩
/-- All in all: behind noise and noughts the frames, and nothing else. -/
theorem walk_found {f : List UInt8 → Sight} (hf : Steady f) (h0 : ∀ t, f (0 :: t) = .wrong) (hbeg : ∀ b n, f b = .begun n → n ≤ 1024) (x : List UInt8) (Fs : List (List UInt8)) (h : ∀ F, F ∈ Fs → f F = .whole F.length) :
    ∃ pre, (walkL f (x ++ nul 1024 ++ Fs.flatten) 0).fs.map (·.1) = pre ++ Fs ∧ (walkL f (x ++ nul 1024 ++ Fs.flatten) 0).r = [] ∧ (walkL f (x ++ nul 1024 ++ Fs.flatten) 0).k ≤ x.length + 1024 := by
  have hr := walk_nul hf h0 hbeg x
  have hall := walk_all hf _ (x ++ nul 1024) 0 (Nat.le_refl _)
  obtain ⟨i1, i2, i3⟩ := walk_frames hf Fs (walkL f (x ++ nul 1024) 0).j h
  have e := walk_pieces hf _ (x ++ nul 1024) Fs.flatten 0 (Nat.le_refl _)
  rw [hr, List.nil_append] at e
  rw [hr, List.length_append, nul_length] at hall
  rw [e]
  refine ⟨(walkL f (x ++ nul 1024) 0).fs.map (·.1), ?_, i3, ?_⟩
  · show ((walkL f (x ++ nul 1024) 0).fs ++ _).map (·.1) = _
    rw [List.map_append, i1]
  · show (walkL f (x ++ nul 1024) 0).k + _ ≤ _
    rw [i2]
    simp only [List.length_nil] at hall
    omega
theorem binS_zero (t : List UInt8) : binS (0 :: t) = .wrong := by
  have h : binP sizeF okF (0 :: t) = .wrong := by
    rw [bin_eq]
    have e : forL [79, 67] 0 (0 :: t) = .wrong := by
      unfold forL
      rw [dif_pos (by simp)]
      rw [if_neg (by simp)]
    rw [e]
  unfold binS; rw [h]; rfl
theorem forL_dL {l : List UInt8} {t : UInt8} {ts : List UInt8} {i : Nat} (h : i < l.length) (hd : dL l i = t.toNat) : forL (t :: ts) i l = forL ts (i + 1) l := by
  rw [forL.eq_2, dif_pos h, if_pos]
  unfold dL at hd
  rw [List.getD_eq_getElem?_getD, List.getElem?_eq_getElem h] at hd
  exact UInt8.toNat_inj.1 hd
/-- A frame in fixed places is seen whole. -/
theorem binS_frame {M : Msg} (h : valE M = 0) : binS (frameL M) = .whole (frameL M).length := by
  have hl := frame_length h
  have hs := size_eq (valid_fit h).1
  have hk := fr_kind h
  have hh := fr_head h
  have hp : binP sizeF okF (frameL M) = .whole (frameL M).length := by
    rw [bin_eq]
    have e1 : forL [79, 67] 0 (frameL M) = .whole 2 := by
      rw [forL_dL (by omega) ((fr_hd M (by decide)).trans (hd_0 _)), forL_dL (by omega) ((fr_hd M (by decide)).trans (hd_1 _))]
      rfl
    have e2 : forL [1] 5 (frameL M) = .whole 6 := by
      rw [forL_dL (by omega) ((fr_hd M (by decide)).trans (hd_5 _))]
      rfl
    unfold headE at hh
    rw [if_neg (by omega)] at hh
    split at hh
    · cases hh
    split at hh
    · cases hh
    rename_i hg2
    split at hh
    · cases hh
    split at hh
    · cases hh
    rename_i hcr
    have e3 : sizeF (frameL M) = some (sizeN (M.z 0)) := by
      unfold sizeF
      rw [hk, if_neg]
      rintro (q | q)
      · omega
      · exact hg2 (by rw [hl]; exact q)
    simp only [e1, e2, e3]
    have hd : ((frameL M).drop 10).take (sizeN (M.z 0) - 10) = (frameL M).drop 10 := List.take_of_length_le (by rw [List.length_drop]; omega)
    have hc : getN (dL ((frameL M).drop 6)) 4 = crcL ((frameL M).take 6 ++ ((frameL M).drop 10).take (sizeN (M.z 0) - 10)) := by rw [hd]; exact Classical.not_not.1 hcr
    rw [if_neg (by omega), if_neg (by omega), if_pos hc, hl]
  unfold binS; rw [hp]; simp only [Part.sight]
end Go.Proofs.YtkpoheknmcepnaaGreatDoor

namespace Go.Proofs.YtkpoheknmcepnaaGreatDoor
set_option linter.unusedVariables false
set_option linter.unusedSimpArgs false
open Go.RowKit Go.Great Go.Shelf

def strV (l : List UInt8) : Value := .string ⟨l.toArray⟩
/-- A row of texts. -/
def StrAt (w : World) (v : Value) (ls : List (List UInt8)) : Prop := RowAt w 9 1 v ls.length (ls.map strV)
theorem infoStr : ∃ i, Tryz.prog.info? 9 = some i ∧ i.zero = some (.string ⟨#[]⟩) ∧ i.size = 1 ∧ i.bytes = 16 := by
  have h : (Tryz.prog.info? 9).map (fun i => (i.zero, i.size, i.bytes)) = some (some (.string ⟨#[]⟩), 1, 16) := by kernel_rfl
  obtain ⟨i, hi, he⟩ := Option.map_eq_some_iff.1 h
  injection he with h1 h2
  injection h2 with h2 h3
  exact ⟨i, hi, h1, h2, h3⟩
theorem StrAt.app {w : World} {v : Value} {ls : List (List UInt8)} {n : Nat} (h : StrAt w v ls) (hn : ls.length = n) (l : List UInt8) (hb : n ≤ 1000000000) :
    ∃ a8 c8 w8, (Builtin.append_ #[39, 39] 39 #[v, .slice (some ⟨w.heap.size, 0, none⟩) 1 1]).run Tryz.prog (w.alloc (.cells #[strV l] 9)) = .ok (.slice a8 (n + 1) c8) w8 ∧ StrAt w8 (.slice a8 (n + 1) c8) (ls ++ [l]) ∧ Fr w w8 (fun b => v.ownBlock = some b) ∧ ((Value.slice a8 (n + 1) c8).ownBlock = v.ownBlock ∨ ∃ b, (Value.slice a8 (n + 1) c8).ownBlock = some b ∧ w.heap.size ≤ b) := by
  subst hn
  obtain ⟨i, hi, hz, hsz, hby⟩ := infoStr
  have hF7 : Fr w (w.alloc (.cells #[strV l] 9)) (fun _ => False) := Fr.alloc _ _ _
  have hb7 : (w.alloc (.cells #[strV l] 9)).heap[w.heap.size]? = some (.cells #[strV l] 9 (0, 0)) := heap_alloc_new w _
  generalize w.alloc (.cells #[strV l] 9) = w7 at *
  obtain ⟨v', w', hr, hrow, hfa, hnw⟩ := run_append_row (P := Tryz.prog) w7 39 39 9 i _ 1 16 Tryz.underlying39 hi hz hsz hby (by rfl) v ls.length (ls.map strV) (RowAt.fr h hF7 fun _ _ q => q) ⟨w.heap.size, 0, none⟩ 1 1 [strV l] rfl
    (fun k u hk => by rw [Addr.add_mid, cell_of_row _ _ _ _ _ _ hb7, Nat.zero_add]; simpa using hk) (fun u hu => by simp at hu; rw [hu]; rfl) (.inl (by decide)) (by unfold maxLen; omega) (by omega)
  obtain ⟨a8, c8, rfl, _⟩ := hrow.form
  have hs := hF7.size
  refine ⟨a8, c8, w', hr, by unfold StrAt; rw [List.map_append, List.length_append]; exact hrow, hF7.trans hfa fun b hb q => q.elim False.elim id, ?_⟩
  rcases hnw with e | ⟨e, _⟩
  · exact .inl e
  · exact .inr ⟨_, e, hs⟩
theorem StrAt.fr {w w' : World} {v : Value} {ls : List (List UInt8)} {ex : Nat → Prop} (h : StrAt w v ls) (hf : Fr w w' ex) (hn : ∀ g, v.ownBlock = some g → ¬ ex g) : StrAt w' v ls := RowAt.fr h hf hn
theorem By.app {w : World} {v : Value} {l l2 : List UInt8} {n m gs os c : Nat} (h : ByAt w v l) (hn : l.length = n) (hs : LSrc w (some ⟨gs, os, none⟩) l2) (hm : l2.length = m) (hm0 : 0 < m) (hb : n + m ≤ 1000000000) :
    ∃ a8 c8 w8, (Builtin.append_ #[22, 22] 22 #[v, .slice (some ⟨gs, os, none⟩) m c]).run Tryz.prog w = .ok (.slice a8 (n + m) c8) w8 ∧ ByAt w8 (.slice a8 (n + m) c8) (l ++ l2) ∧ Fr w w8 (fun b => v.ownBlock = some b) ∧ ((Value.slice a8 (n + m) c8).ownBlock = v.ownBlock ∨ ∃ b, (Value.slice a8 (n + m) c8).ownBlock = some b ∧ w.heap.size ≤ b) := by
  subst hn hm
  obtain ⟨i, hi, hz, hsz, hby⟩ := infoB
  obtain ⟨v', w', hr, hrow, hfa, hnw⟩ := run_append_row (P := Tryz.prog) w 22 22 5 i _ 1 1 Tryz.underlying22 hi hz hsz hby (by rfl) v l.length (flatL u8V l) h ⟨gs, os, none⟩ l2.length c (flatL u8V l2) (by rw [flatL_len u8V_len]) (lsrc_cells hs) (u8_one l2) (.inl hm0) (by unfold maxLen; omega) (by omega)
  obtain ⟨a8, c8, rfl, _⟩ := hrow.form
  refine ⟨a8, c8, w', hr, by unfold ByAt; rw [List.length_append, flatL_app]; exact hrow, hfa, ?_⟩
  rcases hnw with e | ⟨e, _⟩
  · exact .inl e
  · exact .inr ⟨_, e, Nat.le_refl _⟩
theorem exec_append2 {P : Program} {w w' : World} {o : Oper} {a : Act} (s x : Operand) (t tn : TypeId) (ho : o.op = .call { callee := .builtin .append, args := #[s, x], argTypes := #[t, tn] }) {v u r : Value} (hs : a.eval s = v) (hx : a.eval x = u)
    (hr : (Builtin.append_ #[t, tn] o.type #[v, u]).run P w = .ok r w') : (execOp a.eval o).run P w = .ok (.value r) w' := by
  unfold execOp
  simp only [ho, resolve, invoke, builtin, Sem.run_bind, Sem.run_pure, Result.andThen_ok, List.map_toArray, List.map_cons, List.map_nil, hs, hx, hr]
/-- The noise is copied. -/
theorem By.noise {w4 : World} {g0 g n c : Nat} {a : Option Addr} {l : List UInt8} (h4 : w4.heap[g0]? = some (.cells #[] 5 (0, 0))) (hs : PcAt g w4 (.slice a n c) l) (hn : l.length = n) (hn1 : n ≤ 100000000) :
    ∃ g5 o5 c5 w5, (Builtin.append_ #[22, 22] 22 #[.slice (some ⟨g0, 0, none⟩) 0 0, .slice a n c]).run Tryz.prog w4 = .ok (.slice (some ⟨g5, o5, none⟩) n c5) w5 ∧ ByAt w5 (.slice (some ⟨g5, o5, none⟩) n c5) l ∧ Fr w4 w5 (fun b => b = g0) ∧ (g5 = g0 ∨ w4.heap.size ≤ g5) := by
  have h0 : ByAt w4 (.slice (some ⟨g0, 0, none⟩) 0 0) [] := ⟨rfl, .inr ⟨g0, 0, 0, #[], rfl, h4, Nat.le_refl _, Nat.zero_le _, Nat.le_refl _, rfl⟩⟩
  obtain ⟨i, hi, hz, hsz, hby⟩ := infoB
  obtain ⟨a', o, c', e, hlc, ha, hsrc⟩ := hs
  injection e with e1 e2 e3
  subst e1 e3
  by_cases hl : 0 < l.length
  · obtain rfl := ha hl
    obtain ⟨a8, c8, w8, hr, hb, hf, ho⟩ := By.app (n := 0) (c := c) h0 rfl hsrc hn (by omega) (by omega)
    rw [Nat.zero_add] at hr hb ho
    obtain ⟨g5, o5, c5, cur, e5, -⟩ := RowAt.more hb (by simpa using hl)
    rw [List.nil_append, hn] at e5
    rw [e5] at hr hb ho
    refine ⟨g5, o5, c5, w8, hr, hb, hf.mono fun b _ q => ?_, ?_⟩
    · have q' : some g0 = some b := q
      exact (Option.some.inj q').symm
    · rcases ho with q | ⟨b, q, hb'⟩
      · have q' : some g5 = some g0 := q
        exact .inl (Option.some.inj q')
      · have q' : some g5 = some b := q
        have := Option.some.inj q'
        exact .inr (by omega)
  · obtain rfl : l = [] := List.length_eq_zero_iff.1 (by omega)
    obtain rfl : n = 0 := hn.symm
    exact ⟨g0, 0, 0, w4, run_append_zero w4 _ _ 5 i Tryz.underlying22 hi _ 0 0 (Nat.le_refl _) a c, h0, Fr.refl _ _, .inl rfl⟩
/-- Messages that came in. -/
def MsgsIn (w : World) (a : Option Addr) (n : Nat) (Ms : Nat → Msg) : Prop := n = 0 ∨ ∃ b off, a = some ⟨b, off, none⟩ ∧ ∀ i, i < n → w.rangeAt b (off + i * 42) (Ms i).cs.toList ∧ (Ms i).ok ∧ (Ms i).okS
theorem rangeAt_fr {w w' : World} {b o : Nat} {cs : List Value} {ex : Nat → Prop} (h : w.rangeAt b o cs) (hf : Fr w w' ex) (hn : ¬ ex b) : w'.rangeAt b o cs := fun j v hv => hf.cell (h j v hv) hn
theorem load_mid_run {op : Oper} {a : Act} {w : World} {b o : Nat} {M : Msg} (h : w.rangeAt b o M.cs.toList) (x : Operand) (ho : op.op = .load 43 x) (hx : a.eval x = .pointer (some ⟨b, o, none⟩)) : (execOp a.eval op).run Tryz.prog w = .ok (.value (.agg M.cs)) w := by
  have hr := run_loadVar_mid (P := Tryz.prog) w b o 43 M.cs.toList _ h Tryz.underlying43 rfl (by rw [Array.length_toList, M.cs_size]; kernel_rfl)
  unfold execOp
  simp only [ho, hx, Instr.loadAt, Instr.sureAddr, Sem.run_bind, Sem.run_pure, Result.andThen_ok, hr]
/-- The stream and the texts that are wanted, so far. -/
structure SI (f : List UInt8 → Sight) (w wr : World) (vs vw : Value) (x : List UInt8) (Fs : List (List UInt8)) : Prop where
  by_ : ByAt wr vs (x ++ Fs.flatten)
  st : StrAt wr vw Fs
  snew : ∀ b, vs.ownBlock = some b → w.heap.size ≤ b
  wnew : ∀ b, vw.ownBlock = some b → w.heap.size ≤ b
  fr : Fr w wr (fun _ => False)
  ok : ∀ F, F ∈ Fs → f F = .whole F.length
section
variable {f : List UInt8 → Sight} {w wr w5 : World} {vs vw : Value} {x F : List UInt8} {Fs : List (List UInt8)}
theorem SI.sm (h : SI f w wr vs vw x Fs) (hf : Fr wr w5 (fun _ => False)) : SI f w w5 vs vw x Fs :=
  ⟨RowAt.fr h.by_ hf fun _ _ q => q, h.st.fr hf fun _ _ q => q, h.snew, h.wnew, h.fr.trans hf fun _ _ q => q.elim id id, h.ok⟩
/-- The bytes of a frame are put behind the stream. -/
theorem SI.bytes (h : SI f w wr vs vw x Fs) (h5 : Fr wr w5 (fun _ => False)) {g n m c : Nat} (hg : wr.heap.size ≤ g) (hs : LSrc w5 (some ⟨g, 0, none⟩) F) (hn : (x ++ Fs.flatten).length = n) (hm : F.length = m) (hm0 : 0 < m) (hb : n + m ≤ 1000000000) (hk : f F = .whole F.length) :
    ∃ a6 c6 w6, (Builtin.append_ #[22, 22] 22 #[vs, .slice (some ⟨g, 0, none⟩) m c]).run Tryz.prog w5 = .ok (.slice a6 (n + m) c6) w6 ∧ LSrc w6 (some ⟨g, 0, none⟩) F ∧
      ∀ nw, Fs.length = nw → nw ≤ 1000000 → ∃ a8 c8 w8, (Builtin.append_ #[39, 39] 39 #[vw, .slice (some ⟨w6.heap.size, 0, none⟩) 1 1]).run Tryz.prog (w6.alloc (.cells #[strV F] 9)) = .ok (.slice a8 (nw + 1) c8) w8 ∧ SI f w w8 (.slice a6 (n + m) c6) (.slice a8 (nw + 1) c8) x (Fs ++ [F]) := by
  have h' := h.sm h5
  have hz0 := h.fr.size
  have hz5 := h5.size
  obtain ⟨a6, c6, w6, hr6, hb6, hf6, ho6⟩ := By.app (c := c) h'.by_ hn hs hm hm0 hb
  have hz6 := hf6.size
  have hst6 : StrAt w6 vw Fs := h'.st.fr hf6 fun b hb q => by
    obtain ⟨_, cur, hc⟩ := RowAt.lt h'.by_ q
    exact RowAt.ne_type h'.st hc (by decide) hb
  refine ⟨a6, c6, w6, hr6, hs.fr hf6 fun q => ?_, fun nw hnw hnw1 => ?_⟩
  · have := (RowAt.lt h.by_ q).1
    omega
  obtain ⟨a8, c8, w8, hr8, hs8, hf8, ho8⟩ := StrAt.app hst6 hnw F (by omega)
  have hne : ∀ b, (Value.slice a6 (n + m) c6).ownBlock = some b → vw.ownBlock ≠ some b := fun b hb q => by
    obtain ⟨_, cur, hc⟩ := RowAt.lt hb6 hb
    exact RowAt.ne_type hst6 hc (by decide) q
  refine ⟨a8, c8, w8, hr8, ⟨?_, hs8, fun b hb => ?_, fun b hb => ?_, ?_, fun G hG => ?_⟩⟩
  · rw [List.flatten_append, List.flatten_cons, List.flatten_nil, List.append_nil, ← List.append_assoc]
    exact RowAt.fr hb6 hf8 hne
  · rcases ho6 with e | ⟨b', e, hb'⟩
    · rw [e] at hb; exact h.snew b hb
    · rw [e] at hb; injection hb with hb; omega
  · rcases ho8 with e | ⟨b', e, hb'⟩
    · rw [e] at hb; exact h.wnew b hb
    · rw [e] at hb; injection hb with hb; omega
  · refine (h'.fr.trans hf6 (e3 := fun _ => False) fun b hb q => ?_).trans hf8 fun b hb q => ?_
    · exact q.elim id fun q => by have := h.snew b q; omega
    · exact q.elim id fun q => by have := h.wnew b q; omega
  · rcases List.mem_append.1 hG with q | q
    · exact h.ok G q
    · simp at q; rw [q]; exact hk
end
/-- The framer that the pieces are fed to, and the texts so far. -/
structure GI (f : List UInt8 → Sight) (w wr : World) (p : Nat) (lk : FuncId) (b : List UInt8) (vg vb : Value) (wants told : Nat) (gs : List (List UInt8)) : Prop where
  blk : FmB wr p (.func (.func lk) #[] #[]) vb wants (walkL f b 0).k told
  tj : told + (walkL f b 0).j = (walkL f b 0).k
  row : ByAt wr vb (walkL f b 0).r
  rlt : (walkL f b 0).r.length < 1024
  wle : wants ≤ 1024
  more : ∀ c, ((walkL f b 0).r ++ c).length < wants → ∃ m, f ((walkL f b 0).r ++ c) = .begun m
  bnew : ∀ b', vb.ownBlock = some b' → w.heap.size ≤ b'
  got : StrAt wr vg gs
  eq : gs = (walkL f b 0).fs.map (·.1)
  gnew : ∀ b', vg.ownBlock = some b' → w.heap.size ≤ b'
  fr : Fr w wr (fun b => b = p)
  plt : p < w.heap.size
/-- What the frames of one piece have told so far. -/
structure GK (w6 w' : World) (v vg vg' : Value) (fs' : List Fm) (gs : List (List UInt8)) (k : Nat) : Prop where
  found : FoundAt w' v fs'
  got : StrAt w' vg' (gs ++ (fs'.take k).map (·.l))
  fr : Fr w6 w' (fun b => vg.ownBlock = some b)
  own : vg'.ownBlock = vg.ownBlock ∨ ∃ b, vg'.ownBlock = some b ∧ w6.heap.size ≤ b
section
variable {f : List UInt8 → Sight} {w wr w6 w' w9 : World} {p : Nat} {lk : FuncId} {b l : List UInt8} {vg vg' vb v : Value} {wants told : Nat} {gs : List (List UInt8)} {fs' : List Fm}
theorem GI.start (hf : Steady f) (hp : w.heap[p]? = some (newF lk)) : GI f w w p lk [] (.slice none 0 0) (.slice none 0 0) 0 0 [] := by
  obtain ⟨m, hm⟩ := steady_nil hf
  have e := walkL_begun hm 0
  refine ⟨?_, ?_, ?_, ?_, by decide, fun c h => absurd h (Nat.not_lt_zero _), fun _ h => (by cases h), RowAt.none0 _ _ _, ?_, fun _ h => (by cases h), Fr.refl _ _, (Array.getElem?_eq_some_iff.1 hp).1⟩
  · rw [e]; exact hp
  · rw [e]
    rfl
  · rw [e]; exact RowAt.none0 _ _ _
  · rw [e]; decide
  · rw [e]; rfl
theorem GI.feed {W0 : World} (hf : Steady f) (hlk : LookOK W0 lk f) (hcf : ∀ args w, (callFunc lk args).run Tryz.prog w = .ok (.enter lk args) w) (hbeg : ∀ b n, f b = .begun n → n ≤ 1024)
    (h : GI f w wr p lk b vg vb wants told gs) {g : Nat} {va : Value} (hp : PcAt g w va l) (hg : 0 < l.length → g < w.heap.size ∧ g ≠ p) (hl : b.length + l.length ≤ 1000000000) (hW0 : Below W0.heap.size W0 w) (hlp : W0.heap.size ≤ p) :
    Calls Tryz.prog 10 #[.pointer (some ⟨p, 0, none⟩), va] wr fun e w' => ∃ v, e = .returned v ∧ FdE f wr w' p lk vb v (walkL f b 0).k (walkL f b 0).j ((walkL f b 0).r ++ l) := by
  obtain ⟨a, o, c, rfl, hlc, ha, hs⟩ := hp
  have hcnt := walk_count hf _ b 0 (Nat.le_refl _)
  have hplt := h.plt
  have hsz := h.fr.size
  have hs' : LSrc wr (some ⟨g, o, none⟩) l := by
    by_cases h0 : 0 < l.length
    · exact hs.fr h.fr (hg h0).2
    · exact .inl (List.length_eq_zero_iff.1 (by omega))
  refine (Feed_any (W0 := W0) (g := g) (o := o) hf hlk hcf hbeg h.blk h.tj h.row (walk_junk hf _ b 0 (Nat.le_refl _)).2 h.rlt h.wle h.more hs' (fun h0 => ⟨ha h0, (hg h0).2, fun e => by have := h.bnew _ e; have := (hg h0).1; omega⟩) rfl hlc (by omega) (by omega) (hW0.trans (h.fr.below hW0.size fun b hb q => by omega)) hlp (fun b' e => Nat.le_trans hW0.size (h.bnew b' e))).mono ?_
  rintro e w' ⟨vb', v, wants', told', fs, rfl, h⟩
  exact ⟨v, rfl, ⟨_, vb', wants', told', fs, h⟩⟩
/-- What Feed has told: its frames, and what stands when they are put down. -/
theorem GI.out (hf : Steady f) (h : GI f w wr p lk b vg vb wants told gs) (hl : b.length + l.length ≤ 1000000000) (hE : FdE f wr w6 p lk vb v (walkL f b 0).k (walkL f b 0).j ((walkL f b 0).r ++ l)) :
    ∃ fs', GK w6 w6 v vg vg fs' gs 0 ∧ gs.length + fs'.length ≤ 1000000000 ∧ ∀ w' vg', GK w6 w' v vg vg' fs' gs fs'.length → ∃ vb' wants' told' gs', GI f w w' p lk (b ++ l) vg' vb' wants' told' gs' ∧ gs'.length = gs.length + fs'.length := by
  obtain ⟨sv, vb', wants', told', fs', hH, hfs, hrl, hwl, hmo⟩ := hE.out
  obtain ⟨q1, q2, q3, q4⟩ := walk_step hf b l 0
  have hG := hH.G
  have hsz := hG.fr.size
  have hsz0 := h.fr.size
  have hplt := h.plt
  have hne6 : ∀ b', vg.ownBlock = some b' → ¬ (b' = p ∨ vb.ownBlock = some b') := fun b' hb q => by
    rcases q with q | q
    · subst q; exact RowAt.ne_type h.got h.blk (by decide) hb
    · obtain ⟨_, cur, hc⟩ := RowAt.lt h.row q
      exact RowAt.ne_type h.got hc (by decide) hb
  have hg6 : StrAt w6 vg gs := h.got.fr hG.fr hne6
  have hlen1 : gs.length = (walkL f b 0).fs.length := by rw [h.eq]; simp
  have hlen2 : fs'.length = (walkL f ((walkL f b 0).r ++ l) (walkL f b 0).j).fs.length := by rw [← hfs]; simp [fsOf]
  have hc1 := walk_count hf _ b 0 (Nat.le_refl _)
  have hc2 := walk_count hf _ (b ++ l) 0 (Nat.le_refl _)
  rw [q1, List.length_append, List.length_append] at hc2
  refine ⟨fs', ⟨hG.found, by simpa using hg6, Fr.refl _ _, .inl rfl⟩, by omega, fun w' vg' hK => ?_⟩
  have hvgt : ∀ {b' : Nat} {cur : Array Value} {e : TypeId}, w6.heap[b']? = some (.cells cur e (0, 0)) → 9 ≠ e → vg.ownBlock ≠ some b' := fun hb hne => RowAt.ne_type hg6 hb hne
  refine ⟨vb', wants', told', gs ++ fs'.map (·.l), ⟨?_, ?_, ?_, ?_, hwl, ?_, fun b' e => ?_, ?_, ?_, fun b' e => ?_, ?_, h.plt⟩, by simp⟩
  · rw [q3]; exact hG.blk.fr hK.fr (hvgt hG.blk (by decide))
  · rw [q2, q3]; exact hG.tj
  · rw [q4]; exact RowAt.fr hG.row hK.fr fun b' hb q => by
      obtain ⟨_, cur, hc⟩ := RowAt.lt hG.row hb
      exact hvgt hc (by decide) q
  · rw [q4]; exact hrl
  · rw [q4]; exact hmo
  · rcases hG.nvb with q | ⟨g', q, hg'⟩
    · rw [q] at e; exact h.bnew b' e
    · rw [q] at e; injection e with e; omega
  · have := hK.got
    rwa [List.take_length] at this
  · rw [q1, List.map_append, ← h.eq, ← hfs]
    simp [fsOf]
  · rcases hK.own with q | ⟨b'', q, hb''⟩
    · rw [q] at e; exact h.gnew b' e
    · rw [q] at e; injection e with e; omega
  · refine (h.fr.trans hG.fr (e3 := fun b' => b' = p) fun b' hb q => ?_).trans hK.fr fun b' hb q => ?_
    · rcases q with q | q | q
      · exact q
      · exact q
      · have := h.bnew b' q; omega
    · rcases q with q | q
      · exact q
      · have := h.gnew b' q; omega
/-- One more of them. -/
theorem GK.app {k n : Nat} {x : Fm} (h : GK w6 w' v vg vg' fs' gs k) (hk : fs'[k]? = some x) (hn : gs.length + k = n) (hb : n ≤ 1000000000) :
    ∃ a8 c8 w8, (Builtin.append_ #[39, 39] 39 #[vg', .slice (some ⟨w'.heap.size, 0, none⟩) 1 1]).run Tryz.prog (w'.alloc (.cells #[strV x.l] 9)) = .ok (.slice a8 (n + 1) c8) w8 ∧ GK w6 w8 v vg (.slice a8 (n + 1) c8) fs' gs (k + 1) := by
  have hlt : k < fs'.length := (List.getElem?_eq_some_iff.1 hk).1
  obtain ⟨a8, c8, w8, hr, hs, hf8, ho⟩ := StrAt.app (n := n) h.got (by rw [List.length_append, List.length_map, List.length_take]; omega) x.l hb
  have hz := h.fr.size
  have hvt : ∀ {b' : Nat} {cur : Array Value} {e : TypeId}, w'.heap[b']? = some (.cells cur e (0, 0)) → 9 ≠ e → vg'.ownBlock ≠ some b' := fun hb hne => RowAt.ne_type h.got hb hne
  refine ⟨a8, c8, w8, hr, ⟨⟨h.found.row.fr hf8 fun b' hb q => ?_, fun y hy => RowAt.fr (h.found.each y hy) hf8 fun b' hb q => ?_⟩, ?_, ?_, ?_⟩⟩
  · obtain ⟨_, cur, hc⟩ := RowAt.lt h.found.row hb
    exact hvt hc (by decide) q
  · obtain ⟨_, cur, hc⟩ := RowAt.lt (h.found.each y hy) hb
    exact hvt hc (by decide) q
  · rw [List.take_add_one, hk, List.map_append, ← List.append_assoc]
    exact hs
  · refine h.fr.trans hf8 fun b' hb q => ?_
    rcases q with q | q
    · exact q
    · rcases h.own with e | ⟨b'', e, hb''⟩
      · rw [← e]; exact q
      · have q' : some b'' = some b' := e.symm.trans q
        have q'' := Option.some.inj q'
        omega
  · rcases ho with e | ⟨b'', e, hb''⟩
    · rw [e]; exact h.own
    · exact .inr ⟨b'', e, by omega⟩
theorem GK.sm {k : Nat} (h : GK w6 w' v vg vg' fs' gs k) (hf : Fr w' w9 (fun _ => False)) : GK w6 w9 v vg vg' fs' gs k :=
  ⟨h.found.fr0 hf, h.got.fr hf fun _ _ q => q, h.fr.trans hf fun _ _ q => q.elim id False.elim, h.own⟩
end
/-- The texts that came last are those that are wanted. -/
theorem got_last {pre Fs : List (List UInt8)} {i : Nat} {F : List UInt8} (h : Fs[i]? = some F) : (pre ++ Fs)[pre.length + i]? = some F := by
  rw [List.getElem?_append_right (by omega), Nat.add_sub_cancel_left]; exact h
theorem StrAt.at {w : World} {g o n c i : Nat} {ls : List (List UInt8)} {l : List UInt8} (h : StrAt w (.slice (some ⟨g, o, none⟩) n c) ls) (hn : ls.length = n) (hx : ls[i]? = some l) : w.cell? ⟨g, o + i, none⟩ = some (strV l) := by
  subst hn
  exact RowAt.cell h rfl (by rw [List.getElem?_map, hx]; rfl)
end Go.Proofs.YtkpoheknmcepnaaGreatDoor
