/-
  heap: rows of things in memory, that may begin in the middle of a block; what a call leaves as it was.
-/
import Derived.Test.YtdnhhcbabdoomaaHAbs
import Derived.Test.YtdnhhcbabdoomaaChecked
import Derived.Deep.MidRow
import Derived.Below
import Derived.OwnWalk
import Derived.BigQuiet
import Derived.Great.Walk
import Derived.Deep.WholeRow
import Derived.Deep.RegionHeld3
import Derived.Deep.DeepCutAuto
import Derived.RegionTactic
import Derived.Deep.AppendLies
import Derived.ArgAppend
namespace Go.Proofs.Ytdnhhcbabdoomaa
set_option linter.unusedVariables false
open Go.RowKit

/-- What a call leaves as it was: all blocks but some. -/
structure Fr (w w' : World) (ex : Nat → Prop) : Prop where
  os : w'.os = w.os
  tape : w'.tape = w.tape
  output : w'.output = w.output
  size : w.heap.size ≤ w'.heap.size
  block : ∀ b, b < w.heap.size → ¬ ex b → w'.heap[b]? = w.heap[b]?
theorem Fr.refl (w : World) (ex : Nat → Prop) : Fr w w ex := ⟨rfl, rfl, rfl, Nat.le_refl _, fun _ _ _ => rfl⟩
theorem Fr.trans {a b c : World} {e1 e2 e3 : Nat → Prop} (h : Fr a b e1) (k : Fr b c e2) (he : ∀ i, i < a.heap.size → e1 i ∨ e2 i → e3 i) : Fr a c e3 :=
  ⟨k.os.trans h.os, k.tape.trans h.tape, k.output.trans h.output, Nat.le_trans h.size k.size, fun i hi hn => (k.block i (Nat.lt_of_lt_of_le hi h.size) fun q => hn (he i hi (.inr q))).trans (h.block i hi fun q => hn (he i hi (.inl q)))⟩
theorem Fr.mono {a b : World} {e1 e2 : Nat → Prop} (h : Fr a b e1) (he : ∀ i, i < a.heap.size → e1 i → e2 i) : Fr a b e2 :=
  ⟨h.os, h.tape, h.output, h.size, fun i hi hn => h.block i hi fun q => hn (he i hi q)⟩
theorem Fr.alloc (w : World) (o : Obj) (ex : Nat → Prop) : Fr w (w.alloc o) ex := ⟨rfl, rfl, rfl, by simp, fun b hb _ => Below.heap_alloc w o b hb⟩
theorem Fr.drew {a w : World} {ex : Nat → Prop} (h : Fr a w ex) : Fr a w.drew ex := ⟨h.os, h.tape, h.output, h.size, h.block⟩
theorem Fr.drewN {a w : World} {ex : Nat → Prop} (h : Fr a w ex) (n : Nat) : Fr a (w.drewN n) ex := ⟨h.os, h.tape, h.output, h.size, h.block⟩
theorem Fr.setCell (w : World) (a : Addr) (u : Value) (ex : Nat → Prop) (h : ex a.block) : Fr w (w.setCell a u) ex :=
  ⟨rfl, rfl, rfl, by simp [World.setCell], fun b hb hn => Below.heap_setCell _ _ _ _ fun e => hn (e ▸ h)⟩
theorem Fr.setCells (g : Nat) (ex : Nat → Prop) (h : ex g) : ∀ (vs : List Value) (o : Nat) (w : World), Fr w (w.setCells g o vs) ex
  | [], _, w => Fr.refl w ex
  | v :: r, o, w => (Fr.setCell w ⟨g, o, none⟩ v ex h).trans (Fr.setCells g ex h r (o + 1) _) fun i _ q => by rcases q with q | q <;> exact q
theorem Fr.below {w w' : World} {ex : Nat → Prop} (h : Fr w w' ex) {B : Nat} (hB : B ≤ w.heap.size) (he : ∀ b, b < B → ¬ ex b) : Below B w w' :=
  ⟨h.os, h.tape, h.output, h.size, fun b hb => h.block b (by omega) (he b hb)⟩
theorem Fr.of_below {w w' : World} (h : Below w.heap.size w w') (ex : Nat → Prop) : Fr w w' ex := ⟨h.os, h.tape, h.output, h.size, fun b hb _ => h.block b hb⟩
theorem Fr.cell {w w' : World} {ex : Nat → Prop} (h : Fr w w' ex) {a : Addr} {v : Value} (hc : w.cell? a = some v) (hn : ¬ ex a.block) : w'.cell? a = some v :=
  (World.cell?_of_block (h.block a.block (World.block_lt_of_cell? w a hc) hn)).trans hc

/-- A row of things, n of so many cells each. -/
def RowAt (w : World) (e : TypeId) (size : Nat) (v : Value) (n : Nat) (xs : List Value) : Prop :=
  xs.length = n * size ∧
  ((v = .slice none 0 0 ∧ n = 0) ∨
   ∃ g off cap cur, v = .slice (some ⟨g, off, none⟩) n cap ∧ w.heap[g]? = some (.cells cur e (0, 0)) ∧ n ≤ cap ∧ cap ≤ maxLen ∧ off + cap * size ≤ cur.size ∧ (cur.toList.drop off).take (n * size) = xs)
section
variable {w w' : World} {e : TypeId} {size n : Nat} {v : Value} {xs : List Value}
theorem RowAt.none0 (w : World) (e : TypeId) (size : Nat) : RowAt w e size (.slice none 0 0) 0 [] := ⟨by simp, .inl ⟨rfl, rfl⟩⟩
theorem RowAt.more (h : RowAt w e size v n xs) (hn : 0 < n) : ∃ g off cap cur, v = .slice (some ⟨g, off, none⟩) n cap ∧ w.heap[g]? = some (.cells cur e (0, 0)) ∧ n ≤ cap ∧ cap ≤ maxLen ∧ off + cap * size ≤ cur.size ∧ (cur.toList.drop off).take (n * size) = xs := by
  rcases h.2 with ⟨_, h0⟩ | h
  · omega
  · exact h
theorem RowAt.form (h : RowAt w e size v n xs) : ∃ ao cap, v = .slice ao n cap ∧ n ≤ cap := by
  rcases h.2 with ⟨rfl, rfl⟩ | ⟨g, off, cap, cur, h1, _, h2, _⟩
  · exact ⟨none, 0, rfl, Nat.le_refl _⟩
  · exact ⟨_, cap, h1, h2⟩
theorem RowAt.keep (h : RowAt w e size v n xs) (hk : ∀ g, v.ownBlock = some g → w'.heap[g]? = w.heap[g]?) : RowAt w' e size v n xs := by
  refine ⟨h.1, ?_⟩
  rcases h.2 with h0 | ⟨g, off, cap, cur, h1, h2, r⟩
  · exact .inl h0
  · exact .inr ⟨g, off, cap, cur, h1, (hk g (by rw [h1]; rfl)).trans h2, r⟩
theorem RowAt.lt (h : RowAt w e size v n xs) {g : Nat} (hg : v.ownBlock = some g) : g < w.heap.size ∧ ∃ cur, w.heap[g]? = some (.cells cur e (0, 0)) := by
  rcases h.2 with ⟨rfl, _⟩ | ⟨g', off, cap, cur, h1, h2, r⟩
  · cases hg
  · rw [h1] at hg
    have : g' = g := by simpa [Value.ownBlock] using hg
    subst this
    exact ⟨(Array.getElem?_eq_some_iff.1 h2).1, cur, h2⟩
theorem RowAt.fr {ex : Nat → Prop} (h : RowAt w e size v n xs) (hf : Fr w w' ex) (hn : ∀ g, v.ownBlock = some g → ¬ ex g) : RowAt w' e size v n xs :=
  h.keep fun g hg => hf.block g (h.lt hg).1 (hn g hg)
theorem RowAt.ne_type {e' : TypeId} {b : Nat} {cur : Array Value} (h : RowAt w e size v n xs) (hb : w.heap[b]? = some (.cells cur e' (0, 0))) (hne : e ≠ e') : v.ownBlock ≠ some b := fun hg => by
  obtain ⟨_, c2, h2⟩ := h.lt hg
  rw [h2] at hb
  injection hb with hb
  injection hb with _ hb
  exact hne hb
theorem RowAt.cell {g off cap : Nat} (h : RowAt w e size v n xs) (hv : v = .slice (some ⟨g, off, none⟩) n cap) {j : Nat} {u : Value} (hj : xs[j]? = some u) : w.cell? ⟨g, off + j, none⟩ = some u := by
  rcases h.2 with ⟨rfl, _⟩ | ⟨g', off', cap', cur, h1, h2, h3, h4, h5, h6⟩
  · cases hv
  · rw [hv] at h1
    injection h1 with h1 _ _
    injection h1 with h1
    injection h1 with h1 h1' _
    subst h1 h1'
    rw [cell_of_row _ _ _ _ _ _ h2]
    rw [← h6, List.getElem?_take] at hj
    split at hj
    · rw [List.getElem?_drop, Array.getElem?_toList] at hj
      exact hj
    · cases hj
theorem RowAt.frozen {g off cap : Nat} (h : RowAt w e size v n xs) (hv : v = .slice (some ⟨g, off, none⟩) n cap) (j : Nat) : w.frozen? ⟨g, j, none⟩ = false := by
  rcases h.2 with ⟨rfl, _⟩ | ⟨g', off', cap', cur, h1, h2, h3, h4, h5, h6⟩
  · cases hv
  · rw [hv] at h1
    injection h1 with h1 _ _
    injection h1 with h1
    injection h1 with h1 h1' _
    subst h1 h1'
    exact frozen_of_row w g j _ _ h2
/-- The first i things are left away. -/
theorem RowAt.drop {g off cap : Nat} (h : RowAt w e size v n xs) (hv : v = .slice (some ⟨g, off, none⟩) n cap) {i : Nat} (hi : i ≤ n) : RowAt w e size (.slice (some ⟨g, off + i * size, none⟩) (n - i) (cap - i)) (n - i) (xs.drop (i * size)) := by
  rcases h.2 with ⟨rfl, _⟩ | ⟨g', off', cap', cur, h1, h2, h3, h4, h5, h6⟩
  · cases hv
  · rw [hv] at h1
    injection h1 with h1 _ hc
    injection h1 with h1
    injection h1 with h1 h1' _
    subst h1 h1' hc
    have e1 : (n - i) * size = n * size - i * size := Nat.sub_mul _ _ _
    have e2 : (cap - i) * size = cap * size - i * size := Nat.sub_mul _ _ _
    have e3 : i * size ≤ cap * size := Nat.mul_le_mul_right _ (by omega)
    refine ⟨by rw [List.length_drop, h.1, e1], .inr ⟨g, off + i * size, cap - i, cur, rfl, h2, by omega, by omega, by rw [e2]; omega, ?_⟩⟩
    rw [← h6, List.drop_take, List.drop_drop, e1]
/-- Things i to j, and no spare room behind them. -/
theorem RowAt.cut {g off cap : Nat} (h : RowAt w e size v n xs) (hv : v = .slice (some ⟨g, off, none⟩) n cap) {i j : Nat} (hi : i ≤ j) (hj : j ≤ n) : RowAt w e size (.slice (some ⟨g, off + i * size, none⟩) (j - i) (j - i)) (j - i) ((xs.drop (i * size)).take ((j - i) * size)) := by
  rcases h.2 with ⟨rfl, _⟩ | ⟨g', off', cap', cur, h1, h2, h3, h4, h5, h6⟩
  · cases hv
  · rw [hv] at h1
    injection h1 with h1 _ hc
    injection h1 with h1
    injection h1 with h1 h1' _
    subst h1 h1' hc
    have e1 : (j - i) * size = j * size - i * size := Nat.sub_mul _ _ _
    have e3 : i * size ≤ j * size := Nat.mul_le_mul_right _ hi
    have e4 : j * size ≤ cap * size := Nat.mul_le_mul_right _ (by omega)
    have e5 : j * size ≤ n * size := Nat.mul_le_mul_right _ hj
    refine ⟨?_, .inr ⟨g, off + i * size, j - i, cur, rfl, h2, by omega, by omega, by rw [e1]; omega, ?_⟩⟩
    · rw [List.length_take, List.length_drop, h.1, e1]; omega
    · rw [← h6, List.drop_take, List.drop_drop, List.take_take, Nat.min_eq_left (by rw [e1]; omega)]
end
/-- append onto a row: in place, or into a new block. -/
theorem run_append_row {P : Program} (w : World) (t ty e : TypeId) (i : TypeInfo) (z : Value) (size bytes : Nat) (ht : P.underlying t = some (.slice e)) (hi : P.info? e = some i) (hz : i.zero = some z)
    (hsize : i.size = size) (hby : i.bytes = bytes) (hzs : z.cells.size = size)
    (v : Value) (n : Nat) (xs : List Value) (hown : RowAt w e size v n xs)
    (a : Addr) (m c : Nat) (news : List Value) (hl : news.length = m * size) (hnews : ∀ j u, news[j]? = some u → w.cell? (a.add j) = some u) (h1 : ∀ u ∈ news, u.oneCell' = true)
    (hm : 0 < m ∨ 0 < n) (h63 : n + m ≤ maxLen) (hbytes : (n + m) * bytes ≤ 140737488355328) :
    ∃ v' w', (Builtin.append_ #[t, t] ty #[v, .slice (some a) m c]).run P w = .ok v' w' ∧ RowAt w' e size v' (n + m) (xs ++ news) ∧ Fr w w' (fun b => v.ownBlock = some b) ∧ (v'.ownBlock = v.ownBlock ∨ v'.ownBlock = some w.heap.size ∧ ∀ k, k < w.heap.size → w'.heap[k]? = w.heap[k]?) := by
  subst hsize
  subst hby
  have hsmall : n + m ≤ 9223372036854775807 := by simp only [maxLen] at h63; omega
  have hlen : (xs ++ news).length = (n + m) * i.size := by rw [List.length_append, hown.1, hl, Nat.add_mul]
  have grown : ∀ (old : Nat), old < n + m →
      RowAt (w.drew.alloc (.cells (xs.toArray ++ news.toArray ++ Builtin.zeroCells z.cells (grownCap w (n + m) old e - (n + m))) e)) e i.size
        (.slice (some ⟨w.heap.size, 0, none⟩) (n + m) (grownCap w (n + m) old e)) (n + m) (xs ++ news) ∧
      ∀ k, k < w.heap.size → (w.drew.alloc (.cells (xs.toArray ++ news.toArray ++ Builtin.zeroCells z.cells (grownCap w (n + m) old e - (n + m))) e)).heap[k]? = w.heap[k]? := by
    intro old ho
    have hge := grownCap_ge w (n + m) old e
    have hcm : grownCap w (n + m) old e ≤ maxLen := grownCap_le_maxLen w (n + m) old e h63
    refine ⟨⟨hlen, .inr ⟨w.heap.size, 0, _, _, rfl, heap_alloc_new w.drew _, hge, hcm, ?_, ?_⟩⟩, fun k hk => heap_alloc_old w.drew _ hk⟩
    · simp only [Array.size_append, List.size_toArray, size_zeroCells, hzs, hown.1, hl, ← Nat.add_mul]
      rw [show n + m + (grownCap w (n + m) old e - (n + m)) = grownCap w (n + m) old e by omega]; omega
    · simp only [Array.toList_append, List.append_assoc, List.drop_zero]
      rw [← List.append_assoc, ← hlen]
      exact List.take_left
  have frw : ∀ (o : Obj) (ex : Nat → Prop), Fr w (w.drew.alloc o) ex := fun o ex => ⟨rfl, rfl, rfl, by simp, fun b hb _ => heap_alloc_old w.drew _ hb⟩
  rcases hown.2 with ⟨rfl, rfl⟩ | ⟨g, off, cap, cur, rfl, hg, hnc, hcm, hcs, htake⟩
  · have hx : xs = [] := List.eq_nil_of_length_eq_zero (by simpa using hown.1)
    subst hx
    have hr := run_append_nil (P := P) w t ty e i z ht hi hz a m c news hl hnews (by omega) (by omega) (by have hb := hbytes; simp only [Nat.zero_add] at hb; omega)
    have hgr := grown 0 (by omega)
    simp only [Nat.zero_add, List.nil_append, Array.empty_append] at hgr ⊢
    exact ⟨_, _, hr, hgr.1, frw _ _, .inr ⟨rfl, hgr.2⟩⟩
  · by_cases hroom : n + m ≤ cap
    · have e1 : (n + m) * i.size ≤ cap * i.size := Nat.mul_le_mul_right _ hroom
      have e2 : (n + m) * i.size = n * i.size + news.length := by rw [Nat.add_mul, hl]
      have hthere : ∀ j, j < news.length → (w.cell? ⟨g, off + n * i.size + j, none⟩).isSome = true := fun j hj => by
        rw [cell_of_row _ _ _ _ _ _ hg, Array.getElem?_eq_getElem (by omega)]; rfl
      have hr := run_append_room_cells (P := P) w t ty e i ht hi g off n cap a m c news hl hnews h1 hroom hthere (fun j hj => frozen_of_row w g _ _ _ hg)
      have hF := Fr.setCells g (fun b => (Value.slice (some ⟨g, off, none⟩) n cap).ownBlock = some b) rfl news (off + n * i.size) w
      have hblk : ∀ (vs : List Value) (o : Nat) (w1 : World) (cur : Array Value), w1.heap[g]? = some (.cells cur e (0, 0)) → o + vs.length ≤ cur.size → (w1.setCells g o vs).heap[g]? = some (.cells (cur.toList.take o ++ vs ++ cur.toList.drop (o + vs.length)).toArray e (0, 0)) := by
        intro vs
        induction vs with
        | nil => intro o w1 cur h _; rw [World.setCells, h]; simp
        | cons u r ih =>
          intro o w1 cur h hsz
          rw [World.setCells, setCell_eq_setRow w1 g o cur e (0, 0) u h]
          simp only [List.length_cons] at hsz
          rw [ih (o + 1) _ _ (setRow_heap w1 g cur _ e (0, 0) h) (by simp; omega)]
          have hs : (cur.setIfInBounds o u).toList = cur.toList.set o u := by simp
          have hlt : o < cur.toList.length := by rw [Array.length_toList]; omega
          have e5 : (List.take (o + 1) cur.toList).set o u = List.take o cur.toList ++ [u] := by
            rw [List.take_succ_eq_append_getElem hlt, List.set_append_right _ _ (by simp; omega)]
            have e7 : (List.take o cur.toList).length = o := by rw [List.length_take]; omega
            rw [e7, Nat.sub_self]; rfl
          have e6 : List.take (o + 1) (cur.setIfInBounds o u).toList ++ r ++ List.drop (o + 1 + r.length) (cur.setIfInBounds o u).toList = List.take o cur.toList ++ (u :: r) ++ List.drop (o + (u :: r).length) cur.toList := by
            rw [hs, List.take_set, e5, List.drop_set, if_pos (by omega), List.length_cons, show o + 1 + r.length = o + (r.length + 1) by omega]; simp
          rw [e6]
      refine ⟨_, _, hr, ⟨hlen, .inr ⟨g, off, cap, _, rfl, hblk news _ w cur hg (by omega), hroom, hcm, ?_, ?_⟩⟩, hF, .inl rfl⟩
      · simp only [List.size_toArray, List.length_append, List.length_take, List.length_drop, Array.length_toList]; omega
      · have hd : (List.take (off + n * i.size) cur.toList ++ news ++ List.drop (off + n * i.size + news.length) cur.toList).drop off = xs ++ news ++ List.drop (off + n * i.size + news.length) cur.toList := by
          rw [List.append_assoc, List.drop_append_of_le_length (by rw [List.length_take, Array.length_toList]; omega), List.drop_take, show off + n * i.size - off = n * i.size by omega, htake, List.append_assoc]
        rw [hd, ← hlen]
        exact List.take_left
    · have holds : ∀ j u, xs[j]? = some u → w.cell? ((⟨g, off, none⟩ : Addr).add j) = some u := fun j u hj => by
        rw [Addr.add_mid]; exact hown.cell rfl hj
      have hr := run_append_grow (P := P) w t ty e i z ht hi hz ⟨g, off, none⟩ n cap xs hown.1 holds a m c news hl hnews (by omega) (by omega) (growslice_fits (by omega) hbytes)
      have hgr := grown cap (by omega)
      exact ⟨_, _, hr, hgr.1, frw _ _, .inr ⟨rfl, hgr.2⟩⟩
theorem wpList_append_row {P : Program} (w : World) {ops : Array Oper} {rest : List Oper} {o : Oper} {a : Act} {Q : Exit → Act → World → Prop} (hgd : o.guard = none) (s x : Operand) (t : TypeId)
    (ho : o.op = .call { callee := .builtin .append, args := #[s, x], argTypes := #[t, t] })
    (e : TypeId) (i : TypeInfo) (z : Value) (size bytes : Nat) (ht : P.underlying t = some (.slice e)) (hi : P.info? e = some i) (hz : i.zero = some z)
    (hsize : i.size = size) (hby : i.bytes = bytes) (hzs : z.cells.size = size)
    (v : Value) (n : Nat) (xs : List Value) (hs : a.eval s = v) (hown : RowAt w e size v n xs)
    (ad : Addr) (m c : Nat) (news : List Value) (hx : a.eval x = .slice (some ad) m c) (hl : news.length = m * size) (hnews : ∀ j u, news[j]? = some u → w.cell? (ad.add j) = some u) (h1 : ∀ u ∈ news, u.oneCell' = true)
    (hm : 0 < m ∨ 0 < n) (h63 : n + m ≤ maxLen) (hbytes : (n + m) * bytes ≤ 140737488355328)
    (h : ∀ v' w', RowAt w' e size v' (n + m) (xs ++ news) → Fr w w' (fun b => v.ownBlock = some b) → (v'.ownBlock = v.ownBlock ∨ v'.ownBlock = some w.heap.size ∧ ∀ k, k < w.heap.size → w'.heap[k]? = w.heap[k]?) → wpList P ops Q rest (a.put o.dst v') w') : wpList P ops Q (o :: rest) a w := by
  refine wpList_plain hgd fun K hK => ?_
  obtain ⟨v', w', hr, h2, h3, h4⟩ := run_append_row (P := P) w t o.type e i z size bytes ht hi hz hsize hby hzs v n xs hown ad m c news hl hnews h1 hm h63 hbytes
  unfold Oper.wp execOp
  simp only [ho, resolve, invoke, builtin, Sem.run_bind, Sem.run_pure, Result.andThen_ok, List.map_toArray, List.map_cons, List.map_nil, hs, hx, hr]
  exact hK _ _ (h v' w' h2 h3 h4)
/-- Things one behind the other, as cells. -/
def flatL {α : Type} (f : α → List Value) : List α → List Value
  | [] => []
  | a :: t => f a ++ flatL f t
section
variable {α : Type} {f : α → List Value} {size : Nat}
theorem flatL_app (l k : List α) : flatL f (l ++ k) = flatL f l ++ flatL f k := by
  induction l with
  | nil => rfl
  | cons a t ih => show f a ++ flatL f (t ++ k) = f a ++ flatL f t ++ flatL f k; rw [ih, List.append_assoc]
theorem flatL_one (a : α) : flatL f [a] = f a := List.append_nil _
theorem flatL_len (hf : ∀ a, (f a).length = size) (l : List α) : (flatL f l).length = l.length * size := by
  induction l with
  | nil => simp [flatL]
  | cons a t ih => show (f a ++ flatL f t).length = _; rw [List.length_append, hf, ih, List.length_cons, Nat.add_mul]; omega
theorem flatL_drop (hf : ∀ a, (f a).length = size) : ∀ (i : Nat) (l : List α), (flatL f l).drop (i * size) = flatL f (l.drop i)
  | 0, l => by simp
  | i + 1, [] => by simp [flatL]
  | i + 1, a :: t => by
    show (f a ++ flatL f t).drop ((i + 1) * size) = flatL f (t.drop i)
    rw [List.drop_append, hf, List.drop_eq_nil_of_le (by rw [hf, Nat.add_mul]; omega), List.nil_append, show (i + 1) * size - size = i * size by rw [Nat.add_mul]; omega]
    exact flatL_drop hf i t
theorem flatL_take (hf : ∀ a, (f a).length = size) : ∀ (i : Nat) (l : List α), (flatL f l).take (i * size) = flatL f (l.take i)
  | 0, l => by simp [flatL]
  | i + 1, [] => by simp [flatL]
  | i + 1, a :: t => by
    show (f a ++ flatL f t).take ((i + 1) * size) = f a ++ flatL f (t.take i)
    rw [List.take_append, hf, List.take_of_length_le (by rw [hf, Nat.add_mul]; omega), show (i + 1) * size - size = i * size by rw [Nat.add_mul]; omega]
    rw [flatL_take hf i t]
theorem flatL_get (hf : ∀ a, (f a).length = size) {l : List α} {i : Nat} {a : α} (h : l[i]? = some a) {k : Nat} (hk : k < size) : (flatL f l)[i * size + k]? = (f a)[k]? := by
  have h1 : ((flatL f l).drop (i * size))[k]? = (f a)[k]? := by
    rw [flatL_drop hf]
    have : l.drop i = a :: l.drop (i + 1) := by
      have hi := (List.getElem?_eq_some_iff.1 h)
      rw [List.drop_eq_getElem_cons hi.1, hi.2]
    rw [this]
    show (f a ++ _)[k]? = _
    rw [List.getElem?_append_left (by rw [hf]; exact hk)]
  rw [List.getElem?_drop] at h1
  exact h1
end
open Go.Great
theorem below_drewN {B : Nat} {w w' : World} (h : Below B w w') (n : Nat) : Below B w (w'.drewN n) := ⟨h.os, h.tape, h.output, h.size, h.block⟩
/-- A cell of a row is written. -/
theorem RowAt.set {w : World} {e : TypeId} {size n g off cap j : Nat} {xs : List Value} (h : RowAt w e size (.slice (some ⟨g, off, none⟩) n cap) n xs) (hj : j < xs.length) (u : Value) : RowAt (w.setCell ⟨g, off + j, none⟩ u) e size (.slice (some ⟨g, off, none⟩) n cap) n (xs.set j u) := by
  rcases h.2 with ⟨h0, _⟩ | ⟨g', off', cap', cur', e2, e3, e4, e5, e6, e7⟩
  · cases h0
  · injection e2 with e2 _ e8
    injection e2 with e2
    injection e2 with e2 e9 _
    subst e2 e8 e9
    have hn : n * size ≤ cap * size := Nat.mul_le_mul_right _ e4
    rw [setCell_eq_setRow w g (off + j) cur' e (0, 0) u e3]
    refine ⟨by rw [List.length_set]; exact h.1, .inr ⟨g, off, cap, _, rfl, setRow_heap _ _ _ _ _ _ e3, e4, e5, by simpa using e6, ?_⟩⟩
    rw [← e7, Array.toList_setIfInBounds, List.drop_set, if_neg (by omega), show off + j - off = j by omega, List.take_set]
theorem takeR {P : Program} {md : Region.Mode} {ops : Array Oper} {Q : Exit → Act → World → Prop} {S : World → Prop} {i : Nat} {oi : Oper} {v : Value} {fuel : Nat} {listed : Array Bool} {a : Act} {w : World} (d : Option Tmp) (hi : ops[i]? = some oi) (hd : oi.dst = d)
    (hs : Region.noSelect ops = true) (hf : Region.free md ops listed i = true) (hr : (Region.ready md ops listed).contains i = true)
    (hQ : ∀ c a w, Q (.panic c) (a.put d v) w → Q (.panic c) a w) (hy : YieldsIf P ops S oi v a) (hS : S w)
    (h : wpAnyH P md ops Q S fuel (listed.setIfInBounds i true) (a.put d v) w) : wpAnyH P md ops Q S (fuel + 1) listed a w := by
  subst hd
  exact wpAnyH_take hi hs hf hr hQ hy hS h
theorem takeA {P : Program} {md : Region.Mode} {ops : Array Oper} {Q : Exit → Act → World → Prop} {i : Nat} {oi : Oper} {v : Value} {fuel : Nat} {listed : Array Bool} {a : Act} {w : World} (d : Option Tmp) (hi : ops[i]? = some oi) (hd : oi.dst = d)
    (hs : Region.noSelect ops = true) (hf : Region.free md ops listed i = true) (hr : (Region.ready md ops listed).contains i = true)
    (hQ : ∀ c a w, Q (.panic c) (a.put d v) w → Q (.panic c) a w) (hy : Yields P ops oi v a)
    (h : wpAny P md ops Q fuel (listed.setIfInBounds i true) (a.put d v) w) : wpAny P md ops Q (fuel + 1) listed a w := by
  subst hd
  exact wpAny_take hi hs hf hr hQ hy h
theorem callR {P : Program} {op : Oper} {a : Act} {w : World} {K : Act → World → Prop} {Q : Exit → Act → World → Prop} {d : Option Tmp} (hd : op.dst = d)
    (f : FuncId) (args : Array Value) (hrun : (execOp a.eval op).run P w = .ok (.enter f args) w) {R : Ending → World → Prop} (hc : Calls P f args w R)
    (h : ∀ e w', R e w' → ∃ v, e = .returned v ∧ K (a.put d v) w') : op.wp P a w K Q := by
  subst hd
  unfold Oper.wp
  rw [hrun, Oper.upon_enter]
  refine hc.mono fun e w'' hh => ?_
  obtain ⟨v, rfl, hw⟩ := h _ _ hh
  exact hw
theorem valR {P : Program} {op : Oper} {a : Act} {w w' : World} {K : Act → World → Prop} {Q : Exit → Act → World → Prop} {d : Option Tmp} (hd : op.dst = d) (v : Value)
    (hrun : (execOp a.eval op).run P w = .ok (.value v) w') (h : K (a.put d v) w') : op.wp P a w K Q := by
  subst hd
  unfold Oper.wp
  rw [hrun, Oper.upon_value]
  exact h
/-- A block of one's own. -/
def Blk (w : World) (g : Nat) (T : TypeId) (cs : Array Value) : Prop := w.heap[g]? = some (.cells cs T (0, 0))
section
variable {w w' : World} {g h k : Nat} {T : TypeId} {cs : Array Value}
theorem Blk.lt (b : Blk w g T cs) : g < w.heap.size := (Array.getElem?_eq_some_iff.1 b).1
theorem Blk.new (w : World) (T : TypeId) (cs : Array Value) : Blk (w.alloc (.cells cs T)) w.heap.size T cs := heap_alloc_new w _
theorem Blk.new' (w : World) (T : TypeId) (cs : Array Value) (hg : g = w.heap.size) : Blk (w.alloc (.cells cs T)) g T cs := hg ▸ heap_alloc_new w _
theorem Blk.alloc (b : Blk w g T cs) (o : Obj) : Blk (w.alloc o) g T cs := (heap_alloc_old w o b.lt).trans b
theorem Blk.below {B : Nat} (b : Blk w g T cs) (hb : Below B w w') (hg : g < B) : Blk w' g T cs := (hb.block g hg).trans b
theorem Blk.cell (b : Blk w g T cs) (k : Nat) : w.cell? ⟨g, k, none⟩ = cs[k]? := cell_of_row _ _ _ _ _ _ b
theorem Blk.frozen (b : Blk w g T cs) (k : Nat) : w.frozen? ⟨g, k, none⟩ = false := frozen_of_row w g k _ _ b
theorem Blk.set (b : Blk w g T cs) (k : Nat) (v : Value) : Blk (w.setCell ⟨g, k, none⟩ v) g T (cs.setIfInBounds k v) := by
  unfold Blk
  rw [setCell_eq_setRow w g k _ _ _ v b]
  exact setRow_heap _ _ _ _ _ _ b
theorem Blk.other (b : Blk w g T cs) (hne : g ≠ h) (k : Nat) (v : Value) : Blk (w.setCell ⟨h, k, none⟩ v) g T cs := (Below.heap_setCell _ _ _ _ (fun e => hne e)).trans b
theorem below_set {B : Nat} {a : World} (hb : Below B a w) (hB : B ≤ g) (k : Nat) (v : Value) : Below B a (w.setCell ⟨g, k, none⟩ v) :=
  ⟨hb.os, hb.tape, hb.output, by simpa [World.setCell] using hb.size, fun q hq => (Below.heap_setCell _ _ _ _ (fun e => by have : q = g := e; omega)).trans (hb.block q hq)⟩
end
end Go.Proofs.Ytdnhhcbabdoomaa
