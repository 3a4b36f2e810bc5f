/-
  arbiter: giving.
-/
import Derived.Test.YtdncemecnbglaaaA2
namespace Go.Proofs.Ytdncemecnbglaaa
set_option linter.unusedVariables false
set_option linter.unusedSimpArgs false
open Go.RowKit Go.Great Go.Maps

theorem AbAt.put {w : World} {g b : Nat} {a : Ab} (h : AbAt w g b a) (a' : Ab) (k : Nat) (v : Value) (hcs : (a.cs b).setIfInBounds k v = a'.cs b) (hks : a'.ks = a.ks) (hbd : Bd a') : AbAt (w.setCell ⟨g, k, none⟩ v) g b a' := by
  have hf : Fr w (w.setCell ⟨g, k, none⟩ v) (fun x => x = g) := Fr.setCell w ⟨g, k, none⟩ v _ rfl
  refine ⟨by rw [← hcs]; exact h.blk.set k v, by rw [hks]; exact h.map.fr hf h.gb, fun q hq => ?_, hbd⟩
  rw [hks] at hq
  exact (h.pk q hq).fr hf fun x hx e => (h.pk q hq).ne h.blk h.map x hx (.inl e)
theorem AbAt.del {w : World} {g b : Nat} {a : Ab} (h : AbAt w g b a) (n : Nat) (hn : n ≤ 9223372036854775807) (ty : TypeId) : ∃ w', (Builtin.delete_ #[65, 3] ty #[.map (some b), .int .i64 (n : Int)]).run Try.prog w = .ok (.tuple #[]) w' ∧ AbAt w' g b { a with ks := a.ks.filter fun k => !(k.n == n) } ∧ Fr w w' (fun x => x = b) := by
  obtain ⟨w', h1, h2, h3, h4⟩ := h.map.drop law3 Try.underlying65 (keyI hn) ty
  rw [butL_kL] at h2
  refine ⟨w', h1, ⟨h.blk.fr h3 (Ne.symm h.gb), h2, fun k hk => ?_, ?_⟩, h3⟩
  · have hk' : k ∈ a.ks := (List.mem_filter.1 hk).1
    exact (h.pk k hk').fr h3 fun x hx e => (h.pk k hk').ne h.blk h.map x hx (.inr e)
  · have := h.bd
    exact ⟨this.w1, this.w2, this.p0, this.p1, this.nx, this.s0, this.s1, this.l0, this.l1, fun k hk => this.kn k (List.mem_filter.1 hk).1, this.cn, Nat.le_trans (List.length_filter_le _ _) this.len⟩
theorem AbAt.ins {w : World} {g b : Nat} {a : Ab} (h : AbAt w g b a) (k : Kp) (hk : PkAt w k) (hn : fnd a.ks k.n = none) (hbd : Bd { a with ks := k :: a.ks }) : ∃ w', (Instr.mapUpdate 65 (.map (some b)) (.int .i64 (k.n : Int)) k.v).run Try.prog w = .ok () w' ∧ AbAt w' g b { a with ks := k :: a.ks } ∧ Fr w w' (fun x => x = b) := by
  have hl : (kL a.ks).length < maxLen := by
    have h1 := h.bd.len
    have h2 := h.bd.cn 1
    have h3 := h.bd.cn 5
    unfold kL maxLen
    rw [List.length_map]
    omega
  have hkn := hbd.kn k List.mem_cons_self
  obtain ⟨w', h1, h2, h3, h4⟩ := h.map.store law3 Try.underlying65 hl (val := k.v) (keyI (x := k.n) (by omega))
  rw [butL_kL, List.filter_eq_self.2 (fun q hq => by have := fnd_none hn q hq; simp [this])] at h2
  refine ⟨w', h1, ⟨h.blk.fr h3 (Ne.symm h.gb), h2, fun q hq => ?_, hbd⟩, h3⟩
  rcases List.mem_cons.1 hq with rfl | hq
  · exact hk.fr h3 fun x hx e => hk.ne h.blk h.map x hx (.inr e)
  · exact (h.pk q hq).fr h3 fun x hx e => (h.pk q hq).ne h.blk h.map x hx (.inr e)
/-- What is given, from nx on, and what is left. -/
structure GivR (ks : List Kp) (nx : Nat) (out ks' : List Kp) (nx' : Nat) : Prop where
  nxe : nx' = nx + out.length
  at_ : ∀ j k, out[j]? = some k → k ∈ ks ∧ k.n = nx + j
  left : ks' = ks.filter fun k => decide (nx' ≤ k.n)
  gap : ∀ k ∈ ks', k.n ≠ nx'
/-- The arbiter behind i that were given. -/
def Ab.gone (a : Ab) (i : Nat) : Ab := { a with nx := a.nx + i, ks := a.ks.filter fun k => decide (a.nx + i ≤ k.n) }
/-- Where give stands. -/
structure GI (w wr : World) (g b : Nat) (a : Ab) (i : Nat) (out : List Kp) (ov : Value) : Prop where
  ab : AbAt wr g b (a.gone i)
  at_ : ∀ j k, out[j]? = some k → k ∈ a.ks ∧ k.n = a.nx + j
  row : RowAt wr 35 1 ov out.length (out.map (·.v))
  low : ∀ q, ov.ownBlock = some q → w.heap.size ≤ q
  pk : ∀ k ∈ out, PkAt wr k
  fr : Fr w wr (fun x => x = g ∨ x = b)
  cnt : i + (a.gone i).ks.length ≤ a.ks.length
section
variable {w wr w' : World} {g b : Nat} {a : Ab} {i : Nat} {out : List Kp} {ov : Value}
theorem GI.below (h : GI w wr g b a i out ov) (hb : Below wr.heap.size wr w') : GI w w' g b a i out ov :=
  ⟨h.ab.below hb, h.at_, h.row.fr (Fr.of_below hb (fun _ => False)) fun _ _ => id, h.low, fun k hk => (h.pk k hk).fr (Fr.of_below hb (fun _ => False)) fun _ _ => id, h.fr.trans (Fr.of_below hb (fun _ => False)) fun _ _ q => q.elim id False.elim, h.cnt⟩
theorem GI.app (h : GI w wr g b a i out ov) (hi : out.length = i) {k : Kp} (hk : k ∈ (a.gone i).ks) (hkn : k.n = a.nx + i) {ov' : Value} (hrow : RowAt w' 35 1 ov' (out.length + 1) (out.map (·.v) ++ [k.v])) (hf : Fr wr w' (fun x => ov.ownBlock = some x)) (ho : ov'.ownBlock = ov.ownBlock ∨ ov'.ownBlock = some wr.heap.size ∧ ∀ q, q < wr.heap.size → w'.heap[q]? = wr.heap[q]?) : GI w w' g b a i (out ++ [k]) ov' := by
  have ne : ∀ x, ov.ownBlock = some x → ∀ {T : TypeId} {cs : Array Value}, T ≠ 35 → Blk wr x T cs → False := fun x hx T cs hT hb => h.row.ne_type hb (Ne.symm hT) hx
  have npk : ∀ q, PkAt wr q → ∀ x, q.v.ownBlock = some x → ¬ ov.ownBlock = some x := fun q hq x hx e => by
    obtain ⟨_, cur, hc⟩ := hq.1.lt hx
    exact ne x e (by decide) hc
  refine ⟨h.ab.fr hf (fun e => ne g e (by decide) h.ab.blk) (fun e => ?_) (fun q hq => npk q (h.ab.pk q hq)), fun j q hj => ?_, ?_, fun q hq => ?_, fun q hq => ?_, ?_, h.cnt⟩
  · obtain ⟨_, cur, hc⟩ := h.row.lt e
    obtain ⟨es, c, hm⟩ := h.ab.map.is
    rw [hm] at hc
    cases hc
  · by_cases hj' : j < out.length
    · rw [List.getElem?_append_left hj'] at hj
      exact h.at_ j q hj
    · have hjl : j < (out ++ [k]).length := (List.getElem?_eq_some_iff.1 hj).1
      rw [List.length_append] at hjl
      have e : j = out.length := by simp at hjl; omega
      subst e
      simp at hj
      subst hj
      exact ⟨(List.mem_filter.1 hk).1, by rw [hkn, hi]⟩
  · rw [List.length_append, List.map_append]
    exact hrow
  · rcases ho with ho | ⟨ho, _⟩
    · exact h.low q (ho ▸ hq)
    · rw [ho] at hq
      injection hq with hq
      have := h.fr.size
      omega
  · rcases List.mem_append.1 hq with hq | hq
    · exact (h.pk q hq).fr hf (npk q (h.pk q hq))
    · have e : q = k := by simpa using hq
      subst e
      exact (h.ab.pk q hk).fr hf (npk q (h.ab.pk q hk))
  · refine h.fr.trans hf fun x hx q => q.elim id fun q => ?_
    have := h.low x q
    omega
theorem gone_filter (a : Ab) (i : Nat) : ((a.gone i).ks.filter fun k => !(k.n == a.nx + i)) = (a.gone (i + 1)).ks := by
  unfold Ab.gone
  dsimp only
  rw [List.filter_filter]
  congr 1
  funext k
  by_cases h1 : k.n = a.nx + i
  · simp [h1]
  · by_cases h2 : a.nx + i ≤ k.n
    · have : a.nx + (i + 1) ≤ k.n := by omega
      simp [h1, h2, this]
    · have : ¬ a.nx + (i + 1) ≤ k.n := by omega
      simp [h2, this]
/-- The one that was given is taken out, and the next one is next. -/
theorem GI.step {w2 : World} (h : GI w wr g b a i out ov) {k : Kp} (hk : k ∈ (a.gone i).ks) (hkn : k.n = a.nx + i) (hd : AbAt w2 g b { a.gone i with ks := (a.gone i).ks.filter fun k => !(k.n == a.nx + i) }) (hf : Fr wr w2 (fun x => x = b)) : GI w (w2.setCell ⟨g, 2, none⟩ (.int .i64 ((a.nx + i + 1 : Nat) : Int))) g b a (i + 1) out ov := by
  have hbd := hd.bd
  have hkb : k.n ≤ 999999999 := h.ab.bd.kn k hk
  have hab : AbAt (w2.setCell ⟨g, 2, none⟩ (.int .i64 ((a.nx + i + 1 : Nat) : Int))) g b { a.gone i with nx := a.nx + i + 1, ks := (a.gone i).ks.filter fun k => !(k.n == a.nx + i) } :=
    hd.put _ 2 _ rfl rfl ⟨hbd.w1, hbd.w2, hbd.p0, hbd.p1, by show a.nx + i + 1 ≤ _; omega, hbd.s0, hbd.s1, hbd.l0, hbd.l1, hbd.kn, hbd.cn, hbd.len⟩
  rw [gone_filter] at hab
  have hf2 : Fr wr (w2.setCell ⟨g, 2, none⟩ (.int .i64 ((a.nx + i + 1 : Nat) : Int))) (fun x => x = g ∨ x = b) := hf.trans (Fr.setCell w2 ⟨g, 2, none⟩ _ (fun x => x = g) rfl) fun x _ q => q.elim .inr .inl
  refine ⟨hab, h.at_, h.row.fr hf2 fun x hx e => ?_, h.low, fun q hq => (h.pk q hq).fr hf2 ((h.pk q hq).ne h.ab.blk h.ab.map), h.fr.trans hf2 fun x _ q => q.elim id id, ?_⟩
  · obtain ⟨_, cur, hc⟩ := h.row.lt hx
    rcases e with rfl | rfl
    · exact h.row.ne_type h.ab.blk (by decide) hx
    · obtain ⟨es, c, hm⟩ := h.ab.map.is
      rw [hm] at hc
      cases hc
  · have h1 := h.cnt
    have h2 : ((a.gone i).ks.filter fun k => !(k.n == a.nx + i)).length < (a.gone i).ks.length := by
      rw [List.length_filter_lt_length_iff_exists]
      exact ⟨k, hk, by simp [hkn]⟩
    rw [gone_filter] at h2
    omega
/-- Nothing more is to be given. -/
theorem GI.done (h : GI w wr g b a i out ov) (hi : out.length = i) (hn : fnd (a.gone i).ks (a.nx + i) = none) : GivR a.ks a.nx out (a.gone i).ks (a.nx + i) := ⟨by rw [hi], h.at_, rfl, fnd_none hn⟩
end
theorem gone_zero (a : Ab) (h : ∀ k ∈ a.ks, a.nx ≤ k.n) : a.gone 0 = a := by
  have : (a.ks.filter fun k => decide (a.nx + 0 ≤ k.n)) = a.ks := List.filter_eq_self.2 fun k hk => by simpa using h k hk
  unfold Ab.gone
  rw [this]
  rfl
theorem build1_run {op : Oper} {a : Act} {v0 : Value} (h0 : ∃ a n c, v0 = .slice a n c) (x0 : Operand) (ho : op.op = .buildSlice 32 1 #[(0, x0)]) (e0 : a.eval x0 = v0) (w : World) : (execOp a.eval op).run Try.prog w = .ok (.value (.slice (some ⟨w.heap.size, 0, none⟩) 1 1)) (w.alloc (.cells #[v0] 35)) := by
  obtain ⟨_, _, _, rfl⟩ := h0
  unfold execOp
  simp only [ho, List.map_toArray, List.map_cons, List.map_nil, e0]
  kernel_rfl
theorem infoB0 : (Try.prog.info? 35).map (fun i => (i.zero, i.size, i.bytes)) = some (some (.slice none 0 0), 1, 24) := by kernel_rfl
theorem infoB : ∃ i z, Try.prog.info? 35 = some i ∧ i.zero = some z ∧ i.size = 1 ∧ i.bytes = 24 ∧ z.cells.size = 1 := by
  obtain ⟨i, h1, h2⟩ := Option.map_eq_some_iff.1 infoB0
  injection h2 with h3 h4
  injection h4 with h4 h5
  exact ⟨i, _, h1, h3, h4, h5, rfl⟩
theorem app_run {w : World} {ov v0 : Value} {n q : Nat} {xs : List Value} (hr : RowAt w 35 1 ov n xs) (hb : Blk w q 35 #[v0]) (h1 : v0.oneCell' = true) (hn : n < 5000000000000) (ty : TypeId) : ∃ v' w', (Builtin.append_ #[32, 32] ty #[ov, .slice (some ⟨q, 0, none⟩) 1 1]).run Try.prog w = .ok v' w' ∧ RowAt w' 35 1 v' (n + 1) (xs ++ [v0]) ∧ Fr w w' (fun x => ov.ownBlock = some x) ∧ (v'.ownBlock = ov.ownBlock ∨ v'.ownBlock = some w.heap.size ∧ ∀ k, k < w.heap.size → w'.heap[k]? = w.heap[k]?) := by
  obtain ⟨i, z, h2, h3, h4, h5, h6⟩ := infoB
  refine run_append_row w 32 ty 35 i z 1 24 Try.underlying32 h2 h3 h4 h5 h6 ov n xs hr ⟨q, 0, none⟩ 1 1 [v0] rfl (fun j u hj => ?_) (fun u hu => ?_) (.inl (by decide)) (by unfold maxLen; omega) (by omega)
  · match j, hj with
    | 0, hj =>
      have e : v0 = u := by simpa using hj
      subst e
      exact hb.cell 0
    | j + 1, hj => simp at hj
  · have e : u = v0 := by simpa using hu
    subst e
    exact h1
def lenV : Value → Nat
  | .slice _ n _ => n
  | _ => 0
/-- What give leaves. -/
structure GvO (w w' : World) (g b : Nat) (a : Ab) (v : Value) (out : List Kp) (a' : Ab) : Prop where
  ab : AbAt w' g b a'
  giv : GivR a.ks a.nx out a'.ks a'.nx
  row : RowAt w' 35 1 v out.length (out.map (·.v))
  low : ∀ q, v.ownBlock = some q → w.heap.size ≤ q
  pk : ∀ k ∈ out, PkAt w' k
  fr : Fr w w' (fun x => x = g ∨ x = b)
set_option maxRecDepth 100000 in
set_option maxHeartbeats 1000000 in
theorem give_any {w : World} {g b : Nat} {a : Ab} (h : AbAt w g b a) (hge : ∀ k ∈ a.ks, a.nx ≤ k.n) : Calls Try.prog 27 #[.pointer (some ⟨g, 0, none⟩)] w fun e w' => ∃ v, e = .returned v ∧ Hid (∃ out a', GvO w w' g b a v out a' ∧ a' = { a with nx := a'.nx, ks := a'.ks, si := a.la }) := by
  have HG0 : Hid (GI w w g b a 0 [] (.slice none 0 0)) := by
    refine ⟨by rw [gone_zero a hge]; exact h, fun j k hj => (by simp at hj), RowAt.none0 _ _ _, fun q hq => (by cases hq), fun k hk => (by cases hk), Fr.refl _ _, ?_⟩
    rw [gone_zero a hge]; omega
  have HB : Hid (a.ks.length ≤ 2000000000000 ∧ a.nx ≤ 1000000000 ∧ ∀ k ∈ a.ks, k.n ≤ 999999999) := ⟨by have := h.bd.len; have := h.bd.cn 1; have := h.bd.cn 5; omega, h.bd.nx, h.bd.kn⟩
  clear h hge
  go_enter Try.func27, Try.ntmps27
  go_wp2
  go_loopw [3, 4] (fun x y wr => ∃ (i : Nat) (out : List Kp) (ov : Value), ov = x ∧ lenV ov = i ∧ i ≤ a.ks.length ∧ Hid (GI w wr g b a i out ov ∧ out.length = i)) (fun x _ _ => a.ks.length - lenV x)
  case atStart => exact ⟨0, [], _, rfl, rfl, Nat.zero_le _, HG0.out, rfl⟩
  case round =>
    clear HG0
    obtain ⟨i, out, ov, eov, hlv, hik, HI⟩ := hrel
    subst eov
    have HLV : Hid (lenV ov = i ∧ i ≤ a.ks.length) := ⟨hlv, hik⟩
    clear hlv hik
    go_upto_region 2 with fail
    have hbd : Below wr.heap.size wr wr.drew := ⟨rfl, rfl, rfl, Nat.le_refl _, fun _ _ => rfl⟩
    have HJ : Hid (GI w wr.drew g b a i out ov ∧ out.length = i) := ⟨HI.out.1.below hbd, HI.out.2⟩
    clear hbd HI
    rename_i K hK
    refine wp_region_held (S := fun w' => AbAt w' g b (a.gone i)) (by kernel_rfl) ?_
    change wpAnyH _ _ _ _ _ _ _ _ (World.drew _)
    generalize wr.drew = WD at *
    have hS := HJ.out.1.ab
    have hnb : a.nx + i ≤ 9223372036854775807 := by have := HB.out.2.1; have := HB.out.1; have := HLV.out.2; omega
    obtain ⟨vl, hvl⟩ : ∃ vl, vl = ((fnd (a.gone i).ks (a.nx + i)).map (·.v)).getD (.slice none 0 0) := ⟨_, rfl⟩
    obtain ⟨hb, hhb⟩ : ∃ hb, hb = (fnd (a.gone i).ks (a.nx + i)).isSome := ⟨_, rfl⟩
    obtain ⟨X, hX⟩ : ∃ X, X = a.nx + i := ⟨_, rfl⟩
    refine takeR (i := 0) (v := .pointer (some ⟨g, 0, none⟩)) (some 7) rfl rfl (by kernel_rfl) (by kernel_rfl) (by kernel_rfl) (fun _ _ _ h => h) (Or.inl ⟨by kernel_rfl, fun w' hSw => by kernel_rfl⟩) hS ?_
    simp only [Act.put, List.setIfInBounds_toArray, List.set_cons_zero, List.set_cons_succ]
    refine takeR (i := 1) (v := .pointer (some ⟨g, 0, none⟩)) (some 8) rfl rfl (by kernel_rfl) (by kernel_rfl) (by kernel_rfl) (fun _ _ _ h => h) (Or.inl ⟨by kernel_rfl, fun w' hSw => by kernel_rfl⟩) hS ?_
    simp only [Act.put, List.setIfInBounds_toArray, List.set_cons_zero, List.set_cons_succ]
    refine takeR (i := 2) (v := .pointer (some ⟨g, 3, none⟩)) (some 9) rfl rfl (by kernel_rfl) (by kernel_rfl) (by kernel_rfl) (fun _ _ _ h => h) (Or.inl ⟨by kernel_rfl, fun w' hSw => by kernel_rfl⟩) hS ?_
    simp only [Act.put, List.setIfInBounds_toArray, List.set_cons_zero, List.set_cons_succ]
    refine takeR (i := 3) (v := .map (some b)) (some 10) rfl rfl (by kernel_rfl) (by kernel_rfl) (by kernel_rfl) (fun _ _ _ h => h) (Or.inl ⟨by kernel_rfl, fun w' hSw => by exact ldM_run (.tmp 9) rfl (by kernel_rfl) (hSw.blk.cell 3)⟩) hS ?_
    simp only [Act.put, List.setIfInBounds_toArray, List.set_cons_zero, List.set_cons_succ]
    refine takeR (i := 4) (v := .pointer (some ⟨g, 0, none⟩)) (some 11) rfl rfl (by kernel_rfl) (by kernel_rfl) (by kernel_rfl) (fun _ _ _ h => h) (Or.inl ⟨by kernel_rfl, fun w' hSw => by kernel_rfl⟩) hS ?_
    simp only [Act.put, List.setIfInBounds_toArray, List.set_cons_zero, List.set_cons_succ]
    refine takeR (i := 5) (v := .pointer (some ⟨g, 0, none⟩)) (some 12) rfl rfl (by kernel_rfl) (by kernel_rfl) (by kernel_rfl) (fun _ _ _ h => h) (Or.inl ⟨by kernel_rfl, fun w' hSw => by kernel_rfl⟩) hS ?_
    simp only [Act.put, List.setIfInBounds_toArray, List.set_cons_zero, List.set_cons_succ]
    refine takeR (i := 6) (v := .pointer (some ⟨g, 2, none⟩)) (some 13) rfl rfl (by kernel_rfl) (by kernel_rfl) (by kernel_rfl) (fun _ _ _ h => h) (Or.inl ⟨by kernel_rfl, fun w' hSw => by kernel_rfl⟩) hS ?_
    simp only [Act.put, List.setIfInBounds_toArray, List.set_cons_zero, List.set_cons_succ]
    refine takeR (i := 7) (v := .int .i64 (X : Int)) (some 14) rfl rfl (by kernel_rfl) (by kernel_rfl) (by kernel_rfl) (fun _ _ _ h => h) (Or.inl ⟨by kernel_rfl, fun w' hSw => by exact ldN_run (.inr rfl) (.tmp 13) rfl (by kernel_rfl) (by rw [hX]; exact hSw.blk.cell 2)⟩) hS ?_
    simp only [Act.put, List.setIfInBounds_toArray, List.set_cons_zero, List.set_cons_succ]
    refine takeR (i := 8) (v := .tuple #[vl, .bool hb]) (some 15) rfl rfl (by kernel_rfl) (by kernel_rfl) (by kernel_rfl) (fun _ _ _ h => h) (Or.inl ⟨by kernel_rfl, fun w' hSw => by exact lk_run (m := .map (some b)) (k := .int .i64 (X : Int)) (.tmp 10) (.tmp 14) rfl (by kernel_rfl) (by kernel_rfl) (by rw [hvl, hhb, hX]; exact hSw.look hnb)⟩) hS ?_
    simp only [Act.put, List.setIfInBounds_toArray, List.set_cons_zero, List.set_cons_succ]
    refine takeR (i := 9) (v := .tuple #[vl, .bool hb]) (some 6) rfl rfl (by kernel_rfl) (by kernel_rfl) (by kernel_rfl) (fun _ _ _ h => h) (Or.inl ⟨by kernel_rfl, fun w' hSw => by kernel_rfl⟩) hS ?_
    simp only [Act.put, List.setIfInBounds_toArray, List.set_cons_zero, List.set_cons_succ]
    refine takeR (i := 10) (v := vl) (some 16) rfl rfl (by kernel_rfl) (by kernel_rfl) (by kernel_rfl) (fun _ _ _ h => h) (Or.inl ⟨by kernel_rfl, fun w' hSw => by kernel_rfl⟩) hS ?_
    simp only [Act.put, List.setIfInBounds_toArray, List.set_cons_zero, List.set_cons_succ]
    refine takeR (i := 11) (v := .bool hb) (some 17) rfl rfl (by kernel_rfl) (by kernel_rfl) (by kernel_rfl) (fun _ _ _ h => h) (Or.inl ⟨by kernel_rfl, fun w' hSw => by kernel_rfl⟩) hS ?_
    simp only [Act.put, List.setIfInBounds_toArray, List.set_cons_zero, List.set_cons_succ]
    refine takeR (i := 12) (v := vl) (some 4) rfl rfl (by kernel_rfl) (by kernel_rfl) (by kernel_rfl) (fun _ _ _ h => h) (Or.inl ⟨by kernel_rfl, fun w' hSw => by kernel_rfl⟩) hS ?_
    simp only [Act.put, List.setIfInBounds_toArray, List.set_cons_zero, List.set_cons_succ]
    refine takeR (i := 13) (v := .bool hb) (some 5) rfl rfl (by kernel_rfl) (by kernel_rfl) (by kernel_rfl) (fun _ _ _ h => h) (Or.inl ⟨by kernel_rfl, fun w' hSw => by kernel_rfl⟩) hS ?_
    simp only [Act.put, List.setIfInBounds_toArray, List.set_cons_zero, List.set_cons_succ]
    refine wpAnyH_done (by kernel_rfl) ?_ _
    refine hK _ _ ?_
    clear hK hS
    have HF : Hid (vl = ((fnd (a.gone i).ks X).map (·.v)).getD (.slice none 0 0) ∧ hb = (fnd (a.gone i).ks X).isSome ∧ X = a.nx + i) := by subst hX; exact ⟨hvl, hhb, rfl⟩
    clear hvl hhb hX hnb
    cases hb
    case true =>
      obtain ⟨k, hk⟩ : ∃ k, fnd (a.gone i).ks X = some k := Option.isSome_iff_exists.1 HF.out.2.1.symm
      have HK : Hid (k ∈ (a.gone i).ks ∧ k.n = X ∧ X = a.nx + i ∧ vl = k.v) := ⟨(fnd_some hk).1, (fnd_some hk).2, HF.out.2.2, by have := HF.out.1; rw [hk] at this; exact this⟩
      clear HF hk
      have hvf : ∃ a n c, vl = .slice a n c := by
        obtain ⟨ao, c, e, _⟩ := (HJ.out.1.ab.pk k HK.out.1).1.form
        exact ⟨ao, _, c, HK.out.2.2.2.trans e⟩
      go_upto_region 3 with fail
      rename_i K hK
      refine wp_region_lit ?_
      refine wpList_runTo rfl (some 18) rfl (.bool true) WD (by kernel_rfl) ?_
      simp only [Act.put, List.setIfInBounds_toArray, List.set_cons_zero, List.set_cons_succ]
      refine wpList_runTo rfl (some 19) rfl (.bool false) WD (by kernel_rfl) ?_
      simp only [Act.put, List.setIfInBounds_toArray, List.set_cons_zero, List.set_cons_succ]
      refine wpList_nil ?_
      refine hK _ _ ?_
      clear hK
      have hal : Below WD.heap.size WD (WD.alloc (.cells #[vl] 35)) := (Below.refl _ WD).alloc (Nat.le_refl _) _
      obtain ⟨ov', W2, hap, hrow, hfr, hob⟩ := app_run (HJ.out.1.below hal).row (Blk.new WD 35 #[vl]) (by obtain ⟨_, _, _, rfl⟩ := hvf; rfl) (by have := HB.out.1; have := HLV.out.2; have := HJ.out.2; omega) 32
      have HJ2 : Hid (GI w W2 g b a i (out ++ [k]) ov' ∧ (out ++ [k]).length = i + 1) := ⟨(HJ.out.1.below hal).app HJ.out.2 HK.out.1 (HK.out.2.1.trans HK.out.2.2.1) (by rw [← HK.out.2.2.2]; exact hrow) hfr hob, by rw [List.length_append, HJ.out.2]; rfl⟩
      have hlv' : lenV ov' = i + 1 := by
        obtain ⟨ao, c, e, _⟩ := hrow.form
        rw [e, HJ.out.2]; rfl
      have HLV' : Hid (lenV ov' = i + 1) := hlv'
      clear hrow hfr hob HJ hal hlv'
      go_upto_region 4 with fail
      rename_i K hK
      refine wp_region_lit ?_
      refine wpList_runTo rfl (some 20) rfl (ov) WD (by kernel_rfl) ?_
      simp only [Act.put, List.setIfInBounds_toArray, List.set_cons_zero, List.set_cons_succ]
      refine wpList_runTo rfl (some 21) rfl (vl) WD (by kernel_rfl) ?_
      simp only [Act.put, List.setIfInBounds_toArray, List.set_cons_zero, List.set_cons_succ]
      refine wpList_runTo rfl (some 22) rfl (.slice (some ⟨WD.heap.size, 0, none⟩) 1 1) (WD.alloc (.cells #[vl] 35)) (by exact build1_run hvf (.tmp 21) rfl (by kernel_rfl) _) ?_
      simp only [Act.put, List.setIfInBounds_toArray, List.set_cons_zero, List.set_cons_succ]
      refine wpList_runTo rfl (some 23) rfl (ov') W2 (by exact exec_append (v1 := ov) (v2 := .slice (some ⟨WD.heap.size, 0, none⟩) 1 1) (.tmp 20) (.tmp 22) rfl (by kernel_rfl) (by kernel_rfl) hap) ?_
      simp only [Act.put, List.setIfInBounds_toArray, List.set_cons_zero, List.set_cons_succ]
      refine wpList_runTo rfl (some 3) rfl (ov') W2 (by kernel_rfl) ?_
      simp only [Act.put, List.setIfInBounds_toArray, List.set_cons_zero, List.set_cons_succ]
      refine wpList_nil ?_
      refine hK _ _ ?_
      clear hK
      generalize (Value.slice (some ⟨WD.heap.size, 0, none⟩) 1 1) = s22
      clear hap hvf
      go_upto_region 5 with fail
      have hbd : Below W2.heap.size W2 W2.drew := ⟨rfl, rfl, rfl, Nat.le_refl _, fun _ _ => rfl⟩
      have HJ3 : Hid (GI w W2.drew g b a i (out ++ [k]) ov' ∧ (out ++ [k]).length = i + 1) := ⟨HJ2.out.1.below hbd, HJ2.out.2⟩
      clear hbd HJ2
      rename_i K hK
      refine wp_region_held (S := fun w' => Blk w' g 67 ((a.gone i).cs b)) (by kernel_rfl) ?_
      change wpAnyH _ _ _ _ _ _ _ _ (World.drew _)
      generalize W2.drew = WE at *
      have hS := HJ3.out.1.ab.blk
      refine takeR (i := 0) (v := .pointer (some ⟨g, 0, none⟩)) (some 24) rfl rfl (by kernel_rfl) (by kernel_rfl) (by kernel_rfl) (fun _ _ _ h => h) (Or.inl ⟨by kernel_rfl, fun w' hSw => by kernel_rfl⟩) hS ?_
      simp only [Act.put, List.setIfInBounds_toArray, List.set_cons_zero, List.set_cons_succ]
      refine takeR (i := 1) (v := .pointer (some ⟨g, 0, none⟩)) (some 25) rfl rfl (by kernel_rfl) (by kernel_rfl) (by kernel_rfl) (fun _ _ _ h => h) (Or.inl ⟨by kernel_rfl, fun w' hSw => by kernel_rfl⟩) hS ?_
      simp only [Act.put, List.setIfInBounds_toArray, List.set_cons_zero, List.set_cons_succ]
      refine takeR (i := 2) (v := .pointer (some ⟨g, 3, none⟩)) (some 26) rfl rfl (by kernel_rfl) (by kernel_rfl) (by kernel_rfl) (fun _ _ _ h => h) (Or.inl ⟨by kernel_rfl, fun w' hSw => by kernel_rfl⟩) hS ?_
      simp only [Act.put, List.setIfInBounds_toArray, List.set_cons_zero, List.set_cons_succ]
      refine takeR (i := 3) (v := .map (some b)) (some 27) rfl rfl (by kernel_rfl) (by kernel_rfl) (by kernel_rfl) (fun _ _ _ h => h) (Or.inl ⟨by kernel_rfl, fun w' hSw => by exact ldM_run (.tmp 26) rfl (by kernel_rfl) (hSw.cell 3)⟩) hS ?_
      simp only [Act.put, List.setIfInBounds_toArray, List.set_cons_zero, List.set_cons_succ]
      refine takeR (i := 4) (v := .pointer (some ⟨g, 0, none⟩)) (some 28) rfl rfl (by kernel_rfl) (by kernel_rfl) (by kernel_rfl) (fun _ _ _ h => h) (Or.inl ⟨by kernel_rfl, fun w' hSw => by kernel_rfl⟩) hS ?_
      simp only [Act.put, List.setIfInBounds_toArray, List.set_cons_zero, List.set_cons_succ]
      refine takeR (i := 5) (v := .pointer (some ⟨g, 0, none⟩)) (some 29) rfl rfl (by kernel_rfl) (by kernel_rfl) (by kernel_rfl) (fun _ _ _ h => h) (Or.inl ⟨by kernel_rfl, fun w' hSw => by kernel_rfl⟩) hS ?_
      simp only [Act.put, List.setIfInBounds_toArray, List.set_cons_zero, List.set_cons_succ]
      refine takeR (i := 6) (v := .pointer (some ⟨g, 2, none⟩)) (some 30) rfl rfl (by kernel_rfl) (by kernel_rfl) (by kernel_rfl) (fun _ _ _ h => h) (Or.inl ⟨by kernel_rfl, fun w' hSw => by kernel_rfl⟩) hS ?_
      simp only [Act.put, List.setIfInBounds_toArray, List.set_cons_zero, List.set_cons_succ]
      refine takeR (i := 7) (v := .int .i64 (X : Int)) (some 31) rfl rfl (by kernel_rfl) (by kernel_rfl) (by kernel_rfl) (fun _ _ _ h => h) (Or.inl ⟨by kernel_rfl, fun w' hSw => by exact ldN_run (.inr rfl) (.tmp 30) rfl (by kernel_rfl) (by rw [HK.out.2.2.1]; exact hSw.cell 2)⟩) hS ?_
      simp only [Act.put, List.setIfInBounds_toArray, List.set_cons_zero, List.set_cons_succ]
      obtain ⟨W3, hde, hab, hfd⟩ := HJ3.out.1.ab.del X (by have := HB.out.2.2 k (List.mem_filter.1 HK.out.1).1; have := HK.out.2.1; omega) 0
      refine wpAnyH_ready (rs := [8]) (by kernel_rfl) (by simp) ?_
      refine AllReadyH.cons rfl (fun K1 hK1 => ?_) AllReadyH.nil
      rw [if_pos (by kernel_rfl)]
      refine valR (d := none) rfl (w' := W3) (.tuple #[]) (de_run (.tmp 27) (.tmp 31) rfl (by kernel_rfl) (by kernel_rfl) hde) ?_
      have hS3 : Blk W3 g 67 ((a.gone i).cs b) := hS.fr hfd (Ne.symm HJ3.out.1.ab.gb)
      refine hK1.out _ _ hS3 (fun _ => ?_)
      clear hK1 hS hde
      simp only [Act.put, List.setIfInBounds_toArray, List.set_cons_zero, List.set_cons_succ]
      refine wpAnyH_done (by kernel_rfl) ?_ _
      refine hK _ _ ?_
      clear hK
      have HJ4 : Hid (GI w (W3.setCell ⟨g, 2, none⟩ (.int .i64 ((X + 1 : Nat) : Int))) g b a (i + 1) (out ++ [k]) ov' ∧ (out ++ [k]).length = i + 1) := by
        have := HJ3.out.1.step HK.out.1 (HK.out.2.1.trans HK.out.2.2.1) (w2 := W3) (by rw [← HK.out.2.2.1]; exact hab) hfd
        rw [← HK.out.2.2.1] at this
        exact ⟨this, HJ3.out.2⟩
      have c2 : W3.cell? ⟨g, 2, none⟩ = some (.int .i64 (X : Int)) := by rw [HK.out.2.2.1]; exact hS3.cell 2
      have f2 : W3.frozen? ⟨g, 2, none⟩ = false := hS3.frozen 2
      have hXb : X + 1 ≤ 9223372036854775807 := by have := HB.out.2.2 k (List.mem_filter.1 HK.out.1).1; have := HK.out.2.1; omega
      clear HJ3 hab hfd hS3
      go_upto_region 6 with fail
      refine wp_region_lit ?_
      refine wpList_runTo rfl (some 32) rfl (.pointer (some ⟨g, 0, none⟩)) W3 (by kernel_rfl) ?_
      simp only [Act.put, List.setIfInBounds_toArray, List.set_cons_zero, List.set_cons_succ]
      refine wpList_runTo rfl (some 33) rfl (.pointer (some ⟨g, 0, none⟩)) W3 (by kernel_rfl) ?_
      simp only [Act.put, List.setIfInBounds_toArray, List.set_cons_zero, List.set_cons_succ]
      refine wpList_runTo rfl (some 34) rfl (.pointer (some ⟨g, 2, none⟩)) W3 (by kernel_rfl) ?_
      simp only [Act.put, List.setIfInBounds_toArray, List.set_cons_zero, List.set_cons_succ]
      refine wpList_runTo rfl (some 35) rfl (.int .i64 (X : Int)) W3 (by exact ldN_run (.inr rfl) (.tmp 34) rfl (by kernel_rfl) (c2)) ?_
      simp only [Act.put, List.setIfInBounds_toArray, List.set_cons_zero, List.set_cons_succ]
      refine wpList_runTo rfl (some 36) rfl (.int .i64 ((X + 1 : Nat) : Int)) W3 (by exact addN_run (p := X) (q := 1) (.tmp 35) (.const (.int .i64 1)) rfl (by kernel_rfl) rfl hXb _) ?_
      simp only [Act.put, List.setIfInBounds_toArray, List.set_cons_zero, List.set_cons_succ]
      refine wpList_runTo rfl (some 37) rfl (.pointer (some ⟨g, 0, none⟩)) W3 (by kernel_rfl) ?_
      simp only [Act.put, List.setIfInBounds_toArray, List.set_cons_zero, List.set_cons_succ]
      refine wpList_runTo rfl (some 38) rfl (.pointer (some ⟨g, 2, none⟩)) W3 (by kernel_rfl) ?_
      simp only [Act.put, List.setIfInBounds_toArray, List.set_cons_zero, List.set_cons_succ]
      refine wpList_skipW rfl none rfl (w' := W3.setCell ⟨g, 2, none⟩ (.int .i64 ((X + 1 : Nat) : Int))) (stN_run (.inr rfl) (.tmp 38) (.tmp 36) rfl (by kernel_rfl) (by kernel_rfl) c2 f2) ?_
      simp only [Act.put, List.setIfInBounds_toArray, List.set_cons_zero, List.set_cons_succ]
      refine wpList_nil ?_
      generalize W3.setCell ⟨g, 2, none⟩ (.int .i64 ((X + 1 : Nat) : Int)) = W4 at *
      clear c2 f2
      have hlt : i < a.ks.length := by
        have := HJ4.out.1.cnt
        omega
      clear hXb
      go_wp2
      exact ⟨⟨i + 1, out ++ [k], ov', rfl, HLV'.out, hlt, HJ4.out⟩, by rw [HLV'.out, HLV.out.1]; omega⟩
    case false =>
      have hn : fnd (a.gone i).ks (a.nx + i) = none := by
        have := HF.out.2.1
        rw [HF.out.2.2] at this
        exact Option.isNone_iff_eq_none.1 (by rw [Option.isNone_iff_eq_none, ← Option.not_isSome_iff_eq_none, ← this]; simp)
      have HO : Hid (∀ W, GI w W g b a i out ov → GvO w (W.setCell ⟨g, 4, none⟩ (.int .i64 a.la)) g b a ov out { a.gone i with si := a.la }) := fun W hW => by
        have hg := hW.done HJ.out.2 hn
        have hbd := hW.ab.bd
        have hf : Fr W (W.setCell ⟨g, 4, none⟩ (.int .i64 a.la)) (fun x => x = g) := Fr.setCell W ⟨g, 4, none⟩ _ _ rfl
        refine ⟨hW.ab.put _ 4 _ rfl rfl ⟨hbd.w1, hbd.w2, hbd.p0, hbd.p1, hbd.nx, hbd.l0, hbd.l1, hbd.l0, hbd.l1, hbd.kn, hbd.cn, hbd.len⟩, hg, hW.row.fr hf fun x hx e => ?_, hW.low, fun k hk => (hW.pk k hk).fr hf fun x hx e => (hW.pk k hk).ne hW.ab.blk hW.ab.map x hx (.inl e), hW.fr.trans hf fun x _ q => q.elim id .inl⟩
        subst e
        exact hW.row.ne_type hW.ab.blk (by decide) hx
      clear HF hn
      have c5 : WD.cell? ⟨g, 5, none⟩ = some (.int .i64 a.la) := HJ.out.1.ab.blk.cell 5
      have c4 : WD.cell? ⟨g, 4, none⟩ = some (.int .i64 a.si) := HJ.out.1.ab.blk.cell 4
      have f4 : WD.frozen? ⟨g, 4, none⟩ = false := HJ.out.1.ab.blk.frozen 4
      have HZ := HO.out WD HJ.out.1
      have HZ' : Hid (GvO w (WD.setCell ⟨g, 4, none⟩ (.int .i64 a.la)) g b a ov out { a.gone i with si := a.la }) := HZ
      clear HO HJ HZ
      go_upto_region 3 with fail
      rename_i K hK
      refine wp_region_lit ?_
      refine wpList_runTo rfl (some 18) rfl (.bool false) WD (by kernel_rfl) ?_
      simp only [Act.put, List.setIfInBounds_toArray, List.set_cons_zero, List.set_cons_succ]
      refine wpList_runTo rfl (some 19) rfl (.bool true) WD (by kernel_rfl) ?_
      simp only [Act.put, List.setIfInBounds_toArray, List.set_cons_zero, List.set_cons_succ]
      refine wpList_nil ?_
      refine hK _ _ ?_
      clear hK
      go_upto_region 7 with fail
      rename_i K hK
      refine wp_region_lit ?_
      refine wpList_runTo rfl (some 39) rfl (.pointer (some ⟨g, 0, none⟩)) WD (by kernel_rfl) ?_
      simp only [Act.put, List.setIfInBounds_toArray, List.set_cons_zero, List.set_cons_succ]
      refine wpList_runTo rfl (some 40) rfl (.pointer (some ⟨g, 0, none⟩)) WD (by kernel_rfl) ?_
      simp only [Act.put, List.setIfInBounds_toArray, List.set_cons_zero, List.set_cons_succ]
      refine wpList_runTo rfl (some 41) rfl (.pointer (some ⟨g, 0, none⟩)) WD (by kernel_rfl) ?_
      simp only [Act.put, List.setIfInBounds_toArray, List.set_cons_zero, List.set_cons_succ]
      refine wpList_runTo rfl (some 42) rfl (.pointer (some ⟨g, 5, none⟩)) WD (by kernel_rfl) ?_
      simp only [Act.put, List.setIfInBounds_toArray, List.set_cons_zero, List.set_cons_succ]
      refine wpList_runTo rfl (some 43) rfl (.int .i64 a.la) WD (by exact ldN_run (.inl rfl) (.tmp 42) rfl (by kernel_rfl) (c5)) ?_
      simp only [Act.put, List.setIfInBounds_toArray, List.set_cons_zero, List.set_cons_succ]
      refine wpList_runTo rfl (some 44) rfl (.pointer (some ⟨g, 0, none⟩)) WD (by kernel_rfl) ?_
      simp only [Act.put, List.setIfInBounds_toArray, List.set_cons_zero, List.set_cons_succ]
      refine wpList_runTo rfl (some 45) rfl (.pointer (some ⟨g, 4, none⟩)) WD (by kernel_rfl) ?_
      simp only [Act.put, List.setIfInBounds_toArray, List.set_cons_zero, List.set_cons_succ]
      refine wpList_skipW rfl none rfl (w' := WD.setCell ⟨g, 4, none⟩ (.int .i64 a.la)) (stN_run (.inl rfl) (.tmp 45) (.tmp 43) rfl (by kernel_rfl) (by kernel_rfl) c4 f4) ?_
      simp only [Act.put, List.setIfInBounds_toArray, List.set_cons_zero, List.set_cons_succ]
      refine wpList_nil ?_
      refine hK _ _ ?_
      clear hK
      generalize WD.setCell ⟨g, 4, none⟩ (.int .i64 a.la) = W5 at *
      clear c4 c5 f4
      go_wp2
      go_ret
      exact ⟨ov, rfl, out, _, HZ'.out, rfl⟩
end Go.Proofs.Ytdncemecnbglaaa
