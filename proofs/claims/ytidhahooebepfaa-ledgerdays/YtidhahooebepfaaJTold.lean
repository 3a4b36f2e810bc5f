/-
  ledger: lines are told, by accounts and symbols.
-/
import Derived.Test.YtidhahooebepfaaJSort
namespace Go.Proofs.Ytidhahooebepfaa
set_option linter.unusedVariables false
set_option linter.unusedSimpArgs false
open Go.RowKit Go.Great Go.Maps

theorem wpL_nextM {P : Program} (w : World) {ops : Array Oper} {rest : List Oper} {o : Oper} {a : Act} {Q : Exit → Act → World → Prop} {α : Type} (f : α → Lit × Value) (kv vv : α → Value) (hvv : ∀ x, (f x).2 = vv x) (hg : o.guard = none) (it : Operand) (hop : o.op = Op.next it false) (k : TypeId) (K : Keyed P k) (T : List α) (hkv : ∀ x ∈ T, ∀ key, keyOf P k key = some (f x).1 → key = kv x) (b r : Nat) (L : List (Lit × Value))
    (hit : a.eval it = .pointer (some ⟨r, 0, none⟩)) (h : RgL P w k b r L (T.map f))
    (hDone : T = [] → wpList P ops Q rest (a.put o.dst (.tuple #[.bool false])) w)
    (hMore : ∀ (x : α) (T' : List α) (w' : World), x ∈ T → T.Perm (x :: T') → RgL P w' k b r L (T'.map f) → w'.rangeLeft b r < w.rangeLeft b r →
      Fr w w' (fun x => x = r) → w'.heap.size = w.heap.size → (Instr.entry (.pointer (some ⟨r, 0, none⟩))).run P w' = .ok (.tuple #[kv x, vv x]) w' → wpList P ops Q rest (a.put o.dst (.tuple #[.bool true, kv x, vv x])) w') :
    wpList P ops Q (o :: rest) a w := by
  refine wpList_plain hg fun K' hK' => ?_
  unfold Oper.wp
  rcases h.nextF f K o.type with ⟨h0, hrun⟩ | ⟨x, T', key, w', h1, h2, h3, hrun, h4, h5, h6, h7, h8⟩
  · simp [execOp, hop, hit, hrun, Result.andThen]
    exact hK' _ _ (hDone h0)
  · obtain rfl := hkv x h2 key h1
    rw [hvv] at hrun h8
    simp [execOp, hop, hit, hrun, Result.andThen]
    exact hK' _ _ (hMore x T' w' h2 h3 h4 h5 h6 h7 h8)
theorem perm_move {O D T T' : List Bk} {x : Bk} (h : O.Perm (D ++ T)) (hp : T.Perm (x :: T')) : O.Perm ((D ++ [x]) ++ T') := by
  rw [List.append_assoc]
  exact h.trans (List.Perm.append_left D hp)
def plV (b : Bk) : Value := .agg #[.string b.ac, .string b.sy]
def amV (b : Bk) : Value := .agg #[.int .i64 b.q, .int .i64 b.c, .int .i64 b.f]
/-- Where the gathering stands. -/
structure TL (w W : World) (T T' D : List Bk) (mb r : Nat) (lv : Value) : Prop where
  rg : RgL Try.prog W 75 mb r (T.map Bk.ent) (T'.map Bk.ent)
  row : RowAt W 42 5 lv D.length (flatL Bk.cl D)
  bel : Below w.heap.size w W
  low : ∀ q, lv.ownBlock = some q → w.heap.size ≤ q ∧ q ≠ r
  mlt : mb < w.heap.size
  rlt : w.heap.size ≤ r
theorem TL.below {w W W' : World} {T T' D : List Bk} {mb r : Nat} {lv : Value} (h : TL w W T T' D mb r lv) (hb : Below W.heap.size W W') : TL w W' T T' D mb r lv :=
  ⟨h.rg.fr (Fr.of_below hb (fun _ => False)) id id, h.row.fr (Fr.of_below hb (fun _ => False)) fun _ _ => id, below_step h.bel hb, h.low, h.mlt, h.rlt⟩
theorem TL.app {w W W1 W2 : World} {T T' D : List Bk} {mb r : Nat} {lv lv' : Value} {x : Bk} (h : TL w W T T' D mb r lv) (hb : Below W.heap.size W W1) (hrow : RowAt W2 42 5 lv' (D.length + 1) (flatL Bk.cl D ++ x.cl)) (hfr : Fr W1 W2 (fun b => lv.ownBlock = some b)) (hnew : lv'.ownBlock = lv.ownBlock ∨ lv'.ownBlock = some W1.heap.size ∧ ∀ k, k < W1.heap.size → W2.heap[k]? = W1.heap[k]?) : TL w W2 T T' (D ++ [x]) mb r lv' := by
  have h1 := h.below hb
  refine ⟨h1.rg.fr hfr (fun e => ?_) (fun e => (h.low r e).2 rfl), ?_, ⟨hfr.os.trans h1.bel.os, hfr.tape.trans h1.bel.tape, hfr.output.trans h1.bel.output, Nat.le_trans h1.bel.size hfr.size, fun q hq => (hfr.block q (Nat.lt_of_lt_of_le hq h1.bel.size) (fun e => by have := (h.low q e).1; omega)).trans (h1.bel.block q hq)⟩, fun q hq => ?_, h.mlt, h.rlt⟩
  · have := (h.low mb e).1
    have := h.mlt
    omega
  · rw [List.length_append, flatL_app, flatL_one]
    exact hrow
  · rcases hnew with e | ⟨e, _⟩
    · exact h.low q (e ▸ hq)
    · rw [e] at hq
      injection hq with hq
      have h2 := h1.bel.size
      have h3 := h1.rg.lt
      omega
set_option maxRecDepth 100000 in
set_option maxHeartbeats 4000000 in
theorem told_any (T : List Bk) (mb : Nat) (w : World) (h : MapL Try.prog w 75 mb (T.map Bk.ent)) (hs : SzL T) (hl : T.length ≤ 100000) :
    Calls Try.prog 27 #[.map (some mb)] w fun e w' => ∃ v net, e = .returned v ∧ Hid (RowAt w' 42 5 v net.length (flatL Bk.cl net) ∧ net.Perm T ∧ net.Pairwise (fun a b => ¬ ltB b a) ∧ Below w.heap.size w w' ∧ ∀ q, v.ownBlock = some q → w.heap.size ≤ q) := by
  have hlen := fun ty => h.len Try.underlying63 ty
  rw [List.length_map] at hlen
  obtain ⟨i0, hi, hz0, hz1, hz2⟩ := info_parts infoB
  have HI : Hid (Try.prog.info? 42 = some i0 ∧ i0.zero = some (.agg #[.string ⟨#[]⟩, .string ⟨#[]⟩, .int .i64 0, .int .i64 0, .int .i64 0]) ∧ i0.size = 5 ∧ i0.bytes = 56) := ⟨hi, hz0, hz1, hz2⟩
  have hmk := run_make (P := Try.prog) w 39 42 i0 _ Try.underlying39 hi hz0 .i64 .i64 0 (T.length : Int) (by omega) (by omega) (by rw [hz2]; omega) (by omega)
  rw [hz1] at hmk
  simp only [Int.toNat_zero, Int.toNat_natCast] at hmk
  have hb1 : Below w.heap.size w (w.alloc (.cells (madeCells (Value.agg #[.string ⟨#[]⟩, .string ⟨#[]⟩, .int .i64 0, .int .i64 0, .int .i64 0]).cells (T.length * 5)) 42)) := (Below.refl _ w).alloc (Nat.le_refl _) _
  have hr1 : RowAt (w.alloc (.cells (madeCells (Value.agg #[.string ⟨#[]⟩, .string ⟨#[]⟩, .int .i64 0, .int .i64 0, .int .i64 0]).cells (T.length * 5)) 42)) 42 5 (.slice (some ⟨w.heap.size, 0, none⟩) 0 T.length) 0 [] := ⟨rfl, .inr ⟨w.heap.size, 0, T.length, _, rfl, heap_alloc_new w _, Nat.zero_le _, by unfold maxLen; omega, by rw [size_madeCells]; omega, by simp⟩⟩
  have HM1 : Hid (MapL Try.prog (w.alloc (.cells (madeCells (Value.agg #[.string ⟨#[]⟩, .string ⟨#[]⟩, .int .i64 0, .int .i64 0, .int .i64 0]).cells (T.length * 5)) 42)) 75 mb (T.map Bk.ent) ∧ Below w.heap.size w (w.alloc (.cells (madeCells (Value.agg #[.string ⟨#[]⟩, .string ⟨#[]⟩, .int .i64 0, .int .i64 0, .int .i64 0]).cells (T.length * 5)) 42)) ∧ RowAt (w.alloc (.cells (madeCells (Value.agg #[.string ⟨#[]⟩, .string ⟨#[]⟩, .int .i64 0, .int .i64 0, .int .i64 0]).cells (T.length * 5)) 42)) 42 5 (.slice (some ⟨w.heap.size, 0, none⟩) 0 T.length) 0 [] ∧ mb < w.heap.size ∧ w.heap.size < (w.alloc (.cells (madeCells (Value.agg #[.string ⟨#[]⟩, .string ⟨#[]⟩, .int .i64 0, .int .i64 0, .int .i64 0]).cells (T.length * 5)) 42)).heap.size) := ⟨h.alloc _, hb1, hr1, h.lt, by simp⟩
  have HS : Hid (SzL T ∧ T.length ≤ 100000) := ⟨hs, hl⟩
  clear h hs hi hz0 hz1 hz2 hb1 hr1
  generalize w.alloc (.cells (madeCells (Value.agg #[.string ⟨#[]⟩, .string ⟨#[]⟩, .int .i64 0, .int .i64 0, .int .i64 0]).cells (T.length * 5)) 42) = W1 at *
  generalize hN : T.length = N at *
  go_enter Try.func27, Try.ntmps27
  go_upto_region 2 with fail
  rename_i K2 hK2
  refine wp_region_lit ?_
  refine wpList_runTo rfl (some 9) rfl (.map (some mb)) W1 (by kernel_rfl) ?_
  simp only [Act.put, List.setIfInBounds_toArray, List.set_cons_zero, List.set_cons_succ]
  refine wpL_range W1 rfl (.tmp 9) 63 rfl 75 73 lawP Try.underlying63 mb (T.map Bk.ent) (by kernel_rfl) HM1.out.1 ?_
  intro W2 hrg hb2 hs2
  refine wpList_nil ?_
  refine hK2 _ _ ?_
  simp only [Act.put, List.setIfInBounds_toArray, List.set_cons_zero, List.set_cons_succ]
  have HT0 : Hid (TL w W2 T T [] mb W1.heap.size (.slice (some ⟨w.heap.size, 0, none⟩) 0 N)) := ⟨hrg, HM1.out.2.2.1.fr (Fr.of_below hb2 (fun _ => False)) fun _ _ => id, below_step HM1.out.2.1 hb2, fun q hq => by
    have e : w.heap.size = q := by simpa [Value.ownBlock] using hq
    have := HM1.out.2.2.2.2
    omega, HM1.out.2.2.2.1, HM1.out.2.1.size⟩
  clear hrg hb2 hs2 hK2 hmk hlen HM1
  generalize W1.heap.size = r at *
  generalize hws : w.heap.size = ws at *
  have HWs : Hid (w.heap.size = ws) := hws
  clear hws
  go_wp2
  go_loopw [3] (fun lv wr => ∃ T' D, Hid (T.Perm (D ++ T') ∧ TL w wr T T' D mb r lv ∧ lv ≠ .slice none 0 0)) (fun _ wr => wr.rangeLeft mb r)
  case atStart => exact ⟨T, [], List.Perm.refl _, HT0.out, fun e => by cases e⟩
  case round =>
    obtain ⟨T', D, HR⟩ := hrel
    clear HT0
    obtain ⟨ao, cap, rfl, _⟩ := HR.out.2.1.row.form
    have HLen : Hid (D.length + T'.length = N) := by
      have := HR.out.1.length_eq
      rw [List.length_append, hN] at this
      exact this.symm
    have HKv : Hid (∀ x ∈ T', ∀ key, keyOf Try.prog 75 key = some (Bk.ent x).1 → key = plV x) := fun x hx key hk => by
      have hz := HS.out.1 x (HR.out.1.mem_iff.2 (List.mem_append_right _ hx))
      exact lawP.inj hk (keyP x.ac x.sy hz.1 hz.2)
    go_upto_region 3 with fail
    rename_i K3 hK3
    refine wp_region_lit ?_
    refine wpL_nextM wr Bk.ent plV amV (fun _ => rfl) rfl (.tmp 10) rfl 75 lawP T' HKv.out mb r (T.map Bk.ent) (by kernel_rfl) HR.out.2.1.rg ?_ ?_
    · intro hT
      simp only [Act.put, List.setIfInBounds_toArray, List.set_cons_zero, List.set_cons_succ]
      refine wpList_runTo rfl (some 12) rfl (.bool false) wr (by kernel_rfl) ?_
      simp only [Act.put, List.setIfInBounds_toArray, List.set_cons_zero, List.set_cons_succ]
      refine wpList_nil ?_
      refine hK3 _ _ ?_
      have HP : Hid (T.Perm D) := by
        have := HR.out.1
        rwa [hT, List.append_nil] at this
      have hsort := SortFunc_any D (.slice ao D.length cap) wr HR.out.2.1.row HR.out.2.2 (by have := HLen.out; have := HS.out.2; omega)
      have HTL := HR.out.2.1
      have HTL' : Hid (TL w wr T T' D mb r (.slice ao D.length cap)) := HTL
      clear HTL HR HKv hT hK3
      go_wp2_with (go_at_call 42; fail)
      refine hsort.mono ?_
      rintro e w3 ⟨rfl, net, hrow, hperm, hpw, hfr⟩
      have HF : Hid (RowAt w3 42 5 (.slice ao D.length cap) net.length (flatL Bk.cl net) ∧ net.Perm T ∧ net.Pairwise (fun a b => ¬ ltB b a) ∧ Below w.heap.size w w3 ∧ ∀ q, (Value.slice ao D.length cap).ownBlock = some q → w.heap.size ≤ q) := ⟨hrow, hperm.trans HP.out.symm, hpw, ⟨hfr.os.trans HTL'.out.bel.os, hfr.tape.trans HTL'.out.bel.tape, hfr.output.trans HTL'.out.bel.output, Nat.le_trans HTL'.out.bel.size hfr.size, fun q hq => (hfr.block q (Nat.lt_of_lt_of_le hq HTL'.out.bel.size) (fun e => by have := (HTL'.out.low q e).1; omega)).trans (HTL'.out.bel.block q hq)⟩, fun q hq => (HTL'.out.low q hq).1⟩
      clear hrow hperm hpw hfr hsort HTL'
      go_wp2
      go_ret
      exact ⟨_, net, rfl, HF⟩
    · intro x T2 w2 hx hpm hrg hlt hfr hsz hen
      simp only [Act.put, List.setIfInBounds_toArray, List.set_cons_zero, List.set_cons_succ]
      refine wpList_runTo rfl (some 12) rfl (.bool true) w2 (by kernel_rfl) ?_
      simp only [Act.put, List.setIfInBounds_toArray, List.set_cons_zero, List.set_cons_succ]
      refine wpList_nil ?_
      refine hK3 _ _ ?_
      have HP2 : Hid (T.Perm ((D ++ [x]) ++ T2) ∧ w2.rangeLeft mb r < wr.rangeLeft mb r) := ⟨perm_move HR.out.1 hpm, hlt⟩
      have HTL2 : Hid (TL w w2 T T2 D mb r (.slice ao D.length cap)) := ⟨hrg, HR.out.2.1.row.fr hfr (fun q hq e => (HR.out.2.1.low q hq).2 e), ⟨hfr.os.trans HR.out.2.1.bel.os, hfr.tape.trans HR.out.2.1.bel.tape, hfr.output.trans HR.out.2.1.bel.output, Nat.le_trans HR.out.2.1.bel.size hfr.size, fun q hq => (hfr.block q (Nat.lt_of_lt_of_le hq HR.out.2.1.bel.size) (fun e => by have := HR.out.2.1.rlt; omega)).trans (HR.out.2.1.bel.block q hq)⟩, HR.out.2.1.low, HR.out.2.1.mlt, HR.out.2.1.rlt⟩
      have HLn : Hid (D.length + 1 ≤ N) := by
        have h1 := HLen.out
        have h2 := hpm.length_eq
        simp at h2
        show D.length + 1 ≤ N
        omega
      clear hx hpm hrg hlt hfr hsz HR HKv hK3
      unfold plV amV at hen ⊢
      go_upto_region 5 with fail
      have hbA : Below w2.heap.size w2 ((w2.alloc (.cells #[.string x.ac, .string x.sy] 75)).alloc (.cells #[.int .i64 x.q, .int .i64 x.c, .int .i64 x.f] 73)) := ((Below.refl _ w2).alloc (Nat.le_refl _) _).alloc (by simp) _
      have hpk : Blk ((w2.alloc (.cells #[.string x.ac, .string x.sy] 75)).alloc (.cells #[.int .i64 x.q, .int .i64 x.c, .int .i64 x.f] 73)) w2.heap.size 75 #[.string x.ac, .string x.sy] := (Blk.new _ _ _).alloc _
      have hak : Blk ((w2.alloc (.cells #[.string x.ac, .string x.sy] 75)).alloc (.cells #[.int .i64 x.q, .int .i64 x.c, .int .i64 x.f] 73)) (w2.heap.size + 1) 73 #[.int .i64 x.q, .int .i64 x.c, .int .i64 x.f] := Blk.new' _ _ _ (by simp)
      have HLf : Hid (((w2.alloc (.cells #[.string x.ac, .string x.sy] 75)).alloc (.cells #[.int .i64 x.q, .int .i64 x.c, .int .i64 x.f] 73)).rangeLeft mb r = w2.rangeLeft mb r) := HTL2.out.rg.left_fr (Fr.of_below hbA (fun _ => False)) id id
      have HTL3 : Hid (TL w ((w2.alloc (.cells #[.string x.ac, .string x.sy] 75)).alloc (.cells #[.int .i64 x.q, .int .i64 x.c, .int .i64 x.f] 73)) T T2 D mb r (.slice ao D.length cap)) := HTL2.out.below hbA
      clear hbA hen HTL2
      generalize (w2.alloc (.cells #[.string x.ac, .string x.sy] 75)).alloc (.cells #[.int .i64 x.q, .int .i64 x.c, .int .i64 x.f] 73) = X at *
      generalize w2.heap.size + 1 = ab at *
      generalize w2.heap.size = pb at *
      have p0 : X.cell? ⟨pb, 0, none⟩ = some (.string x.ac) := hpk.cell 0
      have p1 : X.cell? ⟨pb, 1, none⟩ = some (.string x.sy) := hpk.cell 1
      have a0 : X.cell? ⟨ab, 0, none⟩ = some (.int .i64 x.q) := hak.cell 0
      have a1 : X.cell? ⟨ab, 1, none⟩ = some (.int .i64 x.c) := hak.cell 1
      have a2 : X.cell? ⟨ab, 2, none⟩ = some (.int .i64 x.f) := hak.cell 2
      clear hpk hak
      refine wp_region_lit ?_
      refine wpList_runTo rfl (some 16) rfl (.slice ao D.length cap) X (by kernel_rfl) ?_
      simp only [Act.put, List.setIfInBounds_toArray, List.set_cons_zero, List.set_cons_succ]
      refine wpList_runTo rfl (some 17) rfl (.pointer (some ⟨pb, 0, none⟩)) X (by kernel_rfl) ?_
      simp only [Act.put, List.setIfInBounds_toArray, List.set_cons_zero, List.set_cons_succ]
      refine wpList_runTo rfl (some 18) rfl (.string x.ac) X (by clear p1 a0 a1 a2; go_simp) ?_
      simp only [Act.put, List.setIfInBounds_toArray, List.set_cons_zero, List.set_cons_succ]
      refine wpList_runTo rfl (some 19) rfl (.pointer (some ⟨pb, 1, none⟩)) X (by kernel_rfl) ?_
      simp only [Act.put, List.setIfInBounds_toArray, List.set_cons_zero, List.set_cons_succ]
      refine wpList_runTo rfl (some 20) rfl (.string x.sy) X (by clear p0 a0 a1 a2; go_simp) ?_
      simp only [Act.put, List.setIfInBounds_toArray, List.set_cons_zero, List.set_cons_succ]
      refine wpList_runTo rfl (some 21) rfl (.pointer (some ⟨ab, 0, none⟩)) X (by kernel_rfl) ?_
      simp only [Act.put, List.setIfInBounds_toArray, List.set_cons_zero, List.set_cons_succ]
      refine wpList_runTo rfl (some 22) rfl (.int .i64 x.q) X (by clear p0 p1 a1 a2; go_simp) ?_
      simp only [Act.put, List.setIfInBounds_toArray, List.set_cons_zero, List.set_cons_succ]
      refine wpList_runTo rfl (some 23) rfl (.pointer (some ⟨ab, 1, none⟩)) X (by kernel_rfl) ?_
      simp only [Act.put, List.setIfInBounds_toArray, List.set_cons_zero, List.set_cons_succ]
      refine wpList_runTo rfl (some 24) rfl (.int .i64 x.c) X (by clear p0 p1 a0 a2; go_simp) ?_
      simp only [Act.put, List.setIfInBounds_toArray, List.set_cons_zero, List.set_cons_succ]
      refine wpList_runTo rfl (some 25) rfl (.pointer (some ⟨ab, 2, none⟩)) X (by kernel_rfl) ?_
      simp only [Act.put, List.setIfInBounds_toArray, List.set_cons_zero, List.set_cons_succ]
      refine wpList_runTo rfl (some 26) rfl (.int .i64 x.f) X (by clear p0 p1 a0 a1; go_simp) ?_
      simp only [Act.put, List.setIfInBounds_toArray, List.set_cons_zero, List.set_cons_succ]
      refine wpList_runTo rfl (some 27) rfl (.agg x.cs) X (by kernel_rfl) ?_
      simp only [Act.put, List.setIfInBounds_toArray, List.set_cons_zero, List.set_cons_succ]
      refine wpList_runTo rfl (some 28) rfl (.slice (some ⟨X.heap.size, 0, none⟩) 1 1) (X.alloc (.cells x.cs 42)) (by kernel_rfl) ?_
      simp only [Act.put, List.setIfInBounds_toArray, List.set_cons_zero, List.set_cons_succ]
      have hbX : Below X.heap.size X (X.alloc (.cells x.cs 42)) := (Below.refl _ X).alloc (Nat.le_refl _) _
      have hrA : RowAt (X.alloc (.cells x.cs 42)) 42 5 (.slice ao D.length cap) D.length (flatL Bk.cl D) := HTL3.out.row.fr (Fr.of_below hbX (fun _ => False)) fun _ _ => id
      refine wpList_append_row _ rfl (.tmp 16) (.tmp 28) 39 rfl 42 i0 _ 5 56 Try.underlying39 HI.out.1 HI.out.2.1 HI.out.2.2.1 HI.out.2.2.2 (by rfl) (.slice ao D.length cap) D.length (flatL Bk.cl D) (by kernel_rfl) hrA ⟨X.heap.size, 0, none⟩ 1 1 x.cl (by kernel_rfl) (by rfl) (fun j u hj => by rw [Addr.add_mid, Nat.zero_add, (Blk.new X 42 x.cs).cell, ← Array.getElem?_toList]; exact hj) (Bk.cl_one x) (.inl (by decide)) (by have := HLn.out; have := HS.out.2; unfold maxLen; omega) (by have := HLn.out; have := HS.out.2; omega) ?_
      intro v5 w5 hrow hfr hnew
      refine wpList_runTo rfl (some 3) rfl v5 w5 (by kernel_rfl) ?_
      refine wpList_nil ?_
      simp only [Act.put, List.setIfInBounds_toArray, List.set_cons_zero, List.set_cons_succ]
      have HF : Hid (T.Perm ((D ++ [x]) ++ T2) ∧ TL w w5 T T2 (D ++ [x]) mb r v5 ∧ v5 ≠ .slice none 0 0) := ⟨HP2.out.1, HTL3.out.app hbX hrow hfr hnew, fun e => by
        obtain ⟨ao', cap', e', _⟩ := hrow.form
        rw [e] at e'
        injection e' with _ e' _
        omega⟩
      have HMs : Hid (w5.rangeLeft mb r < wr.rangeLeft mb r) := by
        have h1 := (HTL3.out.below hbX).rg.left_fr hfr (fun e => by have := (HTL3.out.low mb e).1; have := HTL3.out.mlt; omega) (fun e => (HTL3.out.low r e).2 rfl)
        have h2 := HTL3.out.rg.left_fr (Fr.of_below hbX (fun _ => False)) id id
        have h3 := HLf.out
        have h4 := HP2.out.2
        show w5.rangeLeft mb r < wr.rangeLeft mb r
        omega
      clear hrow hfr hnew hrA hbX HTL3 HP2 HLf p0 p1 a0 a1 a2
      go_wp2
      exact ⟨⟨T2, D ++ [x], HF⟩, HMs.out⟩
end Go.Proofs.Ytidhahooebepfaa
