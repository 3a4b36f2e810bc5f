/-
  HeapPlays: what All gives, gone through.
-/
import Derived.Test.YtdnhhcbabdoomaaHP7a
import Derived.Test.YtdnhhcbabdoomaaHRange2
import Derived.Test.YtdnhhcbabdoomaaHRound
import Derived.Test.YtdnhhcbabdoomaaHSort
namespace Go.Proofs.Ytdnhhcbabdoomaa
set_option linter.unusedVariables false
set_option linter.unusedSimpArgs false
open Go.RowKit Go.Great Go.Shelf
attribute [local irreducible] wpList
attribute [local go_sem] Oper.semAt_some

theorem cellB {w : World} {b : Nat} {T : TypeId} {v : Value} (h : Blk w b T #[v]) : w.cell? ⟨b, 0, none⟩ = some v := h.cell 0
theorem alG_run {op : Oper} {a : Act} {T : TypeId} {z : Value} (hT : (T = 3 ∧ z = .int .i64 0) ∨ (T = 4 ∧ z = .bool false) ∨ (T = 31 ∧ z = .slice none 0 0)) (w : World) (ho : op.op = .alloc T) : (execOp a.eval op).run Try.prog w = .ok (.value (ptr w.heap.size)) (w.alloc (.cells #[z] T)) := by
  unfold execOp
  simp only [ho]
  rcases hT with ⟨rfl, rfl⟩ | ⟨rfl, rfl⟩ | ⟨rfl, rfl⟩ <;> kernel_rfl
theorem stG_run {op : Oper} {a : Act} {w : World} {g : Nat} {v v0 : Value} {T : TypeId} (hT : (T = 3 ∧ ∃ z, v = .int .i64 z) ∨ (T = 4 ∧ ∃ z, v = .bool z) ∨ (T = 31 ∧ ∃ a n c, v = .slice a n c)) (x y : Operand) (ho : op.op = .store T x y) (hx : a.eval x = .pointer (some ⟨g, 0, none⟩)) (hy : a.eval y = v) (hb : Blk w g T #[v0]) : (execOp a.eval op).run Try.prog w = .ok .skip (w.setCell ⟨g, 0, none⟩ v) := by
  have c0 := hb.cell 0
  have f0 := hb.frozen 0
  clear hb
  unfold execOp
  simp only [ho, hx, hy]
  rcases hT with ⟨rfl, z, rfl⟩ | ⟨rfl, z, rfl⟩ | ⟨rfl, z, n, c, rfl⟩ <;> go_simp
theorem wpList_skipG {P : Program} {ops : Array Oper} {rest : List Oper} {o : Oper} {a : Act} {w : World} {Q : Exit → Act → World → Prop} (hw : Region.wanted o (yielded ops a.tmps) = false)
    (h : wpList P ops Q rest (a.put o.dst undef) w) : wpList P ops Q (o :: rest) a w :=
  wpList_step fun K hK => by rw [if_neg (by rw [hw]; exact Bool.false_ne_true)]; exact hK _ _ h
theorem eqI_run {op : Oper} {a : Act} {p : Int} (x y : Operand) (ho : op.op = .binOp .eql 3 x y 3) (hx : a.eval x = .int .i64 p) (hy : a.eval y = .int .i64 p) (w : World) : (execOp a.eval op).run Try.prog w = .ok (.value (.bool true)) w := by
  unfold execOp
  simp only [ho, hx, hy]
  go_simp
theorem ixT_run {op : Oper} {a : Act} {g o n c i : Nat} (x y : Operand) (ho : op.op = .indexAddr 31 x y) (hx : a.eval x = .slice (some ⟨g, o, none⟩) n c) (hy : a.eval y = .int .i64 (i : Int)) (hi : i < n) (w : World) : (execOp a.eval op).run Try.prog w = .ok (.value (.pointer (some ⟨g, o + i * 2, none⟩))) w := by
  have h1 : (i : Int) < (n : Int) := by omega
  have h2 : ¬ (n : Int) ≤ (i : Int) := by omega
  unfold execOp
  simp only [ho, hx, hy]
  go_simp
theorem ltT_run {op : Oper} {a : Act} {i n : Nat} (x y : Operand) (ho : op.op = .binOp .lss 3 x y 3) (hx : a.eval x = .int .i64 (i : Int)) (hy : a.eval y = .int .i64 (n : Int)) (hi : i < n) (w : World) : (execOp a.eval op).run Try.prog w = .ok (.value (.bool true)) w := by
  have h1 : (i : Int) < (n : Int) := by omega
  unfold execOp
  simp only [ho, hx, hy]
  go_simp
theorem thw_rng {w : World} {g o n c i : Nat} {l : List Th} {y : Th} (h : RowAt w 30 2 (.slice (some ⟨g, o, none⟩) n c) n (flatL thw l)) (hy : l[i]? = some y) : w.rangeAt g (o + i * 2) (#[.int .i64 y.k, .int .i64 y.g] : Array Value).toList := fun j u hu => by
  have hj : j < 2 := (List.getElem?_eq_some_iff.1 hu).1
  have q := flatL_get (f := thw) (size := 2) (fun _ => rfl) hy (k := j) hj
  have := h.cell rfl (j := i * 2 + j) (u := u) (by rw [q]; exact hu)
  rw [← Nat.add_assoc] at this
  exact this
theorem blk1 {w : World} {g : Nat} {T : TypeId} {v v0 : Value} (hb : Blk w g T #[v0]) : Fr w (w.setCell ⟨g, 0, none⟩ v) (fun b => b = g) ∧ Blk (w.setCell ⟨g, 0, none⟩ v) g T #[v] := ⟨Fr.setCell _ ⟨g, 0, none⟩ _ (fun b => b = g) rfl, hb.set 0 v⟩
section
variable {w W : World} {wb : Nat} {S : St} {col : Nat → Nat}
set_option maxRecDepth 100000 in
set_option maxHeartbeats 16000000 in
theorem goes_any (H : PW w W wb S col) {k : Nat} (hk : k < 3) (nn ch : Int) (x : Th) {Bb : Nat} (hB : Blk W Bb 25 #[ptr (S.h k)]) (hBb : w.heap.size ≤ Bb) (hC : S.C.length < 99999) :
    Calls Try.prog 85 #[ptr wb, .func (.func 47) #[] #[ptr Bb], .int .i64 (k : Int), .int .i64 nn, .int .i64 ch, .agg #[.int .i64 x.k, .int .i64 x.g]] W fun e W' => e = .returned (.bool true) ∧ Hid (Nx w W W' wb S col 1) := by
  have HH : Hid (PW w W wb S col ∧ Blk W Bb 25 #[ptr (S.h k)] ∧ S.C.length < 99999) := ⟨H, hB, hC⟩
  clear H hB hC
  refine (callsIn_wide (n := 3)).1 ?_
  refine callsIn_of_wp_marks Try.func85 rfl trivial ?_ rfl
  simp only [Try.ntmps85, List.size_toArray, List.length_cons, List.length_nil, Nat.reduceAdd, Nat.reduceSub, Array.replicate_succ, Array.replicate_zero, List.push_toArray, List.append_toArray, List.nil_append, List.cons_append]
  obtain ⟨Qf, hQf⟩ : ∃ Q, Q = bodyPostM Fence.wide 3 Try.prog Try.f85 (fun e w' => e = .returned (.bool true) ∧ Hid (Nx w W w' wb S col 1)) := ⟨_, rfl⟩
  rw [← hQf]
  have HQF : Hid (Qf = bodyPostM Fence.wide 3 Try.prog Try.f85 (fun e w' => e = .returned (.bool true) ∧ Hid (Nx w W w' wb S col 1))) := hQf
  clear hQf
  refine wpIn_wide.2 ?_
  go_upto_region 0 with fail
  rename_i K hK
  refine wp_region_lit ?_
  refine wpList_runTo rfl (some 6) rfl (.pointer (some ⟨W.heap.size, 0, none⟩)) (W.alloc (.cells #[ptr wb] 83)) (by kernel_rfl) ?_
  simp only [Act.put, List.setIfInBounds_toArray, List.set_cons_zero, List.set_cons_succ]
  have fB1 : Fr W (W.alloc (.cells #[ptr wb] 83)) (fun _ => False) := Fr.alloc _ _ _
  have kB1 : Blk (W.alloc (.cells #[ptr wb] 83)) W.heap.size 83 #[ptr wb] := Blk.new _ _ _
  obtain ⟨b6, hb6⟩ : ∃ b, b = W.heap.size := ⟨_, rfl⟩
  rw [← hb6] at kB1 ⊢
  generalize W.alloc (.cells #[ptr wb] 83) = B1 at *
  refine wpList_runTo rfl (some 8) rfl (.pointer (some ⟨B1.heap.size, 0, none⟩)) (B1.alloc (.cells #[.int .i64 (k : Int)] 3)) (by kernel_rfl) ?_
  simp only [Act.put, List.setIfInBounds_toArray, List.set_cons_zero, List.set_cons_succ]
  have fB2 : Fr B1 (B1.alloc (.cells #[.int .i64 (k : Int)] 3)) (fun _ => False) := Fr.alloc _ _ _
  have kB2 : Blk (B1.alloc (.cells #[.int .i64 (k : Int)] 3)) B1.heap.size 3 #[.int .i64 (k : Int)] := Blk.new _ _ _
  obtain ⟨b8, hb8⟩ : ∃ b, b = B1.heap.size := ⟨_, rfl⟩
  rw [← hb8] at kB2 ⊢
  generalize B1.alloc (.cells #[.int .i64 (k : Int)] 3) = B2 at *
  refine wpList_runTo rfl (some 9) rfl (.pointer (some ⟨B2.heap.size, 0, none⟩)) (B2.alloc (.cells #[.int .i64 nn] 3)) (by kernel_rfl) ?_
  simp only [Act.put, List.setIfInBounds_toArray, List.set_cons_zero, List.set_cons_succ]
  have fB3 : Fr B2 (B2.alloc (.cells #[.int .i64 nn] 3)) (fun _ => False) := Fr.alloc _ _ _
  have kB3 : Blk (B2.alloc (.cells #[.int .i64 nn] 3)) B2.heap.size 3 #[.int .i64 nn] := Blk.new _ _ _
  obtain ⟨b9, hb9⟩ : ∃ b, b = B2.heap.size := ⟨_, rfl⟩
  rw [← hb9] at kB3 ⊢
  generalize B2.alloc (.cells #[.int .i64 nn] 3) = B3 at *
  refine wpList_runTo rfl (some 10) rfl (.pointer (some ⟨B3.heap.size, 0, none⟩)) (B3.alloc (.cells #[.int .i64 ch] 3)) (by kernel_rfl) ?_
  simp only [Act.put, List.setIfInBounds_toArray, List.set_cons_zero, List.set_cons_succ]
  have fB4 : Fr B3 (B3.alloc (.cells #[.int .i64 ch] 3)) (fun _ => False) := Fr.alloc _ _ _
  have kB4 : Blk (B3.alloc (.cells #[.int .i64 ch] 3)) B3.heap.size 3 #[.int .i64 ch] := Blk.new _ _ _
  obtain ⟨b10, hb10⟩ : ∃ b, b = B3.heap.size := ⟨_, rfl⟩
  rw [← hb10] at kB4 ⊢
  generalize B3.alloc (.cells #[.int .i64 ch] 3) = B4 at *
  refine wpList_runTo rfl (some 11) rfl (.pointer (some ⟨B4.heap.size, 0, none⟩)) (B4.alloc (.cells #[.int .i64 x.k, .int .i64 x.g] 30)) (by kernel_rfl) ?_
  simp only [Act.put, List.setIfInBounds_toArray, List.set_cons_zero, List.set_cons_succ]
  have fB5 : Fr B4 (B4.alloc (.cells #[.int .i64 x.k, .int .i64 x.g] 30)) (fun _ => False) := Fr.alloc _ _ _
  have kB5 : Blk (B4.alloc (.cells #[.int .i64 x.k, .int .i64 x.g] 30)) B4.heap.size 30 #[.int .i64 x.k, .int .i64 x.g] := Blk.new _ _ _
  obtain ⟨b11, hb11⟩ : ∃ b, b = B4.heap.size := ⟨_, rfl⟩
  rw [← hb11] at kB5 ⊢
  generalize B4.alloc (.cells #[.int .i64 x.k, .int .i64 x.g] 30) = B5 at *
  refine wpList_runTo rfl (some 12) rfl (.bool false) B5 (by kernel_rfl) ?_
  simp only [Act.put, List.setIfInBounds_toArray, List.set_cons_zero, List.set_cons_succ]
  refine wpList_nil ?_
  refine hK _ _ ?_
  clear hK
  have f25 : Fr B2 B5 (fun _ => False) := (fB3.trans fB4 (e3 := fun _ => False) fun _ _ q => by rcases q with q | q <;> exact q).trans fB5 fun _ _ q => by rcases q with q | q <;> exact q
  have f15 : Fr B1 B5 (fun _ => False) := fB2.trans f25 fun _ _ q => by rcases q with q | q <;> exact q
  have f05 : Fr W B5 (fun _ => False) := fB1.trans f15 fun _ _ q => by rcases q with q | q <;> exact q
  have f35 : Fr B3 B5 (fun _ => False) := fB4.trans fB5 fun _ _ q => by rcases q with q | q <;> exact q
  have H5 : Hid (PW w B5 wb S col ∧ Blk B5 Bb 25 #[ptr (S.h k)] ∧ Fr W B5 (fun _ => False) ∧ (Blk B5 b6 83 #[ptr wb] ∧ Blk B5 b8 3 #[.int .i64 (k : Int)] ∧ Blk B5 b9 3 #[.int .i64 nn] ∧ Blk B5 b10 3 #[.int .i64 ch] ∧ Blk B5 b11 30 #[.int .i64 x.k, .int .i64 x.g]) ∧ W.heap.size ≤ b6 ∧ W.heap.size ≤ b8 ∧ W.heap.size ≤ b9 ∧ W.heap.size ≤ b10 ∧ W.heap.size ≤ b11) :=
    ⟨HH.out.1.sm f05, HH.out.2.1.fr f05 (fun q => q), f05, ⟨kB1.fr f15 (fun q => q), kB2.fr f25 (fun q => q), kB3.fr f35 (fun q => q), kB4.fr fB5 (fun q => q), kB5⟩, by omega, by have := fB1.size; omega, by have := fB1.size; have := fB2.size; omega, by have := fB1.size; have := fB2.size; have := fB3.size; omega, by have := fB1.size; have := fB2.size; have := fB3.size; have := fB4.size; omega⟩
  clear fB1 fB2 fB3 fB4 fB5 f25 f15 f05 f35 kB1 kB2 kB3 kB4 kB5 hb6 hb8 hb9 hb10 hb11
  go_upto_region 1 with fail
  go_cut [13] from 21 to 27 (fun x13 wx => ∃ b13 wv l, x13 = ptr b13 ∧ PopTo (lsB k) (liX S.C k) l [] ∧ Hid (PW w wx wb S col ∧ Blk wx Bb 25 #[ptr (S.h k)] ∧ Fr W wx (fun _ => False) ∧ (Blk wx b6 83 #[ptr wb] ∧ Blk wx b8 3 #[.int .i64 (k : Int)] ∧ Blk wx b9 3 #[.int .i64 nn] ∧ Blk wx b10 3 #[.int .i64 ch] ∧ Blk wx b11 30 #[.int .i64 x.k, .int .i64 x.g]) ∧ (Blk wx b13 31 #[wv] ∧ RowAt wx 30 2 wv l.length (flatL thw l)) ∧ W.heap.size ≤ b13 ∧ (∀ g, wv.ownBlock = some g → W.heap.size ≤ g)))
  case first => as_aux_lemma =>
    rename_i J9 K9 hJ9 hK9
    refine wp_mono (Q := Exit.then K9 (fun _ _ _ => False)) ?_ (fun e a w hh => by cases e <;> first | exact hh | exact hh.elim)
    refine wp_region_held (S := fun w' => Blk w' b6 83 #[ptr wb] ∧ Blk w' b8 3 #[.int .i64 (k : Int)] ∧ Blk w' wb 89 S.cs) (by kernel_rfl) ?_
    change wpAnyH _ _ _ _ _ _ _ _ (World.drew _)
    have fd : Fr B5 B5.drew (fun _ => False) := (Fr.refl B5 _).drew
    generalize B5.drew = Z5 at *
    have hS : Blk Z5 b6 83 #[ptr wb] ∧ Blk Z5 b8 3 #[.int .i64 (k : Int)] ∧ Blk Z5 wb 89 S.cs := ⟨H5.out.2.2.2.1.1.fr fd fun q => q, H5.out.2.2.2.1.2.1.fr fd fun q => q, H5.out.1.bw.fr fd fun q => q⟩
    refine takeR (i := 0) (v := ptr wb) (some 21) rfl rfl (by kernel_rfl) (by kernel_rfl) (by kernel_rfl) (fun _ _ _ h => h) (Or.inl ⟨by kernel_rfl, fun w' hSw => by exact ldC_run (by unfold LC; simp) (.tmp 6) rfl (by kernel_rfl) (cellB hSw.1)⟩) hS ?_
    simp only [Act.put, List.setIfInBounds_toArray, List.set_cons_zero, List.set_cons_succ]
    refine takeR (i := 1) (v := .int .i64 (k : Int)) (some 22) rfl rfl (by kernel_rfl) (by kernel_rfl) (by kernel_rfl) (fun _ _ _ h => h) (Or.inl ⟨by kernel_rfl, fun w' hSw => by exact ldC_run (by unfold LC; simp) (.tmp 8) rfl (by kernel_rfl) (cellB hSw.2.1)⟩) hS ?_
    simp only [Act.put, List.setIfInBounds_toArray, List.set_cons_zero, List.set_cons_succ]
    refine takeR (i := 2) (v := ptr wb) (some 23) rfl rfl (by kernel_rfl) (by kernel_rfl) (by kernel_rfl) (fun _ _ _ h => h) (Or.inl ⟨by kernel_rfl, fun w' hSw => by kernel_rfl⟩) hS ?_
    simp only [Act.put, List.setIfInBounds_toArray, List.set_cons_zero, List.set_cons_succ]
    refine takeR (i := 3) (v := .pointer (some ⟨wb, 3, none⟩)) (some 24) rfl rfl (by kernel_rfl) (by kernel_rfl) (by kernel_rfl) (fun _ _ _ h => h) (Or.inl ⟨by kernel_rfl, fun w' hSw => by kernel_rfl⟩) hS ?_
    simp only [Act.put, List.setIfInBounds_toArray, List.set_cons_zero, List.set_cons_succ]
    refine takeR (i := 4) (v := .pointer (some ⟨wb, 3 + k, none⟩)) (some 25) rfl rfl (by kernel_rfl) (by kernel_rfl) (by kernel_rfl) (fun _ _ _ h => h) (Or.inl ⟨by kernel_rfl, fun w' hSw => by exact ixW_run (.inr rfl) (.tmp 24) (.tmp 22) rfl (by kernel_rfl) (by kernel_rfl) hk _⟩) hS ?_
    simp only [Act.put, List.setIfInBounds_toArray, List.set_cons_zero, List.set_cons_succ]
    refine takeR (i := 5) (v := ptr (S.r k)) (some 26) rfl rfl (by kernel_rfl) (by kernel_rfl) (by kernel_rfl) (fun _ _ _ h => h) (Or.inl ⟨by kernel_rfl, fun w' hSw => by exact ldC_run (by unfold LC; simp) (.tmp 25) rfl (by kernel_rfl) ((hSw.2.2.cell _).trans (cs_r S hk))⟩) hS ?_
    simp only [Act.put, List.setIfInBounds_toArray, List.set_cons_zero, List.set_cons_succ]
    refine wpAnyH_ready (rs := [6, 7]) (by kernel_rfl) (by simp) ?_
    refine AllReadyH.cons rfl (fun K1 hK1 => ?_) (AllReadyH.cons rfl (fun K1 hK1 => ?_) AllReadyH.nil)
    · skip
      rw [if_pos (by kernel_rfl)]
      have hc := rAll_any ((H5.out.1.rh k hk).sm fd) hk
      rw [liveR] at hc
      refine callR (d := some 27) rfl 86 #[ptr (S.r k)] (by kernel_rfl) hc ?_
      clear hc
      rintro ee z4 ⟨wv, l, rfl, hpo, hro, how, f4⟩
      refine ⟨_, rfl, ?_⟩
      have hS4 : Blk z4 b6 83 #[ptr wb] ∧ Blk z4 b8 3 #[.int .i64 (k : Int)] ∧ Blk z4 wb 89 S.cs := ⟨hS.1.fr f4 fun q => q, hS.2.1.fr f4 fun q => q, hS.2.2.fr f4 fun q => q⟩
      refine hK1.out _ _ hS4 (fun _ => ?_)
      clear hK1
      simp only [Act.put, List.setIfInBounds_toArray, List.set_cons_zero, List.set_cons_succ]
      refine wpAnyH_ready (rs := [7]) (by kernel_rfl) (by simp) ?_
      refine AllReadyH.cons rfl (fun K1 hK1 => ?_) AllReadyH.nil
      rw [if_pos (by kernel_rfl)]
      have f5 : Fr z4 (z4.alloc (.cells #[.slice none 0 0] 31)) (fun _ => False) := Fr.alloc _ _ _
      refine valR (d := some 13) rfl (ptr z4.heap.size) (alG_run (.inr (.inr ⟨rfl, rfl⟩)) z4 rfl) ?_
      obtain ⟨b13, hb13⟩ : ∃ b, b = z4.heap.size := ⟨_, rfl⟩
      have kb13 : Blk (z4.alloc (.cells #[.slice none 0 0] 31)) b13 31 #[.slice none 0 0] := by rw [hb13]; exact Blk.new _ _ _
      rw [← hb13]
      generalize z4.alloc (.cells #[.slice none 0 0] 31) = z5 at *
      have f35 : Fr B5 z5 (fun _ => False) := (fd.trans f4 (e3 := fun _ => False) fun _ _ q => by rcases q with q | q <;> exact q).trans f5 fun _ _ q => by rcases q with q | q <;> exact q
      have hro := hro.fr f5 fun _ _ q => q
      have how : ∀ g, wv.ownBlock = some g → B5.heap.size ≤ g := fun g hg => Nat.le_trans fd.size (how g hg)
      have hb13' : B5.heap.size ≤ b13 := by have := fd.size; have := f4.size; omega
      have hS5 : Blk z5 b6 83 #[ptr wb] ∧ Blk z5 b8 3 #[.int .i64 (k : Int)] ∧ Blk z5 wb 89 S.cs := ⟨hS4.1.fr f5 fun q => q, hS4.2.1.fr f5 fun q => q, hS4.2.2.fr f5 fun q => q⟩
      refine hK1.out _ _ hS5 (fun _ => ?_)
      clear hK1
      simp only [Act.put, List.setIfInBounds_toArray, List.set_cons_zero, List.set_cons_succ]
      refine wpAnyH_ready (rs := [8]) (by kernel_rfl) (by simp) ?_
      refine AllReadyH.cons rfl (fun K1 hK1 => ?_) AllReadyH.nil
      rw [if_pos (by kernel_rfl)]
      have fst := blk1 (v := wv) kb13
      obtain ⟨ao, cp, ev, hcp⟩ := hro.form
      clear hcp
      refine skipR (d := none) rfl (w' := z5.setCell ⟨b13, 0, none⟩ wv) (stG_run (.inr (.inr ⟨rfl, _, _, _, ev⟩)) (.tmp 13) (.tmp 27) rfl (by kernel_rfl) (by kernel_rfl) kb13) ?_
      generalize z5.setCell ⟨b13, 0, none⟩ wv = z6 at *
      have HX : Hid (PW w z6 wb S col ∧ Blk z6 Bb 25 #[ptr (S.h k)] ∧ Fr W z6 (fun _ => False) ∧ (Blk z6 b6 83 #[ptr wb] ∧ Blk z6 b8 3 #[.int .i64 (k : Int)] ∧ Blk z6 b9 3 #[.int .i64 nn] ∧ Blk z6 b10 3 #[.int .i64 ch] ∧ Blk z6 b11 30 #[.int .i64 x.k, .int .i64 x.g]) ∧ (Blk z6 b13 31 #[wv] ∧ RowAt z6 30 2 wv l.length (flatL thw l)) ∧ W.heap.size ≤ b13 ∧ (∀ g, wv.ownBlock = some g → W.heap.size ≤ g)) := by
        have h := H5.out
        have o6 : ∀ b, b < B5.heap.size → ¬ b = b13 := fun b q e => by omega
        refine ⟨(h.1.sm f35).frT fst.1 kb13 (by unfold freeT; decide) (by have := h.1.fr.size; omega), (h.2.1.fr f35 fun q => q).fr fst.1 (o6 _ h.2.1.lt), (h.2.2.1.trans f35 (e3 := fun _ => False) fun _ _ q => by rcases q with q | q <;> exact q).trans fst.1 fun b hb q => by rcases q with q | q; exact q; have := h.2.2.1.size; omega, ⟨(h.2.2.2.1.1.fr f35 fun q => q).fr fst.1 (o6 _ h.2.2.2.1.1.lt), (h.2.2.2.1.2.1.fr f35 fun q => q).fr fst.1 (o6 _ h.2.2.2.1.2.1.lt), (h.2.2.2.1.2.2.1.fr f35 fun q => q).fr fst.1 (o6 _ h.2.2.2.1.2.2.1.lt), (h.2.2.2.1.2.2.2.1.fr f35 fun q => q).fr fst.1 (o6 _ h.2.2.2.1.2.2.2.1.lt), (h.2.2.2.1.2.2.2.2.fr f35 fun q => q).fr fst.1 (o6 _ h.2.2.2.1.2.2.2.2.lt)⟩, ⟨fst.2, hro.fr fst.1 fun g hg e => hro.ne_type kb13 (by decide) (e ▸ hg)⟩, by have := h.2.2.1.size; omega, fun g hg => by have := how g hg; have := h.2.2.1.size; omega⟩
      have hS6 : Blk z6 b6 83 #[ptr wb] ∧ Blk z6 b8 3 #[.int .i64 (k : Int)] ∧ Blk z6 wb 89 S.cs := ⟨HX.out.2.2.2.1.1, HX.out.2.2.2.1.2.1, HX.out.1.bw⟩
      refine hK1.out _ _ hS6 (fun _ => ?_)
      clear hK1
      simp only [Act.put, List.setIfInBounds_toArray, List.set_cons_zero, List.set_cons_succ]
      refine wpAnyH_done (by kernel_rfl) ?_ _
      first
        | refine hK9 _ _ (hJ9 _ _ ?_)
        | refine hJ9 _ _ ?_
      repeat apply Exists.intro
      exact ⟨⟨b13, wv, l, rfl, hpo, HX⟩, rfl⟩
    · skip
      rw [if_pos (by kernel_rfl)]
      have f4 : Fr Z5 (Z5.alloc (.cells #[.slice none 0 0] 31)) (fun _ => False) := Fr.alloc _ _ _
      refine valR (d := some 13) rfl (ptr Z5.heap.size) (alG_run (.inr (.inr ⟨rfl, rfl⟩)) Z5 rfl) ?_
      obtain ⟨b13, hb13⟩ : ∃ b, b = Z5.heap.size := ⟨_, rfl⟩
      have kb4 : Blk (Z5.alloc (.cells #[.slice none 0 0] 31)) b13 31 #[.slice none 0 0] := by rw [hb13]; exact Blk.new _ _ _
      rw [← hb13]
      generalize Z5.alloc (.cells #[.slice none 0 0] 31) = z4 at *
      have hS4 : Blk z4 b6 83 #[ptr wb] ∧ Blk z4 b8 3 #[.int .i64 (k : Int)] ∧ Blk z4 wb 89 S.cs := ⟨hS.1.fr f4 fun q => q, hS.2.1.fr f4 fun q => q, hS.2.2.fr f4 fun q => q⟩
      have fd4 : Fr B5 z4 (fun _ => False) := fd.trans f4 fun _ _ q => by rcases q with q | q <;> exact q
      refine hK1.out _ _ hS4 (fun _ => ?_)
      clear hK1
      simp only [Act.put, List.setIfInBounds_toArray, List.set_cons_zero, List.set_cons_succ]
      refine wpAnyH_ready (rs := [6]) (by kernel_rfl) (by simp) ?_
      refine AllReadyH.cons rfl (fun K1 hK1 => ?_) AllReadyH.nil
      rw [if_pos (by kernel_rfl)]
      have hc := rAll_any ((H5.out.1.rh k hk).sm fd4) hk
      rw [liveR] at hc
      refine callR (d := some 27) rfl 86 #[ptr (S.r k)] (by kernel_rfl) hc ?_
      clear hc
      rintro ee z5 ⟨wv, l, rfl, hpo, hro, how, f5⟩
      refine ⟨_, rfl, ?_⟩
      have f35 : Fr B5 z5 (fun _ => False) := fd4.trans f5 fun _ _ q => by rcases q with q | q <;> exact q
      have kb13 := kb4.fr f5 fun q => q
      have how : ∀ g, wv.ownBlock = some g → B5.heap.size ≤ g := fun g hg => Nat.le_trans fd4.size (how g hg)
      have hb13' : B5.heap.size ≤ b13 := by have := fd.size; omega
      have hS5 : Blk z5 b6 83 #[ptr wb] ∧ Blk z5 b8 3 #[.int .i64 (k : Int)] ∧ Blk z5 wb 89 S.cs := ⟨hS4.1.fr f5 fun q => q, hS4.2.1.fr f5 fun q => q, hS4.2.2.fr f5 fun q => q⟩
      refine hK1.out _ _ hS5 (fun _ => ?_)
      clear hK1
      simp only [Act.put, List.setIfInBounds_toArray, List.set_cons_zero, List.set_cons_succ]
      refine wpAnyH_ready (rs := [8]) (by kernel_rfl) (by simp) ?_
      refine AllReadyH.cons rfl (fun K1 hK1 => ?_) AllReadyH.nil
      rw [if_pos (by kernel_rfl)]
      have fst := blk1 (v := wv) kb13
      obtain ⟨ao, cp, ev, hcp⟩ := hro.form
      clear hcp
      refine skipR (d := none) rfl (w' := z5.setCell ⟨b13, 0, none⟩ wv) (stG_run (.inr (.inr ⟨rfl, _, _, _, ev⟩)) (.tmp 13) (.tmp 27) rfl (by kernel_rfl) (by kernel_rfl) kb13) ?_
      generalize z5.setCell ⟨b13, 0, none⟩ wv = z6 at *
      have HX : Hid (PW w z6 wb S col ∧ Blk z6 Bb 25 #[ptr (S.h k)] ∧ Fr W z6 (fun _ => False) ∧ (Blk z6 b6 83 #[ptr wb] ∧ Blk z6 b8 3 #[.int .i64 (k : Int)] ∧ Blk z6 b9 3 #[.int .i64 nn] ∧ Blk z6 b10 3 #[.int .i64 ch] ∧ Blk z6 b11 30 #[.int .i64 x.k, .int .i64 x.g]) ∧ (Blk z6 b13 31 #[wv] ∧ RowAt z6 30 2 wv l.length (flatL thw l)) ∧ W.heap.size ≤ b13 ∧ (∀ g, wv.ownBlock = some g → W.heap.size ≤ g)) := by
        have h := H5.out
        have o6 : ∀ b, b < B5.heap.size → ¬ b = b13 := fun b q e => by omega
        refine ⟨(h.1.sm f35).frT fst.1 kb13 (by unfold freeT; decide) (by have := h.1.fr.size; omega), (h.2.1.fr f35 fun q => q).fr fst.1 (o6 _ h.2.1.lt), (h.2.2.1.trans f35 (e3 := fun _ => False) fun _ _ q => by rcases q with q | q <;> exact q).trans fst.1 fun b hb q => by rcases q with q | q; exact q; have := h.2.2.1.size; omega, ⟨(h.2.2.2.1.1.fr f35 fun q => q).fr fst.1 (o6 _ h.2.2.2.1.1.lt), (h.2.2.2.1.2.1.fr f35 fun q => q).fr fst.1 (o6 _ h.2.2.2.1.2.1.lt), (h.2.2.2.1.2.2.1.fr f35 fun q => q).fr fst.1 (o6 _ h.2.2.2.1.2.2.1.lt), (h.2.2.2.1.2.2.2.1.fr f35 fun q => q).fr fst.1 (o6 _ h.2.2.2.1.2.2.2.1.lt), (h.2.2.2.1.2.2.2.2.fr f35 fun q => q).fr fst.1 (o6 _ h.2.2.2.1.2.2.2.2.lt)⟩, ⟨fst.2, hro.fr fst.1 fun g hg e => hro.ne_type kb13 (by decide) (e ▸ hg)⟩, by have := h.2.2.1.size; omega, fun g hg => by have := how g hg; have := h.2.2.1.size; omega⟩
      have hS6 : Blk z6 b6 83 #[ptr wb] ∧ Blk z6 b8 3 #[.int .i64 (k : Int)] ∧ Blk z6 wb 89 S.cs := ⟨HX.out.2.2.2.1.1, HX.out.2.2.2.1.2.1, HX.out.1.bw⟩
      refine hK1.out _ _ hS6 (fun _ => ?_)
      clear hK1
      simp only [Act.put, List.setIfInBounds_toArray, List.set_cons_zero, List.set_cons_succ]
      refine wpAnyH_done (by kernel_rfl) ?_ _
      first
        | refine hK9 _ _ (hJ9 _ _ ?_)
        | refine hJ9 _ _ ?_
      repeat apply Exists.intro
      exact ⟨⟨b13, wv, l, rfl, hpo, HX⟩, rfl⟩
  case rest =>
    obtain ⟨b13, wv, l, rfl, hpo, HR1⟩ := hcut
    have HPO : Hid (PopTo (lsB k) (liX S.C k) l []) := hpo
    have HL5 : Hid (W.heap.size ≤ b6 ∧ W.heap.size ≤ b8 ∧ W.heap.size ≤ b9 ∧ W.heap.size ≤ b10 ∧ W.heap.size ≤ b11) := H5.out.2.2.2.2
    clear H5 hpo
    go_upto_region 2 with fail
    rename_i K hK
    refine wp_region_lit ?_
    refine wpList_runTo rfl (some 14) rfl (ptr wc.heap.size) (wc.alloc (.cells #[.int .i64 0] 3)) (by exact alG_run (.inl ⟨rfl, rfl⟩) wc rfl) ?_
    simp only [Act.put, List.setIfInBounds_toArray, List.set_cons_zero, List.set_cons_succ]
    have fC1 : Fr wc (wc.alloc (.cells #[.int .i64 0] 3)) (fun _ => False) := Fr.alloc _ _ _
    obtain ⟨b14, hb14⟩ : ∃ b, b = wc.heap.size := ⟨_, rfl⟩
    have kb14 : Blk (wc.alloc (.cells #[.int .i64 0] 3)) b14 3 #[.int .i64 0] := by rw [hb14]; exact Blk.new _ _ _
    rw [← hb14]
    generalize wc.alloc (.cells #[.int .i64 0] 3) = C1 at *
    have fC2 := blk1 (v := .int .i64 0) kb14
    refine wpList_plain rfl fun K8 hK8 => ?_
    refine skipR (d := none) rfl (w' := C1.setCell ⟨b14, 0, none⟩ (.int .i64 0)) (stG_run (.inl ⟨rfl, _, rfl⟩) (.tmp 14) (.const (.int .i64 0)) rfl (by kernel_rfl) (by kernel_rfl) kb14) ?_
    generalize C1.setCell ⟨b14, 0, none⟩ (.int .i64 0) = C2 at *
    refine hK8 _ _ ?_
    clear hK8
    try simp only [Act.put]
    refine wpList_nil ?_
    refine hK _ _ ?_
    clear hK
    go_upto_region 3 with fail
    rename_i K hK
    refine wp_region_lit ?_
    refine wpList_runTo rfl (some 15) rfl (ptr C2.heap.size) (C2.alloc (.cells #[.bool false] 4)) (by exact alG_run (.inr (.inl ⟨rfl, rfl⟩)) C2 rfl) ?_
    simp only [Act.put, List.setIfInBounds_toArray, List.set_cons_zero, List.set_cons_succ]
    have fC3 : Fr C2 (C2.alloc (.cells #[.bool false] 4)) (fun _ => False) := Fr.alloc _ _ _
    obtain ⟨b15, hb15⟩ : ∃ b, b = C2.heap.size := ⟨_, rfl⟩
    have kb15 : Blk (C2.alloc (.cells #[.bool false] 4)) b15 4 #[.bool false] := by rw [hb15]; exact Blk.new _ _ _
    rw [← hb15]
    generalize C2.alloc (.cells #[.bool false] 4) = C3 at *
    have fC4 := blk1 (v := .bool true) kb15
    refine wpList_plain rfl fun K8 hK8 => ?_
    refine skipR (d := none) rfl (w' := C3.setCell ⟨b15, 0, none⟩ (.bool true)) (stG_run (.inr (.inl ⟨rfl, _, rfl⟩)) (.tmp 15) (.const (.bool true)) rfl (by kernel_rfl) (by kernel_rfl) kb15) ?_
    generalize C3.setCell ⟨b15, 0, none⟩ (.bool true) = C4 at *
    refine hK8 _ _ ?_
    clear hK8
    try simp only [Act.put]
    refine wpList_nil ?_
    refine hK _ _ ?_
    clear hK
    have HLO : Hid (W.heap.size ≤ b6 ∧ W.heap.size ≤ b8 ∧ W.heap.size ≤ b9 ∧ W.heap.size ≤ b10 ∧ W.heap.size ≤ b11 ∧ W.heap.size ≤ b13 ∧ W.heap.size ≤ b14 ∧ W.heap.size ≤ b15 ∧ (∀ g, wv.ownBlock = some g → W.heap.size ≤ g) ∧ b8 < b14 ∧ b9 < b14 ∧ b10 < b14) := by
      have h := HR1.out
      have l5 := HL5.out
      have s0 := h.2.2.1.size
      have s1 := fC1.size
      have s2 := fC2.1.size
      exact ⟨l5.1, l5.2.1, l5.2.2.1, l5.2.2.2.1, l5.2.2.2.2, h.2.2.2.2.2.1, by omega, by omega, h.2.2.2.2.2.2, by have := h.2.2.2.1.2.1.lt; omega, by have := h.2.2.2.1.2.2.1.lt; omega, by have := h.2.2.2.1.2.2.2.1.lt; omega⟩
    have fz : Fr wc C4 (fun b => b = b14 ∨ b = b15) := ((fC1.trans fC2.1 (e3 := fun b => b = b14) fun _ _ q => by rcases q with q | q; exact q.elim; exact q).trans fC3 (e3 := fun b => b = b14) fun _ _ q => by rcases q with q | q; exact q; exact q.elim).trans fC4.1 fun _ _ q => q
    have fz0 : Fr wc C4 (fun _ => False) := fz.mono fun b hb q => by have := fC1.size; have := fC2.1.size; omega
    have H4 : Hid (PW w C4 wb S col ∧ Blk C4 Bb 25 #[ptr (S.h k)] ∧ Fr W C4 (fun _ => False) ∧ (Blk C4 b6 83 #[ptr wb] ∧ Blk C4 b8 3 #[.int .i64 (k : Int)] ∧ Blk C4 b9 3 #[.int .i64 nn] ∧ Blk C4 b10 3 #[.int .i64 ch] ∧ Blk C4 b11 30 #[.int .i64 x.k, .int .i64 x.g]) ∧ (Blk C4 b13 31 #[wv] ∧ RowAt C4 30 2 wv l.length (flatL thw l)) ∧ Blk C4 b14 3 #[.int .i64 0] ∧ Blk C4 b15 4 #[.bool true]) := by
      have h := HR1.out
      exact ⟨h.1.sm fz0, h.2.1.fr fz0 (fun q => q), h.2.2.1.trans fz0 fun _ _ q => by rcases q with q | q <;> exact q, ⟨h.2.2.2.1.1.fr fz0 fun q => q, h.2.2.2.1.2.1.fr fz0 fun q => q, h.2.2.2.1.2.2.1.fr fz0 fun q => q, h.2.2.2.1.2.2.2.1.fr fz0 fun q => q, h.2.2.2.1.2.2.2.2.fr fz0 fun q => q⟩, ⟨h.2.2.2.2.1.1.fr fz0 fun q => q, h.2.2.2.2.1.2.fr fz0 fun _ _ q => q⟩, (fC2.2.fr fC3 fun q => q).fr fC4.1 fun e => by have := fC2.2.lt; omega, fC4.2⟩
    clear HR1 HL5 fz fz0 fC1 fC2 fC3 fC4 kb14 kb15 hb14 hb15
    go_upto_region 4 with fail
    rename_i K hK
    refine wp_region_lit ?_
    refine wpList_runTo rfl (some 28) rfl (.func (.func 47) #[] #[ptr Bb]) C4 (by kernel_rfl) ?_
    simp only [Act.put, List.setIfInBounds_toArray, List.set_cons_zero, List.set_cons_succ]
    refine wpList_nil ?_
    refine hK _ _ ?_
    clear hK
    go_wp2
    have HG : Hid (GO w W C4 wb S b6 b8 b9 b10 b11 b13 b14 b15 k nn ch x wv l S col C4 0 0) := by
      have h := H4.out
      have o := HLO.out
      exact ⟨h.1, ⟨rfl, rfl⟩, Nat.le_refl _, fun b q => .inl q, h.2.2.1.mono fun _ _ q => q.elim, h.2.2.2.1, h.2.2.2.2.1.1, h.2.2.2.2.1.2, h.2.2.2.2.2.1, h.2.2.2.2.2.2, ⟨h.2.2.2.1.1.lt, h.2.2.2.1.2.1.lt, h.2.2.2.1.2.2.1.lt, h.2.2.2.1.2.2.2.1.lt, h.2.2.2.1.2.2.2.2.lt, h.2.2.2.2.1.1.lt, h.2.2.2.2.2.1.lt, h.2.2.2.2.2.2.lt, fun g hg => (h.2.2.2.2.1.2.lt hg).1⟩, ⟨o.2.2.2.2.2.2.1, o.2.2.2.2.2.2.2.1, o.2.2.2.2.2.2.2.2.2⟩, Nat.le_refl _, h.2.2.1.size⟩
    have HW0 : Hid (w.heap.size ≤ W.heap.size) := HH.out.1.fr.size
    have HBB : Hid (Blk C4 Bb 25 #[ptr (S.h k)]) := H4.out.2.1
    clear H4 HLO
    refine (wpIn_wide (n := 3)).1 ?_
    refine range_law2 (n := 3) (by decide) (gf := 47) (lb := #[ptr Bb]) rfl cfA (all_itr k (S.h k) Bb (liX S.C k)) ?hC (fun _ => rfl)
      (fun pre W1 M => ∃ S1 col1 c, c ≤ 1 ∧ (c = 1 → ch < (pre.length : Int)) ∧ GO w W C4 wb S b6 b8 b9 b10 b11 b13 b14 b15 k nn ch x wv l S1 col1 W1 pre.length c ∧ (∀ b, M b ↔ b < C4.heap.size ∨ owns wb S1 b) ∧ ∀ b, owns wb S1 b → b < C4.heap.size ∨ C4.heap.size + 2 ≤ b)
      (fun cd pre W1 => cd = .exit 0 ∧ ∃ S1 col1, GO w W C4 wb S b6 b8 b9 b10 b11 b13 b14 b15 k nn ch x wv l S1 col1 W1 (pre.length - 1) 1 ∧ nn = ((pre.length - 1 : Nat) : Int) ∧ ∀ b, owns wb S1 b → b < C4.heap.size ∨ C4.heap.size + 2 ≤ b)
      ⟨?hA1, ?hA2⟩ ?hIx (fun b => b < C4.heap.size ∨ owns wb S b) ⟨S, col, 0, by decide, by simp, HG.out, fun _ => Iff.rfl, fun b q => .inl (HG.out.pw.oLt q)⟩
      (fun y a' W1 => ∃ b16, Blk W1 b16 30 #[.int .i64 y.k, .int .i64 y.g] ∧ C4.heap.size ≤ b16 ∧ a' = { tmps := #[ptr wb, .func (.func 47) #[] #[ptr Bb], .int .i64 (k : Int), .int .i64 nn, .int .i64 ch, .agg #[.int .i64 x.k, .int .i64 x.g], ptr b6, undef, ptr b8, ptr b9, ptr b10, ptr b11, .bool false, ptr b13, ptr b14, ptr b15, ptr b16, undef, undef, undef, undef, u21, u22, u23, u24, u25, u26, u27, .func (.func 47) #[] #[ptr Bb], .agg #[.int .i64 y.k, .int .i64 y.g], undef, undef, undef, undef, undef, undef, undef, undef, undef, undef, undef, undef, undef, undef, undef, undef, undef, undef, undef, undef, undef, undef, undef, undef, undef, undef, undef, undef, undef, undef, undef, undef, undef, undef, undef, undef, undef, undef, undef, undef, undef, undef, undef, undef, undef, undef, undef, undef, undef, undef, undef, undef, undef, undef, undef, undef, undef, undef, undef, undef, undef, undef, undef, undef, undef, undef, undef, undef, undef], defers := [] })
      ?hAx ?hassign ?hbody ?hdone ?hstop
    case hC =>
      intro q q'
      have F2 : Fr C4 ((C4.alloc q).alloc q') (fun _ => False) := (Fr.alloc _ _ (fun _ => False)).trans (Fr.alloc _ _ (fun _ => False)) fun _ _ q => by rcases q with q | q <;> exact q
      exact ⟨_, _, _, _, (HG.out.pw.hp k hk).sm F2, (HBB.out.alloc _).alloc _, Lk_x _ _⟩
    case hA1 =>
      rintro pre W1 W2 M e ⟨S1, col1, c, q1, q2, G, hM, ho⟩ hf hn
      exact ⟨S1, col1, c, q1, q2, G.abid HW0.out hf fun b q r => hn b q ((hM b).2 r), hM, ho⟩
    case hA2 =>
      rintro pre W1 M b ⟨S1, col1, c, q1, q2, G, hM, ho⟩ hb
      rcases (hM b).1 hb with q | q
      · exact Nat.lt_of_lt_of_le q G.sz
      · exact G.pw.oLt q
    case hIx =>
      rintro cd pre W1 W2 ⟨q1, S1, col1, G, q2, q3⟩ hf
      exact ⟨q1, S1, col1, G.abid HW0.out hf fun b q r => by
        rcases r with r | r
        · omega
        · have := q3 b r; omega, q2, q3⟩
    case hAx =>
      rintro y a' W1 W2 r ⟨b16, hb, hl, he⟩ hr hf
      refine ⟨b16, hb.fr hf fun e => ?_, hl, he⟩
      rw [← e] at hr
      unfold Blk at hb
      rw [hb] at hr
      cases hr
    case hassign => as_aux_lemma =>
      intro pre y W1 M K hi hK
      dsimp only [encT]
      gi_wp2
      obtain ⟨S1, col1, c, _, _, G, _⟩ := hi
      exact hK _ _ (Fr.alloc _ _ _) ⟨W1.heap.size, Blk.new _ _ _, G.sz, rfl⟩
    case hbody => as_aux_lemma =>
      rintro pre y a' W1 M ⟨S1, col1, c, hc1, hc2, G, hM, ho2⟩ ⟨b16, hb16, hl16, rfl⟩ ⟨rest, hsp⟩ ⟨rr, hrr⟩
      have hsz2 : C4.heap.size + 2 ≤ W1.heap.size := (Array.getElem?_eq_some_iff.1 hrr).1
      obtain ⟨i, hi⟩ : ∃ i, i = pre.length := ⟨_, rfl⟩
      have hly : l[i]? = some y ∧ i < l.length := by
        have h1 := hsp.len
        have h2 := HPO.out.len
        rw [List.length_append, List.length_singleton] at h1
        rw [List.length_nil] at h2
        have hil : i < l.length := by omega
        obtain ⟨s1, hs1⟩ := HPO.out.take i (by omega)
        obtain ⟨s2, hs2⟩ := hsp.take i (by rw [List.length_append, List.length_singleton]; omega)
        have e1 : (pre ++ [y]).take i = l.take i := (hs2.det hs1 (by rw [List.length_take, List.length_take, List.length_append, List.length_singleton]; omega)).1
        rw [hi, List.take_left'] at e1
        · refine ⟨HPO.out.next (rest := []) (i := i) (rest' := rest) ?_ hil, hil⟩
          rw [hi, ← e1]
          exact hsp
        · rfl
      have HM : Hid ((∀ b, M b ↔ b < C4.heap.size ∨ owns wb S1 b) ∧ (∀ b, owns wb S1 b → b < C4.heap.size ∨ C4.heap.size + 2 ≤ b) ∧ C4.heap.size + 2 ≤ W1.heap.size ∧ c ≤ 1 ∧ (c = 1 → ch < (i : Int)) ∧ i = pre.length ∧ l[i]? = some y ∧ i < l.length ∧ l.length ≤ 100000) := ⟨hM, ho2, hsz2, hc1, by rw [hi]; exact hc2, hi, hly.1, hly.2, by have h2 := HPO.out.len; have := G.ln; have := HH.out.2.2; rw [List.length_nil] at h2; unfold liX at h2; rw [List.length_map] at h2; have := List.length_filter_le (isL k) S.C; omega⟩
      rw [← hi] at G
      have HG1 : Hid (GO w W C4 wb S b6 b8 b9 b10 b11 b13 b14 b15 k nn ch x wv l S1 col1 W1 i c ∧ BD C4 W1 W1 wb S1 S1 ∧ Blk W1 b16 30 #[.int .i64 y.k, .int .i64 y.g] ∧ C4.heap.size ≤ b16) := ⟨G, ⟨Fr.refl _ _, fun _ q => .inl q⟩, hb16, hl16⟩
      have hib : i < 100000 := by have := HM.out; omega
      have c14 := cellB G.i14
      have c9 := cellB G.bx.2.2.1
      clear hi hM ho2 hsz2 hc1 hc2 G hb16 hl16 hsp hrr hly HG
      by_cases hin : (i : Int) = nn
      · have e1 : ((i : Int) == nn) = true := by simp [hin]
        gi_wp2
        refine ⟨⟨rfl, S1, col1, ?_, ?_, HM.out.2.1⟩, Fr.refl _ _⟩
        · have G := HG1.out.1
          rw [List.length_append, List.length_singleton, Nat.add_sub_cancel, ← HM.out.2.2.2.2.2.1]
          exact { G with ln := by have := G.ln; have := HM.out; omega }
        · rw [List.length_append, List.length_singleton, Nat.add_sub_cancel, ← HM.out.2.2.2.2.2.1]
          exact hin.symm
      have e1 : ((i : Int) == nn) = false := by simp [hin]
      have c10 := cellB HG1.out.1.bx.2.2.2.1
      obtain ⟨gw, ow, cw, cur, hwv, _⟩ := HG1.out.1.wr.more (by have := HM.out; omega)
      obtain ⟨ln, hln⟩ : ∃ n, n = l.length := ⟨_, rfl⟩
      rw [← hln] at hwv
      subst hwv
      have HLN : Hid (ln = l.length) := hln
      have hil : i < ln := by have := HM.out; omega
      clear hln
      by_cases hic : (i : Int) = ch
      · have e2 : ((i : Int) == ch) = true := by simp [hic]
        have HIC : Hid ((i : Int) = ch) := hic
        clear hic
        have hpu := push_any HG1.out.1.pw hk x (by have := HG1.out.1.ln; have := HH.out.2.2; have := HM.out; omega)
        have c6 := cellB HG1.out.1.bx.1
        have c8 := cellB HG1.out.1.bx.2.1
        have c11 : W1.cell? ⟨b11, 0, none⟩ = some (.int .i64 x.k) := HG1.out.1.bx.2.2.2.2.cell 0
        have c11' : W1.cell? ⟨b11, 1, none⟩ = some (.int .i64 x.g) := HG1.out.1.bx.2.2.2.2.cell 1
        gi_wp2_with (refine ⟨trivial, ?_⟩; gi_at_call 65; refine (CallsIn.inRound _ (callsIn_wide.2 hpu)).mono ?_; rintro ee W2 ⟨rfl, HN⟩)
        obtain ⟨S2, col2, G2, hn2, hf2⟩ := HG1.out.1.nx HN.out
        have fd : Fr W2 W2.drew (fun _ => False) := (Fr.refl W2 _).drew
        have HG2 : Hid (GO w W C4 wb S b6 b8 b9 b10 b11 b13 b14 b15 k nn ch x (.slice (some ⟨gw, ow, none⟩) ln cw) l S2 col2 W2.drew i (c + 1) ∧ BD C4 W1 W2.drew wb S1 S2 ∧ Blk W2.drew b16 30 #[.int .i64 y.k, .int .i64 y.g] ∧ C4.heap.size ≤ b16) := ⟨G2.sm fd, (HG1.out.2.1.step hf2 (fun _ _ q => .inr q) hn2).step fd (fun _ _ q => q.elim) (fun _ q => .inl q), (HG1.out.2.2.1.fr hf2 (HG1.out.1.pw.ownT HG1.out.2.2.1 (by unfold freeT; decide))).fr fd (fun q => q), HG1.out.2.2.2⟩
        clear G2 hn2 hf2 fd HN hpu c6 c8 c11 c11' HG1 c14 c9 c10
        rename_i K0 h0K
        refine region_round_held (S := fun w' => Blk w' b6 83 #[ptr wb] ∧ Blk w' b8 3 #[.int .i64 (k : Int)] ∧ Blk w' wb 89 S2.cs) (fun q => by obtain ⟨a, w, q⟩ := q; exact q) (noDefer_spec (by kernel_rfl)) (by kernel_rfl) ?_
        change wpAnyH _ _ _ _ _ 13 _ _ _
        generalize W2.drew = Zd at *
        have HSF9 : Hid (∀ Wz, Fr Zd Wz (exO S2 k) → Blk Wz b6 83 #[ptr wb] ∧ Blk Wz b8 3 #[.int .i64 (k : Int)] ∧ Blk Wz wb 89 S2.cs) := fun Wz f => ⟨HG2.out.1.bx.1.fr f (HG2.out.1.pw.exT hk HG2.out.1.bx.1 (by decide)), HG2.out.1.bx.2.1.fr f (HG2.out.1.pw.exT hk HG2.out.1.bx.2.1 (by decide)), HG2.out.1.pw.bw.fr f (HG2.out.1.pw.exC hk (by rw [HG2.out.1.pw.cw]; omega))⟩
        have hS := HSF9.out _ (Fr.refl _ _)
        have HF0 : Fr Zd Zd (exO S2 k) := Fr.refl _ _
        have hJ9 : ∀ (b17 : Nat) (pt : Th) (r : Int) (z9 : World), Hid (Popped w Zd z9 S2 k pt r ∧ Blk z9 b17 30 #[.int .i64 pt.k, .int .i64 pt.g] ∧ Zd.heap.size ≤ b17) → K0 { tmps := #[ptr wb, .func (.func 47) #[] #[ptr Bb], .int .i64 (k : Int), .int .i64 nn, .int .i64 ch, .agg #[.int .i64 x.k, .int .i64 x.g], ptr b6, undef, ptr b8, ptr b9, ptr b10, ptr b11, .bool false, ptr b13, ptr b14, ptr b15, ptr b16, ptr b17, .int .i64 r, undef, undef, u21, u22, u23, u24, u25, u26, u27, .func (.func 47) #[] #[ptr Bb], .agg #[.int .i64 y.k, .int .i64 y.g], .int .i64 (i : Int), .int .i64 nn, .bool false, .int .i64 (i : Int), .int .i64 ch, .bool true, ptr wb, .int .i64 (k : Int), .agg #[.int .i64 x.k, .int .i64 x.g], .tuple #[], popE pt r, ptr wb, .int .i64 (k : Int), ptr wb, .pointer (some ⟨wb, 0, none⟩), .pointer (some ⟨wb, 0 + k, none⟩), ptr (S2.h k), popE pt r, .agg #[.int .i64 pt.k, .int .i64 pt.g], .int .i64 r, undef, undef, undef, undef, undef, undef, undef, undef, undef, undef, undef, undef, undef, undef, undef, undef, undef, undef, undef, undef, undef, undef, undef, undef, undef, undef, undef, undef, undef, undef, undef, undef, undef, undef, undef, undef, undef, undef, undef, undef, undef, undef, undef, undef, undef, undef, undef, undef, undef], defers := [] } z9 := fun b17 pt r z9 HX9 => by
          refine h0K _ _ ?_
          clear h0K hS HF0
          gi_wp2
          rename_i K1' h1K
          refine region_round_held (S := fun w' => (Blk w' b6 83 #[ptr wb] ∧ Blk w' b8 3 #[.int .i64 (k : Int)] ∧ Blk w' wb 89 S2.cs) ∧ Blk w' b17 30 #[.int .i64 pt.k, .int .i64 pt.g]) (fun q => by obtain ⟨a, w, q⟩ := q; exact q) (noDefer_spec (by kernel_rfl)) (by kernel_rfl) ?_
          change wpAnyH _ _ _ _ _ 13 _ _ _
          have fd : Fr z9 z9.drew (fun _ => False) := (Fr.refl z9 _).drew
          have HF0 : Fr z9 z9.drew (exO S2 k) := (Fr.refl z9 _).drew
          have HSF10 : Hid (∀ Wz, Fr z9 Wz (exO S2 k) → (Blk Wz b6 83 #[ptr wb] ∧ Blk Wz b8 3 #[.int .i64 (k : Int)] ∧ Blk Wz wb 89 S2.cs) ∧ Blk Wz b17 30 #[.int .i64 pt.k, .int .i64 pt.g]) := fun Wz f => ⟨HSF9.out _ ((HX9.out.1.frH.mono (e2 := exO S2 k) fun _ _ q => Or.inl q).trans f (e3 := exO S2 k) fun _ _ q => by rcases q with q | q <;> exact q), HX9.out.2.1.fr f fun q => by have := HG2.out.1.pw.exL hk q; have := HX9.out.2.2; omega⟩
          have hJ10 : ∀ (b19 : Nat) (z : World), Hid (Nx w Zd z wb S2 col2 0 ∧ Blk z b19 30 #[.int .i64 pt.k, .int .i64 pt.g] ∧ Blk z b17 30 #[.int .i64 pt.k, .int .i64 pt.g] ∧ Zd.heap.size ≤ b19) → K1' { tmps := #[ptr wb, .func (.func 47) #[] #[ptr Bb], .int .i64 (k : Int), .int .i64 nn, .int .i64 ch, .agg #[.int .i64 x.k, .int .i64 x.g], ptr b6, undef, ptr b8, ptr b9, ptr b10, ptr b11, .bool false, ptr b13, ptr b14, ptr b15, ptr b16, ptr b17, .int .i64 r, ptr b19, .int .i64 r, u21, u22, u23, u24, u25, u26, u27, .func (.func 47) #[] #[ptr Bb], .agg #[.int .i64 y.k, .int .i64 y.g], .int .i64 (i : Int), .int .i64 nn, .bool false, .int .i64 (i : Int), .int .i64 ch, .bool true, ptr wb, .int .i64 (k : Int), .agg #[.int .i64 x.k, .int .i64 x.g], .tuple #[], popE pt r, ptr wb, .int .i64 (k : Int), ptr wb, .pointer (some ⟨wb, 0, none⟩), .pointer (some ⟨wb, k, none⟩), ptr (S2.h k), popE pt r, .agg #[.int .i64 pt.k, .int .i64 pt.g], .int .i64 r, popE pt r, ptr wb, .int .i64 (k : Int), ptr wb, .pointer (some ⟨wb, 3, none⟩), .pointer (some ⟨wb, 3 + k, none⟩), ptr (S2.r k), popE pt r, .agg #[.int .i64 pt.k, .int .i64 pt.g], .int .i64 r, undef, undef, undef, undef, undef, undef, undef, undef, undef, undef, undef, undef, undef, undef, undef, undef, undef, undef, undef, undef, undef, undef, undef, undef, undef, undef, undef, undef, undef, undef, undef, undef, undef, undef, undef, undef, undef, undef, undef], defers := [] } z := fun b19 z HX => by
            refine h1K _ _ ?_
            clear h1K HX9 HSF9 HSF10 fd HF0
            obtain ⟨S3, col3, G3, hn3, hf3⟩ := HG2.out.1.nx HX.out.1
            have HG3 : Hid (GO w W C4 wb S b6 b8 b9 b10 b11 b13 b14 b15 k nn ch x (.slice (some ⟨gw, ow, none⟩) ln cw) l S3 col3 z i (c + 1 + 0) ∧ BD C4 W1 z wb S1 S3 ∧ Blk z b16 30 #[.int .i64 y.k, .int .i64 y.g] ∧ C4.heap.size ≤ b16) := ⟨G3, HG2.out.2.1.step hf3 (fun _ _ q => .inr q) hn3, HG2.out.2.2.1.fr hf3 (HG2.out.1.pw.ownT HG2.out.2.2.1 (by unfold freeT; decide)), HG2.out.2.2.2⟩
            have p0 : z.cell? ⟨b17, 0, none⟩ = some (.int .i64 pt.k) := HX.out.2.2.1.cell 0
            have p1 : z.cell? ⟨b17, 1, none⟩ = some (.int .i64 pt.g) := HX.out.2.2.1.cell 1
            have p2 : z.cell? ⟨b19, 0, none⟩ = some (.int .i64 pt.k) := HX.out.2.1.cell 0
            have p3 : z.cell? ⟨b19, 1, none⟩ = some (.int .i64 pt.g) := HX.out.2.1.cell 1
            have d15 := cellB HG3.out.1.g15
            have z15 := HG3.out.1.g15.frozen 0
            have heq : ∀ W, (binOp .eql 30 (.agg #[.int .i64 pt.k, .int .i64 pt.g]) (.agg #[.int .i64 pt.k, .int .i64 pt.g])).run Try.prog W = .ok (.bool true) W := fun W => by go_simp
            clear G3 hn3 hf3 HX
            gi_wp2
            have HG4 : Hid (GO w W C4 wb S b6 b8 b9 b10 b11 b13 b14 b15 k nn ch x (.slice (some ⟨gw, ow, none⟩) ln cw) l S3 col3 (z.setCell ⟨b15, 0, none⟩ (.bool true)) i (c + 1 + 0) ∧ BD C4 W1 (z.setCell ⟨b15, 0, none⟩ (.bool true)) wb S1 S3 ∧ Blk (z.setCell ⟨b15, 0, none⟩ (.bool true)) b16 30 #[.int .i64 y.k, .int .i64 y.g] ∧ C4.heap.size ≤ b16) := by
              have h := HG3.out
              have f := Fr.setCell z ⟨b15, 0, none⟩ (.bool true) (fun b => b = b15) rfl
              exact ⟨h.1.set15 HW0.out, h.2.1.step f (fun b _ q => .inl (by rw [q]; exact h.1.lt.2.2.2.2.2.2.2.1)) (fun _ q => .inl q), h.2.2.1.fr f (h.2.2.1.neT h.1.g15 (by decide)), h.2.2.2⟩
            clear HG3 p0 p1 p2 p3 d15 z15 heq
            generalize z.setCell ⟨b15, 0, none⟩ (.bool true) = Wt at *
            rename_i K0 h0K
            refine region_round_held (S := fun w' => Blk w' b15 4 #[.bool true] ∧ Blk w' b14 3 #[.int .i64 (i : Int)] ∧ Blk w' b13 31 #[.slice (some ⟨gw, ow, none⟩) ln cw] ∧ Blk w' b16 30 #[.int .i64 y.k, .int .i64 y.g] ∧ w'.rangeAt gw (ow + i * 2) (#[.int .i64 y.k, .int .i64 y.g] : Array Value).toList) (fun q => by obtain ⟨a, w, q⟩ := q; exact q) (noDefer_spec (by kernel_rfl)) (by kernel_rfl) ?_
            change wpAnyH _ _ _ _ _ 16 _ _ _
            have fd : Fr Wt Wt.drew (fun _ => False) := (Fr.refl Wt _).drew
            have HT : Hid (GO w W C4 wb S b6 b8 b9 b10 b11 b13 b14 b15 k nn ch x (.slice (some ⟨gw, ow, none⟩) ln cw) l S3 col3 Wt.drew i (c + 1 + 0) ∧ BD C4 W1 Wt.drew wb S1 S3 ∧ Blk Wt.drew b16 30 #[.int .i64 y.k, .int .i64 y.g] ∧ C4.heap.size ≤ b16) := ⟨HG4.out.1.sm fd, HG4.out.2.1.step fd (fun _ _ q => q.elim) (fun _ q => .inl q), HG4.out.2.2.1.fr fd (fun q => q), HG4.out.2.2.2⟩
            clear fd HG4
            generalize Wt.drew = Wd at *
            have hS : Blk Wd b15 4 #[.bool true] ∧ Blk Wd b14 3 #[.int .i64 (i : Int)] ∧ Blk Wd b13 31 #[.slice (some ⟨gw, ow, none⟩) ln cw] ∧ Blk Wd b16 30 #[.int .i64 y.k, .int .i64 y.g] ∧ Wd.rangeAt gw (ow + i * 2) (#[.int .i64 y.k, .int .i64 y.g] : Array Value).toList := ⟨HT.out.1.g15, HT.out.1.i14, HT.out.1.wa, HT.out.2.2.1, thw_rng (n := ln) (by have q := HT.out.1.wr; rw [← HLN.out] at q; exact q) HM.out.2.2.2.2.2.2.1⟩
            refine takeR (i := 0) (v := .bool true) (some 68) rfl rfl (by kernel_rfl) (by kernel_rfl) (by kernel_rfl) (fun _ _ _ h => h) (Or.inl ⟨by kernel_rfl, fun w' hSw => by exact ldC_run (by unfold LC; simp) (.tmp 15) rfl (by kernel_rfl) (cellB hSw.1)⟩) hS ?_
            simp only [Act.put, List.setIfInBounds_toArray, List.set_cons_zero, List.set_cons_succ]
            refine takeR (i := 1) (v := .bool true) (some 69) rfl rfl (by kernel_rfl) (by kernel_rfl) (by kernel_rfl) (fun _ _ _ h => h) (Or.inl ⟨by kernel_rfl, fun w' hSw => by kernel_rfl⟩) hS ?_
            simp only [Act.put, List.setIfInBounds_toArray, List.set_cons_zero, List.set_cons_succ]
            refine takeR (i := 2) (v := .int .i64 (i : Int)) (some 70) rfl rfl (by kernel_rfl) (by kernel_rfl) (by kernel_rfl) (fun _ _ _ h => h) (Or.inl ⟨by kernel_rfl, fun w' hSw => by exact ldC_run (by unfold LC; simp) (.tmp 14) rfl (by kernel_rfl) (cellB hSw.2.1)⟩) hS ?_
            simp only [Act.put, List.setIfInBounds_toArray, List.set_cons_zero, List.set_cons_succ]
            refine takeR (i := 3) (v := .slice (some ⟨gw, ow, none⟩) ln cw) (some 71) rfl rfl (by kernel_rfl) (by kernel_rfl) (by kernel_rfl) (fun _ _ _ h => h) (Or.inl ⟨by kernel_rfl, fun w' hSw => by exact ldC_run (by unfold LC; simp) (.tmp 13) rfl (by kernel_rfl) (cellB hSw.2.2.1)⟩) hS ?_
            simp only [Act.put, List.setIfInBounds_toArray, List.set_cons_zero, List.set_cons_succ]
            refine takeR (i := 4) (v := .int .i64 (ln : Int)) (some 72) rfl rfl (by kernel_rfl) (by kernel_rfl) (by kernel_rfl) (fun _ _ _ h => h) (Or.inl ⟨by kernel_rfl, fun w' hSw => by exact lenC_run (.inr (.inr rfl)) (v := .slice (some ⟨gw, ow, none⟩) ln cw) (ao := some ⟨gw, ow, none⟩) (n := ln) (c := cw) rfl (.tmp 71) rfl (by kernel_rfl) _⟩) hS ?_
            simp only [Act.put, List.setIfInBounds_toArray, List.set_cons_zero, List.set_cons_succ]
            refine takeR (i := 5) (v := .bool true) (some 73) rfl rfl (by kernel_rfl) (by kernel_rfl) (by kernel_rfl) (fun _ _ _ h => h) (Or.inl ⟨by kernel_rfl, fun w' hSw => by exact ltT_run (i := i) (n := ln) (.tmp 70) (.tmp 72) rfl (by kernel_rfl) (by kernel_rfl) hil _⟩) hS ?_
            simp only [Act.put, List.setIfInBounds_toArray, List.set_cons_zero, List.set_cons_succ]
            refine takeR (i := 6) (v := .bool true) (some 74) rfl rfl (by kernel_rfl) (by kernel_rfl) (by kernel_rfl) (fun _ _ _ h => h) (Or.inl ⟨by kernel_rfl, fun w' hSw => by kernel_rfl⟩) hS ?_
            simp only [Act.put, List.setIfInBounds_toArray, List.set_cons_zero, List.set_cons_succ]
            refine takeR (i := 7) (v := .bool true) (some 75) rfl rfl (by kernel_rfl) (by kernel_rfl) (by kernel_rfl) (fun _ _ _ h => h) (Or.inl ⟨by kernel_rfl, fun w' hSw => by kernel_rfl⟩) hS ?_
            simp only [Act.put, List.setIfInBounds_toArray, List.set_cons_zero, List.set_cons_succ]
            refine takeR (i := 8) (v := .agg #[.int .i64 y.k, .int .i64 y.g]) (some 76) rfl rfl (by kernel_rfl) (by kernel_rfl) (by kernel_rfl) (fun _ _ _ h => h) (Or.inl ⟨by kernel_rfl, fun w' hSw => by exact ldT_run (blk_rng hSw.2.2.2.1) Try.underlying30 rfl infoThS (.tmp 16) rfl (by kernel_rfl)⟩) hS ?_
            simp only [Act.put, List.setIfInBounds_toArray, List.set_cons_zero, List.set_cons_succ]
            refine takeR (i := 9) (v := .slice (some ⟨gw, ow, none⟩) ln cw) (some 77) rfl rfl (by kernel_rfl) (by kernel_rfl) (by kernel_rfl) (fun _ _ _ h => h) (Or.inl ⟨by kernel_rfl, fun w' hSw => by exact ldC_run (by unfold LC; simp) (.tmp 13) rfl (by kernel_rfl) (cellB hSw.2.2.1)⟩) hS ?_
            simp only [Act.put, List.setIfInBounds_toArray, List.set_cons_zero, List.set_cons_succ]
            refine takeR (i := 10) (v := .int .i64 (i : Int)) (some 78) rfl rfl (by kernel_rfl) (by kernel_rfl) (by kernel_rfl) (fun _ _ _ h => h) (Or.inl ⟨by kernel_rfl, fun w' hSw => by exact ldC_run (by unfold LC; simp) (.tmp 14) rfl (by kernel_rfl) (cellB hSw.2.1)⟩) hS ?_
            simp only [Act.put, List.setIfInBounds_toArray, List.set_cons_zero, List.set_cons_succ]
            refine takeR (i := 11) (v := .pointer (some ⟨gw, ow + i * 2, none⟩)) (some 79) rfl rfl (by kernel_rfl) (by kernel_rfl) (by kernel_rfl) (fun _ _ _ h => h) (Or.inl ⟨by kernel_rfl, fun w' hSw => by exact ixT_run (n := ln) (c := cw) (i := i) (.tmp 77) (.tmp 78) rfl (by kernel_rfl) (by kernel_rfl) hil _⟩) hS ?_
            simp only [Act.put, List.setIfInBounds_toArray, List.set_cons_zero, List.set_cons_succ]
            refine takeR (i := 12) (v := .agg #[.int .i64 y.k, .int .i64 y.g]) (some 80) rfl rfl (by kernel_rfl) (by kernel_rfl) (by kernel_rfl) (fun _ _ _ h => h) (Or.inl ⟨by kernel_rfl, fun w' hSw => by exact ldT_run hSw.2.2.2.2 Try.underlying30 rfl infoThS (.tmp 79) rfl (by kernel_rfl)⟩) hS ?_
            simp only [Act.put, List.setIfInBounds_toArray, List.set_cons_zero, List.set_cons_succ]
            refine takeR (i := 13) (v := .bool true) (some 81) rfl rfl (by kernel_rfl) (by kernel_rfl) (by kernel_rfl) (fun _ _ _ h => h) (Or.inl ⟨by kernel_rfl, fun w' hSw => by exact eqTh_run (p := y.k) (q := y.g) (.tmp 76) (.tmp 80) rfl (by kernel_rfl) (by kernel_rfl) _⟩) hS ?_
            simp only [Act.put, List.setIfInBounds_toArray, List.set_cons_zero, List.set_cons_succ]
            refine takeR (i := 14) (v := .bool true) (some 82) rfl rfl (by kernel_rfl) (by kernel_rfl) (by kernel_rfl) (fun _ _ _ h => h) (Or.inl ⟨by kernel_rfl, fun w' hSw => by kernel_rfl⟩) hS ?_
            simp only [Act.put, List.setIfInBounds_toArray, List.set_cons_zero, List.set_cons_succ]
            refine wpAnyH_ready (rs := [15]) (by kernel_rfl) (by simp) ?_
            refine AllReadyH.cons rfl (fun K1 hK1 => ?_) AllReadyH.nil
            rw [if_pos (by kernel_rfl)]
            refine skipR (d := none) rfl (w' := Wd.setCell ⟨b15, 0, none⟩ (.bool true)) (stG_run (.inr (.inl ⟨rfl, _, rfl⟩)) (.tmp 15) (.tmp 82) rfl (by kernel_rfl) (by kernel_rfl) hS.1) ?_
            have HT2 : Hid (GO w W C4 wb S b6 b8 b9 b10 b11 b13 b14 b15 k nn ch x (.slice (some ⟨gw, ow, none⟩) ln cw) l S3 col3 (Wd.setCell ⟨b15, 0, none⟩ (.bool true)) i (c + 1 + 0) ∧ BD C4 W1 (Wd.setCell ⟨b15, 0, none⟩ (.bool true)) wb S1 S3 ∧ Blk (Wd.setCell ⟨b15, 0, none⟩ (.bool true)) b16 30 #[.int .i64 y.k, .int .i64 y.g] ∧ C4.heap.size ≤ b16) := by
              have h := HT.out
              have f := Fr.setCell Wd ⟨b15, 0, none⟩ (.bool true) (fun b => b = b15) rfl
              exact ⟨h.1.set15 HW0.out, h.2.1.step f (fun b _ q => .inl (by rw [q]; exact h.1.lt.2.2.2.2.2.2.2.1)) (fun _ q => .inl q), h.2.2.1.fr f (h.2.2.1.neT h.1.g15 (by decide)), h.2.2.2⟩
            clear HT
            generalize Wd.setCell ⟨b15, 0, none⟩ (.bool true) = We at *
            have hS2 : Blk We b15 4 #[.bool true] ∧ Blk We b14 3 #[.int .i64 (i : Int)] ∧ Blk We b13 31 #[.slice (some ⟨gw, ow, none⟩) ln cw] ∧ Blk We b16 30 #[.int .i64 y.k, .int .i64 y.g] ∧ We.rangeAt gw (ow + i * 2) (#[.int .i64 y.k, .int .i64 y.g] : Array Value).toList := ⟨HT2.out.1.g15, HT2.out.1.i14, HT2.out.1.wa, HT2.out.2.2.1, thw_rng (n := ln) (by have q := HT2.out.1.wr; rw [← HLN.out] at q; exact q) HM.out.2.2.2.2.2.2.1⟩
            refine hK1.out _ _ hS2 (fun _ => ?_)
            clear hK1 hS
            simp only [Act.put, List.setIfInBounds_toArray, List.set_cons_zero, List.set_cons_succ]
            refine wpAnyH_done (by kernel_rfl) ?_ _
            clear hS2
            refine h0K _ _ ?_
            clear h0K
            have d14 := cellB HT2.out.1.i14
            have d15 := cellB HT2.out.1.g15
            have z14 := HT2.out.1.i14.frozen 0
            have hb1 : (i : Int) + 1 < 9223372036854775808 := by omega
            have n15 : b14 ≠ b15 := HT2.out.1.i14.neT HT2.out.1.g15 (by decide)
            gi_wp2
            have e14 : ((i : Int) + 1) = ((i + 1 : Nat) : Int) := by omega
            have f := Fr.setCell We ⟨b14, 0, none⟩ (.int .i64 ((i + 1 : Nat) : Int)) (fun b => b = b14) rfl
            have h := HT2.out
            have G2 := h.1.set14 HW0.out
            have B2 := h.2.1.step f (fun b _ q => .inl (by rw [q]; exact h.1.lt.2.2.2.2.2.2.1)) (fun _ q => .inl q)
            rw [← e14] at G2 B2
            refine ⟨fun b => b < C4.heap.size ∨ owns wb S3 b, ⟨S3, col3, (c + 1 + 0), (by have := HM.out.2.2.2.1; have := HM.out.2.2.2.2.1; have := HIC.out; omega), fun _ => ?_, ?_, fun _ => Iff.rfl, fun b q => ?_⟩, B2.fr.mono fun b _ q => (HM.out.1 b).2 q, fun b q => ?_⟩
            · rw [List.length_append, List.length_singleton, ← HM.out.2.2.2.2.2.1]
              have := HIC.out
              omega
            · rw [List.length_append, List.length_singleton, ← HM.out.2.2.2.2.2.1]
              exact G2
            · rcases B2.nw b q with r | r
              · exact HM.out.2.1 b r
              · have := HM.out; exact .inr (by omega)
            · rcases q with q | q
              · exact .inl ((HM.out.1 b).2 (.inl q))
              · rcases B2.nw b q with r | r
                · exact .inl ((HM.out.1 b).2 (.inr r))
                · exact .inr r
          generalize z9.drew = Z10 at *
          have hS := HSF10.out _ HF0
          refine takeR (i := 0) (v := ptr wb) (some 51) rfl rfl (by kernel_rfl) (by kernel_rfl) (by kernel_rfl) (fun _ _ _ h => h) (Or.inl ⟨by kernel_rfl, fun w' hSw => by exact ldC_run (by unfold LC; simp) (.tmp 6) rfl (by kernel_rfl) (cellB hSw.1.1)⟩) hS ?_
          simp only [Act.put, List.setIfInBounds_toArray, List.set_cons_zero, List.set_cons_succ]
          refine takeR (i := 1) (v := .int .i64 (k : Int)) (some 52) rfl rfl (by kernel_rfl) (by kernel_rfl) (by kernel_rfl) (fun _ _ _ h => h) (Or.inl ⟨by kernel_rfl, fun w' hSw => by exact ldC_run (by unfold LC; simp) (.tmp 8) rfl (by kernel_rfl) (cellB hSw.1.2.1)⟩) hS ?_
          simp only [Act.put, List.setIfInBounds_toArray, List.set_cons_zero, List.set_cons_succ]
          refine takeR (i := 2) (v := ptr wb) (some 53) rfl rfl (by kernel_rfl) (by kernel_rfl) (by kernel_rfl) (fun _ _ _ h => h) (Or.inl ⟨by kernel_rfl, fun w' hSw => by kernel_rfl⟩) hS ?_
          simp only [Act.put, List.setIfInBounds_toArray, List.set_cons_zero, List.set_cons_succ]
          refine takeR (i := 3) (v := .pointer (some ⟨wb, 3, none⟩)) (some 54) rfl rfl (by kernel_rfl) (by kernel_rfl) (by kernel_rfl) (fun _ _ _ h => h) (Or.inl ⟨by kernel_rfl, fun w' hSw => by kernel_rfl⟩) hS ?_
          simp only [Act.put, List.setIfInBounds_toArray, List.set_cons_zero, List.set_cons_succ]
          refine takeR (i := 4) (v := .pointer (some ⟨wb, 3 + k, none⟩)) (some 55) rfl rfl (by kernel_rfl) (by kernel_rfl) (by kernel_rfl) (fun _ _ _ h => h) (Or.inl ⟨by kernel_rfl, fun w' hSw => by exact ixW_run (.inr rfl) (.tmp 54) (.tmp 52) rfl (by kernel_rfl) (by kernel_rfl) hk _⟩) hS ?_
          simp only [Act.put, List.setIfInBounds_toArray, List.set_cons_zero, List.set_cons_succ]
          refine takeR (i := 5) (v := ptr (S2.r k)) (some 56) rfl rfl (by kernel_rfl) (by kernel_rfl) (by kernel_rfl) (fun _ _ _ h => h) (Or.inl ⟨by kernel_rfl, fun w' hSw => by exact ldC_run (by unfold LC; simp) (.tmp 55) rfl (by kernel_rfl) ((hSw.1.2.2.cell _).trans (cs_r S2 hk))⟩) hS ?_
          simp only [Act.put, List.setIfInBounds_toArray, List.set_cons_zero, List.set_cons_succ]
          refine wpAnyH_ready (rs := [6, 10]) (by kernel_rfl) (by simp) ?_
          refine AllReadyH.cons rfl (fun K1 hK1 => ?_) (AllReadyH.cons rfl (fun K1 hK1 => ?_) AllReadyH.nil)
          · skip
            rw [if_pos (by kernel_rfl)]
            have hc := HG2.out.1.pw.pop2 hk HX9.out.1 fd
            refine callR (d := some 57) rfl 68 #[ptr (S2.r k)] (by kernel_rfl) hc ?_
            clear hc
            rintro ee z4 ⟨rfl, HN7, HFr⟩
            refine ⟨_, rfl, ?_⟩
            have F4 : Fr z9 z4 (exO S2 k) := HF0.trans HFr fun _ _ q => by rcases q with q | q; exact q; exact .inr q
            have hS4 := HSF10.out _ F4
            refine hK1.out _ _ hS4 (fun _ => ?_)
            clear hK1
            simp only [Act.put, List.setIfInBounds_toArray, List.set_cons_zero, List.set_cons_succ]
            refine takeR (i := 7) (v := popE pt r) (some 50) rfl rfl (by kernel_rfl) (by kernel_rfl) (by kernel_rfl) (fun _ _ _ h => h) (Or.inl ⟨by kernel_rfl, fun w' hSw => by kernel_rfl⟩) hS4 ?_
            simp only [Act.put, List.setIfInBounds_toArray, List.set_cons_zero, List.set_cons_succ]
            refine takeR (i := 8) (v := .agg #[.int .i64 pt.k, .int .i64 pt.g]) (some 58) rfl rfl (by kernel_rfl) (by kernel_rfl) (by kernel_rfl) (fun _ _ _ h => h) (Or.inl ⟨by kernel_rfl, fun w' hSw => by kernel_rfl⟩) hS4 ?_
            simp only [Act.put, List.setIfInBounds_toArray, List.set_cons_zero, List.set_cons_succ]
            refine takeR (i := 9) (v := .int .i64 r) (some 59) rfl rfl (by kernel_rfl) (by kernel_rfl) (by kernel_rfl) (fun _ _ _ h => h) (Or.inl ⟨by kernel_rfl, fun w' hSw => by kernel_rfl⟩) hS4 ?_
            simp only [Act.put, List.setIfInBounds_toArray, List.set_cons_zero, List.set_cons_succ]
            refine wpAnyH_ready (rs := [10]) (by kernel_rfl) (by simp) ?_
            refine AllReadyH.cons rfl (fun K1 hK1 => ?_) AllReadyH.nil
            rw [if_pos (by kernel_rfl)]
            have F5 := F4.trans (Fr.alloc z4 (.cells #[.int .i64 0, .int .i64 0] 30) (exO S2 k)) fun _ _ q => by rcases q with q | q <;> exact q
            refine valR (d := some 19) rfl (ptr z4.heap.size) (alTh_run z4 rfl) ?_
            obtain ⟨b19, hb19⟩ : ∃ b, b = z4.heap.size := ⟨_, rfl⟩
            rw [← hb19]
            have fal : Fr z4 (z4.alloc (.cells #[.int .i64 0, .int .i64 0] 30)) (fun _ => False) := Fr.alloc _ _ _
            have hbk : Blk (z4.alloc (.cells #[.int .i64 0, .int .i64 0] 30)) b19 30 #[.int .i64 0, .int .i64 0] := by rw [hb19]; exact Blk.new _ _ _
            generalize z4.alloc (.cells #[.int .i64 0, .int .i64 0] 30) = z5 at *
            have hS5 := HSF10.out _ F5
            refine hK1.out _ _ hS5 (fun _ => ?_)
            clear hK1
            simp only [Act.put, List.setIfInBounds_toArray, List.set_cons_zero, List.set_cons_succ]
            refine wpAnyH_ready (rs := [11]) (by kernel_rfl) (by simp) ?_
            refine AllReadyH.cons rfl (fun K1 hK1 => ?_) AllReadyH.nil
            rw [if_pos (by kernel_rfl)]
            refine skipR (d := none) rfl (w' := (z5.setCell ⟨b19, 0, none⟩ (.int .i64 pt.k)).setCell ⟨b19, 1, none⟩ (.int .i64 pt.g)) (stT_run (.tmp 19) (.tmp 58) rfl (by kernel_rfl) (by kernel_rfl) hbk) ?_
            have fst := stT_fr (p := pt.k) (q := pt.g) hbk
            obtain ⟨z6, hz6⟩ : ∃ z, z = (z5.setCell ⟨b19, 0, none⟩ (.int .i64 pt.k)).setCell ⟨b19, 1, none⟩ (.int .i64 pt.g) := ⟨_, rfl⟩
            rw [← hz6] at fst ⊢
            clear hz6
            have hle : z9.heap.size ≤ b19 := by rw [hb19]; exact F4.size
            have hle2 : Zd.heap.size ≤ b19 := by have := HX9.out.1.frH.size; omega
            have F6 : Fr z9 z6 (exO S2 k) := F5.trans fst.1 fun b hb q => by rcases q with q | q; exact q; omega
            have HX : Hid (Nx w Zd z6 wb S2 col2 0 ∧ Blk z6 b19 30 #[.int .i64 pt.k, .int .i64 pt.g] ∧ Blk z6 b17 30 #[.int .i64 pt.k, .int .i64 pt.g] ∧ Zd.heap.size ≤ b19) := ⟨(HN7.sm fal).st fst.1 hbk (by unfold freeT; decide) hle2 HG2.out.1.pw.fr.size, fst.2, (HSF10.out _ F6).2, hle2⟩
            have hS6 := HSF10.out _ F6
            refine hK1.out _ _ hS6 (fun _ => ?_)
            clear hK1
            simp only [Act.put, List.setIfInBounds_toArray, List.set_cons_zero, List.set_cons_succ]
            refine takeR (i := 12) (v := .int .i64 r) (some 20) rfl rfl (by kernel_rfl) (by kernel_rfl) (by kernel_rfl) (fun _ _ _ h => h) (Or.inl ⟨by kernel_rfl, fun w' hSw => by kernel_rfl⟩) hS6 ?_
            simp only [Act.put, List.setIfInBounds_toArray, List.set_cons_zero, List.set_cons_succ]
            refine wpAnyH_done (by kernel_rfl) ?_ _
            exact hJ10 b19 _ HX
          · skip
            rw [if_pos (by kernel_rfl)]
            have F4 : Fr Z10 (Z10.alloc (.cells #[.int .i64 0, .int .i64 0] 30)) (exO S2 k) := Fr.alloc _ _ _
            have fal : Fr Z10 (Z10.alloc (.cells #[.int .i64 0, .int .i64 0] 30)) (fun _ => False) := Fr.alloc _ _ _
            refine valR (d := some 19) rfl (ptr Z10.heap.size) (alTh_run Z10 rfl) ?_
            obtain ⟨b19, hb19⟩ : ∃ b, b = Z10.heap.size := ⟨_, rfl⟩
            rw [← hb19]
            have hbk4 : Blk (Z10.alloc (.cells #[.int .i64 0, .int .i64 0] 30)) b19 30 #[.int .i64 0, .int .i64 0] := by rw [hb19]; exact Blk.new _ _ _
            generalize Z10.alloc (.cells #[.int .i64 0, .int .i64 0] 30) = z4 at *
            have hS4 := HSF10.out _ (HF0.trans F4 fun _ _ q => by rcases q with q | q <;> exact q)
            refine hK1.out _ _ hS4 (fun _ => ?_)
            clear hK1
            simp only [Act.put, List.setIfInBounds_toArray, List.set_cons_zero, List.set_cons_succ]
            refine wpAnyH_ready (rs := [6]) (by kernel_rfl) (by simp) ?_
            refine AllReadyH.cons rfl (fun K1 hK1 => ?_) AllReadyH.nil
            rw [if_pos (by kernel_rfl)]
            have hc := HG2.out.1.pw.pop2 hk HX9.out.1 (fd.trans fal fun _ _ q => by rcases q with q | q <;> exact q)
            refine callR (d := some 57) rfl 68 #[ptr (S2.r k)] (by kernel_rfl) hc ?_
            clear hc
            rintro ee z5 ⟨rfl, HN7, HFr⟩
            refine ⟨_, rfl, ?_⟩
            have FB : Fr z4 z5 (exO S2 k) := HFr.mono fun _ _ q => .inr q
            have F5 : Fr z9 z5 (exO S2 k) := (HF0.trans F4 (e3 := exO S2 k) fun _ _ q => by rcases q with q | q <;> exact q).trans FB fun _ _ q => by rcases q with q | q <;> exact q
            have HB8 : ¬ exO S2 k b19 := fun q => by have := HG2.out.1.pw.exL hk q; have := HF0.size; have := HX9.out.1.frH.size; omega
            have hbk : Blk z5 b19 30 #[.int .i64 0, .int .i64 0] := hbk4.fr FB fun q => HB8 q
            have hS5 := HSF10.out _ F5
            refine hK1.out _ _ hS5 (fun _ => ?_)
            clear hK1
            simp only [Act.put, List.setIfInBounds_toArray, List.set_cons_zero, List.set_cons_succ]
            refine takeR (i := 7) (v := popE pt r) (some 50) rfl rfl (by kernel_rfl) (by kernel_rfl) (by kernel_rfl) (fun _ _ _ h => h) (Or.inl ⟨by kernel_rfl, fun w' hSw => by kernel_rfl⟩) hS5 ?_
            simp only [Act.put, List.setIfInBounds_toArray, List.set_cons_zero, List.set_cons_succ]
            refine takeR (i := 8) (v := .agg #[.int .i64 pt.k, .int .i64 pt.g]) (some 58) rfl rfl (by kernel_rfl) (by kernel_rfl) (by kernel_rfl) (fun _ _ _ h => h) (Or.inl ⟨by kernel_rfl, fun w' hSw => by kernel_rfl⟩) hS5 ?_
            simp only [Act.put, List.setIfInBounds_toArray, List.set_cons_zero, List.set_cons_succ]
            refine takeR (i := 9) (v := .int .i64 r) (some 59) rfl rfl (by kernel_rfl) (by kernel_rfl) (by kernel_rfl) (fun _ _ _ h => h) (Or.inl ⟨by kernel_rfl, fun w' hSw => by kernel_rfl⟩) hS5 ?_
            simp only [Act.put, List.setIfInBounds_toArray, List.set_cons_zero, List.set_cons_succ]
            refine wpAnyH_ready (rs := [11]) (by kernel_rfl) (by simp) ?_
            refine AllReadyH.cons rfl (fun K1 hK1 => ?_) AllReadyH.nil
            rw [if_pos (by kernel_rfl)]
            refine skipR (d := none) rfl (w' := (z5.setCell ⟨b19, 0, none⟩ (.int .i64 pt.k)).setCell ⟨b19, 1, none⟩ (.int .i64 pt.g)) (stT_run (.tmp 19) (.tmp 58) rfl (by kernel_rfl) (by kernel_rfl) hbk) ?_
            have fst := stT_fr (p := pt.k) (q := pt.g) hbk
            obtain ⟨z6, hz6⟩ : ∃ z, z = (z5.setCell ⟨b19, 0, none⟩ (.int .i64 pt.k)).setCell ⟨b19, 1, none⟩ (.int .i64 pt.g) := ⟨_, rfl⟩
            rw [← hz6] at fst ⊢
            clear hz6
            have hle : z9.heap.size ≤ b19 := by rw [hb19]; exact HF0.size
            have hle2 : Zd.heap.size ≤ b19 := by have := HX9.out.1.frH.size; omega
            have F6 : Fr z9 z6 (exO S2 k) := F5.trans fst.1 fun b hb q => by rcases q with q | q; exact q; omega
            have HX : Hid (Nx w Zd z6 wb S2 col2 0 ∧ Blk z6 b19 30 #[.int .i64 pt.k, .int .i64 pt.g] ∧ Blk z6 b17 30 #[.int .i64 pt.k, .int .i64 pt.g] ∧ Zd.heap.size ≤ b19) := ⟨(HN7).st fst.1 hbk (by unfold freeT; decide) hle2 HG2.out.1.pw.fr.size, fst.2, (HSF10.out _ F6).2, hle2⟩
            have hS6 := HSF10.out _ F6
            refine hK1.out _ _ hS6 (fun _ => ?_)
            clear hK1
            simp only [Act.put, List.setIfInBounds_toArray, List.set_cons_zero, List.set_cons_succ]
            refine takeR (i := 12) (v := .int .i64 r) (some 20) rfl rfl (by kernel_rfl) (by kernel_rfl) (by kernel_rfl) (fun _ _ _ h => h) (Or.inl ⟨by kernel_rfl, fun w' hSw => by kernel_rfl⟩) hS6 ?_
            simp only [Act.put, List.setIfInBounds_toArray, List.set_cons_zero, List.set_cons_succ]
            refine wpAnyH_done (by kernel_rfl) ?_ _
            exact hJ10 b19 _ HX
        refine takeR (i := 0) (v := ptr wb) (some 41) rfl rfl (by kernel_rfl) (by kernel_rfl) (by kernel_rfl) (fun _ _ _ h => h) (Or.inl ⟨by kernel_rfl, fun w' hSw => by exact ldC_run (by unfold LC; simp) (.tmp 6) rfl (by kernel_rfl) (cellB hSw.1)⟩) hS ?_
        simp only [Act.put, List.setIfInBounds_toArray, List.set_cons_zero, List.set_cons_succ]
        refine takeR (i := 1) (v := .int .i64 (k : Int)) (some 42) rfl rfl (by kernel_rfl) (by kernel_rfl) (by kernel_rfl) (fun _ _ _ h => h) (Or.inl ⟨by kernel_rfl, fun w' hSw => by exact ldC_run (by unfold LC; simp) (.tmp 8) rfl (by kernel_rfl) (cellB hSw.2.1)⟩) hS ?_
        simp only [Act.put, List.setIfInBounds_toArray, List.set_cons_zero, List.set_cons_succ]
        refine takeR (i := 2) (v := ptr wb) (some 43) rfl rfl (by kernel_rfl) (by kernel_rfl) (by kernel_rfl) (fun _ _ _ h => h) (Or.inl ⟨by kernel_rfl, fun w' hSw => by kernel_rfl⟩) hS ?_
        simp only [Act.put, List.setIfInBounds_toArray, List.set_cons_zero, List.set_cons_succ]
        refine takeR (i := 3) (v := .pointer (some ⟨wb, 0, none⟩)) (some 44) rfl rfl (by kernel_rfl) (by kernel_rfl) (by kernel_rfl) (fun _ _ _ h => h) (Or.inl ⟨by kernel_rfl, fun w' hSw => by kernel_rfl⟩) hS ?_
        simp only [Act.put, List.setIfInBounds_toArray, List.set_cons_zero, List.set_cons_succ]
        refine takeR (i := 4) (v := .pointer (some ⟨wb, 0 + k, none⟩)) (some 45) rfl rfl (by kernel_rfl) (by kernel_rfl) (by kernel_rfl) (fun _ _ _ h => h) (Or.inl ⟨by kernel_rfl, fun w' hSw => by exact ixW_run (.inl rfl) (.tmp 44) (.tmp 42) rfl (by kernel_rfl) (by kernel_rfl) hk _⟩) hS ?_
        simp only [Act.put, List.setIfInBounds_toArray, List.set_cons_zero, List.set_cons_succ]
        refine takeR (i := 5) (v := ptr (S2.h k)) (some 46) rfl rfl (by kernel_rfl) (by kernel_rfl) (by kernel_rfl) (fun _ _ _ h => h) (Or.inl ⟨by kernel_rfl, fun w' hSw => by exact ldC_run (by unfold LC; simp) (.tmp 45) rfl (by kernel_rfl) ((hSw.2.2.cell _).trans (cs_h S2 hk))⟩) hS ?_
        simp only [Act.put, List.setIfInBounds_toArray, List.set_cons_zero, List.set_cons_succ]
        refine wpAnyH_ready (rs := [6, 10]) (by kernel_rfl) (by simp) ?_
        refine AllReadyH.cons rfl (fun K1 hK1 => ?_) (AllReadyH.cons rfl (fun K1 hK1 => ?_) AllReadyH.nil)
        · skip
          rw [if_pos (by kernel_rfl)]
          have hc := HG2.out.1.pw.pop hk
          refine callR (d := some 47) rfl 14 #[ptr (S2.h k)] (by kernel_rfl) hc ?_
          clear hc
          rintro ee z4 ⟨pt, r, rfl, HR⟩
          refine ⟨_, rfl, ?_⟩
          have F4 : Fr Zd z4 (exO S2 k) := HR.frH.mono fun _ _ q => .inl q
          have hS4 := HSF9.out _ F4
          refine hK1.out _ _ hS4 (fun _ => ?_)
          clear hK1
          simp only [Act.put, List.setIfInBounds_toArray, List.set_cons_zero, List.set_cons_succ]
          refine takeR (i := 7) (v := popE pt r) (some 40) rfl rfl (by kernel_rfl) (by kernel_rfl) (by kernel_rfl) (fun _ _ _ h => h) (Or.inl ⟨by kernel_rfl, fun w' hSw => by kernel_rfl⟩) hS4 ?_
          simp only [Act.put, List.setIfInBounds_toArray, List.set_cons_zero, List.set_cons_succ]
          refine takeR (i := 8) (v := .agg #[.int .i64 pt.k, .int .i64 pt.g]) (some 48) rfl rfl (by kernel_rfl) (by kernel_rfl) (by kernel_rfl) (fun _ _ _ h => h) (Or.inl ⟨by kernel_rfl, fun w' hSw => by kernel_rfl⟩) hS4 ?_
          simp only [Act.put, List.setIfInBounds_toArray, List.set_cons_zero, List.set_cons_succ]
          refine takeR (i := 9) (v := .int .i64 r) (some 49) rfl rfl (by kernel_rfl) (by kernel_rfl) (by kernel_rfl) (fun _ _ _ h => h) (Or.inl ⟨by kernel_rfl, fun w' hSw => by kernel_rfl⟩) hS4 ?_
          simp only [Act.put, List.setIfInBounds_toArray, List.set_cons_zero, List.set_cons_succ]
          refine wpAnyH_ready (rs := [10]) (by kernel_rfl) (by simp) ?_
          refine AllReadyH.cons rfl (fun K1 hK1 => ?_) AllReadyH.nil
          rw [if_pos (by kernel_rfl)]
          have F5 := F4.trans (Fr.alloc z4 (.cells #[.int .i64 0, .int .i64 0] 30) (exO S2 k)) fun _ _ q => by rcases q with q | q <;> exact q
          refine valR (d := some 17) rfl (ptr z4.heap.size) (alTh_run z4 rfl) ?_
          obtain ⟨b17, hb17⟩ : ∃ b, b = z4.heap.size := ⟨_, rfl⟩
          rw [← hb17]
          have fal : Fr z4 (z4.alloc (.cells #[.int .i64 0, .int .i64 0] 30)) (fun _ => False) := Fr.alloc _ _ _
          have hbk : Blk (z4.alloc (.cells #[.int .i64 0, .int .i64 0] 30)) b17 30 #[.int .i64 0, .int .i64 0] := by rw [hb17]; exact Blk.new _ _ _
          generalize z4.alloc (.cells #[.int .i64 0, .int .i64 0] 30) = z5 at *
          have hS5 := HSF9.out _ F5
          refine hK1.out _ _ hS5 (fun _ => ?_)
          clear hK1
          simp only [Act.put, List.setIfInBounds_toArray, List.set_cons_zero, List.set_cons_succ]
          refine wpAnyH_ready (rs := [11]) (by kernel_rfl) (by simp) ?_
          refine AllReadyH.cons rfl (fun K1 hK1 => ?_) AllReadyH.nil
          rw [if_pos (by kernel_rfl)]
          refine skipR (d := none) rfl (w' := (z5.setCell ⟨b17, 0, none⟩ (.int .i64 pt.k)).setCell ⟨b17, 1, none⟩ (.int .i64 pt.g)) (stT_run (.tmp 17) (.tmp 48) rfl (by kernel_rfl) (by kernel_rfl) hbk) ?_
          have fst := stT_fr (p := pt.k) (q := pt.g) hbk
          obtain ⟨z6, hz6⟩ : ∃ z, z = (z5.setCell ⟨b17, 0, none⟩ (.int .i64 pt.k)).setCell ⟨b17, 1, none⟩ (.int .i64 pt.g) := ⟨_, rfl⟩
          rw [← hz6] at fst ⊢
          clear hz6
          have hle : Zd.heap.size ≤ b17 := by rw [hb17]; exact F4.size
          have F6 : Fr Zd z6 (exO S2 k) := F5.trans fst.1 fun b hb q => by rcases q with q | q; exact q; omega
          have HX : Hid (Popped w Zd z6 S2 k pt r ∧ Blk z6 b17 30 #[.int .i64 pt.k, .int .i64 pt.g] ∧ Zd.heap.size ≤ b17) := ⟨(HR.post HG2.out.1.pw hk fal fun _ q => q.elim).post HG2.out.1.pw hk fst.1 fun b q => by omega, fst.2, hle⟩
          have hS6 := HSF9.out _ F6
          refine hK1.out _ _ hS6 (fun _ => ?_)
          clear hK1
          simp only [Act.put, List.setIfInBounds_toArray, List.set_cons_zero, List.set_cons_succ]
          refine takeR (i := 12) (v := .int .i64 r) (some 18) rfl rfl (by kernel_rfl) (by kernel_rfl) (by kernel_rfl) (fun _ _ _ h => h) (Or.inl ⟨by kernel_rfl, fun w' hSw => by kernel_rfl⟩) hS6 ?_
          simp only [Act.put, List.setIfInBounds_toArray, List.set_cons_zero, List.set_cons_succ]
          refine wpAnyH_done (by kernel_rfl) ?_ _
          exact hJ9 b17 pt r _ HX
        · skip
          rw [if_pos (by kernel_rfl)]
          have F4 : Fr Zd (Zd.alloc (.cells #[.int .i64 0, .int .i64 0] 30)) (exO S2 k) := Fr.alloc _ _ _
          have fal : Fr Zd (Zd.alloc (.cells #[.int .i64 0, .int .i64 0] 30)) (fun _ => False) := Fr.alloc _ _ _
          refine valR (d := some 17) rfl (ptr Zd.heap.size) (alTh_run Zd rfl) ?_
          obtain ⟨b17, hb17⟩ : ∃ b, b = Zd.heap.size := ⟨_, rfl⟩
          rw [← hb17]
          have hbk4 : Blk (Zd.alloc (.cells #[.int .i64 0, .int .i64 0] 30)) b17 30 #[.int .i64 0, .int .i64 0] := by rw [hb17]; exact Blk.new _ _ _
          generalize Zd.alloc (.cells #[.int .i64 0, .int .i64 0] 30) = z4 at *
          have hS4 := HSF9.out _ (HF0.trans F4 fun _ _ q => by rcases q with q | q <;> exact q)
          refine hK1.out _ _ hS4 (fun _ => ?_)
          clear hK1
          simp only [Act.put, List.setIfInBounds_toArray, List.set_cons_zero, List.set_cons_succ]
          refine wpAnyH_ready (rs := [6]) (by kernel_rfl) (by simp) ?_
          refine AllReadyH.cons rfl (fun K1 hK1 => ?_) AllReadyH.nil
          rw [if_pos (by kernel_rfl)]
          have hc := (HG2.out.1.pw.sm fal).pop hk
          refine callR (d := some 47) rfl 14 #[ptr (S2.h k)] (by kernel_rfl) hc ?_
          clear hc
          rintro ee z5 ⟨pt, r, rfl, HR⟩
          refine ⟨_, rfl, ?_⟩
          have FB : Fr z4 z5 (exO S2 k) := HR.frH.mono fun _ _ q => .inl q
          have F5 : Fr Zd z5 (exO S2 k) := F4.trans FB fun _ _ q => by rcases q with q | q <;> exact q
          have HB8 : ¬ exO S2 k b17 := fun q => by have := HG2.out.1.pw.exL hk q; omega
          have hbk : Blk z5 b17 30 #[.int .i64 0, .int .i64 0] := hbk4.fr FB fun q => HB8 q
          have hS5 := HSF9.out _ F5
          refine hK1.out _ _ hS5 (fun _ => ?_)
          clear hK1
          simp only [Act.put, List.setIfInBounds_toArray, List.set_cons_zero, List.set_cons_succ]
          refine takeR (i := 7) (v := popE pt r) (some 40) rfl rfl (by kernel_rfl) (by kernel_rfl) (by kernel_rfl) (fun _ _ _ h => h) (Or.inl ⟨by kernel_rfl, fun w' hSw => by kernel_rfl⟩) hS5 ?_
          simp only [Act.put, List.setIfInBounds_toArray, List.set_cons_zero, List.set_cons_succ]
          refine takeR (i := 8) (v := .agg #[.int .i64 pt.k, .int .i64 pt.g]) (some 48) rfl rfl (by kernel_rfl) (by kernel_rfl) (by kernel_rfl) (fun _ _ _ h => h) (Or.inl ⟨by kernel_rfl, fun w' hSw => by kernel_rfl⟩) hS5 ?_
          simp only [Act.put, List.setIfInBounds_toArray, List.set_cons_zero, List.set_cons_succ]
          refine takeR (i := 9) (v := .int .i64 r) (some 49) rfl rfl (by kernel_rfl) (by kernel_rfl) (by kernel_rfl) (fun _ _ _ h => h) (Or.inl ⟨by kernel_rfl, fun w' hSw => by kernel_rfl⟩) hS5 ?_
          simp only [Act.put, List.setIfInBounds_toArray, List.set_cons_zero, List.set_cons_succ]
          refine wpAnyH_ready (rs := [11]) (by kernel_rfl) (by simp) ?_
          refine AllReadyH.cons rfl (fun K1 hK1 => ?_) AllReadyH.nil
          rw [if_pos (by kernel_rfl)]
          refine skipR (d := none) rfl (w' := (z5.setCell ⟨b17, 0, none⟩ (.int .i64 pt.k)).setCell ⟨b17, 1, none⟩ (.int .i64 pt.g)) (stT_run (.tmp 17) (.tmp 48) rfl (by kernel_rfl) (by kernel_rfl) hbk) ?_
          have fst := stT_fr (p := pt.k) (q := pt.g) hbk
          obtain ⟨z6, hz6⟩ : ∃ z, z = (z5.setCell ⟨b17, 0, none⟩ (.int .i64 pt.k)).setCell ⟨b17, 1, none⟩ (.int .i64 pt.g) := ⟨_, rfl⟩
          rw [← hz6] at fst ⊢
          clear hz6
          have hle : Zd.heap.size ≤ b17 := by omega
          have F6 : Fr Zd z6 (exO S2 k) := F5.trans fst.1 fun b hb q => by rcases q with q | q; exact q; omega
          have HX : Hid (Popped w Zd z6 S2 k pt r ∧ Blk z6 b17 30 #[.int .i64 pt.k, .int .i64 pt.g] ∧ Zd.heap.size ≤ b17) := ⟨(HR.pre fal).post HG2.out.1.pw hk fst.1 fun b q => by omega, fst.2, hle⟩
          have hS6 := HSF9.out _ F6
          refine hK1.out _ _ hS6 (fun _ => ?_)
          clear hK1
          simp only [Act.put, List.setIfInBounds_toArray, List.set_cons_zero, List.set_cons_succ]
          refine takeR (i := 12) (v := .int .i64 r) (some 18) rfl rfl (by kernel_rfl) (by kernel_rfl) (by kernel_rfl) (fun _ _ _ h => h) (Or.inl ⟨by kernel_rfl, fun w' hSw => by kernel_rfl⟩) hS6 ?_
          simp only [Act.put, List.setIfInBounds_toArray, List.set_cons_zero, List.set_cons_succ]
          refine wpAnyH_done (by kernel_rfl) ?_ _
          exact hJ9 b17 pt r _ HX
      have e2 : ((i : Int) == ch) = false := by simp [hic]
      gi_wp2
      rename_i K0 h0K
      refine region_round_held (S := fun w' => Blk w' b15 4 #[.bool true] ∧ Blk w' b14 3 #[.int .i64 (i : Int)] ∧ Blk w' b13 31 #[.slice (some ⟨gw, ow, none⟩) ln cw] ∧ Blk w' b16 30 #[.int .i64 y.k, .int .i64 y.g] ∧ w'.rangeAt gw (ow + i * 2) (#[.int .i64 y.k, .int .i64 y.g] : Array Value).toList) (fun q => by obtain ⟨a, w, q⟩ := q; exact q) (noDefer_spec (by kernel_rfl)) (by kernel_rfl) ?_
      change wpAnyH _ _ _ _ _ 16 _ _ _
      have fd : Fr W1 W1.drew (fun _ => False) := (Fr.refl W1 _).drew
      have HT : Hid (GO w W C4 wb S b6 b8 b9 b10 b11 b13 b14 b15 k nn ch x (.slice (some ⟨gw, ow, none⟩) ln cw) l S1 col1 W1.drew i c ∧ BD C4 W1 W1.drew wb S1 S1 ∧ Blk W1.drew b16 30 #[.int .i64 y.k, .int .i64 y.g] ∧ C4.heap.size ≤ b16) := ⟨HG1.out.1.sm fd, HG1.out.2.1.step fd (fun _ _ q => q.elim) (fun _ q => .inl q), HG1.out.2.2.1.fr fd (fun q => q), HG1.out.2.2.2⟩
      clear fd HG1
      generalize W1.drew = Wd at *
      have hS : Blk Wd b15 4 #[.bool true] ∧ Blk Wd b14 3 #[.int .i64 (i : Int)] ∧ Blk Wd b13 31 #[.slice (some ⟨gw, ow, none⟩) ln cw] ∧ Blk Wd b16 30 #[.int .i64 y.k, .int .i64 y.g] ∧ Wd.rangeAt gw (ow + i * 2) (#[.int .i64 y.k, .int .i64 y.g] : Array Value).toList := ⟨HT.out.1.g15, HT.out.1.i14, HT.out.1.wa, HT.out.2.2.1, thw_rng (n := ln) (by have q := HT.out.1.wr; rw [← HLN.out] at q; exact q) HM.out.2.2.2.2.2.2.1⟩
      refine takeR (i := 0) (v := .bool true) (some 68) rfl rfl (by kernel_rfl) (by kernel_rfl) (by kernel_rfl) (fun _ _ _ h => h) (Or.inl ⟨by kernel_rfl, fun w' hSw => by exact ldC_run (by unfold LC; simp) (.tmp 15) rfl (by kernel_rfl) (cellB hSw.1)⟩) hS ?_
      simp only [Act.put, List.setIfInBounds_toArray, List.set_cons_zero, List.set_cons_succ]
      refine takeR (i := 1) (v := .bool true) (some 69) rfl rfl (by kernel_rfl) (by kernel_rfl) (by kernel_rfl) (fun _ _ _ h => h) (Or.inl ⟨by kernel_rfl, fun w' hSw => by kernel_rfl⟩) hS ?_
      simp only [Act.put, List.setIfInBounds_toArray, List.set_cons_zero, List.set_cons_succ]
      refine takeR (i := 2) (v := .int .i64 (i : Int)) (some 70) rfl rfl (by kernel_rfl) (by kernel_rfl) (by kernel_rfl) (fun _ _ _ h => h) (Or.inl ⟨by kernel_rfl, fun w' hSw => by exact ldC_run (by unfold LC; simp) (.tmp 14) rfl (by kernel_rfl) (cellB hSw.2.1)⟩) hS ?_
      simp only [Act.put, List.setIfInBounds_toArray, List.set_cons_zero, List.set_cons_succ]
      refine takeR (i := 3) (v := .slice (some ⟨gw, ow, none⟩) ln cw) (some 71) rfl rfl (by kernel_rfl) (by kernel_rfl) (by kernel_rfl) (fun _ _ _ h => h) (Or.inl ⟨by kernel_rfl, fun w' hSw => by exact ldC_run (by unfold LC; simp) (.tmp 13) rfl (by kernel_rfl) (cellB hSw.2.2.1)⟩) hS ?_
      simp only [Act.put, List.setIfInBounds_toArray, List.set_cons_zero, List.set_cons_succ]
      refine takeR (i := 4) (v := .int .i64 (ln : Int)) (some 72) rfl rfl (by kernel_rfl) (by kernel_rfl) (by kernel_rfl) (fun _ _ _ h => h) (Or.inl ⟨by kernel_rfl, fun w' hSw => by exact lenC_run (.inr (.inr rfl)) (v := .slice (some ⟨gw, ow, none⟩) ln cw) (ao := some ⟨gw, ow, none⟩) (n := ln) (c := cw) rfl (.tmp 71) rfl (by kernel_rfl) _⟩) hS ?_
      simp only [Act.put, List.setIfInBounds_toArray, List.set_cons_zero, List.set_cons_succ]
      refine takeR (i := 5) (v := .bool true) (some 73) rfl rfl (by kernel_rfl) (by kernel_rfl) (by kernel_rfl) (fun _ _ _ h => h) (Or.inl ⟨by kernel_rfl, fun w' hSw => by exact ltT_run (i := i) (n := ln) (.tmp 70) (.tmp 72) rfl (by kernel_rfl) (by kernel_rfl) hil _⟩) hS ?_
      simp only [Act.put, List.setIfInBounds_toArray, List.set_cons_zero, List.set_cons_succ]
      refine takeR (i := 6) (v := .bool true) (some 74) rfl rfl (by kernel_rfl) (by kernel_rfl) (by kernel_rfl) (fun _ _ _ h => h) (Or.inl ⟨by kernel_rfl, fun w' hSw => by kernel_rfl⟩) hS ?_
      simp only [Act.put, List.setIfInBounds_toArray, List.set_cons_zero, List.set_cons_succ]
      refine takeR (i := 7) (v := .bool true) (some 75) rfl rfl (by kernel_rfl) (by kernel_rfl) (by kernel_rfl) (fun _ _ _ h => h) (Or.inl ⟨by kernel_rfl, fun w' hSw => by kernel_rfl⟩) hS ?_
      simp only [Act.put, List.setIfInBounds_toArray, List.set_cons_zero, List.set_cons_succ]
      refine takeR (i := 8) (v := .agg #[.int .i64 y.k, .int .i64 y.g]) (some 76) rfl rfl (by kernel_rfl) (by kernel_rfl) (by kernel_rfl) (fun _ _ _ h => h) (Or.inl ⟨by kernel_rfl, fun w' hSw => by exact ldT_run (blk_rng hSw.2.2.2.1) Try.underlying30 rfl infoThS (.tmp 16) rfl (by kernel_rfl)⟩) hS ?_
      simp only [Act.put, List.setIfInBounds_toArray, List.set_cons_zero, List.set_cons_succ]
      refine takeR (i := 9) (v := .slice (some ⟨gw, ow, none⟩) ln cw) (some 77) rfl rfl (by kernel_rfl) (by kernel_rfl) (by kernel_rfl) (fun _ _ _ h => h) (Or.inl ⟨by kernel_rfl, fun w' hSw => by exact ldC_run (by unfold LC; simp) (.tmp 13) rfl (by kernel_rfl) (cellB hSw.2.2.1)⟩) hS ?_
      simp only [Act.put, List.setIfInBounds_toArray, List.set_cons_zero, List.set_cons_succ]
      refine takeR (i := 10) (v := .int .i64 (i : Int)) (some 78) rfl rfl (by kernel_rfl) (by kernel_rfl) (by kernel_rfl) (fun _ _ _ h => h) (Or.inl ⟨by kernel_rfl, fun w' hSw => by exact ldC_run (by unfold LC; simp) (.tmp 14) rfl (by kernel_rfl) (cellB hSw.2.1)⟩) hS ?_
      simp only [Act.put, List.setIfInBounds_toArray, List.set_cons_zero, List.set_cons_succ]
      refine takeR (i := 11) (v := .pointer (some ⟨gw, ow + i * 2, none⟩)) (some 79) rfl rfl (by kernel_rfl) (by kernel_rfl) (by kernel_rfl) (fun _ _ _ h => h) (Or.inl ⟨by kernel_rfl, fun w' hSw => by exact ixT_run (n := ln) (c := cw) (i := i) (.tmp 77) (.tmp 78) rfl (by kernel_rfl) (by kernel_rfl) hil _⟩) hS ?_
      simp only [Act.put, List.setIfInBounds_toArray, List.set_cons_zero, List.set_cons_succ]
      refine takeR (i := 12) (v := .agg #[.int .i64 y.k, .int .i64 y.g]) (some 80) rfl rfl (by kernel_rfl) (by kernel_rfl) (by kernel_rfl) (fun _ _ _ h => h) (Or.inl ⟨by kernel_rfl, fun w' hSw => by exact ldT_run hSw.2.2.2.2 Try.underlying30 rfl infoThS (.tmp 79) rfl (by kernel_rfl)⟩) hS ?_
      simp only [Act.put, List.setIfInBounds_toArray, List.set_cons_zero, List.set_cons_succ]
      refine takeR (i := 13) (v := .bool true) (some 81) rfl rfl (by kernel_rfl) (by kernel_rfl) (by kernel_rfl) (fun _ _ _ h => h) (Or.inl ⟨by kernel_rfl, fun w' hSw => by exact eqTh_run (p := y.k) (q := y.g) (.tmp 76) (.tmp 80) rfl (by kernel_rfl) (by kernel_rfl) _⟩) hS ?_
      simp only [Act.put, List.setIfInBounds_toArray, List.set_cons_zero, List.set_cons_succ]
      refine takeR (i := 14) (v := .bool true) (some 82) rfl rfl (by kernel_rfl) (by kernel_rfl) (by kernel_rfl) (fun _ _ _ h => h) (Or.inl ⟨by kernel_rfl, fun w' hSw => by kernel_rfl⟩) hS ?_
      simp only [Act.put, List.setIfInBounds_toArray, List.set_cons_zero, List.set_cons_succ]
      refine wpAnyH_ready (rs := [15]) (by kernel_rfl) (by simp) ?_
      refine AllReadyH.cons rfl (fun K1 hK1 => ?_) AllReadyH.nil
      rw [if_pos (by kernel_rfl)]
      refine skipR (d := none) rfl (w' := Wd.setCell ⟨b15, 0, none⟩ (.bool true)) (stG_run (.inr (.inl ⟨rfl, _, rfl⟩)) (.tmp 15) (.tmp 82) rfl (by kernel_rfl) (by kernel_rfl) hS.1) ?_
      have HT2 : Hid (GO w W C4 wb S b6 b8 b9 b10 b11 b13 b14 b15 k nn ch x (.slice (some ⟨gw, ow, none⟩) ln cw) l S1 col1 (Wd.setCell ⟨b15, 0, none⟩ (.bool true)) i c ∧ BD C4 W1 (Wd.setCell ⟨b15, 0, none⟩ (.bool true)) wb S1 S1 ∧ Blk (Wd.setCell ⟨b15, 0, none⟩ (.bool true)) b16 30 #[.int .i64 y.k, .int .i64 y.g] ∧ C4.heap.size ≤ b16) := by
        have h := HT.out
        have f := Fr.setCell Wd ⟨b15, 0, none⟩ (.bool true) (fun b => b = b15) rfl
        exact ⟨h.1.set15 HW0.out, h.2.1.step f (fun b _ q => .inl (by rw [q]; exact h.1.lt.2.2.2.2.2.2.2.1)) (fun _ q => .inl q), h.2.2.1.fr f (h.2.2.1.neT h.1.g15 (by decide)), h.2.2.2⟩
      clear HT
      generalize Wd.setCell ⟨b15, 0, none⟩ (.bool true) = We at *
      have hS2 : Blk We b15 4 #[.bool true] ∧ Blk We b14 3 #[.int .i64 (i : Int)] ∧ Blk We b13 31 #[.slice (some ⟨gw, ow, none⟩) ln cw] ∧ Blk We b16 30 #[.int .i64 y.k, .int .i64 y.g] ∧ We.rangeAt gw (ow + i * 2) (#[.int .i64 y.k, .int .i64 y.g] : Array Value).toList := ⟨HT2.out.1.g15, HT2.out.1.i14, HT2.out.1.wa, HT2.out.2.2.1, thw_rng (n := ln) (by have q := HT2.out.1.wr; rw [← HLN.out] at q; exact q) HM.out.2.2.2.2.2.2.1⟩
      refine hK1.out _ _ hS2 (fun _ => ?_)
      clear hK1 hS
      simp only [Act.put, List.setIfInBounds_toArray, List.set_cons_zero, List.set_cons_succ]
      refine wpAnyH_done (by kernel_rfl) ?_ _
      clear hS2
      refine h0K _ _ ?_
      clear h0K
      have d14 := cellB HT2.out.1.i14
      have d15 := cellB HT2.out.1.g15
      have z14 := HT2.out.1.i14.frozen 0
      have hb1 : (i : Int) + 1 < 9223372036854775808 := by omega
      have n15 : b14 ≠ b15 := HT2.out.1.i14.neT HT2.out.1.g15 (by decide)
      gi_wp2
      have e14 : ((i : Int) + 1) = ((i + 1 : Nat) : Int) := by omega
      have f := Fr.setCell We ⟨b14, 0, none⟩ (.int .i64 ((i + 1 : Nat) : Int)) (fun b => b = b14) rfl
      have h := HT2.out
      have G2 := h.1.set14 HW0.out
      have B2 := h.2.1.step f (fun b _ q => .inl (by rw [q]; exact h.1.lt.2.2.2.2.2.2.1)) (fun _ q => .inl q)
      rw [← e14] at G2 B2
      refine ⟨fun b => b < C4.heap.size ∨ owns wb S1 b, ⟨S1, col1, c, HM.out.2.2.2.1, fun _ => ?_, ?_, fun _ => Iff.rfl, fun b q => ?_⟩, B2.fr.mono fun b _ q => (HM.out.1 b).2 q, fun b q => ?_⟩
      · rw [List.length_append, List.length_singleton, ← HM.out.2.2.2.2.2.1]
        have := HM.out.2.2.2.2.1 (by assumption)
        omega
      · rw [List.length_append, List.length_singleton, ← HM.out.2.2.2.2.2.1]
        exact G2
      · rcases B2.nw b q with r | r
        · exact HM.out.2.1 b r
        · have := HM.out; exact .inr (by omega)
      · rcases q with q | q
        · exact .inl ((HM.out.1 b).2 (.inl q))
        · rcases B2.nw b q with r | r
          · exact .inl ((HM.out.1 b).2 (.inr r))
          · exact .inr r
    case hdone => as_aux_lemma =>
      rintro pre W1 M hpop ⟨S1, col1, c, hc1, hc2, G, hM, ho⟩ hdef
      have hpl : pre.length = l.length := by
        have h1 := hpop.len
        have h2 := HPO.out.len
        simp only [List.length_nil] at h1 h2
        omega
      obtain ⟨i, hi⟩ : ∃ i, i = pre.length := ⟨_, rfl⟩
      rw [← hi] at G hpl hc2
      obtain ⟨aw, cw, hwv, hxx⟩ := G.wr.form
      clear hxx hi
      subst hwv
      rw [← hpl] at G
      have HE : Hid (GO w W C4 wb S b6 b8 b9 b10 b11 b13 b14 b15 k nn ch x (.slice aw i cw) l S1 col1 W1 i c ∧ (∀ b, owns wb S1 b → b < C4.heap.size ∨ C4.heap.size + 2 ≤ b) ∧ c ≤ 1 ∧ W1.heap[C4.heap.size]? = some (.deferred (some []))) := ⟨G, ho, hc1, hdef⟩
      clear G ho hc1 hc2 hdef hM hpop hpl
      have c14 := cellB HE.out.1.i14
      have c15 := cellB HE.out.1.g15
      have c9 := cellB HE.out.1.bx.2.2.1
      have c13 := cellB HE.out.1.wa
      clear HPO HG HBB
      go_upto_region 15 with fail
      by_cases hin : (i : Int) = nn
      · have e1 : decide ((i : Int) = nn) = true := by simp [hin]
        clear hin
        rename_i K hK
        refine wp_region_lit ?_
        refine wpList_runTo rfl (some 87) rfl (.bool true) W1 (by exact ldC_run (by unfold LC; simp) (.tmp 15) rfl (by kernel_rfl) (c15)) ?_
        simp only [Act.put, List.setIfInBounds_toArray, List.set_cons_zero, List.set_cons_succ]
        refine wpList_runTo rfl (some 88) rfl (.bool true) W1 (by kernel_rfl) ?_
        simp only [Act.put, List.setIfInBounds_toArray, List.set_cons_zero, List.set_cons_succ]
        refine wpList_runToG (by kernel_rfl) (some 89) rfl (.int .i64 (i : Int)) W1 (by exact ldC_run (by unfold LC; simp) (.tmp 14) rfl (by kernel_rfl) (c14)) ?_
        simp only [Act.put, List.setIfInBounds_toArray, List.set_cons_zero, List.set_cons_succ]
        refine wpList_runToG (by kernel_rfl) (some 90) rfl (.int .i64 nn) W1 (by exact ldC_run (by unfold LC; simp) (.tmp 9) rfl (by kernel_rfl) (c9)) ?_
        simp only [Act.put, List.setIfInBounds_toArray, List.set_cons_zero, List.set_cons_succ]
        refine wpList_runToG (by kernel_rfl) (some 91) rfl (.bool true) W1 (by rw [← e1]; exact eqK_run (.tmp 89) (.tmp 90) rfl (by kernel_rfl) (by kernel_rfl) _) ?_
        simp only [Act.put, List.setIfInBounds_toArray, List.set_cons_zero, List.set_cons_succ]
        refine wpList_runToG (by kernel_rfl) (some 92) rfl (.bool true) W1 (by kernel_rfl) ?_
        simp only [Act.put, List.setIfInBounds_toArray, List.set_cons_zero, List.set_cons_succ]
        refine wpList_skipG (by kernel_rfl) ?_
        simp only [Act.put, List.setIfInBounds_toArray, List.set_cons_zero, List.set_cons_succ]
        refine wpList_skipG (by kernel_rfl) ?_
        simp only [Act.put, List.setIfInBounds_toArray, List.set_cons_zero, List.set_cons_succ]
        refine wpList_skipG (by kernel_rfl) ?_
        simp only [Act.put, List.setIfInBounds_toArray, List.set_cons_zero, List.set_cons_succ]
        refine wpList_skipG (by kernel_rfl) ?_
        simp only [Act.put, List.setIfInBounds_toArray, List.set_cons_zero, List.set_cons_succ]
        refine wpList_runToG (by kernel_rfl) (some 97) rfl (.bool true) W1 (by kernel_rfl) ?_
        simp only [Act.put, List.setIfInBounds_toArray, List.set_cons_zero, List.set_cons_succ]
        refine wpList_runTo rfl (some 98) rfl (.bool true) W1 (by kernel_rfl) ?_
        simp only [Act.put, List.setIfInBounds_toArray, List.set_cons_zero, List.set_cons_succ]
        refine wpList_runTo rfl (some 12) rfl (.bool true) W1 (by kernel_rfl) ?_
        simp only [Act.put, List.setIfInBounds_toArray, List.set_cons_zero, List.set_cons_succ]
        refine wpList_nil ?_
        refine hK _ _ ?_
        clear hK
        have HZ : Hid (Nx w W (W1.putObj C4.heap.size (.deferred none)) wb S col 1) := by
          have h := HE.out
          have f := fr_put W1 C4.heap.size (.deferred none)
          have sw := h.1.sw
          have w0 := HW0.out
          refine ⟨S1, col1, h.1.pw.frO f (fun b q r => by have := h.2.1 b r; omega) (fun b _ q => by omega), h.1.hh.1, h.1.hh.2, by have := h.1.ln; have := h.2.2.1; omega, h.1.nw, h.1.fr.trans f fun b hb q => ?_⟩
          rcases q with q | q
          · exact q
          · omega
        have HDE : Hid (W1.heap[C4.heap.size]? = some (.deferred (some []))) := HE.out.2.2.2
        clear c14 c15 c9 c13 HE HW0 HH
        go_wp2
        rw [HQF.out]
        refine ⟨by simp, .inl ⟨_, _, rfl, run_takeDeferred HDE.out, ?_⟩⟩
        exact ⟨_, results_tmp (fn := Try.f85) (t := 12) rfl _ _ _, by rfl, HZ⟩
      have e1 : decide ((i : Int) = nn) = false := by simp [hin]
      clear hin
      rename_i K hK
      refine wp_region_lit ?_
      refine wpList_runTo rfl (some 87) rfl (.bool true) W1 (by exact ldC_run (by unfold LC; simp) (.tmp 15) rfl (by kernel_rfl) (c15)) ?_
      simp only [Act.put, List.setIfInBounds_toArray, List.set_cons_zero, List.set_cons_succ]
      refine wpList_runTo rfl (some 88) rfl (.bool true) W1 (by kernel_rfl) ?_
      simp only [Act.put, List.setIfInBounds_toArray, List.set_cons_zero, List.set_cons_succ]
      refine wpList_runToG (by kernel_rfl) (some 89) rfl (.int .i64 (i : Int)) W1 (by exact ldC_run (by unfold LC; simp) (.tmp 14) rfl (by kernel_rfl) (c14)) ?_
      simp only [Act.put, List.setIfInBounds_toArray, List.set_cons_zero, List.set_cons_succ]
      refine wpList_runToG (by kernel_rfl) (some 90) rfl (.int .i64 nn) W1 (by exact ldC_run (by unfold LC; simp) (.tmp 9) rfl (by kernel_rfl) (c9)) ?_
      simp only [Act.put, List.setIfInBounds_toArray, List.set_cons_zero, List.set_cons_succ]
      refine wpList_runToG (by kernel_rfl) (some 91) rfl (.bool false) W1 (by rw [← e1]; exact eqK_run (.tmp 89) (.tmp 90) rfl (by kernel_rfl) (by kernel_rfl) _) ?_
      simp only [Act.put, List.setIfInBounds_toArray, List.set_cons_zero, List.set_cons_succ]
      refine wpList_runToG (by kernel_rfl) (some 92) rfl (.bool false) W1 (by kernel_rfl) ?_
      simp only [Act.put, List.setIfInBounds_toArray, List.set_cons_zero, List.set_cons_succ]
      refine wpList_runToG (by kernel_rfl) (some 93) rfl (.int .i64 (i : Int)) W1 (by exact ldC_run (by unfold LC; simp) (.tmp 14) rfl (by kernel_rfl) (c14)) ?_
      simp only [Act.put, List.setIfInBounds_toArray, List.set_cons_zero, List.set_cons_succ]
      refine wpList_runToG (by kernel_rfl) (some 94) rfl (.slice aw i cw) W1 (by exact ldC_run (by unfold LC; simp) (.tmp 13) rfl (by kernel_rfl) (c13)) ?_
      simp only [Act.put, List.setIfInBounds_toArray, List.set_cons_zero, List.set_cons_succ]
      refine wpList_runToG (by kernel_rfl) (some 95) rfl (.int .i64 (i : Int)) W1 (by exact lenC_run (.inr (.inr rfl)) (v := .slice aw i cw) (ao := aw) (n := i) (c := cw) rfl (.tmp 94) rfl (by kernel_rfl) _) ?_
      simp only [Act.put, List.setIfInBounds_toArray, List.set_cons_zero, List.set_cons_succ]
      refine wpList_runToG (by kernel_rfl) (some 96) rfl (.bool true) W1 (by exact eqI_run (p := (i : Int)) (.tmp 93) (.tmp 95) rfl (by kernel_rfl) (by kernel_rfl) _) ?_
      simp only [Act.put, List.setIfInBounds_toArray, List.set_cons_zero, List.set_cons_succ]
      refine wpList_runToG (by kernel_rfl) (some 97) rfl (.bool true) W1 (by kernel_rfl) ?_
      simp only [Act.put, List.setIfInBounds_toArray, List.set_cons_zero, List.set_cons_succ]
      refine wpList_runTo rfl (some 98) rfl (.bool true) W1 (by kernel_rfl) ?_
      simp only [Act.put, List.setIfInBounds_toArray, List.set_cons_zero, List.set_cons_succ]
      refine wpList_runTo rfl (some 12) rfl (.bool true) W1 (by kernel_rfl) ?_
      simp only [Act.put, List.setIfInBounds_toArray, List.set_cons_zero, List.set_cons_succ]
      refine wpList_nil ?_
      refine hK _ _ ?_
      clear hK
      have HZ : Hid (Nx w W (W1.putObj C4.heap.size (.deferred none)) wb S col 1) := by
        have h := HE.out
        have f := fr_put W1 C4.heap.size (.deferred none)
        have sw := h.1.sw
        have w0 := HW0.out
        refine ⟨S1, col1, h.1.pw.frO f (fun b q r => by have := h.2.1 b r; omega) (fun b _ q => by omega), h.1.hh.1, h.1.hh.2, by have := h.1.ln; have := h.2.2.1; omega, h.1.nw, h.1.fr.trans f fun b hb q => ?_⟩
        rcases q with q | q
        · exact q
        · omega
      have HDE : Hid (W1.heap[C4.heap.size]? = some (.deferred (some []))) := HE.out.2.2.2
      clear c14 c15 c9 c13 HE HW0 HH
      go_wp2
      rw [HQF.out]
      refine ⟨by simp, .inl ⟨_, _, rfl, run_takeDeferred HDE.out, ?_⟩⟩
      exact ⟨_, results_tmp (fn := Try.f85) (t := 12) rfl _ _ _, by rfl, HZ⟩
    case hstop => as_aux_lemma =>
      rintro cd pre W1 hsp ⟨rfl, S1, col1, G, hnn, ho⟩ hdef
      obtain ⟨i, hi⟩ : ∃ i, i = pre.length - 1 := ⟨_, rfl⟩
      rw [← hi] at G hnn
      obtain ⟨c, hc⟩ : ∃ c, c = 1 := ⟨_, rfl⟩
      rw [← hc] at G
      have HE : Hid (GO w W C4 wb S b6 b8 b9 b10 b11 b13 b14 b15 k nn ch x wv l S1 col1 W1 i c ∧ (∀ b, owns wb S1 b → b < C4.heap.size ∨ C4.heap.size + 2 ≤ b) ∧ c ≤ 1 ∧ W1.heap[C4.heap.size]? = some (.deferred (some []))) := ⟨G, ho, by omega, hdef⟩
      clear G ho hdef hsp hi hc
      have c14 := cellB HE.out.1.i14
      have c15 := cellB HE.out.1.g15
      have c9 := cellB HE.out.1.bx.2.2.1
      have c13 := cellB HE.out.1.wa
      clear HPO HG HBB
      refine wpIn_wide.2 ?_
      go_upto_region 15 with fail
      have e1 : decide ((i : Int) = nn) = true := by simp [hnn]
      clear hnn
      rename_i K hK
      refine wp_region_lit ?_
      refine wpList_runTo rfl (some 87) rfl (.bool true) W1 (by exact ldC_run (by unfold LC; simp) (.tmp 15) rfl (by kernel_rfl) (c15)) ?_
      simp only [Act.put, List.setIfInBounds_toArray, List.set_cons_zero, List.set_cons_succ]
      refine wpList_runTo rfl (some 88) rfl (.bool true) W1 (by kernel_rfl) ?_
      simp only [Act.put, List.setIfInBounds_toArray, List.set_cons_zero, List.set_cons_succ]
      refine wpList_runToG (by kernel_rfl) (some 89) rfl (.int .i64 (i : Int)) W1 (by exact ldC_run (by unfold LC; simp) (.tmp 14) rfl (by kernel_rfl) (c14)) ?_
      simp only [Act.put, List.setIfInBounds_toArray, List.set_cons_zero, List.set_cons_succ]
      refine wpList_runToG (by kernel_rfl) (some 90) rfl (.int .i64 nn) W1 (by exact ldC_run (by unfold LC; simp) (.tmp 9) rfl (by kernel_rfl) (c9)) ?_
      simp only [Act.put, List.setIfInBounds_toArray, List.set_cons_zero, List.set_cons_succ]
      refine wpList_runToG (by kernel_rfl) (some 91) rfl (.bool true) W1 (by rw [← e1]; exact eqK_run (.tmp 89) (.tmp 90) rfl (by kernel_rfl) (by kernel_rfl) _) ?_
      simp only [Act.put, List.setIfInBounds_toArray, List.set_cons_zero, List.set_cons_succ]
      refine wpList_runToG (by kernel_rfl) (some 92) rfl (.bool true) W1 (by kernel_rfl) ?_
      simp only [Act.put, List.setIfInBounds_toArray, List.set_cons_zero, List.set_cons_succ]
      refine wpList_skipG (by kernel_rfl) ?_
      simp only [Act.put, List.setIfInBounds_toArray, List.set_cons_zero, List.set_cons_succ]
      refine wpList_skipG (by kernel_rfl) ?_
      simp only [Act.put, List.setIfInBounds_toArray, List.set_cons_zero, List.set_cons_succ]
      refine wpList_skipG (by kernel_rfl) ?_
      simp only [Act.put, List.setIfInBounds_toArray, List.set_cons_zero, List.set_cons_succ]
      refine wpList_skipG (by kernel_rfl) ?_
      simp only [Act.put, List.setIfInBounds_toArray, List.set_cons_zero, List.set_cons_succ]
      refine wpList_runToG (by kernel_rfl) (some 97) rfl (.bool true) W1 (by kernel_rfl) ?_
      simp only [Act.put, List.setIfInBounds_toArray, List.set_cons_zero, List.set_cons_succ]
      refine wpList_runTo rfl (some 98) rfl (.bool true) W1 (by kernel_rfl) ?_
      simp only [Act.put, List.setIfInBounds_toArray, List.set_cons_zero, List.set_cons_succ]
      refine wpList_runTo rfl (some 12) rfl (.bool true) W1 (by kernel_rfl) ?_
      simp only [Act.put, List.setIfInBounds_toArray, List.set_cons_zero, List.set_cons_succ]
      refine wpList_nil ?_
      refine hK _ _ ?_
      clear hK
      have HZ : Hid (Nx w W (W1.putObj C4.heap.size (.deferred none)) wb S col 1) := by
        have h := HE.out
        have f := fr_put W1 C4.heap.size (.deferred none)
        have sw := h.1.sw
        have w0 := HW0.out
        refine ⟨S1, col1, h.1.pw.frO f (fun b q r => by have := h.2.1 b r; omega) (fun b _ q => by omega), h.1.hh.1, h.1.hh.2, by have := h.1.ln; have := h.2.2.1; omega, h.1.nw, h.1.fr.trans f fun b hb q => ?_⟩
        rcases q with q | q
        · exact q
        · omega
      have HDE : Hid (W1.heap[C4.heap.size]? = some (.deferred (some []))) := HE.out.2.2.2
      clear c14 c15 c9 c13 HE HW0 HH
      go_wp2
      rw [HQF.out]
      refine ⟨by simp, .inl ⟨_, _, rfl, run_takeDeferred HDE.out, ?_⟩⟩
      exact ⟨_, results_tmp (fn := Try.f85) (t := 12) rfl _ _ _, by rfl, HZ⟩
end
end Go.Proofs.Ytdnhhcbabdoomaa
