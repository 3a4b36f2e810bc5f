/-
  heap: clone.
-/
import Derived.Test.YtdnhhcbabdoomaaHFace6
import Derived.Deep.OwnRows
namespace Go.Proofs.Ytdnhhcbabdoomaa
set_option linter.unusedVariables false
set_option linter.unusedSimpArgs false
open Go.RowKit Go.Great

theorem make_items (n : Nat) (hn : n ≤ 1000000000) (W : World) : (Instr.makeSlice 42 (.int .i64 (n : Int)) (.int .i64 (n : Int))).run Try.prog W = .ok (.slice (some ⟨W.heap.size, 0, none⟩) n n) (W.alloc (.cells (List.replicate n (Value.pointer none)).toArray 27)) := by
  have h := run_make_row' (P := Try.prog) 42 27 (.pointer none) 8 Try.underlying42 (by kernel_rfl) rfl .i64 .i64 n (by omega) (by omega) W
  have e : madeCells #[Value.pointer none] n = (List.replicate n (Value.pointer none)).toArray := by
    apply Array.ext
    · simp [madeCells]
    · intro i h1 h2
      simp [madeCells, Nat.mod_one]
  rw [e] at h
  exact h
/-- The first k items of a tree, copied to blocks from b on. -/
def cpL (b : Nat) (t : List (It Th)) : List (It Th) := t.zipIdx.map fun p => ⟨b + p.2, p.1.r, p.1.x⟩
theorem cpL_len (b : Nat) (t : List (It Th)) : (cpL b t).length = t.length := by simp [cpL]
theorem cpL_get (b : Nat) (t : List (It Th)) (k : Nat) : (cpL b t)[k]? = (t[k]?).map fun it => ⟨b + k, it.r, it.x⟩ := by
  unfold cpL
  rw [List.getElem?_map, List.getElem?_zipIdx]
  cases t[k]? <;> simp
/-- The cells of the row while it is filled. -/
def cpC (b n k : Nat) : List Value := (List.range k).map (fun i => ptr (b + i)) ++ List.replicate (n - k) (.pointer none)
theorem cpC_set (b n k : Nat) (h : k < n) : (cpC b n k).set k (ptr (b + k)) = cpC b n (k + 1) := by
  unfold cpC
  rw [List.set_append_right _ _ (by simp), List.range_succ, List.map_append, List.append_assoc]
  congr 1
  rw [show n - k = (n - (k + 1)) + 1 by omega, List.replicate_succ]
  simp
theorem cpC_len (b n k : Nat) (h : k ≤ n) : (cpC b n k).length = n := by unfold cpC; simp; omega
section
variable {A : Ask} {w w' : World} {h : Nat} {v : Value} {t L : List (It Th)} {N c : Nat}
/-- While the clone is made: k items are copied. -/
structure CL (A : Ask) (w wr : World) (t : List (It Th)) (N c : Nat) (h : Nat) (v : Value) (gc hc b k : Nat) : Prop where
  m : HpM A wr h v t N c
  hd : Blk wr hc 98 #[.func (.func A.f) #[] #[], .slice (some ⟨gc, 0, none⟩) t.length t.length, .int .i64 (N : Int)]
  row : Blk wr gc 27 (cpC b t.length k).toArray
  its : ∀ (j : Nat) it, j < k → t[j]? = some it → Blk wr (b + j) 100 (icl ⟨b + j, it.r, it.x⟩ j)
  sz : wr.heap.size = b + k
  fr : Fr w wr (fun _ => False)
  lo : w.heap.size ≤ gc ∧ w.heap.size ≤ hc ∧ gc ≠ hc ∧ gc < b ∧ hc < b
  old : (∀ q, ownH h v t q → q < w.heap.size) ∧ ∀ q, A.ex q → q < w.heap.size
theorem CL.step {wr : World} {gc hc b k : Nat} (C : CL A w wr t N c h v gc hc b k) (hA : A.Ok) {it : It Th} (hk : t[k]? = some it) :
    CL A w ((wr.setCell ⟨gc, k, none⟩ (ptr wr.heap.size)).alloc (.cells #[.int .i64 it.x.k, .int .i64 it.x.g, .int .i64 (it.r : Int), .int .i64 (k : Int)] 100)) t N c h v gc hc b (k + 1) := by
  have hkl := get_lt hk
  have hsz := C.sz
  obtain ⟨l1, l2, l3, l4, l5⟩ := C.lo
  have F1 : Fr wr (wr.setCell ⟨gc, k, none⟩ (ptr wr.heap.size)) (fun q => q = gc) := Fr.setCell _ _ _ _ rfl
  have F2 : Fr (wr.setCell ⟨gc, k, none⟩ (ptr wr.heap.size)) ((wr.setCell ⟨gc, k, none⟩ (ptr wr.heap.size)).alloc (.cells #[.int .i64 it.x.k, .int .i64 it.x.g, .int .i64 (it.r : Int), .int .i64 (k : Int)] 100)) (fun _ => False) := Fr.alloc _ _ _
  have F : Fr wr ((wr.setCell ⟨gc, k, none⟩ (ptr wr.heap.size)).alloc (.cells #[.int .i64 it.x.k, .int .i64 it.x.g, .int .i64 (it.r : Int), .int .i64 (k : Int)] 100)) (fun q => q = gc) := F1.trans F2 fun _ _ q => by rcases q with q | q; exact q; exact q.elim
  have hs1 : (wr.setCell ⟨gc, k, none⟩ (ptr wr.heap.size)).heap.size = wr.heap.size := by simp [World.setCell]
  have hown : ∀ q, ownH h v t q → q ≠ gc := fun q hq e => by have := C.old.1 q hq; omega
  refine ⟨C.m.fr F hown (hA.keep C.m.st F fun q hq hx => ?_), C.hd.fr F (fun e => l3 e.symm), ?_, fun j a hj ha => ?_, by simp [hs1]; omega, C.fr.trans F fun q hq1 hq => ?_, ⟨l1, l2, l3, l4, l5⟩, C.old⟩
  · have := C.old.2 q hx; omega
  · have r1 := C.row.set k (ptr wr.heap.size)
    have e : ((cpC b t.length k).toArray.setIfInBounds k (ptr wr.heap.size)) = (cpC b t.length (k + 1)).toArray := by
      rw [List.setIfInBounds_toArray, hsz, cpC_set b t.length k hkl]
    rw [e] at r1
    exact r1.alloc _
  · by_cases e : j = k
    · subst e
      rw [hk] at ha; injection ha with ha; subst ha
      have := Blk.new' (g := b + j) (wr.setCell ⟨gc, j, none⟩ (ptr wr.heap.size)) 100 #[.int .i64 it.x.k, .int .i64 it.x.g, .int .i64 (it.r : Int), .int .i64 (j : Int)] (by rw [hs1]; omega)
      exact this
    · exact (C.its j a (by omega) ha).fr F (fun e2 => by omega)
  · rcases hq with hq | hq
    · exact hq
    · omega
set_option maxRecDepth 100000 in
set_option maxHeartbeats 4000000 in
theorem clone_any (H : HpM A w h v t N c) (hA : A.Ok) :
    Calls Try.prog 48 #[ptr h] w fun e w' => ∃ gc hc b, e = .returned (ptr hc) ∧ CL A w w' t N c h v gc hc b t.length := by
  have HO : Hid A.Ok := hA
  have HH : Hid (HpM A w h v t N c) := H
  have hlen := H.le
  obtain ⟨d0, d1, d2⟩ := H.hd
  obtain ⟨ao, cap, hvf, hcap⟩ := H.form
  subst hvf
  have hmk := make_items t.length hlen
  clear H hA
  go_enter Try.func48, Try.ntmps48
  go_upto_region 1 with fail
  rename_i Kd hKd
  refine wp_region_held (S := fun w' => w'.cell? ⟨h, 0, none⟩ = some (.func (.func A.f) #[] #[]) ∧ w'.cell? ⟨h, 1, none⟩ = some (.slice ao t.length cap) ∧ w'.cell? ⟨h, 2, none⟩ = some (.int .i64 (N : Int))) (by kernel_rfl) ?_
  change wpAnyH _ _ _ _ _ _ _ _ (World.drew _)
  have hS : w.drew.cell? ⟨h, 0, none⟩ = some (.func (.func A.f) #[] #[]) ∧ w.drew.cell? ⟨h, 1, none⟩ = some (.slice ao t.length cap) ∧ w.drew.cell? ⟨h, 2, none⟩ = some (.int .i64 (N : Int)) := ⟨d0, d1, d2⟩
  have HD : Hid (HpM A w.drew h (.slice ao t.length cap) t N c ∧ Fr w w.drew (fun _ => False)) := ⟨HH.out.drewN HO.out 1, (Fr.refl w _).drew⟩
  clear d0 d1 d2
  generalize w.drew = w0 at *
  refine takeR (i := 0) (v := ptr h) (some 7) rfl rfl (by kernel_rfl) (by kernel_rfl) (by kernel_rfl) (fun _ _ _ h => h) (Or.inl ⟨by kernel_rfl, fun w' hSw => by kernel_rfl⟩) hS ?_
  simp only [Act.put, List.setIfInBounds_toArray, List.set_cons_zero, List.set_cons_succ]
  refine takeR (i := 1) (v := ptr h) (some 8) rfl rfl (by kernel_rfl) (by kernel_rfl) (by kernel_rfl) (fun _ _ _ h => h) (Or.inl ⟨by kernel_rfl, fun w' hSw => by kernel_rfl⟩) hS ?_
  simp only [Act.put, List.setIfInBounds_toArray, List.set_cons_zero, List.set_cons_succ]
  refine takeR (i := 2) (v := .pointer (some ⟨h, 0, none⟩)) (some 9) rfl rfl (by kernel_rfl) (by kernel_rfl) (by kernel_rfl) (fun _ _ _ h => h) (Or.inl ⟨by kernel_rfl, fun w' hSw => by kernel_rfl⟩) hS ?_
  simp only [Act.put, List.setIfInBounds_toArray, List.set_cons_zero, List.set_cons_succ]
  refine takeR (i := 3) (v := .func (.func A.f) #[] #[]) (some 10) rfl rfl (by kernel_rfl) (by kernel_rfl) (by kernel_rfl) (fun _ _ _ h => h) (Or.inl ⟨by kernel_rfl, fun w' hSw => by have q := hSw.1; clear hSw; go_simp⟩) hS ?_
  simp only [Act.put, List.setIfInBounds_toArray, List.set_cons_zero, List.set_cons_succ]
  refine takeR (i := 4) (v := ptr h) (some 11) rfl rfl (by kernel_rfl) (by kernel_rfl) (by kernel_rfl) (fun _ _ _ h => h) (Or.inl ⟨by kernel_rfl, fun w' hSw => by kernel_rfl⟩) hS ?_
  simp only [Act.put, List.setIfInBounds_toArray, List.set_cons_zero, List.set_cons_succ]
  refine takeR (i := 5) (v := ptr h) (some 12) rfl rfl (by kernel_rfl) (by kernel_rfl) (by kernel_rfl) (fun _ _ _ h => h) (Or.inl ⟨by kernel_rfl, fun w' hSw => by kernel_rfl⟩) hS ?_
  simp only [Act.put, List.setIfInBounds_toArray, List.set_cons_zero, List.set_cons_succ]
  refine takeR (i := 6) (v := .pointer (some ⟨h, 1, none⟩)) (some 13) rfl rfl (by kernel_rfl) (by kernel_rfl) (by kernel_rfl) (fun _ _ _ h => h) (Or.inl ⟨by kernel_rfl, fun w' hSw => by kernel_rfl⟩) hS ?_
  simp only [Act.put, List.setIfInBounds_toArray, List.set_cons_zero, List.set_cons_succ]
  refine takeR (i := 7) (v := .slice ao t.length cap) (some 14) rfl rfl (by kernel_rfl) (by kernel_rfl) (by kernel_rfl) (fun _ _ _ h => h) (Or.inl ⟨by kernel_rfl, fun w' hSw => by have q := hSw.2.1; clear hSw; go_simp⟩) hS ?_
  simp only [Act.put, List.setIfInBounds_toArray, List.set_cons_zero, List.set_cons_succ]
  refine takeR (i := 8) (v := .int .i64 (t.length : Int)) (some 15) rfl rfl (by kernel_rfl) (by kernel_rfl) (by kernel_rfl) (fun _ _ _ h => h) (Or.inl ⟨by kernel_rfl, fun w' hSw => by kernel_rfl⟩) hS ?_
  simp only [Act.put, List.setIfInBounds_toArray, List.set_cons_zero, List.set_cons_succ]
  refine takeR (i := 10) (v := ptr h) (some 17) rfl rfl (by kernel_rfl) (by kernel_rfl) (by kernel_rfl) (fun _ _ _ h => h) (Or.inl ⟨by kernel_rfl, fun w' hSw => by kernel_rfl⟩) hS ?_
  simp only [Act.put, List.setIfInBounds_toArray, List.set_cons_zero, List.set_cons_succ]
  refine takeR (i := 11) (v := ptr h) (some 18) rfl rfl (by kernel_rfl) (by kernel_rfl) (by kernel_rfl) (fun _ _ _ h => h) (Or.inl ⟨by kernel_rfl, fun w' hSw => by kernel_rfl⟩) hS ?_
  simp only [Act.put, List.setIfInBounds_toArray, List.set_cons_zero, List.set_cons_succ]
  refine takeR (i := 12) (v := .pointer (some ⟨h, 2, none⟩)) (some 19) rfl rfl (by kernel_rfl) (by kernel_rfl) (by kernel_rfl) (fun _ _ _ h => h) (Or.inl ⟨by kernel_rfl, fun w' hSw => by kernel_rfl⟩) hS ?_
  simp only [Act.put, List.setIfInBounds_toArray, List.set_cons_zero, List.set_cons_succ]
  refine takeR (i := 13) (v := .int .i64 (N : Int)) (some 20) rfl rfl (by kernel_rfl) (by kernel_rfl) (by kernel_rfl) (fun _ _ _ h => h) (Or.inl ⟨by kernel_rfl, fun w' hSw => by have q := hSw.2.2; clear hSw; go_simp⟩) hS ?_
  simp only [Act.put, List.setIfInBounds_toArray, List.set_cons_zero, List.set_cons_succ]
  refine wpAnyH_ready (rs := [9]) (by kernel_rfl) (by simp) ?_
  refine AllReadyH.cons rfl (fun K1 hK1 => ?_) AllReadyH.nil
  rw [if_pos (by kernel_rfl)]
  refine valR (d := some 16) rfl (.slice (some ⟨w0.heap.size, 0, none⟩) t.length t.length) (w' := w0.alloc (.cells (List.replicate t.length (Value.pointer none)).toArray 27)) (by have q := hmk w0; go_simp) ?_
  have F1 : Fr w0 (w0.alloc (.cells (List.replicate t.length (Value.pointer none)).toArray 27)) (fun _ => False) := Fr.alloc _ _ _
  have hS1 : (w0.alloc (.cells (List.replicate t.length (Value.pointer none)).toArray 27)).cell? ⟨h, 0, none⟩ = some (.func (.func A.f) #[] #[]) ∧ (w0.alloc (.cells (List.replicate t.length (Value.pointer none)).toArray 27)).cell? ⟨h, 1, none⟩ = some (.slice ao t.length cap) ∧ (w0.alloc (.cells (List.replicate t.length (Value.pointer none)).toArray 27)).cell? ⟨h, 2, none⟩ = some (.int .i64 (N : Int)) := ⟨F1.cell hS.1 (fun q => q), F1.cell hS.2.1 (fun q => q), F1.cell hS.2.2 (fun q => q)⟩
  refine hK1.out _ _ hS1 (fun _ => ?_)
  clear hK1 hS
  simp only [Act.put, List.setIfInBounds_toArray, List.set_cons_zero, List.set_cons_succ]
  have HR1 : Hid (Blk (w0.alloc (.cells (List.replicate t.length (Value.pointer none)).toArray 27)) w0.heap.size 27 (List.replicate t.length (Value.pointer none)).toArray ∧ HpM A (w0.alloc (.cells (List.replicate t.length (Value.pointer none)).toArray 27)) h (.slice ao t.length cap) t N c ∧ Fr w (w0.alloc (.cells (List.replicate t.length (Value.pointer none)).toArray 27)) (fun _ => False) ∧ w.heap.size ≤ w0.heap.size ∧ (w0.alloc (.cells (List.replicate t.length (Value.pointer none)).toArray 27)).heap.size = w0.heap.size + 1) :=
    ⟨Blk.new _ _ _, HD.out.1.alloc HO.out _, HD.out.2.trans F1 (fun _ _ q => by rcases q with q | q <;> exact q), HD.out.2.size, by simp⟩
  clear F1 HD
  generalize w0.alloc (.cells (List.replicate t.length (Value.pointer none)).toArray 27) = w1 at *
  generalize w0.heap.size = gc at *
  refine takeR (i := 14) (v := .agg #[.func (.func A.f) #[] #[], .slice (some ⟨gc, 0, none⟩) t.length t.length, .int .i64 (N : Int)]) (some 21) rfl rfl (by kernel_rfl) (by kernel_rfl) (by kernel_rfl) (fun _ _ _ h => h) (Or.inl ⟨by kernel_rfl, fun w' hSw => by kernel_rfl⟩) hS1 ?_
  simp only [Act.put, List.setIfInBounds_toArray, List.set_cons_zero, List.set_cons_succ]
  refine wpAnyH_ready (rs := [15]) (by kernel_rfl) (by simp) ?_
  refine AllReadyH.cons rfl (fun K1 hK1 => ?_) AllReadyH.nil
  rw [if_pos (by kernel_rfl)]
  refine valR (d := some 22) rfl (ptr w1.heap.size) (w' := w1.alloc (.cells #[.func (.func A.f) #[] #[], .slice (some ⟨gc, 0, none⟩) t.length t.length, .int .i64 (N : Int)] 98)) (by kernel_rfl) ?_
  have F2 : Fr w1 (w1.alloc (.cells #[.func (.func A.f) #[] #[], .slice (some ⟨gc, 0, none⟩) t.length t.length, .int .i64 (N : Int)] 98)) (fun _ => False) := Fr.alloc _ _ _
  refine hK1.out _ _ ⟨F2.cell hS1.1 (fun q => q), F2.cell hS1.2.1 (fun q => q), F2.cell hS1.2.2 (fun q => q)⟩ (fun _ => ?_)
  clear hK1
  simp only [Act.put, List.setIfInBounds_toArray, List.set_cons_zero, List.set_cons_succ]
  have HC : Hid (CL A w (w1.alloc (.cells #[.func (.func A.f) #[] #[], .slice (some ⟨gc, 0, none⟩) t.length t.length, .int .i64 (N : Int)] 98)) t N c h (.slice ao t.length cap) gc w1.heap.size (w1.heap.size + 1) 0) := by
    obtain ⟨q1, q2, q3, q4, q5⟩ := HR1.out
    refine ⟨q2.alloc HO.out _, Blk.new _ _ _, ?_, fun j it hj => by omega, by simp, q3.trans F2 (fun _ _ q => by rcases q with q | q <;> exact q), ⟨q4, by omega, by omega, by omega, by omega⟩, fun q hq => HH.out.lt hq, fun q hq => HO.out.low HH.out.st hq⟩
    have e : cpC (w1.heap.size + 1) t.length 0 = List.replicate t.length (Value.pointer none) := by unfold cpC; simp
    rw [e]; exact q1.alloc _
  clear F2 HR1
  generalize w1.alloc (.cells #[.func (.func A.f) #[] #[], .slice (some ⟨gc, 0, none⟩) t.length t.length, .int .i64 (N : Int)] 98) = w2 at *
  generalize w1.heap.size = hc at *
  have hS2 : w2.cell? ⟨h, 0, none⟩ = some (.func (.func A.f) #[] #[]) ∧ w2.cell? ⟨h, 1, none⟩ = some (.slice ao t.length cap) ∧ w2.cell? ⟨h, 2, none⟩ = some (.int .i64 (N : Int)) := HC.out.m.hd
  clear hS1
  refine takeR (i := 16) (v := ptr hc) (some 3) rfl rfl (by kernel_rfl) (by kernel_rfl) (by kernel_rfl) (fun _ _ _ h => h) (Or.inl ⟨by kernel_rfl, fun w' hSw => by kernel_rfl⟩) hS2 ?_
  simp only [Act.put, List.setIfInBounds_toArray, List.set_cons_zero, List.set_cons_succ]
  refine wpAnyH_done (by kernel_rfl) ?_ _
  refine hKd _ _ ?_
  clear hKd
  have d1 := hS2.2.1
  clear hS2
  go_wp2
  go_loopw [4, 5, 6, 28] (fun _ _ _ x28 wr => ∃ k : Nat, k ≤ t.length ∧ x28 = .int .i64 (k : Int) ∧ Hid (CL A w wr t N c h (.slice ao t.length cap) gc hc (hc + 1) k)) (fun _ _ _ x28 _ => t.length - (RowKit.intOf x28).toNat)
  case atStart =>
    exact ⟨0, Nat.zero_le _, rfl, HC.out⟩
  case round =>
    obtain ⟨k, hk, rfl, HQ⟩ := hrel
    by_cases hlt : k < t.length
    · have hki : (k : Int) < (t.length : Int) := by omega
      have hkb : (k : Int) + 1 < 9223372036854775808 := by omega
      obtain ⟨it, hit⟩ := get_some t hlt
      obtain ⟨g, off, cap', hv, _, _, _, h4, _⟩ := HQ.out.m.slice (by omega)
      injection hv with e1 e0 e2
      subst e1 e2
      have hc1 := h4 k it hit
      obtain ⟨a0, a1, a2, a3⟩ := HQ.out.m.at hit
      have dh : wr.cell? ⟨hc, 1, none⟩ = some (.slice (some ⟨gc, 0, none⟩) t.length t.length) := HQ.out.hd.cell 1
      have hgl : wr.cell? ⟨gc, k, none⟩ = some (.pointer none) := by
        rw [HQ.out.row.cell]
        rw [List.getElem?_toArray]
        unfold cpC
        rw [List.getElem?_append_right (by simp)]
        simp only [List.length_map, List.length_range, Nat.sub_self]
        rw [List.getElem?_replicate, if_pos (by omega)]
      have hgf := HQ.out.row.frozen k
      have HIT : Hid (t[k]? = some it) := hit
      have hgs : gc < wr.heap.size := HQ.out.row.lt
      have hhs : hc < wr.heap.size := HQ.out.hd.lt
      have his : it.p < wr.heap.size := (HQ.out.m.its k it hit).lt
      have hws : wr.heap.size = hc + 1 + k := HQ.out.sz
      have HWS : Hid (wr.heap.size = hc + 1 + k) := hws
      clear hws
      clear h4 hit e0
      go_wp2
      exact ⟨⟨k + 1, by omega, by go_num, HQ.out.step HO.out HIT.out⟩, by simp [RowKit.intOf]; omega⟩
    · have hki : ¬ (k : Int) < (t.length : Int) := by omega
      obtain rfl : k = t.length := by omega
      go_wp2
      go_ret
      first | exact ⟨gc, hc, hc + 1, rfl, HQ.out⟩ | exact ⟨gc, hc, rfl, hc + 1, HQ.out⟩
/-- The copy is a heap like the one that was copied. -/
theorem CL.hp {wr : World} {gc hc b : Nat} (C : CL A w wr t N c h v gc hc b t.length) : HpM A wr hc (.slice (some ⟨gc, 0, none⟩) t.length t.length) (cpL b t) N c ∧ ∀ q, ownH hc (.slice (some ⟨gc, 0, none⟩) t.length t.length) (cpL b t) q → w.heap.size ≤ q := by
  obtain ⟨l1, l2, l3, l4, l5⟩ := C.lo
  have hlo : ∀ q, ownH hc (.slice (some ⟨gc, 0, none⟩) t.length t.length) (cpL b t) q → w.heap.size ≤ q := by
    intro q hq
    rcases hq with r | r | ⟨a, r1, r2⟩
    · omega
    · have : gc = q := own_slice rfl r
      omega
    · obtain ⟨k, hk⟩ := List.mem_iff_getElem?.1 r1
      rw [cpL_get] at hk
      cases ht : t[k]? with
      | none => rw [ht] at hk; cases hk
      | some it => rw [ht] at hk; injection hk with hk; subst hk; have : b + k = q := r2; omega
  refine ⟨⟨C.hd, ?_, fun k a hk => ?_, ?_, C.m.st, fun q hq hx => ?_, by rw [cpL_len]; exact C.m.le⟩, hlo⟩
  · rw [cpL_len]
    have e : (cpL b t).map (fun it => ptr it.p) = cpC b t.length t.length := by
      unfold cpC
      rw [Nat.sub_self, List.replicate_zero, List.append_nil]
      apply List.ext_getElem?
      intro k
      rw [List.getElem?_map, cpL_get, List.getElem?_map]
      by_cases hk : k < t.length
      · obtain ⟨it, hit⟩ := get_some t hk
        rw [hit, List.getElem?_range hk]; rfl
      · rw [List.getElem?_eq_none (by omega), List.getElem?_eq_none (by simpa using hk)]; rfl
    rw [e]
    refine ⟨by rw [cpC_len b t.length t.length (Nat.le_refl _)]; omega, .inr ⟨gc, 0, t.length, _, rfl, C.row, Nat.le_refl _, by have := C.m.le; unfold maxLen; omega, by simp [cpC_len b t.length t.length (Nat.le_refl _)], ?_⟩⟩
    rw [List.drop_zero, Nat.mul_one]
    exact List.take_of_length_le (by rw [cpC_len b t.length t.length (Nat.le_refl _)]; exact Nat.le_refl _)
  · rw [cpL_get] at hk
    cases ht : t[k]? with
    | none => rw [ht] at hk; cases hk
    | some it => rw [ht] at hk; injection hk with hk; subst hk; exact C.its k it (get_lt ht) ht
  · rw [List.pairwise_iff_getElem]
    intro i j hi hj hij
    rw [cpL_len] at hi hj
    have e1 : (cpL b t)[i]? = some (cpL b t)[i] := List.getElem?_eq_getElem _
    have e2 : (cpL b t)[j]? = some (cpL b t)[j] := List.getElem?_eq_getElem _
    rw [cpL_get, List.getElem?_eq_getElem hi] at e1
    rw [cpL_get, List.getElem?_eq_getElem hj] at e2
    injection e1 with e1
    injection e2 with e2
    rw [← e1, ← e2]
    show b + i ≠ b + j
    omega
  · have h1 := C.old.2 q hx
    have h2 := hlo q hq
    omega
/-- What a copy is by the items in the order of pushing. -/
def cpM (b : Nat) (t : List (It Th)) (it : It Th) : It Th := ⟨b + t.findIdx (fun a => a.r == it.r), it.r, it.x⟩
theorem cpL_map (b : Nat) {t : List (It Th)} (hr : ∀ (i j : Nat) (a d : It Th), t[i]? = some a → t[j]? = some d → a.r = d.r → i = j) : cpL b t = t.map (cpM b t) := by
  apply List.ext_getElem?
  intro k
  rw [cpL_get, List.getElem?_map]
  cases ht : t[k]? with
  | none => rfl
  | some it =>
    show some _ = some (cpM b t it)
    unfold cpM
    have hk := get_lt ht
    have e : t.findIdx (fun a => a.r == it.r) = k := by
      have hlt : t.findIdx (fun a => a.r == it.r) < t.length := List.findIdx_lt_length_of_exists ⟨it, List.mem_of_getElem? ht, by simp⟩
      have h1 := List.findIdx_getElem (w := hlt)
      have h2 : t[t.findIdx (fun a => a.r == it.r)].r = it.r := by simpa using h1
      exact hr _ k _ it (List.getElem?_eq_getElem hlt) ht h2
    rw [e]
/-- A copy of a heap, by what is in it. -/
theorem clone_A (H : HpA A w h v L N c) (hA : A.Ok) :
    Calls Try.prog 48 #[ptr h] w fun e w' => ∃ hc vc Lc, e = .returned (ptr hc) ∧ HpA A w' hc vc Lc N c ∧ Lc.map (·.x) = L.map (·.x) ∧ Fr w w' (fun _ => False) ∧ ∀ q, ownH hc vc Lc q → w.heap.size ≤ q := by
  obtain ⟨t, h1, h2, h3, h4⟩ := H
  refine (clone_any h1 hA).mono ?_
  rintro e w' ⟨gc, hc, b, rfl, C⟩
  have hr : ∀ (i j : Nat) (a d : It Th), t[i]? = some a → t[j]? = some d → a.r = d.r → i = j := by
    intro i j a d hi hj he
    obtain ⟨m, hm⟩ := perm_at h2 hi
    obtain ⟨m', hm'⟩ := perm_at h2 hj
    have pw := List.pairwise_iff_getElem.1 h3.up
    have had : a = d := by
      obtain ⟨l1, e1⟩ := List.getElem?_eq_some_iff.1 hm
      obtain ⟨l2, e2⟩ := List.getElem?_eq_some_iff.1 hm'
      rcases Nat.lt_trichotomy m m' with q | q | q
      · have := pw m m' l1 l2 q; rw [e1, e2] at this; omega
      · subst q; exact e1.symm.trans e2
      · have := pw m' m l2 l1 q; rw [e1, e2] at this; omega
    subst had
    rcases Nat.lt_trichotomy i j with q | q | q
    · exact absurd rfl (pw_ne h1.ne hi hj (by omega))
    · exact q
    · exact absurd rfl (pw_ne h1.ne hi hj (by omega))
  obtain ⟨c1, c2⟩ := C.hp
  have em := cpL_map b hr
  have hp : (cpL b t).Perm (L.map (cpM b t)) := by rw [em]; exact h2.map _
  have hne : (L.map (cpM b t)).Pairwise fun a d => a.p ≠ d.p := hp.pairwise c1.ne fun q => Ne.symm q
  refine ⟨hc, _, L.map (cpM b t), rfl, ⟨_, c1, hp, ⟨?_, ?_, hne⟩, fun o => ?_⟩, ?_, C.fr, fun q hq => c2 q (ownH_perm hp.symm hq)⟩
  · rw [List.pairwise_map]; exact h3.up
  · intro a ha
    obtain ⟨a0, ha0, rfl⟩ := List.mem_map.1 ha
    exact h3.lt a0 ha0
  · intro j j0 j1
    rw [cpL_len] at j1
    have hh := h4 o j j0 j1
    have hpj := parI_lt j0
    obtain ⟨x1, e1⟩ := get_some t j1
    obtain ⟨x2, e2⟩ := get_some t (show parI j < t.length by omega)
    rw [ahAt_eq e1 e2] at hh
    have g1 : (cpL b t)[j]? = some ⟨b + j, x1.r, x1.x⟩ := by rw [cpL_get, e1]; rfl
    have g2 : (cpL b t)[parI j]? = some ⟨b + parI j, x2.r, x2.x⟩ := by rw [cpL_get, e2]; rfl
    rw [ahAt_eq g1 g2]
    exact hh
  · rw [List.map_map]; rfl
end
end Go.Proofs.Ytdnhhcbabdoomaa
