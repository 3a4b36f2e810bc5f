/-
  The reference's heap: All.
-/
import Derived.Test.YtdnhhcbabdoomaaHRef7
namespace Go.Proofs.Ytdnhhcbabdoomaa
set_option linter.unusedVariables false
set_option linter.unusedSimpArgs false
open Go.RowKit Go.Great

def thw (x : Th) : List Value := [.int .i64 x.k, .int .i64 x.g]
/-- Truths as cells. -/
def boC (f : Nat → Bool) (n : Nat) : Array Value := ((List.range n).map fun t => Value.bool (f t)).toArray
theorem boC_at (f : Nat → Bool) {n t : Nat} (h : t < n) : (boC f n)[t]? = some (.bool (f t)) := by
  unfold boC; rw [List.getElem?_toArray, List.getElem?_map, List.getElem?_range h]; rfl
theorem boC_set (f : Nat → Bool) {n j : Nat} (h : j < n) : (boC f n).setIfInBounds j (.bool true) = boC (fun k => if k = j then true else f k) n := by
  apply Array.ext
  · simp [boC]
  · intro t h1 h2
    have ht : t < n := by simpa [boC] using h2
    have e1 : ((boC f n).setIfInBounds j (.bool true))[t]? = some (.bool (if t = j then true else f t)) := by
      rw [Array.getElem?_setIfInBounds]
      by_cases e : j = t
      · subst e; simp [boC, h]
      · rw [if_neg e, if_neg (Ne.symm e), boC_at f ht]
    have e2 := boC_at (fun k => if k = j then true else f k) ht
    rw [Array.getElem?_eq_getElem h1] at e1
    rw [Array.getElem?_eq_getElem h2] at e2
    injection e1 with e1
    injection e2 with e2
    rw [e1, e2]
theorem make_bools (n : Nat) (hn : n ≤ 1000000) (W : World) : (Instr.makeSlice 35 (.int .i64 (n : Int)) (.int .i64 (n : Int))).run Try.prog W = .ok (.slice (some ⟨W.heap.size, 0, none⟩) n n) (W.alloc (.cells (boC (fun _ => false) n) 4)) := by
  have h := run_make_row' (P := Try.prog) 35 4 (.bool false) 1 Try.underlying35 (by kernel_rfl) rfl .i64 .i64 n (by omega) (by omega) W
  have e : madeCells #[Value.bool false] n = boC (fun _ => false) n := by
    apply Array.ext
    · simp [madeCells, boC]
    · intro i h1 h2
      simp [madeCells, boC, Nat.mod_one]
  rw [e] at h
  exact h
theorem infoThR : ∃ i, Try.prog.info? 30 = some i ∧ i.zero = some (.agg #[.int .i64 0, .int .i64 0]) ∧ i.size = 2 ∧ i.bytes = 16 := by
  have h : (Try.prog.info? 30).map (fun i => (i.zero, i.size, i.bytes)) = some (some (.agg #[.int .i64 0, .int .i64 0]), 2, 16) := by kernel_rfl
  obtain ⟨i, hi, he⟩ := Option.map_eq_some_iff.1 h
  injection he with h1 h2
  injection h2 with h2 h3
  exact ⟨i, hi, h1, h2, h3⟩
theorem cnd_mark (R : List RIt) (f : Nat → Bool) (b : Nat) (k : Nat) : cnd R (fun k => if k = b then true else f k) k = if k = b then none else cnd R f k := by
  unfold cnd
  cases R[k]? with
  | none => simp
  | some a => by_cases e : k = b <;> simp [e]
theorem live_le (R : List RIt) : (liveL R).length ≤ R.length := by
  unfold liveL; rw [List.length_map]; exact List.length_filter_le _ _
/-- Where All stands: these are in the list. -/
structure AL (w wr : World) (o h : Nat) (v : Value) (R : List RIt) (ob : Nat) (f : Nat → Bool) (l : List Th) (vl : Value) : Prop where
  r : RH wr o h v R
  ou : Blk wr ob 4 (boC f R.length)
  row : RowAt wr 30 2 vl l.length (flatL thw l)
  po : PopTo (lsB o) (liveL R) l (liveF R f)
  lo : w.heap.size ≤ ob ∧ ∀ g, vl.ownBlock = some g → w.heap.size ≤ g
  old : ∀ b, ownR h v R b → b < w.heap.size
  fr : Fr w wr (fun _ => False)
section
variable {w w' : World} {o h : Nat} {v : Value} {R : List RIt}
def lenV : Value → Nat
  | .slice _ n _ => n
  | _ => 0
set_option maxRecDepth 100000 in
set_option maxHeartbeats 2000000 in
theorem rAll_any (H : RH w o h v R) (ho : o < 3) :
    Calls Try.prog 86 #[ptr h] w fun e w' => ∃ vl l, e = .returned vl ∧ PopTo (lsB o) (liveL R) l [] ∧ RowAt w' 30 2 vl l.length (flatL thw l) ∧ (∀ g, vl.ownBlock = some g → w.heap.size ≤ g) ∧ Fr w w' (fun _ => False) := by
  obtain ⟨ao, cap, hvf, _⟩ := H.row.form
  have hlen := H.le
  subst hvf
  have d1 : w.cell? ⟨h, 1, none⟩ = some (.slice ao R.length cap) := H.blk.cell 1
  have hmk := make_bools R.length hlen
  have F0 : Fr w (w.alloc (.cells (boC (fun _ => false) R.length) 4)) (fun _ => False) := Fr.alloc _ _ _
  have H0 : Hid (AL w (w.alloc (.cells (boC (fun _ => false) R.length) 4)) o h (.slice ao R.length cap) R w.heap.size (fun _ => false) [] (.slice none 0 0)) := by
    refine ⟨H.sm F0, Blk.new _ _ _, RowAt.none0 _ _ _, ?_, ⟨Nat.le_refl _, fun g hg => (nomatch hg)⟩, fun b hb => H.lt hb, F0⟩
    show PopTo (lsB o) (liveL R) [] (liveF R fun _ => false)
    rw [live_eq R]
    exact PopTo.nil
  obtain ⟨i1, hi1, hx0, hx1, hx2⟩ := infoThR
  clear F0 H
  go_enter Try.func86, Try.ntmps86
  go_upto_region 2 with fail
  generalize w.alloc (.cells (boC (fun _ => false) R.length) 4) = w1 at *
  obtain ⟨ob, hob⟩ : ∃ ob, w.heap.size = ob := ⟨_, rfl⟩
  simp only [hob] at H0 ⊢
  have HOB : Hid (w.heap.size = ob) := hob
  clear hob d1 hmk
  go_wp2
  go_loopw [4, 5] (fun x4 _ wr => ∃ (f : Nat → Bool) (l : List Th) (al : Option Addr) (cl : Nat), x4 = .slice al l.length cl ∧ Hid (AL w wr o h (.slice ao R.length cap) R ob f l (.slice al l.length cl))) (fun x4 _ _ => R.length - lenV x4)
  case atStart =>
    exact ⟨fun _ => false, [], none, 0, rfl, H0.out⟩
  case round =>
    clear H0
    obtain ⟨f, l, al, cl, rfl, HQ⟩ := hrel
    have hle := least_any HQ.out.r (.slice (some ⟨ob, 0, none⟩) R.length R.length) f (.inr ⟨ob, rfl, fun k hk => by rw [HQ.out.ou.cell]; exact boC_at f hk⟩)
    cases hb : bst (lsB o) (cnd R f) R.length with
    | none => as_aux_lemma =>
      rw [hb] at hle
      simp only [bpV] at hle
      have HN : Hid (liveF R f = []) := bst_nil hb
      clear hb
      go_wp2_with (go_at_call 81; fail)
      refine hle.mono ?_
      rintro e w2 ⟨rfl, hf⟩
      have HX : Hid (PopTo (lsB o) (liveL R) l [] ∧ RowAt w2 30 2 (.slice al l.length cl) l.length (flatL thw l) ∧ (∀ g, (Value.slice al l.length cl).ownBlock = some g → w.heap.size ≤ g) ∧ Fr w w2 (fun _ => False)) := by
        have hp := HQ.out.po
        rw [HN.out] at hp
        exact ⟨hp, HQ.out.row.fr hf (fun _ _ q => q), HQ.out.lo.2, HQ.out.fr.trans hf fun _ _ q => by rcases q with q | q <;> exact q⟩
      clear hf hle HQ
      go_wp2
      go_ret
      first | exact ⟨_, l, rfl, HX.out⟩ | exact ⟨l, _, rfl, HX.out⟩
    | some b => as_aux_lemma =>
      rw [hb] at hle
      obtain ⟨z, hz, hbl, hmin, hget⟩ := bst_min (lsB_ord o) hb
      obtain ⟨a, ha, hax⟩ := cnd_some hz
      have hrp : bpV R (some b) = ptr a.p := by show ptr (rp R b) = _; rw [rp_at ha]
      rw [hrp] at hle
      have HM : Hid (PopTo (lsB o) (liveL R) (l ++ [a.x]) (liveF R fun k => if k = b then true else f k) ∧ l.length < R.length ∧ R[b]? = some a ∧ b < R.length) := by
        have hp := HQ.out.po
        obtain ⟨m, g1, g2, g3⟩ := fm_mark (c' := cnd R fun k => if k = b then true else f k) hz (cnd_mark R f b) R.length hbl
        have h1 : PopTo (lsB o) (liveL R) (l ++ [a.x]) ((liveF R f).eraseIdx m) := hp.snoc (by rw [g3]; exact hmin) (by rw [hax]; exact g1)
        refine ⟨?_, ?_, ha, hbl⟩
        · show PopTo _ _ _ (liveF R _)
          unfold liveF at h1 ⊢
          rw [g2]; exact h1
        · have h2 := h1.len
          have h3 := live_le R
          rw [List.length_append, List.length_singleton] at h2
          omega
      clear hz hmin hget hb hrp ha hax
      go_wp2_with (go_at_call 81; fail)
      refine hle.mono ?_
      rintro e w2 ⟨rfl, hf⟩
      have hbi := (HQ.out.r.sm hf).its b a HM.out.2.2.1
      have ho2 := HQ.out.ou.fr hf (fun q => q)
      have a2 : w2.cell? ⟨a.p, 2, none⟩ = some (.int .i64 (b : Int)) := hbi.cell 2
      have cob : w2.cell? ⟨ob, b, none⟩ = some (.bool (f b)) := by rw [ho2.cell]; exact boC_at f HM.out.2.2.2
      have fob := ho2.frozen b
      have hbI : (b : Int) < (R.length : Int) := by omega
      have FS : Fr w2 (w2.setCell ⟨ob, b, none⟩ (.bool true)) (fun q => q = ob) := Fr.setCell _ _ _ _ rfl
      have HX : Hid (RH (w2.setCell ⟨ob, b, none⟩ (.bool true)) o h (.slice ao R.length cap) R ∧ Blk (w2.setCell ⟨ob, b, none⟩ (.bool true)) ob 4 (boC (fun k => if k = b then true else f k) R.length) ∧ RowAt (w2.setCell ⟨ob, b, none⟩ (.bool true)) 30 2 (.slice al l.length cl) l.length (flatL thw l) ∧ Fr w (w2.setCell ⟨ob, b, none⟩ (.bool true)) (fun _ => False)) := by
        have hlo := HQ.out.lo.1
        refine ⟨(HQ.out.r.sm hf).fr FS fun q hq e => by have := HQ.out.old q hq; omega, ?_, (HQ.out.row.fr hf (fun _ _ q => q)).fr FS fun g hg e => ?_, (HQ.out.fr.trans hf fun _ _ q => by rcases q with q | q <;> exact q).trans FS fun q hq r => ?_⟩
        · have h1 := ho2.set b (.bool true)
          rw [boC_set f HM.out.2.2.2] at h1
          exact h1
        · exact (HQ.out.row.fr hf (fun _ _ q => q)).ne_type ho2 (by decide) (e ▸ hg)
        · rcases r with r | r
          · exact r
          · omega
      clear hf hle FS ho2 hbi
      go_upto_region 7 with fail
      generalize w2.setCell ⟨ob, b, none⟩ (.bool true) = w3 at *
      clear a2 cob fob
      have hbi := HX.out.1.its b a HM.out.2.2.1
      have a0 : w3.cell? ⟨a.p, 0, none⟩ = some (.int .i64 a.x.k) := hbi.cell 0
      have a1 : w3.cell? ⟨a.p, 1, none⟩ = some (.int .i64 a.x.g) := hbi.cell 1
      have F4 : Fr w3 (w3.alloc (.cells #[.int .i64 a.x.k, .int .i64 a.x.g] 30)) (fun _ => False) := Fr.alloc _ _ _
      have HX4 : Hid (RH (w3.alloc (.cells #[.int .i64 a.x.k, .int .i64 a.x.g] 30)) o h (.slice ao R.length cap) R ∧ Blk (w3.alloc (.cells #[.int .i64 a.x.k, .int .i64 a.x.g] 30)) ob 4 (boC (fun k => if k = b then true else f k) R.length) ∧ RowAt (w3.alloc (.cells #[.int .i64 a.x.k, .int .i64 a.x.g] 30)) 30 2 (.slice al l.length cl) l.length (flatL thw l) ∧ Fr w (w3.alloc (.cells #[.int .i64 a.x.k, .int .i64 a.x.g] 30)) (fun _ => False)) := by
        obtain ⟨q1, q2, q3, q4⟩ := HX.out
        exact ⟨q1.sm F4, q2.alloc _, q3.fr F4 (fun _ _ q => q), q4.trans F4 fun _ _ q => by rcases q with q | q <;> exact q⟩
      have hB4 : Blk (w3.alloc (.cells #[.int .i64 a.x.k, .int .i64 a.x.g] 30)) w3.heap.size 30 #[.int .i64 a.x.k, .int .i64 a.x.g] := Blk.new _ _ _
      clear F4 hbi
      refine wp_region_lit ?_
      refine wpList_runTo rfl (some 24) rfl (.slice al l.length cl) w3 (by kernel_rfl) ?_
      simp only [Act.put, List.setIfInBounds_toArray, List.set_cons_zero, List.set_cons_succ]
      refine wpList_runTo rfl (some 25) rfl (ptr a.p) w3 (by kernel_rfl) ?_
      simp only [Act.put, List.setIfInBounds_toArray, List.set_cons_zero, List.set_cons_succ]
      refine wpList_runTo rfl (some 26) rfl (.pointer (some ⟨a.p, 0, none⟩)) w3 (by kernel_rfl) ?_
      simp only [Act.put, List.setIfInBounds_toArray, List.set_cons_zero, List.set_cons_succ]
      refine wpList_runTo rfl (some 27) rfl (.pointer (some ⟨a.p, 0, none⟩)) w3 (by kernel_rfl) ?_
      simp only [Act.put, List.setIfInBounds_toArray, List.set_cons_zero, List.set_cons_succ]
      refine wpList_runTo rfl (some 28) rfl (.agg #[.int .i64 a.x.k, .int .i64 a.x.g]) w3 (by go_simp) ?_
      simp only [Act.put, List.setIfInBounds_toArray, List.set_cons_zero, List.set_cons_succ]
      refine wpList_runTo rfl (some 29) rfl (.slice (some ⟨w3.heap.size, 0, none⟩) 1 1) (w3.alloc (.cells #[.int .i64 a.x.k, .int .i64 a.x.g] 30)) (by kernel_rfl) ?_
      simp only [Act.put, List.setIfInBounds_toArray, List.set_cons_zero, List.set_cons_succ]
      refine wpList_append_row _ rfl _ _ 31 rfl 30 i1 _ 2 16 Try.underlying31 hi1 hx0 hx1 hx2 (by rfl) (.slice al l.length cl) l.length (flatL thw l) rfl HX4.out.2.2.1 ⟨w3.heap.size, 0, none⟩ 1 1 [.int .i64 a.x.k, .int .i64 a.x.g] rfl rfl (fun j u hj => by rw [Addr.add_mid, cell_of_row _ _ _ _ _ _ hB4, Nat.zero_add]; simpa using hj) (fun u hu => by simp at hu; rcases hu with rfl | rfl <;> rfl) (.inl (by decide)) (by unfold maxLen; have := HM.out.2.1; omega) (by have := HM.out.2.1; omega) ?_
      intro v' w5 hrow hfr hnew
      simp only [Act.put, List.setIfInBounds_toArray, List.set_cons_zero, List.set_cons_succ]
      obtain ⟨al5, cl5, hv5, _⟩ := hrow.form
      subst hv5
      have HX5 : Hid (AL w w5 o h (.slice ao R.length cap) R ob (fun k => if k = b then true else f k) (l ++ [a.x]) (.slice al5 (l.length + 1) cl5)) := by
        obtain ⟨q1, q2, q3, q4⟩ := HX4.out
        have hlo := HQ.out.lo
        refine ⟨q1.fr hfr fun q hq e => ?_, q2.fr hfr (q3.ne_type q2 (by decide)), ?_, HM.out.1, ⟨hlo.1, fun g hg => ?_⟩, HQ.out.old, q4.trans hfr fun q hq r => ?_⟩
        · have h1 := HQ.out.old q hq
          have h2 := hlo.2 q e
          omega
        · rw [List.length_append, flatL_app, flatL_one]; exact hrow
        · rcases hnew with r | ⟨r, _⟩
          · rw [r] at hg; exact hlo.2 g hg
          · rw [r] at hg; injection hg with hg; have := q4.size; omega
        · rcases r with r | r
          · exact r
          · have := hlo.2 q r; omega
      clear hrow hfr hnew hB4 HX4 HX
      refine wpList_runTo rfl (some 4) rfl (.slice al5 (l.length + 1) cl5) w5 (by kernel_rfl) ?_
      simp only [Act.put, List.setIfInBounds_toArray, List.set_cons_zero, List.set_cons_succ]
      refine wpList_nil ?_
      clear a0 a1
      have HLN : Hid ((l ++ [a.x]).length = l.length + 1 ∧ l.length < R.length) := ⟨by simp, HM.out.2.1⟩
      go_wp2
      refine ⟨⟨fun k => if k = b then true else f k, l ++ [a.x], al5, cl5, by rw [HLN.out.1], ?_⟩, ?_⟩
      · have h1 := HX5.out
        rw [← HLN.out.1] at h1
        exact h1
      · show R.length - (l.length + 1) < R.length - l.length
        have := HLN.out.2
        omega
end
end Go.Proofs.Ytdnhhcbabdoomaa
