/-
  framer: Feed.
-/
import Derived.Test.YtkpoheknmcepnaaGreatDoorFrC
namespace Go.Proofs.YtkpoheknmcepnaaGreatDoor
set_option linter.unusedVariables false
set_option linter.unusedSimpArgs false
open Go.RowKit Go.Great Go.Shelf

attribute [local go_sem] Oper.semAt_some

def QN (R : World → Prop) : Exit → Act → World → Prop
  | .normal, _, W => R W
  | _, _, _ => False
def noDefer (ops : Array Oper) : Bool := ops.all fun o => match o.op with | .defer _ => false | _ => true
theorem noDefer_spec {ops : Array Oper} (h : noDefer ops = true) (j : Nat) (o : Oper) (ho : ops[j]? = some o) (c : Call) : o.op ≠ .defer c := fun e => by
  unfold noDefer at h
  rw [Array.all_eq_true] at h
  obtain ⟨hj, hj2⟩ := Array.getElem?_eq_some_iff.1 ho
  have := h j hj
  rw [hj2, e] at this
  cases this
def FeedTmps (p : Nat) (w : World) (a : Option Addr) (n c : Nat) (x : Value) (v9 : Value) : Array Value := #[.pointer (some ⟨p, 0, none⟩), .slice a n c, .pointer (some ⟨w.heap.size, 0, none⟩), undef, .slice none 0 0, .pointer (some ⟨w.heap.size + 1, 0, none⟩), x, (.slice a n c), .func (.func 53) #[] #[.pointer (some ⟨w.heap.size + 2, 0, none⟩), .pointer (some ⟨w.heap.size + 3, 0, none⟩)], v9, undef, undef, undef, undef, undef, undef, undef, undef, undef, undef, undef, undef, undef, undef, undef, undef, undef, undef, undef, undef, undef, undef, undef]
set_option maxRecDepth 100000 in
set_option maxHeartbeats 4000000 in
theorem Feed_any {W0 w : World} {f : List UInt8 → Sight} {lk : FuncId} (hf : Steady f) (hlk : LookOK W0 lk f) (hcf : ∀ args w, (callFunc lk args).run Tryz.prog w = .ok (.enter lk args) w) (hbeg : ∀ b n, f b = .begun n → n ≤ 1024)
    {a : Option Addr} {p g o n c wants told K j : Nat} {vb : Value} {r l : List UInt8} (hb : FmB w p (.func (.func lk) #[] #[]) vb wants K told) (htj : told + j = K) (hrow : ByAt w vb r) (hr : ∃ m, f r = .begun m) (hrw : r.length < 1024) (hwa : wants ≤ 1024) (hmore : ∀ c, (r ++ c).length < wants → ∃ m, f (r ++ c) = .begun m)
    (hs : LSrc w (some ⟨g, o, none⟩) l) (hg : 0 < n → a = some ⟨g, o, none⟩ ∧ g ≠ p ∧ vb.ownBlock ≠ some g) (hl : l.length = n) (hnc : n ≤ c) (hn1 : n ≤ 1000000000) (hK : K ≤ 900000000000) (hW0 : Below W0.heap.size W0 w) (hlp : W0.heap.size ≤ p) (hlv : ∀ b, vb.ownBlock = some b → W0.heap.size ≤ b) :
    Calls Tryz.prog 10 #[.pointer (some ⟨p, 0, none⟩), (.slice a n c)] w fun e w' => ∃ vb' v wants' told' fs, e = .returned v ∧ FH (.slice a n c) w w' p lk vb vb' v wants' told' (K + (walkL f (r ++ l) j).k) (walkL f (r ++ l) j).j (walkL f (r ++ l) j).r fs ∧ fsOf fs = (walkL f (r ++ l) j).fs ∧ (walkL f (r ++ l) j).r.length < 1024 ∧ wants' ≤ 1024 ∧ ∀ c, ((walkL f (r ++ l) j).r ++ c).length < wants' → ∃ m, f ((walkL f (r ++ l) j).r ++ c) = .begun m := by
  refine (callsIn_wide (n := 3)).1 ?_
  refine callsIn_of_wp_marks Tryz.func10 rfl trivial ?_ rfl
  simp only [Tryz.ntmps10, List.size_toArray, List.length_cons, List.length_nil, Nat.reduceAdd, Nat.reduceSub, Array.replicate_succ, Array.replicate_zero, List.push_toArray, List.append_toArray, List.nil_append, List.cons_append]
  gi_wp2_with (refine ⟨trivial, ?_⟩; gi_at_call 21; refine (callsIn_wide.2 (Chunk_any _ _ _ _)).mono ?_; rintro e w' ⟨rfl, rfl⟩)
  have hsz : ((((w.alloc (.cells #[.pointer (some ⟨p, 0, none⟩)] 25)).alloc (.cells #[.slice none 0 0] 30)).alloc (.cells #[.slice a n c] 22)).alloc (.cells #[.int .i64 1024] 3)).heap.size = w.heap.size + 4 := by simp
  have hF4 : Fr w ((((w.alloc (.cells #[.pointer (some ⟨p, 0, none⟩)] 25)).alloc (.cells #[.slice none 0 0] 30)).alloc (.cells #[.slice a n c] 22)).alloc (.cells #[.int .i64 1024] 3)) (fun _ => False) :=
    (((Fr.alloc _ _ _).trans (Fr.alloc _ _ _) fun _ _ q => q.elim id id).trans (Fr.alloc _ _ (fun _ => False)) fun _ _ q => q.elim id id).trans (Fr.alloc _ _ (fun _ => False)) fun _ _ q => q.elim id id
  have c2 := heap_alloc_new w (.cells #[.pointer (some ⟨p, 0, none⟩)] 25)
  have c5 := heap_alloc_new (w.alloc (.cells #[.pointer (some ⟨p, 0, none⟩)] 25)) (.cells #[.slice none 0 0] 30)
  have cs := heap_alloc_new ((w.alloc (.cells #[.pointer (some ⟨p, 0, none⟩)] 25)).alloc (.cells #[.slice none 0 0] 30)) (.cells #[.slice a n c] 22)
  have cn := heap_alloc_new (((w.alloc (.cells #[.pointer (some ⟨p, 0, none⟩)] 25)).alloc (.cells #[.slice none 0 0] 30)).alloc (.cells #[.slice a n c] 22)) (.cells #[.int .i64 1024] 3)
  simp only [World.size_alloc] at c5 cs cn
  replace cs := (Below.heap_alloc (((w.alloc (.cells #[.pointer (some ⟨p, 0, none⟩)] 25)).alloc (.cells #[.slice none 0 0] 30)).alloc (.cells #[.slice a n c] 22)) (.cells #[.int .i64 1024] 3) _ (by simp)).trans cs
  replace c5 := (Below.heap_alloc (((w.alloc (.cells #[.pointer (some ⟨p, 0, none⟩)] 25)).alloc (.cells #[.slice none 0 0] 30)).alloc (.cells #[.slice a n c] 22)) (.cells #[.int .i64 1024] 3) _ (by simp <;> omega)).trans ((Below.heap_alloc ((w.alloc (.cells #[.pointer (some ⟨p, 0, none⟩)] 25)).alloc (.cells #[.slice none 0 0] 30)) (.cells #[.slice a n c] 22) _ (by simp)).trans c5)
  replace c2 := (Below.heap_alloc (((w.alloc (.cells #[.pointer (some ⟨p, 0, none⟩)] 25)).alloc (.cells #[.slice none 0 0] 30)).alloc (.cells #[.slice a n c] 22)) (.cells #[.int .i64 1024] 3) _ (by simp <;> omega)).trans ((Below.heap_alloc ((w.alloc (.cells #[.pointer (some ⟨p, 0, none⟩)] 25)).alloc (.cells #[.slice none 0 0] 30)) (.cells #[.slice a n c] 22) _ (by simp <;> omega)).trans ((Below.heap_alloc (w.alloc (.cells #[.pointer (some ⟨p, 0, none⟩)] 25)) (.cells #[.slice none 0 0] 30) _ (by simp)).trans c2))
  generalize ((((w.alloc (.cells #[.pointer (some ⟨p, 0, none⟩)] 25)).alloc (.cells #[.slice none 0 0] 30)).alloc (.cells #[.slice a n c] 22)).alloc (.cells #[.int .i64 1024] 3)) = W4 at *
  obtain ⟨m0, hm0⟩ := hr
  have h0 : FI f w p lk vb (.slice a n c) K (r ++ catP l ([] : List (Pc n))) j W4 := by
    have e0 : r ++ catP l ([] : List (Pc n)) = r := by simp [catP]
    rw [e0]
    refine ⟨vb, .slice none 0 0, wants, told, [], ⟨⟨?_, ?_, ?_, c2, c5, ⟨⟨rfl, .inl ⟨rfl, rfl⟩⟩, fun x hx => (by cases hx), List.Pairwise.nil⟩, fun x hx => (by cases hx), fun x hx => (by cases hx), .inl rfl, fun b hb => (by cases hb), hF4.trans (Fr.refl _ (fun _ => False)) fun _ _ q => q.elim False.elim False.elim, Nat.le_refl _, by omega⟩, cs, cn⟩, ?_, ?_, hwa, ?_⟩
    all_goals rw [walkL_begun hm0]
    · exact hb.fr hF4 id
    · exact htj
    · exact RowAt.fr hrow hF4 fun _ _ q => q
    · rfl
    · exact hrw
    · exact hmore
  refine wpIn_rangeFunc_ownF rfl (by decide) (gf := 53) (lb := #[.pointer (some ⟨w.heap.size + 1 + 1, 0, none⟩), .pointer (some ⟨w.heap.size + 1 + 1 + 1, 0, none⟩)]) rfl trivial (enters_of Tryz.func53 (by kernel_rfl) rfl)
    (chunk_stops _ (w.heap.size + 2) (w.heap.size + 3) g o n c a (fun h => (hg h).1) hnc (by omega) W4 (by omega) (by omega) (by rw [cell_of_row _ _ _ _ _ _ cs]; rfl) (by rw [cell_of_row _ _ _ _ _ _ cn]; rfl)) (fun h k => ⟨k.1.trans h.1, k.2.trans h.2⟩)
    (fun W l o o' hl0 hl1 _ _ => ⟨World.cell?_of_block ((grownBy_putObj' W l o').block _ (by have := (Array.getElem?_eq_some_iff.1 hl1).1; show w.heap.size + 2 < _; omega) (fun q => by injection q with q; have q' : w.heap.size + 2 = l := q; omega)), World.cell?_of_block ((grownBy_putObj' W l o').block _ (by have := (Array.getElem?_eq_some_iff.1 hl1).1; show w.heap.size + 3 < _; omega) (fun q => by injection q with q; have q' : w.heap.size + 3 = l := q; omega))⟩) (Below.refl _ _) (fun _ => rfl)
    (fun pre W => FI f w p lk vb (.slice a n c) K (r ++ catP l pre) j W) (fun _ _ _ => False)
    (fun pre W W' row hs hg hr => by obtain ⟨vb', v, wants', told', fs, hH, hrest⟩ := hs; exact ⟨vb', v, wants', told', fs, hH.grown hg hr (by omega), hrest⟩) (fun _ _ _ _ _ hs _ _ => hs) h0
    (fun x => { tmps := FeedTmps p w a n c (.slice (some ⟨g, o + x.1, none⟩) (pcLen n x.1) (pcLen n x.1)) (.slice (some ⟨g, o + x.1, none⟩) (pcLen n x.1) (pcLen n x.1)), defers := [] }) ?assign ?body ?done ?stop
  case assign =>
    intro l x W K hK
    unfold FeedTmps at hK
    simp only [encP]
    gi_wp2
    exact hK
  case body =>
    rintro lp pre x W ⟨vb1, v, wants1, told1, fs, hH, hfs, hrw1, hw1, hmore1⟩ hlen
    have hcl := catP_len l pre
    have hcnt := walk_count hf _ (r ++ catP l pre) j (Nat.le_refl _)
    rw [List.length_append] at hcnt
    have hfl : fs.length = (walkL f (r ++ catP l pre) j).fs.length := by rw [← hfs]; simp [fsOf]
    have hb1 : fs.length ≤ 2000000000 ∧ K + (walkL f (r ++ catP l pre) j).k ≤ 1000000000000 := by omega
    have hst := walk_step hf (r ++ catP l pre) ((l.drop x.1).take 1024) j
    have hcat : r ++ catP l (pre ++ [x]) = (r ++ catP l pre) ++ (l.drop x.1).take 1024 := by rw [catP_snoc, List.append_assoc]
    have hpl : ((l.drop x.1).take 1024).length = pcLen n x.1 := by rw [List.length_take, List.length_drop, hl]; rfl
    have hm1 : 0 < pcLen n x.1 ∧ pcLen n x.1 ≤ 1024 := by have := x.2; unfold pcLen; omega
    have hp : LSrc W (some ⟨g, o + x.1, none⟩) ((l.drop x.1).take 1024) := ((hs.fr hH.G.fr (fun q => by rcases q with q | q; exact (hg (by have := x.2; omega)).2.1 q; exact (hg (by have := x.2; omega)).2.2 q)).drop x.1).take 1024
    have hWb : Below W0.heap.size W0 W := hW0.trans (hH.G.fr.below hW0.size fun b hb q => by
      rcases q with q | q
      · omega
      · have := hlv b q; omega)
    have hlv1 : ∀ b, v.ownBlock = some b → W0.heap.size ≤ b := fun b q => Nat.le_trans hW0.size (hH.G.nv b q)
    obtain ⟨R, hQ⟩ : ∃ R : World → Prop, R = fun W' => KeepsOthers W W' ∧ KpC (w.heap.size + 2) (w.heap.size + 3) W W' ∧ FI f w p lk vb (.slice a n c) K (r ++ catP l (pre ++ [x])) j W' := ⟨_, rfl⟩
    refine wpIn_mono (Q := QN R) ?_ (fun e a W' h => by subst hQ; cases e <;> first | exact h | exact h.elim)
    have hgo : ∀ W' vb' v' wants' told' fs', Kept w W W' → FH (.slice a n c) w W' p lk vb vb' v' wants' told' (K + (walkL f (r ++ catP l pre) j).k + (walkL f ((walkL f (r ++ catP l pre) j).r ++ (l.drop x.1).take 1024) (walkL f (r ++ catP l pre) j).j).k) (walkL f ((walkL f (r ++ catP l pre) j).r ++ (l.drop x.1).take 1024) (walkL f (r ++ catP l pre) j).j).j (walkL f ((walkL f (r ++ catP l pre) j).r ++ (l.drop x.1).take 1024) (walkL f (r ++ catP l pre) j).j).r fs' →
        fsOf fs' = fsOf fs ++ (walkL f ((walkL f (r ++ catP l pre) j).r ++ (l.drop x.1).take 1024) (walkL f (r ++ catP l pre) j).j).fs → (walkL f ((walkL f (r ++ catP l pre) j).r ++ (l.drop x.1).take 1024) (walkL f (r ++ catP l pre) j).j).r.length < 1024 → wants' ≤ 1024 →
        (∀ c, ((walkL f ((walkL f (r ++ catP l pre) j).r ++ (l.drop x.1).take 1024) (walkL f (r ++ catP l pre) j).j).r ++ c).length < wants' → ∃ m, f ((walkL f ((walkL f (r ++ catP l pre) j).r ++ (l.drop x.1).take 1024) (walkL f (r ++ catP l pre) j).j).r ++ c) = .begun m) → R W' := by
      intro W' vb' v' wants' told' fs' hk h1 h2 h3 h4 h5
      rw [hQ]
      refine ⟨hk.others, hk.kp, ?_⟩
      rw [hcat]
      obtain ⟨q1, q2, q3, q4⟩ := hst
      refine ⟨vb', v', wants', told', fs', ?_, ?_, ?_, h4, ?_⟩
      · rw [q2, q3, q4, ← Nat.add_assoc]; exact h1
      · rw [h2, hfs, q1]
      · rw [q4]; exact h3
      · rw [q4]; exact h5
    obtain ⟨y, hy⟩ : ∃ y, x.1 = y := ⟨_, rfl⟩
    simp only [hy] at *
    generalize pcLen n y = i at *
    clear hy hQ hst hcat hs hb htj hrow hrw hwa hmore h0 hF4 hfs hfl hcnt hcl cn cs c5 c2 hlen
    generalize walkL f (r ++ catP l pre) j = O at *
    generalize (l.drop y).take 1024 = ps at *
    obtain ⟨ab, cb, hvb, _⟩ := hH.G.row.form
    subst hvb
    obtain ⟨g1, off1, cap1, W1, hrun, h12, h1p, hH1, hk1⟩ := hH.drew.app (c' := i) (ty := 22) (gs := g) (os := o + y) hp hpl hm1.1 (by omega) (by omega)
    have HR : Hid _ := hrun
    have hS0 : W.drew.cell? ⟨w.heap.size, 0, none⟩ = some (.pointer (some ⟨p, 0, none⟩)) := by
      show W.cell? _ = _
      rw [cell_of_row _ _ _ _ _ _ hH.G.b2]; rfl
    have hS1 : W1.cell? ⟨w.heap.size, 0, none⟩ = some (.pointer (some ⟨p, 0, none⟩)) := by rw [cell_of_row _ _ _ _ _ _ h12]; rfl
    have hp0 : W.drew.cell? ⟨p, 1, none⟩ = some (.slice ab O.r.length cb) := hH.G.blk.at.2.1
    have hp1 : W1.cell? ⟨p, 1, none⟩ = some (.slice ab O.r.length cb) := h1p.at.2.1
    have hp2 := h1p.frz 1
    have hGo : Hid _ := hgo
    have hHH : Hid _ := hH1
    have hKK : Hid _ := (Kept.drew w W).trans hk1
    clear hrun hgo hH1 hk1 hH hp h12 h1p
    simp only [FeedTmps]
    gi_wp2
    rename_i K0 h0K
    refine region_round_held (S := fun w' => w'.cell? ⟨w.heap.size, 0, none⟩ = some (.pointer (some ⟨p, 0, none⟩))) (fun q => by obtain ⟨a, w, q⟩ := q; exact q) (noDefer_spec (by kernel_rfl)) (by kernel_rfl) ?_
    change wpAnyH _ _ _ _ _ 10 _ _ _
    refine takeR (i := 0) (v := .pointer (some ⟨p, 0, none⟩)) (some 10) rfl rfl (by kernel_rfl) (by kernel_rfl) (by kernel_rfl) (fun _ _ _ h => h) (Or.inl ⟨by kernel_rfl, fun w' hSw => by have q0 : w'.cell? ⟨w.heap.size, 0, none⟩ = _ := hSw; go_simp⟩) hS0 ?_
    simp only [Act.put, List.setIfInBounds_toArray, List.set_cons_zero, List.set_cons_succ]
    refine takeR (i := 1) (v := .pointer (some ⟨p, 0, none⟩)) (some 11) rfl rfl (by kernel_rfl) (by kernel_rfl) (by kernel_rfl) (fun _ _ _ h => h) (Or.inl ⟨by kernel_rfl, fun w' hSw => by have q0 : w'.cell? ⟨w.heap.size, 0, none⟩ = _ := hSw; go_simp⟩) hS0 ?_
    simp only [Act.put, List.setIfInBounds_toArray, List.set_cons_zero, List.set_cons_succ]
    refine takeR (i := 5) (v := .slice (some ⟨g, o + y, none⟩) i i) (some 15) rfl rfl (by kernel_rfl) (by kernel_rfl) (by kernel_rfl) (fun _ _ _ h => h) (Or.inl ⟨by kernel_rfl, fun w' hSw => by kernel_rfl⟩) hS0 ?_
    simp only [Act.put, List.setIfInBounds_toArray, List.set_cons_zero, List.set_cons_succ]
    refine takeR (i := 2) (v := .pointer (some ⟨p, 0, none⟩)) (some 12) rfl rfl (by kernel_rfl) (by kernel_rfl) (by kernel_rfl) (fun _ _ _ h => h) (Or.inl ⟨by kernel_rfl, fun w' hSw => by go_simp⟩) hS0 ?_
    simp only [Act.put, List.setIfInBounds_toArray, List.set_cons_zero, List.set_cons_succ]
    refine takeR (i := 3) (v := .pointer (some ⟨p, 1, none⟩)) (some 13) rfl rfl (by kernel_rfl) (by kernel_rfl) (by kernel_rfl) (fun _ _ _ h => h) (Or.inl ⟨by kernel_rfl, fun w' hSw => by go_simp⟩) hS0 ?_
    simp only [Act.put, List.setIfInBounds_toArray, List.set_cons_zero, List.set_cons_succ]
    refine wpAnyH_ready (rs := [4]) (by kernel_rfl) (by simp) ?_
    refine AllReadyH.cons rfl (fun K1 hK1 => ?_) AllReadyH.nil
    rw [if_pos (by kernel_rfl)]
    refine valR (d := some 14) rfl (.slice ab O.r.length cb) (w' := W.drew) (by go_simp) ?_
    refine hK1.out _ _ hS0 (fun _ => ?_)
    clear hK1
    simp only [Act.put, List.setIfInBounds_toArray, List.set_cons_zero, List.set_cons_succ]
    refine wpAnyH_ready (rs := [6]) (by kernel_rfl) (by simp) ?_
    refine AllReadyH.cons rfl (fun K1 hK1 => ?_) AllReadyH.nil
    rw [if_pos (by kernel_rfl)]
    refine valR (d := some 16) rfl (.slice (some ⟨g1, off1, none⟩) (O.r.length + i) cap1) (exec_append (.tmp 14) (.tmp 15) 22 rfl (by kernel_rfl) (by kernel_rfl) HR.out) ?_
    refine hK1.out _ _ hS1 (fun _ => ?_)
    clear hK1 HR
    simp only [Act.put, List.setIfInBounds_toArray, List.set_cons_zero, List.set_cons_succ]
    refine takeR (i := 7) (v := .pointer (some ⟨p, 0, none⟩)) (some 17) rfl rfl (by kernel_rfl) (by kernel_rfl) (by kernel_rfl) (fun _ _ _ h => h) (Or.inl ⟨by kernel_rfl, fun w' hSw => by go_simp⟩) hS1 ?_
    simp only [Act.put, List.setIfInBounds_toArray, List.set_cons_zero, List.set_cons_succ]
    refine takeR (i := 8) (v := .pointer (some ⟨p, 1, none⟩)) (some 18) rfl rfl (by kernel_rfl) (by kernel_rfl) (by kernel_rfl) (fun _ _ _ h => h) (Or.inl ⟨by kernel_rfl, fun w' hSw => by go_simp⟩) hS1 ?_
    simp only [Act.put, List.setIfInBounds_toArray, List.set_cons_zero, List.set_cons_succ]
    refine wpAnyH_ready (rs := [9]) (by kernel_rfl) (by simp) ?_
    refine AllReadyH.cons rfl (fun K1 hK1 => ?_) AllReadyH.nil
    rw [if_pos (by kernel_rfl)]
    have hS2 : (W1.setCell ⟨p, 1, none⟩ (.slice (some ⟨g1, off1, none⟩) (O.r.length + i) cap1)).cell? ⟨w.heap.size, 0, none⟩ = some (.pointer (some ⟨p, 0, none⟩)) := by rw [cell_of_row _ _ _ _ _ _ hHH.out.G.b2]; rfl
    refine skipR (d := none) rfl (w' := W1.setCell ⟨p, 1, none⟩ (.slice (some ⟨g1, off1, none⟩) (O.r.length + i) cap1)) (by go_simp) ?_
    refine hK1.out _ _ hS2 (fun _ => ?_)
    clear hK1
    simp only [Act.put, List.setIfInBounds_toArray, List.set_cons_zero, List.set_cons_succ]
    refine wpAnyH_done (by kernel_rfl) ?_ _
    refine h0K _ _ ?_
    clear h0K hS0 hS1 hp0 hp1 hp2
    generalize W1.setCell ⟨p, 1, none⟩ (.slice (some ⟨g1, off1, none⟩) (O.r.length + i) cap1) = W2 at *
    have hHd := hHH.out.drew
    have hKd := hKK.out.trans (Kept.drew w W2)
    have HHd : Hid _ := hHd
    have HKd : Hid _ := hKd
    have hsa : W2.drew.cell? ⟨w.heap.size, 0, none⟩ = some (.pointer (some ⟨p, 0, none⟩)) := hS2
    have hsb : W2.drew.cell? ⟨p, 1, none⟩ = some (.slice (some ⟨g1, off1, none⟩) (O.r.length + i) cap1) := hHd.G.blk.at.2.1
    have hsc : W2.drew.cell? ⟨p, 2, none⟩ = some (.int .i64 (wants1 : Int)) := hHd.G.blk.at.2.2.1
    have hsd : W2.drew.cell? ⟨w.heap.size + 1, 0, none⟩ = some v := by rw [cell_of_row _ _ _ _ _ _ hHd.G.b5]; rfl
    have hle : ∀ a b : Nat, decide ((a : Int) ≥ (b : Int)) = decide (b ≤ a) := fun a b => by simp
    clear hHH hKK hHd hKd
    gi_wp2
    rename_i K0 h0K
    have hSS : W2.drew.cell? ⟨w.heap.size, 0, none⟩ = some (.pointer (some ⟨p, 0, none⟩)) ∧ W2.drew.cell? ⟨p, 1, none⟩ = some (.slice (some ⟨g1, off1, none⟩) (O.r.length + i) cap1) ∧ W2.drew.cell? ⟨p, 2, none⟩ = some (.int .i64 (wants1 : Int)) := ⟨hsa, hsb, hsc⟩
    refine region_round_held (S := fun w' => w'.cell? ⟨w.heap.size, 0, none⟩ = some (.pointer (some ⟨p, 0, none⟩)) ∧ w'.cell? ⟨p, 1, none⟩ = some (.slice (some ⟨g1, off1, none⟩) (O.r.length + i) cap1) ∧ w'.cell? ⟨p, 2, none⟩ = some (.int .i64 (wants1 : Int))) (fun q => by obtain ⟨a, w, q⟩ := q; exact q) (noDefer_spec (by kernel_rfl)) (by kernel_rfl) ?_
    change wpAnyH _ _ _ _ _ 10 _ _ _
    refine takeR (i := 0) (v := .pointer (some ⟨p, 0, none⟩)) (some 19) rfl rfl (by kernel_rfl) (by kernel_rfl) (by kernel_rfl) (fun _ _ _ h => h) (Or.inl ⟨by kernel_rfl, fun w' hSw => by have q0 := hSw.1; go_simp⟩) hSS ?_
    simp only [Act.put, List.setIfInBounds_toArray, List.set_cons_zero, List.set_cons_succ]
    refine takeR (i := 1) (v := .pointer (some ⟨p, 0, none⟩)) (some 20) rfl rfl (by kernel_rfl) (by kernel_rfl) (by kernel_rfl) (fun _ _ _ h => h) (Or.inl ⟨by kernel_rfl, fun w' hSw => by go_simp⟩) hSS ?_
    simp only [Act.put, List.setIfInBounds_toArray, List.set_cons_zero, List.set_cons_succ]
    refine takeR (i := 2) (v := .pointer (some ⟨p, 1, none⟩)) (some 21) rfl rfl (by kernel_rfl) (by kernel_rfl) (by kernel_rfl) (fun _ _ _ h => h) (Or.inl ⟨by kernel_rfl, fun w' hSw => by go_simp⟩) hSS ?_
    simp only [Act.put, List.setIfInBounds_toArray, List.set_cons_zero, List.set_cons_succ]
    refine takeR (i := 3) (v := .slice (some ⟨g1, off1, none⟩) (O.r.length + i) cap1) (some 22) rfl rfl (by kernel_rfl) (by kernel_rfl) (by kernel_rfl) (fun _ _ _ h => h) (Or.inl ⟨by kernel_rfl, fun w' hSw => by have q0 := hSw.2.1; go_simp⟩) hSS ?_
    simp only [Act.put, List.setIfInBounds_toArray, List.set_cons_zero, List.set_cons_succ]
    refine takeR (i := 4) (v := .int .i64 ((O.r.length + i : Nat) : Int)) (some 23) rfl rfl (by kernel_rfl) (by kernel_rfl) (by kernel_rfl) (fun _ _ _ h => h) (Or.inl ⟨by kernel_rfl, fun w' hSw => by go_simp⟩) hSS ?_
    simp only [Act.put, List.setIfInBounds_toArray, List.set_cons_zero, List.set_cons_succ]
    refine takeR (i := 5) (v := .pointer (some ⟨p, 0, none⟩)) (some 24) rfl rfl (by kernel_rfl) (by kernel_rfl) (by kernel_rfl) (fun _ _ _ h => h) (Or.inl ⟨by kernel_rfl, fun w' hSw => by have q0 := hSw.1; go_simp⟩) hSS ?_
    simp only [Act.put, List.setIfInBounds_toArray, List.set_cons_zero, List.set_cons_succ]
    refine takeR (i := 6) (v := .pointer (some ⟨p, 0, none⟩)) (some 25) rfl rfl (by kernel_rfl) (by kernel_rfl) (by kernel_rfl) (fun _ _ _ h => h) (Or.inl ⟨by kernel_rfl, fun w' hSw => by go_simp⟩) hSS ?_
    simp only [Act.put, List.setIfInBounds_toArray, List.set_cons_zero, List.set_cons_succ]
    refine takeR (i := 7) (v := .pointer (some ⟨p, 2, none⟩)) (some 26) rfl rfl (by kernel_rfl) (by kernel_rfl) (by kernel_rfl) (fun _ _ _ h => h) (Or.inl ⟨by kernel_rfl, fun w' hSw => by go_simp⟩) hSS ?_
    simp only [Act.put, List.setIfInBounds_toArray, List.set_cons_zero, List.set_cons_succ]
    refine takeR (i := 8) (v := .int .i64 (wants1 : Int)) (some 27) rfl rfl (by kernel_rfl) (by kernel_rfl) (by kernel_rfl) (fun _ _ _ h => h) (Or.inl ⟨by kernel_rfl, fun w' hSw => by have q0 := hSw.2.2; go_simp⟩) hSS ?_
    simp only [Act.put, List.setIfInBounds_toArray, List.set_cons_zero, List.set_cons_succ]
    refine takeR (i := 9) (v := .bool (decide (wants1 ≤ O.r.length + i))) (some 28) rfl rfl (by kernel_rfl) (by kernel_rfl) (by kernel_rfl) (fun _ _ _ h => h) (Or.inl ⟨by kernel_rfl, fun w' hSw => by go_simp; omega⟩) hSS ?_
    simp only [Act.put, List.setIfInBounds_toArray, List.set_cons_zero, List.set_cons_succ]
    refine wpAnyH_done (by kernel_rfl) ?_ _
    refine h0K _ _ ?_
    clear h0K hSS hS2
    generalize W2.drew = W3 at *
    have hW3 : Below W0.heap.size W0 W3 := hW0.trans (HHd.out.G.fr.below hW0.size fun b hb q => by
      rcases q with q | q
      · omega
      · have := hlv b q; omega)
    obtain ⟨av, cv, hv, _⟩ := HHd.out.G.found.row.form
    subst hv
    by_cases hge : wants1 ≤ O.r.length + i
    · have hcall := walk_any hf hlk hcf HHd.out.G.blk HHd.out.G.row (by rw [List.length_append, hpl]) (by omega) HHd.out.G.tj hb1.2 HHd.out.G.found rfl hb1.1 (fun z hz e => HHd.out.G.apart z hz g1 e rfl) (fun b n h => Nat.le_trans (hbeg b n h) (by decide)) hW3 hlp hlv1
      have HC : Hid _ := hcall
      clear hcall
      simp only [hge, decide_true]
      gi_wp2_with (refine ⟨trivial, ?_⟩; gi_at_call 22; refine (CallsIn.inRound lp (callsIn_wide.2 HC.out)).mono ?_; rintro e W5 ⟨v', rfl, hWE⟩; obtain ⟨n', fs', wants', told', av', nv', cv', rfl, hH4, hfs4, hbg4, h54, hk4⟩ := HHd.out.walked hWE; have hc4 : W5.cell? ⟨w.heap.size + 1, 0, none⟩ = some (.slice av fs.length cv) := (by rw [cell_of_row _ _ _ _ _ _ h54]; rfl); have hz4 := frozen_of_row W5 (w.heap.size + 1) 0 _ _ h54; have H4 : Hid _ := hH4; have HF : Hid _ := hfs4; have HB : Hid _ := hbg4; have HK4 : Hid _ := hk4; clear hH4 hfs4 hbg4 h54 hk4 hWE)
      exact hGo.out _ _ _ _ _ _ (HKd.out.trans HK4.out) H4.out HF.out (Nat.lt_of_lt_of_le (hf.begun HB.out).1 (hbeg _ _ HB.out)) (hbeg _ _ HB.out) (hf.begun HB.out).2
    · obtain ⟨m, hm⟩ := hmore1 ps (by rw [List.length_append, hpl]; omega)
      have hG := hGo.out W3 (.slice (some ⟨g1, off1, none⟩) (O.r.length + i) cap1) (.slice av fs.length cv) wants1 told1 fs HKd.out
      rw [walkL_begun hm] at hG
      have hfin := hG HHd.out (by simp) (by rw [List.length_append, hpl]; omega) hw1 (fun c hc => by
        rw [List.append_assoc] at hc ⊢
        exact hmore1 _ hc)
      simp only [hge, decide_false]
      gi_wp2
      exact hfin
  case done =>
    rintro D ys W hD rfl hI hK
    rw [catP_all hl] at hI
    obtain ⟨vb', v, wants', told', fs, hH, hrest⟩ := hI
    have hv5 := cell_of_row _ _ 0 _ _ _ hH.G.b5
    obtain ⟨av, cv, rfl, _⟩ := hH.G.found.row.form
    gi_wp2
    refine ⟨by simp, .inl ⟨_, _, rfl, run_takeDeferred hK, ?_⟩⟩
    refine ⟨_, results_tmp rfl _ _ _, ?_⟩
    exact ⟨vb', .slice av fs.length cv, wants', told', fs, rfl, hH.grown (grownBy_putObj' W D (.deferred none)) (fun b e => by injection e with e; subst e; exact ⟨hD, _, hK, rfl⟩) (by omega), hrest⟩
  case stop =>
    rintro D c pre W _ _ h _
    exact h.elim
end Go.Proofs.YtkpoheknmcepnaaGreatDoor
