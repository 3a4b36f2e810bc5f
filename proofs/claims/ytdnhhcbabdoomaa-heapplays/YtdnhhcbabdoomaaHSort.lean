/-
  HeapSorts: the walk.
-/
import Derived.Test.YtdnhhcbabdoomaaHSortM
import Derived.Test.YtdnhhcbabdoomaaHTwo
import Derived.Maps.OwnIn
namespace Go.Proofs.Ytdnhhcbabdoomaa
set_option linter.unusedVariables false
set_option linter.unusedSimpArgs false
open Go.RowKit Go.Great Go.Shelf

attribute [local go_sem] Oper.semAt_some

def encT (x : Th) : Array Value := #[.agg #[.int .i64 x.k, .int .i64 x.g]]
theorem all_itr (o h Bb : Nat) (xs : List Th) : Itr Try.prog 47 #[ptr Bb] encT (fun pre => PopTo (lsB o) xs pre []) (fun pre => ∃ rest, PopTo (lsB o) xs pre rest) (fun W => ∃ B v L N, HpO o B W h v L N ∧ Blk W Bb 25 #[ptr h] ∧ L.map (·.x) = xs) := by
  intro m l J Jx W M0 hA hY hC h0
  obtain ⟨B, v, L, N, h1, h2, h3⟩ := hC
  refine (all1_in m l Bb h o B xs J Jx hA.1 hA.2 (fun pre x W M hj hr => hY pre x W M hj hr) W v L N h1 h2 h3 M0 h0).mono ?_
  rintro e W' ⟨he, (⟨pre, M', q1, q2⟩ | ⟨pre, rest, q1, q2⟩)⟩
  · exact ⟨he, .inl ⟨pre, M', q1, q2⟩⟩
  · exact ⟨he, .inr ⟨pre, ⟨rest, q1⟩, q2⟩⟩
theorem cfA (args : Array Value) (w : World) : (callFunc 47 args).run Try.prog w = .ok (.enter 47 args) w := by kernel_rfl
/-- The heap that is being filled, and the result's cell. -/
structure S1 (w wr : World) (o rb h : Nat) (d : Nat → Int) (i : Nat) : Prop where
  hp : ∃ v L, HpO o w.heap.size wr h v L i ∧ L.map (·.x) = thL d i
  rc : Blk wr rb 4 #[.bool false]
  fr : Fr w wr (fun b => w.heap.size ≤ b)
  lo : w.heap.size ≤ rb
def thV (x : Th) : List Value := [.int .i64 x.k, .int .i64 x.g]
theorem thV_len (x : Th) : (thV x).length = 2 := rfl
theorem ownsRow_of_block {w w' : World} {base size n : Nat} {e : TypeId} {v : Value} {xs : List Value} (h : w.ownsRow base e size v n xs) (hk : ∀ g, v.ownBlock = some g → w'.heap[g]? = w.heap[g]?) : w'.ownsRow base e size v n xs := by
  obtain ⟨h1, h2⟩ := h
  refine ⟨h1, ?_⟩
  rcases h2 with h2 | ⟨g, cap, cur, rfl, r1, r2, r3⟩
  · exact .inl h2
  · exact .inr ⟨g, cap, cur, rfl, r1, (hk g rfl).trans r2, r3⟩
theorem ownsRow_lt {w : World} {base size n : Nat} {e : TypeId} {v : Value} {xs : List Value} (h : w.ownsRow base e size v n xs) {g : Nat} (hg : v.ownBlock = some g) : base ≤ g ∧ g < w.heap.size := by
  rcases h.2 with ⟨rfl, _⟩ | ⟨g', cap, cur, rfl, r1, r2, r3⟩
  · cases hg
  · have : g' = g := by simpa [Value.ownBlock] using hg
    subst this
    exact ⟨r1, (Array.getElem?_eq_some_iff.1 r2).1⟩
theorem ownsRow_form {w : World} {base size n : Nat} {e : TypeId} {v : Value} {xs : List Value} (h : w.ownsRow base e size v n xs) : ∃ ao cap, v = .slice ao n cap := by
  rcases h.2 with ⟨rfl, rfl⟩ | ⟨g', cap, cur, rfl, r1, r2, r3⟩
  · exact ⟨none, 0, rfl⟩
  · exact ⟨_, cap, rfl⟩
theorem fr_of_grown {w w' : World} {row : Option Nat} (h : w.grownBy w' row) : Fr w w' (fun b => row = some b) := ⟨h.os, h.tape, h.output, h.size, fun b hb hn => h.block b hb (fun e => hn e.symm)⟩
/-- While one goes through All: these things are in the list. -/
structure SI (w wl W : World) (o rb h lb : Nat) (d : Nat → Int) (n : Nat) (pre : List Th) (vl : Value) (M : Nat → Prop) : Prop where
  hp : ∃ v L, HpO o w.heap.size W h v L n ∧ L.map (·.x) = thL d n ∧ ∀ b, ownH h v L b → b < wl.heap.size
  rc : Blk W rb 4 #[.bool false]
  fr : Fr w W (fun b => w.heap.size ≤ b)
  lo : w.heap.size ≤ rb ∧ rb < wl.heap.size ∧ w.heap.size ≤ lb ∧ lb < wl.heap.size ∧ rb ≠ lb ∧ w.heap.size ≤ wl.heap.size
  box : Blk W lb 31 #[vl]
  row : W.ownsRow wl.heap.size 30 2 vl pre.length (flatL thV pre)
  m : ∀ b, M b ↔ b < wl.heap.size ∨ vl.ownBlock = some b
  sz : wl.heap.size ≤ W.heap.size
theorem SI.abid (w wl : World) (o rb h lb : Nat) (d : Nat → Int) (n : Nat) : Abid (fun pre W M => ∃ vl, SI w wl W o rb h lb d n pre vl M) := by
  refine ⟨?_, ?_⟩
  · rintro pre W W' M e ⟨vl, H⟩ hf hn
    have hlo : ∀ b, e b → wl.heap.size ≤ b := fun b hb => by
      have := mt (H.m b).2 (hn b hb)
      omega
    obtain ⟨v, L, q1, q2, q3⟩ := H.hp
    refine ⟨vl, ⟨v, L, q1.fr hf fun b hb he => ?_, q2, q3⟩, H.rc.fr hf fun he => ?_, H.fr.trans hf fun b _ q => ?_, H.lo, H.box.fr hf fun he => ?_, ownsRow_of_block H.row fun g hg => hf.block g (ownsRow_lt H.row hg).2 fun he => hn g he ((H.m g).2 (.inr hg)), H.m, Nat.le_trans H.sz hf.size⟩
    · have h1 := q3 b hb; have h2 := hlo b he; omega
    · have h1 := hlo _ he; have h2 := H.lo; omega
    · rcases q with q | q
      · exact q
      · have h1 := hlo b q; have h2 := H.lo; omega
    · have h1 := hlo _ he; have h2 := H.lo; omega
  · rintro pre W M b ⟨vl, H⟩ hb
    rcases (H.m b).1 hb with q | q
    · have := H.sz; omega
    · exact (ownsRow_lt H.row q).2
theorem SI.step {w wl W W2 : World} {o rb h lb : Nat} {d : Nat → Int} {n : Nat} {pre : List Th} {vl v' : Value} {M : Nat → Prop} (H : SI w wl W o rb h lb d n pre vl M) (x : Th) {q : Obj}
    (hown : W2.ownsRow wl.heap.size 30 2 v' (pre.length + 1) (flatL thV pre ++ [.int .i64 x.k, .int .i64 x.g])) (hgrow : (W.alloc q).grownBy W2 vl.ownBlock) (hblk : v'.ownBlock = vl.ownBlock ∨ v'.ownBlock = some (W.alloc q).heap.size) :
    ∃ M', (∃ vl, SI w wl (W2.setCell ⟨lb, 0, none⟩ v') o rb h lb d n (pre ++ [x]) vl M') ∧ Fr W (W2.setCell ⟨lb, 0, none⟩ v') M ∧ ∀ b, M' b → M b ∨ W.heap.size ≤ b := by
  obtain ⟨o1, o2, o3, o4, o5, o6⟩ := H.lo
  have hrow : ∀ b, vl.ownBlock = some b → wl.heap.size ≤ b := fun b hb => (ownsRow_lt H.row hb).1
  have F1 : Fr W W2 (fun b => vl.ownBlock = some b) := (Fr.alloc W q (fun _ => False)).trans (fr_of_grown hgrow) fun _ _ r => by rcases r with r | r; exact r.elim; exact r
  have F2 : Fr W2 (W2.setCell ⟨lb, 0, none⟩ v') (fun b => b = lb) := Fr.setCell _ _ _ _ rfl
  have F : Fr W (W2.setCell ⟨lb, 0, none⟩ v') (fun b => vl.ownBlock = some b ∨ b = lb) := F1.trans F2 fun _ _ r => r
  obtain ⟨v, L, q1, q2, q3⟩ := H.hp
  have hlb : ¬ ownH h v L lb := q1.other H.box (by decide) (by decide) (by decide)
  have hv' : ∀ b, v'.ownBlock = some b → wl.heap.size ≤ b := fun b hb => (ownsRow_lt hown hb).1
  refine ⟨fun b => b < wl.heap.size ∨ v'.ownBlock = some b, ⟨v', ⟨v, L, q1.fr F fun b hb r => ?_, q2, q3⟩, H.rc.fr F fun r => ?_, H.fr.trans F fun b _ r => ?_, H.lo, ?_, ?_, fun b => Iff.rfl, Nat.le_trans H.sz F.size⟩, F.mono fun b _ r => ?_, fun b hb => ?_⟩
  · rcases r with r | r
    · have h1 := q3 b hb; have h2 := hrow b r; omega
    · rw [r] at hb; exact hlb hb
  · rcases r with r | r
    · have := hrow _ r; omega
    · exact o5 r
  · rcases r with r | r | r
    · exact r
    · have := hrow _ r; omega
    · omega
  · exact (H.box.fr F1 fun r => by have := hrow _ r; omega).set 0 _
  · rw [List.length_append, flatL_app, flatL_one]
    exact ownsRow_of_block hown fun g hg => F2.block g (ownsRow_lt hown hg).2 fun e => by have := hv' g hg; omega
  · rcases r with r | r
    · exact (H.m b).2 (.inr r)
    · exact (H.m b).2 (.inl (by omega))
  · rcases hb with r | r
    · exact .inl ((H.m b).2 (.inl r))
    · rcases hblk with e | e
      · rw [e] at r; exact .inl ((H.m b).2 (.inr r))
      · rw [e] at r; injection r with r; have hs : (W.alloc q).heap.size = W.heap.size + 1 := by simp
        exact .inr (by omega)
/-- Which tags have come, as cells. -/
def seC (l : List Th) (n : Nat) : Array Value := ((List.range n).map fun t => Value.bool (seenB l t)).toArray
theorem seC_at (l : List Th) {n t : Nat} (h : t < n) : (seC l n)[t]? = some (.bool (seenB l t)) := by
  unfold seC; rw [List.getElem?_toArray, List.getElem?_map, List.getElem?_range h]; rfl
theorem seC_set (l : List Th) (x : Th) {n j : Nat} (h : j < n) (hx : x.g = (j : Int)) : (seC l n).setIfInBounds j (.bool true) = seC (l ++ [x]) n := by
  apply Array.ext
  · simp [seC]
  · intro t h1 h2
    have ht : t < n := by simpa [seC] using h2
    have e1 : ((seC l n).setIfInBounds j (.bool true))[t]? = some (.bool (if t = j then true else seenB l t)) := by
      rw [Array.getElem?_setIfInBounds]
      by_cases e : j = t
      · subst e; simp [seC, h]
      · rw [if_neg e, if_neg (Ne.symm e), seC_at l ht]
    have e2 := seC_at (l ++ [x]) ht
    rw [seenB_snoc l x j t hx] at e2
    rw [Array.getElem?_eq_getElem h1] at e1
    rw [Array.getElem?_eq_getElem h2] at e2
    injection e1 with e1
    injection e2 with e2
    rw [e1, e2]
theorem make_seen (n : Nat) (hn : n ≤ 2500) (W : World) : (Instr.makeSlice 35 (.int .i64 (n : Int)) (.int .i64 (n : Int))).run Try.prog W = .ok (.slice (some ⟨W.heap.size, 0, none⟩) n n) (W.alloc (.cells (seC [] n) 4)) := by
  have h := run_make_row' (P := Try.prog) 35 4 (.bool false) 1 Try.underlying35 (by kernel_rfl) rfl .i64 .i64 n (by omega) (by omega) W
  have e : madeCells #[Value.bool false] n = seC [] n := by
    apply Array.ext
    · simp [madeCells, seC]
    · intro i h1 h2
      simp [madeCells, seC, seenB, Nat.mod_one]
  rw [e] at h
  exact h
theorem HpO.noCells {o B : Nat} {w : World} {h : Nat} {v : Value} {L : List (It Th)} {N b : Nat} {ds : Option (List Deferred)} (H : HpO o B w h v L N) (hb : w.heap[b]? = some (.deferred ds)) : ¬ ownH h v L b := by
  obtain ⟨⟨c, t, hm, hp, _⟩, _⟩ := H
  intro q
  have hc : ∃ cs T, w.heap[b]? = some (.cells cs T (0, 0)) := by
    rcases q with q | q | ⟨it, q1, q2⟩
    · subst q; exact ⟨_, _, hm.blk⟩
    · obtain ⟨_, cur, hc⟩ := hm.row.lt q
      exact ⟨_, _, hc⟩
    · obtain ⟨k, hk⟩ := List.mem_iff_getElem?.1 (hp.mem_iff.2 q1)
      subst q2
      exact ⟨_, _, hm.its k it hk⟩
  obtain ⟨cs, T, hc⟩ := hc
  rw [hc] at hb
  cases hb
/-- The second loop: i have come again; of k the tags are marked. -/
structure SL (w wl W : World) (o rb h lb sb : Nat) (d : Nat → Int) (n : Nat) (l : List Th) (gl cap : Nat) (i k : Nat) : Prop where
  hp : ∃ v L, HpO o w.heap.size W h v L n ∧ PopTo (lsB o) (thL d n) (l.take i) (L.map (·.x))
  rc : Blk W rb 4 #[.bool false]
  box : 0 < n → Blk W lb 31 #[.slice (some ⟨gl, 0, none⟩) n cap]
  row : 0 < n → W.ownsRow wl.heap.size 30 2 (.slice (some ⟨gl, 0, none⟩) n cap) n (flatL thV l)
  se : Blk W sb 4 (seC (l.take k) n)
  de : W.heap[wl.heap.size]? = some (.deferred (some []))
  fr : Fr w W (fun b => w.heap.size ≤ b)
  ne : sb ≠ rb ∧ w.heap.size ≤ sb ∧ w.heap.size ≤ rb
section
variable {w wl W W' : World} {o rb h lb sb : Nat} {d : Nat → Int} {n : Nat} {l : List Th} {gl cap i k : Nat}
theorem ownsRow_blk {w : World} {base size n : Nat} {e : TypeId} {g cap : Nat} {xs : List Value} (h : w.ownsRow base e size (.slice (some ⟨g, 0, none⟩) n cap) n xs) : ∃ cur, Blk w g e cur := by
  rcases h.2 with ⟨h0, _⟩ | ⟨g', cap', cur, hv, r1, r2, r3⟩
  · cases h0
  · injection hv with hv _ _
    injection hv with hv
    injection hv with hv _ _
    subst hv
    exact ⟨cur, r2⟩
theorem ownsRow_cell {w : World} {base size n : Nat} {e : TypeId} {g cap : Nat} {xs : List Value} (h : w.ownsRow base e size (.slice (some ⟨g, 0, none⟩) n cap) n xs) {j : Nat} {u : Value} (hj : xs[j]? = some u) : w.cell? ⟨g, j, none⟩ = some u := by
  rcases h.2 with ⟨h0, _⟩ | ⟨g', cap', cur, hv, r1, r2, r3, r4, r5, r6⟩
  · cases h0
  · injection hv with hv _ _
    injection hv with hv
    injection hv with hv _ _
    subst hv
    rw [cell_of_row _ _ _ _ _ _ r2]
    rw [← r6, List.getElem?_take] at hj
    split at hj
    · rw [Array.getElem?_toList] at hj; exact hj
    · cases hj
/-- What is not the heap's stays. -/
theorem SL.upd (H : SL w wl W o rb h lb sb d n l gl cap i k) {v v' : Value} {L L' : List (It Th)} {i' : Nat} (hH : HpO o w.heap.size W h v L n) (h1 : HpO o w.heap.size W' h v' L' n) (hf : Fr W W' (ownH h v L)) (hp : PopTo (lsB o) (thL d n) (l.take i') (L'.map (·.x))) : SL w wl W' o rb h lb sb d n l gl cap i' k := by
  refine ⟨⟨v', L', h1, hp⟩, H.rc.fr hf (hH.other H.rc (by decide) (by decide) (by decide)), fun h0 => (H.box h0).fr hf (hH.other (H.box h0) (by decide) (by decide) (by decide)), fun h0 => ownsRow_of_block (H.row h0) fun g hg => hf.block g (ownsRow_lt (H.row h0) hg).2 ?_, H.se.fr hf (hH.other H.se (by decide) (by decide) (by decide)), (hf.block _ (Array.getElem?_eq_some_iff.1 H.de).1 (hH.noCells H.de)).trans H.de, hH.sml H.fr hf, H.ne⟩
  obtain ⟨cur, hc⟩ := ownsRow_blk (H.row h0)
  have : gl = g := by simpa [Value.ownBlock] using hg
  subst this
  exact hH.other hc (by decide) (by decide) (by decide)
theorem SL.sm (H : SL w wl W o rb h lb sb d n l gl cap i k) (hf : Fr W W' (fun _ => False)) : SL w wl W' o rb h lb sb d n l gl cap i k := by
  obtain ⟨v, L, q1, q2⟩ := H.hp
  exact ⟨⟨v, L, q1.sm hf, q2⟩, H.rc.fr hf (fun q => q), fun h0 => (H.box h0).fr hf (fun q => q), fun h0 => ownsRow_of_block (H.row h0) fun g hg => hf.block g (ownsRow_lt (H.row h0) hg).2 (fun q => q), H.se.fr hf (fun q => q), (hf.block _ (Array.getElem?_eq_some_iff.1 H.de).1 (fun q => q)).trans H.de, H.fr.trans hf fun _ _ q => by rcases q with q | q; exact q; exact q.elim, H.ne⟩
theorem SL.mark (H : SL w wl W o rb h lb sb d n l gl cap i k) {x : Th} {j : Nat} (hj : j < n) (hx : x.g = (j : Int)) (hk : l.take (k + 1) = l.take k ++ [x]) : SL w wl (W.setCell ⟨sb, j, none⟩ (.bool true)) o rb h lb sb d n l gl cap i (k + 1) := by
  have F : Fr W (W.setCell ⟨sb, j, none⟩ (.bool true)) (fun b => b = sb) := Fr.setCell _ _ _ _ rfl
  obtain ⟨v, L, q1, q2⟩ := H.hp
  refine ⟨⟨v, L, q1.fr F fun b hb e => q1.other H.se (by decide) (by decide) (by decide) (e ▸ hb), q2⟩, H.rc.fr F (fun e => H.ne.1 e.symm), fun h0 => (H.box h0).fr F ((H.box h0).neT H.se (by decide)), fun h0 => ownsRow_of_block (H.row h0) fun g hg => F.block g (ownsRow_lt (H.row h0) hg).2 fun e => ?_, ?_, (F.block _ (Array.getElem?_eq_some_iff.1 H.de).1 fun e => ?_).trans H.de, H.fr.trans F fun b _ q => ?_, H.ne⟩
  · obtain ⟨cur, hc⟩ := ownsRow_blk (H.row h0)
    have : gl = g := by simpa [Value.ownBlock] using hg
    exact hc.neT H.se (by decide) (this.trans e)
  · have := H.se.set j (.bool true)
    rw [seC_set _ x hj hx, ← hk] at this
    exact this
  · have h1 := H.se
    unfold Blk at h1
    rw [← e, H.de] at h1
    cases h1
  · rcases q with q | q
    · exact q
    · have := H.ne; omega
end
theorem load_bool {g : Nat} {bv : Bool} {w : World} (hc : w.cell? ⟨g, 0, none⟩ = some (.bool bv)) : (loadVar 4 ⟨g, 0, none⟩).run Try.prog w = .ok (.bool bv) w := by go_simp
theorem results_bool {fn : Func} (h : fn.results = #[.cell 4 4]) (tmps : Array Value) (w : World) {g : Nat} {bv : Bool} (hp : tmps.getD 4 undef = .pointer (some ⟨g, 0, none⟩)) (hc : w.cell? ⟨g, 0, none⟩ = some (.bool bv)) : (results fn tmps).run Try.prog w = .ok (.bool bv) w := by
  have hp' : tmps[4]?.getD undef = .pointer (some ⟨g, 0, none⟩) := by simpa using hp
  simp [results, h, hp', asAddr, load_bool hc]
theorem infoTh : ∃ i, Try.prog.info? 30 = some i ∧ i.zero = some (.agg #[.int .i64 0, .int .i64 0]) ∧ i.size = 2 ∧ i.bytes = 16 := by
  have h : (Try.prog.info? 30).map (fun i => (i.zero, i.size, i.bytes)) = some (some (.agg #[.int .i64 0, .int .i64 0]), 2, 16) := by kernel_rfl
  obtain ⟨i, hi, he⟩ := Option.map_eq_some_iff.1 h
  injection he with h1 h2
  injection h2 with h2 h3
  exact ⟨i, hi, h1, h2, h3⟩
set_option maxRecDepth 100000 in
set_option maxHeartbeats 8000000 in
theorem HeapSorts_law (oz : Int) (ho0 : -9223372036854775808 ≤ oz) (ho1 : oz ≤ 9223372036854775807) (a1 : Option Addr) (l1 c1 : Nat) (d : Nat → Int) (hl1 : l1 ≤ maxLen) (w : World) (hs1 : SrcI w a1 l1 d) :
    Calls Try.prog 3 #[.int .i64 oz, .slice a1 l1 c1] w fun e w' => e = .returned (.bool true) ∧ Below w.heap.size w w' := by
  have HS : Hid (SrcI w a1 l1 d ∧ l1 ≤ maxLen) := ⟨hs1, hl1⟩
  have hpk : ∀ w, Calls Try.prog 9 #[.int .i64 oz, .int .i64 3] w fun e w' => e = .returned (.int .i64 (pickN oz 3 : Int)) ∧ w' = w := fun w => pick_any oz 3 3 rfl w (by decide) (by decide) ho0 ho1
  have ho := pickN_lt oz (show 0 < 3 by decide)
  have HO : Hid (pickN oz 3 < 3) := ho
  generalize pickN oz 3 = o at *
  clear hs1 hl1 ho0 ho1 ho
  have hmin : min (l1 : Int) 2500 = ((min l1 2500 : Nat) : Int) := by omega
  have HN : Hid (min l1 2500 ≤ l1 ∧ min l1 2500 ≤ 2500 ∧ (∀ i, i < min l1 2500 ↔ i < l1 ∧ i < 2500)) := ⟨Nat.min_le_left _ _, Nat.min_le_right _ _, fun i => by omega⟩
  generalize min l1 2500 = n at *
  refine (callsIn_wide (n := 3)).1 ?_
  refine callsIn_of_wp_marks Try.func3 rfl trivial ?_ rfl
  simp only [Try.ntmps3, List.size_toArray, List.length_cons, List.length_nil, Nat.reduceAdd, Nat.reduceSub, Array.replicate_succ, Array.replicate_zero, List.push_toArray, List.append_toArray, List.nil_append, List.cons_append]
  obtain ⟨Qf, hQf⟩ : ∃ Q, Q = bodyPostM Fence.wide 3 Try.prog Try.f3 (fun e w' => e = .returned (.bool true) ∧ Below w.heap.size w w') := ⟨_, rfl⟩
  rw [← hQf]
  have HQF : Hid (Qf = bodyPostM Fence.wide 3 Try.prog Try.f3 (fun e w' => e = .returned (.bool true) ∧ Below w.heap.size w w')) := hQf
  clear hQf
  refine wpIn_wide.2 ?_
  have hb0 : Blk (w.alloc (.cells #[.bool false] 4)) w.heap.size 4 #[.bool false] := Blk.new _ _ _
  have hsh := shown_any (w.alloc (.cells #[.bool false] 4))
  have hF0 : Fr w (w.alloc (.cells #[.bool false] 4)) (fun _ => False) := Fr.alloc _ _ _
  have H0 : Hid (Blk (w.alloc (.cells #[.bool false] 4)) w.heap.size 4 #[.bool false] ∧ Fr w (w.alloc (.cells #[.bool false] 4)) (fun _ => False)) := ⟨hb0, hF0⟩
  clear hb0 hF0
  go_wp2_with (go_at_call 8; fail)
  refine hsh.mono ?_
  rintro e w1 ⟨rfl, hf1⟩
  have H1 : Hid (Blk w1 w.heap.size 4 #[.bool false] ∧ Fr w w1 (fun _ => False)) := ⟨H0.out.1.fr hf1 (fun q => q), H0.out.2.trans hf1 fun _ _ q => by rcases q with q | q <;> exact q⟩
  clear hf1 hsh H0
  go_wp2_with (first | (go_at_call 9; refine (hpk _).mono ?_; rintro e w1 ⟨rfl, rfl⟩) | (go_at_call 10; fail))
  have hm1 := made_O (B := w.heap.size) o (o : Int) rfl HO.out w1 H1.out.2.size
  refine hm1.mono ?_
  rintro e w2 ⟨rfl, h1, h2⟩
  have H2 : Hid (S1 w w2 o w.heap.size w1.heap.size d 0) := ⟨⟨_, [], h1, rfl⟩, H1.out.1.fr h2 (fun q => q), H1.out.2.trans h2 (fun _ _ q => by rcases q with q | q <;> exact q.elim), Nat.le_refl _⟩
  clear h1 h2 hm1 H1
  generalize w1.heap.size = h at *
  generalize hrb : w.heap.size = rb at *
  have HRB : Hid (w.heap.size = rb) := hrb
  go_wp2
  go_loopw [8] (fun x8 wr => ∃ i : Nat, i ≤ n ∧ x8 = .int .i64 (i : Int) ∧ Hid (S1 w wr o rb h d i)) (fun x8 _ => n - (RowKit.intOf x8).toNat)
  case atStart =>
    exact ⟨0, Nat.zero_le _, rfl, H2.out⟩
  case round =>
    obtain ⟨i, hin, rfl, HQ⟩ := hrel
    by_cases hlt : i < n
    · as_aux_lemma =>
      have hi2 : i < l1 ∧ i < 2500 := (HN.out.2.2 i).1 hlt
      have hil : (i : Int) < (l1 : Int) := by omega
      have hi25 : (i : Int) < 2500 := by omega
      have hib : (i : Int) + 1 < 9223372036854775808 := by omega
      obtain ⟨v, L, q1, q2⟩ := HQ.out.hp
      obtain ⟨b, off, rfl, hcell⟩ := (HS.out.1.below (below_of HQ.out.fr)).resolve_left (by omega)
      have hc := (hcell i hi2.1).1
      have hL : L.length = i := by have := congrArg List.length q2; rw [List.length_map, thL_len] at this; exact this
      have hpu := Push_O q1 ⟨d i, (i : Int)⟩ (by omega) (by omega)
      have HP : Hid (HpO o w.heap.size wr h v L i ∧ L.map (·.x) = thL d i) := ⟨q1, q2⟩
      clear q1 q2 hcell
      go_wp2_with (go_at_call 11; fail)
      refine hpu.mono ?_
      rintro e w5 ⟨rfl, ⟨v', h5, h6⟩, h7⟩
      have HX : Hid (S1 w w5 o rb h d (i + 1)) := by
        refine ⟨⟨v', _, h5, ?_⟩, HQ.out.rc.fr h7 (HP.out.1.other HQ.out.rc (by decide) (by decide) (by decide)), HP.out.1.sml HQ.out.fr h7, HQ.out.lo⟩
        rw [List.map_append, HP.out.2, thL_snoc]; rfl
      clear h5 h6 h7 hpu hc
      go_wp2
      exact ⟨⟨i + 1, by omega, by go_num, HX.out⟩, by simp [RowKit.intOf]; omega⟩
    · have hni : i = n := by omega
      have hcond : ¬ ((i : Int) < (l1 : Int) ∧ (i : Int) < 2500) := fun q => hlt ((HN.out.2.2 i).2 ⟨by omega, by omega⟩)
      have H3 : Hid (S1 w wr o rb h d n ∧ i = n) := ⟨hni ▸ HQ.out, hni⟩
      clear HQ hni
      go_upto_region 7 with fail
      go_cut [38] from 31 to 38 (fun x38 wx => x38 = .bool false ∧ wx = wr)
      case first => as_aux_lemma =>
        by_cases q1 : (i : Int) < (l1 : Int)
        · have q2 : ¬ (i : Int) < 2500 := fun q => hcond ⟨q1, q⟩
          go_wp2
          go_meet
          exact ⟨rfl, rfl⟩
        · go_wp2
          go_meet
          exact ⟨rfl, rfl⟩
      case rest =>
        obtain ⟨rfl, hw⟩ := hcut
        subst hw
        clear hcond hlt
        have hall := All_any h (wc.alloc (.cells #[.slice none 0 0] 31))
        go_wp2_with (go_at_call 12; fail)
        refine hall.mono ?_
        rintro e w4 ⟨rfl, rfl⟩
        clear hall
        go_wp2
        have FL : Fr wc ((wc.alloc (.cells #[.slice none 0 0] 31)).alloc (.cells #[ptr h] 25)) (fun _ => False) := (Fr.alloc _ _ (fun _ => False)).trans (Fr.alloc _ _ (fun _ => False)) fun _ _ q => by rcases q with q | q <;> exact q
        have HWL : Hid (Blk ((wc.alloc (.cells #[.slice none 0 0] 31)).alloc (.cells #[ptr h] 25)) wc.heap.size 31 #[.slice none 0 0] ∧ Blk ((wc.alloc (.cells #[.slice none 0 0] 31)).alloc (.cells #[ptr h] 25)) (wc.heap.size + 1) 25 #[ptr h] ∧ Fr wc ((wc.alloc (.cells #[.slice none 0 0] 31)).alloc (.cells #[ptr h] 25)) (fun _ => False) ∧ ((wc.alloc (.cells #[.slice none 0 0] 31)).alloc (.cells #[ptr h] 25)).heap.size = wc.heap.size + 2) :=
          ⟨(Blk.new _ _ _).alloc _, Blk.new' _ _ _ (by simp), FL, by simp⟩
        clear FL
        generalize (wc.alloc (.cells #[.slice none 0 0] 31)).alloc (.cells #[ptr h] 25) = wl at *
        obtain ⟨lb, hlb⟩ : ∃ lb, wc.heap.size = lb := ⟨_, rfl⟩
        simp only [hlb] at HWL ⊢
        have HSI : Hid (SI w wl wl o rb h lb d n [] (.slice none 0 0) (fun b => b < wl.heap.size ∨ (Value.slice none 0 0).ownBlock = some b)) := by
          obtain ⟨g1, g2, g3, g4⟩ := HWL.out
          obtain ⟨v, L, q1, q2⟩ := H3.out.1.hp
          have hrl := H3.out.1.rc.lt
          have hsz := H3.out.1.fr.size
          have hlo := H3.out.1.lo
          exact ⟨⟨v, L, q1.sm g3, q2, fun b hb => by have := q1.lt hb; omega⟩, H3.out.1.rc.fr g3 (fun q => q), H3.out.1.fr.trans g3 (fun _ _ q => by rcases q with q | q; exact q; exact q.elim), ⟨hlo, by omega, by omega, by omega, by omega, by omega⟩, g1, World.ownsRow_nil _ _ _ _, fun b => Iff.rfl, Nat.le_refl _⟩
        clear hlb
        refine (wpIn_wide (n := 3)).1 ?_
        refine range_law (n := 3) (by decide) (gf := 47) (lb := #[ptr (lb + 1)]) rfl cfA (all_itr o h (lb + 1) (thL d n)) ?hC (fun _ => rfl)
          (fun pre W M => ∃ vl, SI w wl W o rb h lb d n pre vl M) (fun _ _ _ => False) (SI.abid w wl o rb h lb d n) (fun _ _ _ _ q _ => q) _ ⟨_, HSI.out⟩
          (fun x a' W => ∃ xb, Blk W xb 30 #[.int .i64 x.k, .int .i64 x.g] ∧ a' = { tmps := #[.int .i64 oz, .slice a1 l1 c1, undef, undef, .pointer (some ⟨rb, 0, none⟩), .bool true, .int .i64 (o : Int), ptr h, .int .i64 (i : Int), .pointer (some ⟨lb, 0, none⟩), .pointer (some ⟨xb, 0, none⟩), undef, undef, undef, undef, undef, undef, undef, undef, undef, .bool true, .int .i64 oz, .int .i64 (o : Int), .int .i64 (o : Int), ptr h, .bool true, .bool false, .bool false, ptr h, .bool false, .bool false, u31, u32, u33, u34, u35, u36, u37, .bool false, u39, u40, u41, u42, u43, u44, u45, u46, u47, u48, ptr h, .func (.func 47) #[] #[ptr (lb + 1)], .agg #[.int .i64 x.k, .int .i64 x.g], undef, undef, undef, undef, undef, undef, undef, undef, undef, undef, undef, undef, undef, undef, undef, undef, undef, undef, undef, undef, undef, undef, undef, undef, undef, undef, undef, undef, undef, undef, undef, undef, undef, undef, undef, undef, undef, undef, undef, undef, undef, undef, undef, undef, undef, undef, undef, undef, undef, undef, undef, undef, undef, undef, undef, undef, undef, undef, undef, undef, undef, undef, undef, undef, undef, undef, undef, undef, undef, undef, undef, undef, undef, undef, undef, undef, undef, undef, undef, undef, undef, undef, undef, undef, undef, undef, undef, undef, undef, undef, undef, undef, undef, undef, undef, undef, undef, undef, undef, undef, undef, undef, undef, undef, undef, undef, undef, undef, undef, undef, undef, undef, undef, undef, undef, undef, undef, undef, undef, undef], defers := [] })
          ?hAx ?hassign ?hbody ?hdone ?hstop
        case hC =>
          intro q q'
          have F2 : Fr wl ((wl.alloc q).alloc q') (fun _ => False) := (Fr.alloc _ _ (fun _ => False)).trans (Fr.alloc _ _ (fun _ => False)) fun _ _ q => by rcases q with q | q <;> exact q
          obtain ⟨v, L, q1, q2, q3⟩ := HSI.out.hp
          exact ⟨_, v, L, n, q1.sm F2, (HWL.out.2.1.alloc _).alloc _, q2⟩
        case hAx =>
          rintro x a' W W' r ⟨xb, hxb, he⟩ hl hf
          refine ⟨xb, hxb.fr hf fun e => ?_, he⟩
          rw [← e] at hl
          unfold Blk at hxb
          rw [hxb] at hl
          cases hl
        case hassign => as_aux_lemma =>
          intro pre x W M K hi hK
          dsimp only [encT]
          gi_wp2
          exact hK _ _ (Fr.alloc _ _ _) ⟨W.heap.size, Blk.new _ _ _, rfl⟩
        case hbody => as_aux_lemma =>
          rintro pre x a' W M ⟨vl, H⟩ ⟨xb, hxb, rfl⟩ ⟨rest, hsp⟩
          have hpl := hsp.len
          rw [List.length_append, List.length_singleton, thL_len] at hpl
          obtain ⟨ao, cap, rfl⟩ := ownsRow_form H.row
          have hk25 : pre.length + 1 ≤ 2500 := by have := HN.out; omega
          have hki : ¬ (2500 : Int) < (pre.length : Int) + 1 := by omega
          have hki2 : ¬ (2500 : Int) < ((pre.length + 1 : Nat) : Int) := by omega
          have cb : W.cell? ⟨lb, 0, none⟩ = some (.slice ao pre.length cap) := H.box.cell 0
          have x0 : W.cell? ⟨xb, 0, none⟩ = some (.int .i64 x.k) := hxb.cell 0
          have x1 : W.cell? ⟨xb, 1, none⟩ = some (.int .i64 x.g) := hxb.cell 1
          have hls : lb < W.heap.size := H.box.lt
          have hxs : xb < W.heap.size := hxb.lt
          obtain ⟨i2, hi2, hy0, hy1, hy2⟩ := infoTh
          have FA : Fr W (W.alloc (.cells #[.int .i64 x.k, .int .i64 x.g] 30)) (fun _ => False) := Fr.alloc _ _ _
          have HRW : Hid ((W.alloc (.cells #[.int .i64 x.k, .int .i64 x.g] 30)).ownsRow wl.heap.size 30 2 (.slice ao pre.length cap) pre.length (flatL thV pre)) := ownsRow_of_block H.row fun g hg => FA.block g (ownsRow_lt H.row hg).2 (fun q => q)
          have HBN : Hid (Blk (W.alloc (.cells #[.int .i64 x.k, .int .i64 x.g] 30)) W.heap.size 30 #[.int .i64 x.k, .int .i64 x.g]) := Blk.new _ _ _
          have HBX : Hid (Blk (W.alloc (.cells #[.int .i64 x.k, .int .i64 x.g] 30)) lb 31 #[.slice ao pre.length cap]) := H.box.alloc _
          have HH : Hid (SI w wl W o rb h lb d n pre (.slice ao pre.length cap) M ∧ pre.length + 1 ≤ 2500) := ⟨H, hk25⟩
          clear H hpl hsp FA
          gi_wp2_with (gi_at_builtin; refine wpListIn_append_own_at _ rfl _ _ 31 rfl wl.heap.size 30 i2 _ 2 16 Try.underlying31 hi2 hy0 hy1 hy2 rfl (by decide) (.slice ao pre.length cap) pre.length (flatL thV pre) rfl HRW.out ⟨W.heap.size, 0, none⟩ 1 1 [.int .i64 x.k, .int .i64 x.g] rfl rfl (fun j u hj => by rw [Addr.add_mid, cell_of_row _ _ _ _ _ _ HBN.out, Nat.zero_add]; simpa using hj) (fun u hu => by simp at hu; rcases hu with rfl | rfl <;> rfl) (by unfold maxLen; have := HH.out.2; omega) (by have := HH.out.2; omega) (by have := HH.out.1.sz; simp; omega) ?_; intro v' W2 hown hgrow hiff hblk; have HC : Hid _ := And.intro hown (And.intro hgrow hblk); have cb2 : W2.cell? ⟨lb, 0, none⟩ = some (.slice ao pre.length cap) := (World.cell?_of_block (hgrow.block lb (by simp; omega) (fun e => by have q1 := (ownsRow_lt HRW.out e.symm).1; have q2 := HH.out.1.lo; omega))).trans (HBX.out.cell 0); have fb2 : W2.frozen? ⟨lb, 0, none⟩ = false := (World.frozen?_of_block (hgrow.block lb (by simp; omega) (fun e => by have q1 := (ownsRow_lt HRW.out e.symm).1; have q2 := HH.out.1.lo; omega))).trans (HBX.out.frozen 0); obtain ⟨ao2, cap2, hv2⟩ := ownsRow_form hown; subst hv2; clear hown hgrow hiff hblk)
          have hfin := HH.out.1.step x HC.out.1 HC.out.2.1 HC.out.2.2
          exact hfin
        case hdone =>
          rintro l W M hpop ⟨vl, HSL⟩ hdef
          have hll : l.length = n := by have := hpop.len; rw [thL_len] at this; simpa using this
          obtain ⟨ao, cap, rfl⟩ := ownsRow_form HSL.row
          have cb : W.cell? ⟨lb, 0, none⟩ = some (.slice ao l.length cap) := HSL.box.cell 0
          have hmk : ∀ W, (Instr.makeSlice 35 (.int .i64 (n : Int)) (.int .i64 (n : Int))).run Try.prog W = .ok (.slice (some ⟨W.heap.size, 0, none⟩) n n) (W.alloc (.cells (seC [] n) 4)) := fun W => make_seen n (by have := HN.out; omega) W
          have HL2 : Hid (SI w wl W o rb h lb d n l (.slice ao l.length cap) M ∧ l.length = n ∧ PopTo (lsB o) (thL d n) l [] ∧ W.heap[wl.heap.size]? = some (.deferred (some []))) := ⟨HSL, hll, hpop, hdef⟩
          rw [hll] at cb
          have hls : lb < W.heap.size := HSL.box.lt
          have HWS : Hid (w.heap.size ≤ wl.heap.size) := HSI.out.lo.2.2.2.2.2
          clear HSL hpop hdef hll HSI H3 H2
          go_upto_region 18 with fail
          have H5 : Hid (∃ gl cp, SL w wl (W.alloc (.cells (seC [] n) 4)) o rb h lb W.heap.size d n l gl cp 0 0 ∧ (0 < n → .slice ao l.length cap = Value.slice (some ⟨gl, 0, none⟩) n cp)) := by
            obtain ⟨s1, s2, s3, s4⟩ := HL2.out
            have FA : Fr W (W.alloc (.cells (seC [] n) 4)) (fun _ => False) := Fr.alloc _ _ _
            obtain ⟨v, L, q1, q2, q3⟩ := s1.hp
            have hform : ∃ gl cp, 0 < n → Value.slice ao l.length cap = Value.slice (some ⟨gl, 0, none⟩) n cp := by
              rcases s1.row.2 with ⟨hv, h0⟩ | ⟨gl, cp, cur, hv, _⟩
              · exact ⟨0, 0, fun hn => by omega⟩
              · exact ⟨gl, cp, fun _ => by rw [hv, s2]⟩
            obtain ⟨gl, cp, hform⟩ := hform
            refine ⟨gl, cp, ⟨⟨v, L, q1.sm FA, by rw [List.take_zero, q2]; exact PopTo.nil⟩, s1.rc.fr FA (fun q => q), fun hn => ?_, fun hn => ?_, by rw [List.take_zero]; exact Blk.new _ _ _, (FA.block _ (Array.getElem?_eq_some_iff.1 s4).1 (fun q => q)).trans s4, s1.fr.trans FA (fun _ _ q => by rcases q with q | q; exact q; exact q.elim), ?_⟩, hform⟩
            · rw [← hform hn]; exact s1.box.fr FA (fun q => q)
            · have hr := s1.row
              rw [hform hn, s2] at hr
              exact ownsRow_of_block hr fun g hg => FA.block g (ownsRow_lt hr hg).2 (fun q => q)
            · have h1 := s1.rc.lt; have h2 := s1.lo; have h3 := s1.fr.size; omega
          have cb5 : (W.alloc (.cells (seC [] n) 4)).cell? ⟨lb, 0, none⟩ = some (.slice ao n cap) := by
            rw [← cb]; exact World.cell?_of_block (heap_alloc_old W _ hls)
          generalize W.alloc (.cells (seC [] n) 4) = W5 at *
          generalize W.heap.size = sb at *
          obtain ⟨gl, cp, HSL0, hform⟩ := H5.out
          obtain ⟨v, L, q1, q2⟩ := HSL0.hp
          have hlen := Len_O q1
          have hLl : L.length = n := by have := q2.len; rw [List.take_zero, thL_len] at this; simpa using this
          rw [hLl] at hlen
          have H6 : Hid (SL w wl W5 o rb h lb sb d n l gl cp 0 0) := HSL0
          have HLL : Hid (l.length = n ∧ PopTo (lsB o) (thL d n) l []) := ⟨HL2.out.2.1, HL2.out.2.2.1⟩
          clear HSL0 q1 q2 hLl H5 HL2 cb hls hmk hform
          go_wp2_with (go_at_call 13; refine hlen.mono ?_; rintro e w9 ⟨rfl, rfl⟩)
          go_loopw [13, 14, 15, 16, 17] (fun x13 _ _ _ _ wr => ∃ i : Nat, i ≤ n ∧ x13 = .int .i64 (i : Int) ∧ Hid (SL w wl wr o rb h lb sb d n l gl cp i i)) (fun x13 _ _ _ _ _ => n - (RowKit.intOf x13).toNat)
          case atStart =>
            exact ⟨0, Nat.zero_le _, rfl, H6.out⟩
          case round =>
            obtain ⟨i3, hi3, rfl, HQ⟩ := hrel
            by_cases hlt : i3 < n
            · have hii : (i3 : Int) < (n : Int) := by omega
              have hib : (i3 : Int) + 1 < 9223372036854775808 := by have := HN.out; omega
              obtain ⟨v, L, q1, q2⟩ := HQ.out.hp
              have hLne : L ≠ [] := fun e => by
                have h9 := q2.len
                rw [e, thL_len, List.length_take] at h9
                have := HLL.out.1
                simp at h9
                omega
              have hpo := Pop_O q1 hLne
              have HP : Hid (HpO o w.heap.size wr h v L n ∧ PopTo (lsB o) (thL d n) (l.take i3) (L.map (·.x))) := ⟨q1, q2⟩
              clear q1 q2 hLne
              go_wp2_with (go_at_call 14; fail)
              refine hpo.mono ?_
              rintro e w5 ⟨m3, it, hm3, hmin, rfl, ⟨v', h5, h6⟩, -, h7⟩
              obtain ⟨pi, ri, x⟩ := it
              have hpx : PopTo (lsB o) (thL d n) (l.take i3 ++ [x]) ((L.eraseIdx m3).map (·.x)) := by
                rw [erase_map]
                exact HP.out.2.snoc hmin (by rw [List.getElem?_map, hm3]; rfl)
              have hlx : l[i3]? = some x := HLL.out.2.next (rest := []) hpx (by have := HLL.out.1; omega)
              have htk : l.take (i3 + 1) = l.take i3 ++ [x] := by
                obtain ⟨h8, h9⟩ := List.getElem?_eq_some_iff.1 hlx
                rw [List.take_succ_eq_append_getElem h8, h9]
              obtain ⟨j, hjn, hxj⟩ : ∃ j, j < n ∧ x = ⟨d j, (j : Int)⟩ := thL_mem (hpx.perm.mem_iff.1 (by simp))
              subst hxj
              have hse := seenB_new hpx rfl
              have FA : Fr w5 (w5.alloc (.cells #[.int .i64 (d j), .int .i64 (j : Int)] 30)) (fun _ => False) := Fr.alloc _ _ _
              have HX : Hid (SL w wl (w5.alloc (.cells #[.int .i64 (d j), .int .i64 (j : Int)] 30)) o rb h lb sb d n l gl cp (i3 + 1) i3 ∧ Blk (w5.alloc (.cells #[.int .i64 (d j), .int .i64 (j : Int)] 30)) w5.heap.size 30 #[.int .i64 (d j), .int .i64 (j : Int)]) :=
                ⟨(HQ.out.upd HP.out.1 h5 h7 (by rw [htk]; exact hpx)).sm FA, Blk.new _ _ _⟩
              have HX2 : Hid (PopTo (lsB o) (thL d n) (l.take i3 ++ [⟨d j, (j : Int)⟩]) ((L.eraseIdx m3).map (·.x)) ∧ l[i3]? = some ⟨d j, (j : Int)⟩ ∧ l.take (i3 + 1) = l.take i3 ++ [⟨d j, (j : Int)⟩] ∧ j < n ∧ seenB (l.take i3) j = false) := ⟨hpx, hlx, htk, hjn, hse⟩
              clear h5 h6 h7 hpo FA hm3 hmin hpx hlx htk hjn hse
              go_upto_region 24 with fail
              generalize w5.alloc (.cells #[.int .i64 (d j), .int .i64 (j : Int)] 30) = w6 at *
              generalize w5.heap.size = xb at *
              have HN0 : Hid (0 < n) := by show 0 < n; omega
              have hji : (j : Int) < (n : Int) := by have := HX2.out.2.2.2.1; omega
              have hjge : ¬ (n : Int) ≤ (j : Int) := by omega
              have hj0 : ¬ (j : Int) < 0 := by omega
              have hjl : (j : Int) < (l1 : Int) := by have := HN.out; have := HX2.out.2.2.2.1; omega
              obtain ⟨b, off, rfl, hcell⟩ := (HS.out.1.below (below_of HX.out.1.fr)).resolve_left (by have := HN.out; omega)
              have ck : w6.cell? ⟨b, off + j, none⟩ = some (.int .i64 (d j)) := (hcell j (by have := HN.out; have := HX2.out.2.2.2.1; omega)).1
              have cx0 : w6.cell? ⟨xb, 0, none⟩ = some (.int .i64 (d j)) := HX.out.2.cell 0
              have cx1 : w6.cell? ⟨xb, 1, none⟩ = some (.int .i64 (j : Int)) := HX.out.2.cell 1
              have cl : w6.cell? ⟨lb, 0, none⟩ = some (.slice (some ⟨gl, 0, none⟩) n cp) := (HX.out.1.box HN0.out).cell 0
              have cg0 : w6.cell? ⟨gl, i3 * 2, none⟩ = some (.int .i64 (d j)) := ownsRow_cell (HX.out.1.row HN0.out) (by have q := flatL_get (f := thV) thV_len HX2.out.2.1 (k := 0) (by decide); exact q)
              have cg1 : w6.cell? ⟨gl, i3 * 2 + 1, none⟩ = some (.int .i64 (j : Int)) := ownsRow_cell (HX.out.1.row HN0.out) (by have q := flatL_get (f := thV) thV_len HX2.out.2.1 (k := 1) (by decide); exact q)
              have cs : w6.cell? ⟨sb, j, none⟩ = some (.bool false) := by rw [HX.out.1.se.cell, seC_at _ HX2.out.2.2.2.1, HX2.out.2.2.2.2]
              have fs := HX.out.1.se.frozen j
              have hnq : ∀ W, (binOp .neq 30 (.agg #[.int .i64 (d j), .int .i64 (j : Int)]) (.agg #[.int .i64 (d j), .int .i64 (j : Int)])).run Try.prog W = .ok (.bool false) W := fun W => by have q := thing_neq ⟨d j, j⟩ ⟨d j, j⟩ W; simpa using q
              clear hcell
              go_quiet (fail)
              have HX7 : Hid (SL w wl (w6.drewN nq) o rb h lb sb d n l gl cp (i3 + 1) i3 ∧ Blk (w6.drewN nq) xb 30 #[.int .i64 (d j), .int .i64 (j : Int)]) := ⟨HX.out.1.sm ((Fr.refl w6 _).drewN nq), HX.out.2⟩
              have cx1' : (w6.drewN nq).cell? ⟨xb, 1, none⟩ = some (.int .i64 (j : Int)) := cx1
              have cs' : (w6.drewN nq).cell? ⟨sb, j, none⟩ = some (.bool false) := cs
              have fs' : (w6.drewN nq).frozen? ⟨sb, j, none⟩ = false := fs
              clear cx1 cs fs HX cx0 cl cg0 cg1 ck hnq
              generalize w6.drewN nq = w7 at *
              go_upto_region 27 with fail
              rename_i K27 hK27
              have HX8 : Hid (SL w wl (w7.setCell ⟨sb, j, none⟩ (.bool true)) o rb h lb sb d n l gl cp (i3 + 1) (i3 + 1) ∧ Blk (w7.setCell ⟨sb, j, none⟩ (.bool true)) xb 30 #[.int .i64 (d j), .int .i64 (j : Int)]) :=
                ⟨HX7.out.1.mark HX2.out.2.2.2.1 rfl HX2.out.2.2.1, HX7.out.2.fr (Fr.setCell _ _ _ (fun b => b = sb) rfl) (HX7.out.2.neT HX7.out.1.se (by decide))⟩
              clear HX7 cx1' cs' fs'
              generalize w7.setCell ⟨sb, j, none⟩ (.bool true) = w8 at *
              have HI3 : Hid (i3 ≤ n ∧ i3 < n) := ⟨hi3, hlt⟩
              clear hi3 hlt hlen cb5
              by_cases hz : i3 = 0
              · as_aux_lemma =>
                have hz' : ¬ (0 : Int) < (i3 : Int) := by omega
                clear hz hji hjge hj0 hjl hpk hmin hii
                have hi3 := HI3.out
                refine wp_region_lit ?_
                refine wpList_runTo rfl (some 126) rfl (.int .i64 (i3 : Int)) w8 (by kernel_rfl) ?_
                simp only [Act.put, List.setIfInBounds_toArray, List.set_cons_zero, List.set_cons_succ]
                refine wpList_runTo rfl (some 127) rfl (.bool false) w8 (by go_simp; omega) ?_
                simp only [Act.put, List.setIfInBounds_toArray, List.set_cons_zero, List.set_cons_succ]
                refine wpList_nil ?_
                refine hK27 _ _ ?_
                clear hK27
                go_wp2
                exact ⟨⟨i3 + 1, by omega, by go_num, HX8.out.1⟩, by simp [RowKit.intOf]; omega⟩
              · have hz' : (0 : Int) < (i3 : Int) := by omega
                obtain ⟨k3, hk3⟩ : ∃ k3, i3 = k3 + 1 := ⟨i3 - 1, by omega⟩
                obtain ⟨y, hy⟩ := get_some l (show k3 < l.length by have := HLL.out.1; omega)
                have HY : Hid (l[k3]? = some y ∧ i3 = k3 + 1 ∧ lsB o ⟨d j, (j : Int)⟩ y = false ∧ (lsB o y ⟨d j, (j : Int)⟩ = false → ¬ (j : Int) < y.g)) := by
                  have hq := HX2.out.1
                  obtain ⟨h8, h9⟩ := List.getElem?_eq_some_iff.1 hy
                  rw [hk3, List.take_succ_eq_append_getElem h8, h9] at hq
                  exact ⟨hy, hk3, hq.two (thL_up d n)⟩
                have hsub : IntKind.i64.wrap ((i3 : Int) - 1) = (k3 : Int) := by rw [IntKind.wrap_i64]; have := HN.out; omega
                have hkn : (k3 : Int) < (n : Int) := by omega
                have hless1 := Less_any o (o : Int) rfl ⟨d j, (j : Int)⟩ y
                have hless2 := Less_any o (o : Int) rfl y ⟨d j, (j : Int)⟩
                rw [HY.out.2.2.1] at hless1
                generalize hon : lsB o y ⟨d j, (j : Int)⟩ = on at *
                clear hy hk3 hz
                refine wp_region_lit ?_
                refine wpList_runTo rfl (some 126) rfl (.int .i64 (i3 : Int)) w8 (by kernel_rfl) ?_
                simp only [Act.put, List.setIfInBounds_toArray, List.set_cons_zero, List.set_cons_succ]
                refine wpList_runTo rfl (some 127) rfl (.bool true) w8 (by go_simp; omega) ?_
                simp only [Act.put, List.setIfInBounds_toArray, List.set_cons_zero, List.set_cons_succ]
                refine wpList_nil ?_
                refine hK27 _ _ ?_
                clear hK27
                go_upto_region 28 with fail
                go_cut [16] from 128 to 135 (fun x16 wx => x16 = .bool false ∧ Hid (SL w wl wx o rb h lb sb d n l gl cp (i3 + 1) (i3 + 1) ∧ Blk wx xb 30 #[.int .i64 (d j), .int .i64 (j : Int)]))
                case first => as_aux_lemma =>
                  rename_i K0 hJ9 hKd
                  refine wp_mono (Q := Exit.then K0 (fun _ _ _ => False)) ?_ (fun e a w hh => by cases e <;> first | exact hh | exact hh.elim)
                  refine wp_region_held (S := fun w' => w'.cell? ⟨xb, 0, none⟩ = some (.int .i64 (d j)) ∧ w'.cell? ⟨xb, 1, none⟩ = some (.int .i64 (j : Int)) ∧ w'.cell? ⟨lb, 0, none⟩ = some (.slice (some ⟨gl, 0, none⟩) n cp) ∧ w'.cell? ⟨gl, k3 * 2, none⟩ = some (.int .i64 y.k) ∧ w'.cell? ⟨gl, k3 * 2 + 1, none⟩ = some (.int .i64 y.g)) (by kernel_rfl) ?_
                  change wpAnyH _ _ _ _ _ _ _ _ (World.drew _)
                  have HT6 : Hid (SL w wl w8.drew o rb h lb sb d n l gl cp (i3 + 1) (i3 + 1) ∧ Blk w8.drew xb 30 #[.int .i64 (d j), .int .i64 (j : Int)]) := ⟨HX8.out.1.sm ((Fr.refl w8 _).drew), HX8.out.2⟩
                  generalize w8.drew = w9 at *
                  clear HX8
                  have hS : w9.cell? ⟨xb, 0, none⟩ = some (.int .i64 (d j)) ∧ w9.cell? ⟨xb, 1, none⟩ = some (.int .i64 (j : Int)) ∧ w9.cell? ⟨lb, 0, none⟩ = some (.slice (some ⟨gl, 0, none⟩) n cp) ∧ w9.cell? ⟨gl, k3 * 2, none⟩ = some (.int .i64 y.k) ∧ w9.cell? ⟨gl, k3 * 2 + 1, none⟩ = some (.int .i64 y.g) := ⟨HT6.out.2.cell 0, HT6.out.2.cell 1, (HT6.out.1.box HN0.out).cell 0, ownsRow_cell (HT6.out.1.row HN0.out) (by have q := flatL_get (f := thV) thV_len HY.out.1 (k := 0) (by decide); exact q), ownsRow_cell (HT6.out.1.row HN0.out) (by have q := flatL_get (f := thV) thV_len HY.out.1 (k := 1) (by decide); exact q)⟩
                  refine takeR (i := 0) (v := .int .i64 (o : Int)) (some 128) rfl rfl (by kernel_rfl) (by kernel_rfl) (by kernel_rfl) (fun _ _ _ h => h) (Or.inl ⟨by kernel_rfl, fun w' hSw => by kernel_rfl⟩) hS ?_
                  simp only [Act.put, List.setIfInBounds_toArray, List.set_cons_zero, List.set_cons_succ]
                  refine takeR (i := 1) (v := .agg #[.int .i64 (d j), .int .i64 (j : Int)]) (some 129) rfl rfl (by kernel_rfl) (by kernel_rfl) (by kernel_rfl) (fun _ _ _ h => h) (Or.inl ⟨by kernel_rfl, fun w' hSw => by have q := hSw.1; have q' := hSw.2.1; clear hSw; go_simp⟩) hS ?_
                  simp only [Act.put, List.setIfInBounds_toArray, List.set_cons_zero, List.set_cons_succ]
                  refine takeR (i := 2) (v := .slice (some ⟨gl, 0, none⟩) n cp) (some 130) rfl rfl (by kernel_rfl) (by kernel_rfl) (by kernel_rfl) (fun _ _ _ h => h) (Or.inl ⟨by kernel_rfl, fun w' hSw => by have q := hSw.2.2.1; clear hSw; go_simp⟩) hS ?_
                  simp only [Act.put, List.setIfInBounds_toArray, List.set_cons_zero, List.set_cons_succ]
                  refine takeR (i := 3) (v := .int .i64 (i3 : Int)) (some 131) rfl rfl (by kernel_rfl) (by kernel_rfl) (by kernel_rfl) (fun _ _ _ h => h) (Or.inl ⟨by kernel_rfl, fun w' hSw => by kernel_rfl⟩) hS ?_
                  simp only [Act.put, List.setIfInBounds_toArray, List.set_cons_zero, List.set_cons_succ]
                  refine takeR (i := 4) (v := .int .i64 (k3 : Int)) (some 132) rfl rfl (by kernel_rfl) (by kernel_rfl) (by kernel_rfl) (fun _ _ _ h => h) (Or.inl ⟨by kernel_rfl, fun w' hSw => by clear hSw; go_simp⟩) hS ?_
                  simp only [Act.put, List.setIfInBounds_toArray, List.set_cons_zero, List.set_cons_succ]
                  refine takeR (i := 5) (v := .pointer (some ⟨gl, k3 * 2, none⟩)) (some 133) rfl rfl (by kernel_rfl) (by kernel_rfl) (by kernel_rfl) (fun _ _ _ h => h) (Or.inl ⟨by kernel_rfl, fun w' hSw => by clear hSw; go_simp⟩) hS ?_
                  simp only [Act.put, List.setIfInBounds_toArray, List.set_cons_zero, List.set_cons_succ]
                  refine takeR (i := 6) (v := .agg #[.int .i64 y.k, .int .i64 y.g]) (some 134) rfl rfl (by kernel_rfl) (by kernel_rfl) (by kernel_rfl) (fun _ _ _ h => h) (Or.inl ⟨by kernel_rfl, fun w' hSw => by have q := hSw.2.2.2.1; have q' := hSw.2.2.2.2; clear hSw; go_simp⟩) hS ?_
                  simp only [Act.put, List.setIfInBounds_toArray, List.set_cons_zero, List.set_cons_succ]
                  refine wpAnyH_ready (rs := [7]) (by kernel_rfl) (by simp) ?_
                  refine AllReadyH.cons rfl (fun K1 hK1 => ?_) AllReadyH.nil
                  rw [if_pos (by kernel_rfl)]
                  refine callR (d := some 135) rfl 15 #[.int .i64 (o : Int), .agg #[.int .i64 (d j), .int .i64 (j : Int)], .agg #[.int .i64 y.k, .int .i64 y.g]] (by kernel_rfl) (hless1 w9) ?_
                  rintro e w10 ⟨rfl, hf⟩
                  have HT7 : Hid (SL w wl w10 o rb h lb sb d n l gl cp (i3 + 1) (i3 + 1) ∧ Blk w10 xb 30 #[.int .i64 (d j), .int .i64 (j : Int)]) := ⟨HT6.out.1.sm hf, HT6.out.2.fr hf (fun q => q)⟩
                  have hS7 : w10.cell? ⟨xb, 0, none⟩ = some (.int .i64 (d j)) ∧ w10.cell? ⟨xb, 1, none⟩ = some (.int .i64 (j : Int)) ∧ w10.cell? ⟨lb, 0, none⟩ = some (.slice (some ⟨gl, 0, none⟩) n cp) ∧ w10.cell? ⟨gl, k3 * 2, none⟩ = some (.int .i64 y.k) ∧ w10.cell? ⟨gl, k3 * 2 + 1, none⟩ = some (.int .i64 y.g) := ⟨HT7.out.2.cell 0, HT7.out.2.cell 1, (HT7.out.1.box HN0.out).cell 0, ownsRow_cell (HT7.out.1.row HN0.out) (by have q := flatL_get (f := thV) thV_len HY.out.1 (k := 0) (by decide); exact q), ownsRow_cell (HT7.out.1.row HN0.out) (by have q := flatL_get (f := thV) thV_len HY.out.1 (k := 1) (by decide); exact q)⟩
                  refine ⟨_, rfl, ?_⟩
                  refine hK1.out _ _ hS7 (fun _ => ?_)
                  clear hK1 hf hS
                  simp only [Act.put, List.setIfInBounds_toArray, List.set_cons_zero, List.set_cons_succ]
                  refine takeR (i := 8) (v := .bool false) (some 16) rfl rfl (by kernel_rfl) (by kernel_rfl) (by kernel_rfl) (fun _ _ _ h => h) (Or.inl ⟨by kernel_rfl, fun w' hSw => by kernel_rfl⟩) hS7 ?_
                  simp only [Act.put, List.setIfInBounds_toArray, List.set_cons_zero, List.set_cons_succ]
                  refine wpAnyH_done (by kernel_rfl) ?_ _
                  refine hKd _ _ ?_
                  go_meet
                  exact ⟨rfl, HT7.out⟩
                case rest =>
                  obtain ⟨rfl, HX9⟩ := hcut
                  clear HX8 hless1
                  go_upto_region 29 with fail
                  go_cut [17] from 136 to 143 (fun x17 wx => x17 = .bool on ∧ Hid (SL w wl wx o rb h lb sb d n l gl cp (i3 + 1) (i3 + 1) ∧ Blk wx xb 30 #[.int .i64 (d j), .int .i64 (j : Int)]))
                  case first => as_aux_lemma =>
                    rename_i K0 hJ9 hKd
                    refine wp_mono (Q := Exit.then K0 (fun _ _ _ => False)) ?_ (fun e a w hh => by cases e <;> first | exact hh | exact hh.elim)
                    refine wp_region_held (S := fun w' => w'.cell? ⟨xb, 0, none⟩ = some (.int .i64 (d j)) ∧ w'.cell? ⟨xb, 1, none⟩ = some (.int .i64 (j : Int)) ∧ w'.cell? ⟨lb, 0, none⟩ = some (.slice (some ⟨gl, 0, none⟩) n cp) ∧ w'.cell? ⟨gl, k3 * 2, none⟩ = some (.int .i64 y.k) ∧ w'.cell? ⟨gl, k3 * 2 + 1, none⟩ = some (.int .i64 y.g)) (by kernel_rfl) ?_
                    change wpAnyH _ _ _ _ _ _ _ _ (World.drew _)
                    have HT6 : Hid (SL w wl wc.drew o rb h lb sb d n l gl cp (i3 + 1) (i3 + 1) ∧ Blk wc.drew xb 30 #[.int .i64 (d j), .int .i64 (j : Int)]) := ⟨HX9.out.1.sm ((Fr.refl wc _).drew), HX9.out.2⟩
                    generalize wc.drew = w9 at *
                    clear HX9
                    have hS : w9.cell? ⟨xb, 0, none⟩ = some (.int .i64 (d j)) ∧ w9.cell? ⟨xb, 1, none⟩ = some (.int .i64 (j : Int)) ∧ w9.cell? ⟨lb, 0, none⟩ = some (.slice (some ⟨gl, 0, none⟩) n cp) ∧ w9.cell? ⟨gl, k3 * 2, none⟩ = some (.int .i64 y.k) ∧ w9.cell? ⟨gl, k3 * 2 + 1, none⟩ = some (.int .i64 y.g) := ⟨HT6.out.2.cell 0, HT6.out.2.cell 1, (HT6.out.1.box HN0.out).cell 0, ownsRow_cell (HT6.out.1.row HN0.out) (by have q := flatL_get (f := thV) thV_len HY.out.1 (k := 0) (by decide); exact q), ownsRow_cell (HT6.out.1.row HN0.out) (by have q := flatL_get (f := thV) thV_len HY.out.1 (k := 1) (by decide); exact q)⟩
                    refine takeR (i := 0) (v := .int .i64 (o : Int)) (some 136) rfl rfl (by kernel_rfl) (by kernel_rfl) (by kernel_rfl) (fun _ _ _ h => h) (Or.inl ⟨by kernel_rfl, fun w' hSw => by kernel_rfl⟩) hS ?_
                    simp only [Act.put, List.setIfInBounds_toArray, List.set_cons_zero, List.set_cons_succ]
                    refine takeR (i := 1) (v := .slice (some ⟨gl, 0, none⟩) n cp) (some 137) rfl rfl (by kernel_rfl) (by kernel_rfl) (by kernel_rfl) (fun _ _ _ h => h) (Or.inl ⟨by kernel_rfl, fun w' hSw => by have q := hSw.2.2.1; clear hSw; go_simp⟩) hS ?_
                    simp only [Act.put, List.setIfInBounds_toArray, List.set_cons_zero, List.set_cons_succ]
                    refine takeR (i := 2) (v := .int .i64 (i3 : Int)) (some 138) rfl rfl (by kernel_rfl) (by kernel_rfl) (by kernel_rfl) (fun _ _ _ h => h) (Or.inl ⟨by kernel_rfl, fun w' hSw => by kernel_rfl⟩) hS ?_
                    simp only [Act.put, List.setIfInBounds_toArray, List.set_cons_zero, List.set_cons_succ]
                    refine takeR (i := 3) (v := .int .i64 (k3 : Int)) (some 139) rfl rfl (by kernel_rfl) (by kernel_rfl) (by kernel_rfl) (fun _ _ _ h => h) (Or.inl ⟨by kernel_rfl, fun w' hSw => by clear hSw; go_simp⟩) hS ?_
                    simp only [Act.put, List.setIfInBounds_toArray, List.set_cons_zero, List.set_cons_succ]
                    refine takeR (i := 4) (v := .pointer (some ⟨gl, k3 * 2, none⟩)) (some 140) rfl rfl (by kernel_rfl) (by kernel_rfl) (by kernel_rfl) (fun _ _ _ h => h) (Or.inl ⟨by kernel_rfl, fun w' hSw => by clear hSw; go_simp⟩) hS ?_
                    simp only [Act.put, List.setIfInBounds_toArray, List.set_cons_zero, List.set_cons_succ]
                    refine takeR (i := 5) (v := .agg #[.int .i64 y.k, .int .i64 y.g]) (some 141) rfl rfl (by kernel_rfl) (by kernel_rfl) (by kernel_rfl) (fun _ _ _ h => h) (Or.inl ⟨by kernel_rfl, fun w' hSw => by have q := hSw.2.2.2.1; have q' := hSw.2.2.2.2; clear hSw; go_simp⟩) hS ?_
                    simp only [Act.put, List.setIfInBounds_toArray, List.set_cons_zero, List.set_cons_succ]
                    refine takeR (i := 6) (v := .agg #[.int .i64 (d j), .int .i64 (j : Int)]) (some 142) rfl rfl (by kernel_rfl) (by kernel_rfl) (by kernel_rfl) (fun _ _ _ h => h) (Or.inl ⟨by kernel_rfl, fun w' hSw => by have q := hSw.1; have q' := hSw.2.1; clear hSw; go_simp⟩) hS ?_
                    simp only [Act.put, List.setIfInBounds_toArray, List.set_cons_zero, List.set_cons_succ]
                    refine wpAnyH_ready (rs := [7]) (by kernel_rfl) (by simp) ?_
                    refine AllReadyH.cons rfl (fun K1 hK1 => ?_) AllReadyH.nil
                    rw [if_pos (by kernel_rfl)]
                    refine callR (d := some 143) rfl 15 #[.int .i64 (o : Int), .agg #[.int .i64 y.k, .int .i64 y.g], .agg #[.int .i64 (d j), .int .i64 (j : Int)]] (by kernel_rfl) (hless2 w9) ?_
                    rintro e w10 ⟨rfl, hf⟩
                    have HT7 : Hid (SL w wl w10 o rb h lb sb d n l gl cp (i3 + 1) (i3 + 1) ∧ Blk w10 xb 30 #[.int .i64 (d j), .int .i64 (j : Int)]) := ⟨HT6.out.1.sm hf, HT6.out.2.fr hf (fun q => q)⟩
                    have hS7 : w10.cell? ⟨xb, 0, none⟩ = some (.int .i64 (d j)) ∧ w10.cell? ⟨xb, 1, none⟩ = some (.int .i64 (j : Int)) ∧ w10.cell? ⟨lb, 0, none⟩ = some (.slice (some ⟨gl, 0, none⟩) n cp) ∧ w10.cell? ⟨gl, k3 * 2, none⟩ = some (.int .i64 y.k) ∧ w10.cell? ⟨gl, k3 * 2 + 1, none⟩ = some (.int .i64 y.g) := ⟨HT7.out.2.cell 0, HT7.out.2.cell 1, (HT7.out.1.box HN0.out).cell 0, ownsRow_cell (HT7.out.1.row HN0.out) (by have q := flatL_get (f := thV) thV_len HY.out.1 (k := 0) (by decide); exact q), ownsRow_cell (HT7.out.1.row HN0.out) (by have q := flatL_get (f := thV) thV_len HY.out.1 (k := 1) (by decide); exact q)⟩
                    refine ⟨_, rfl, ?_⟩
                    refine hK1.out _ _ hS7 (fun _ => ?_)
                    clear hK1 hf hS
                    simp only [Act.put, List.setIfInBounds_toArray, List.set_cons_zero, List.set_cons_succ]
                    refine takeR (i := 8) (v := .bool on) (some 17) rfl rfl (by kernel_rfl) (by kernel_rfl) (by kernel_rfl) (fun _ _ _ h => h) (Or.inl ⟨by kernel_rfl, fun w' hSw => by kernel_rfl⟩) hS7 ?_
                    simp only [Act.put, List.setIfInBounds_toArray, List.set_cons_zero, List.set_cons_succ]
                    refine wpAnyH_done (by kernel_rfl) ?_ _
                    refine hKd _ _ ?_
                    go_meet
                    exact ⟨rfl, HT7.out⟩
                  case rest => as_aux_lemma =>
                    obtain ⟨rfl, HX10⟩ := hcut
                    clear HX9 hless2
                    obtain ⟨z0, z1, z2, z3, z4⟩ : wc.cell? ⟨xb, 0, none⟩ = some (.int .i64 (d j)) ∧ wc.cell? ⟨xb, 1, none⟩ = some (.int .i64 (j : Int)) ∧ wc.cell? ⟨lb, 0, none⟩ = some (.slice (some ⟨gl, 0, none⟩) n cp) ∧ wc.cell? ⟨gl, k3 * 2, none⟩ = some (.int .i64 y.k) ∧ wc.cell? ⟨gl, k3 * 2 + 1, none⟩ = some (.int .i64 y.g) := ⟨HX10.out.2.cell 0, HX10.out.2.cell 1, (HX10.out.1.box HN0.out).cell 0, ownsRow_cell (HX10.out.1.row HN0.out) (by have q := flatL_get (f := thV) thV_len HY.out.1 (k := 0) (by decide); exact q), ownsRow_cell (HX10.out.1.row HN0.out) (by have q := flatL_get (f := thV) thV_len HY.out.1 (k := 1) (by decide); exact q)⟩
                    go_upto_region 30 with fail
                    cases on with
                    | true =>
                      clear hon
                      go_quiet (fail)
                      go_wp2
                      exact ⟨⟨i3 + 1, by omega, by go_num, HX10.out.1.sm ((Fr.refl wc _).drewN _)⟩, by simp [RowKit.intOf]; omega⟩
                    | false =>
                      have hyg : ¬ (j : Int) < y.g := HY.out.2.2.2 (by first | exact hon | rfl)
                      have hyd : decide ((j : Int) < y.g) = false := by simpa using hyg
                      clear hon
                      go_quiet (fail)
                      go_wp2
                      exact ⟨⟨i3 + 1, by omega, by go_num, HX10.out.1.sm ((Fr.refl wc _).drewN _)⟩, by simp [RowKit.intOf]; omega⟩
            · as_aux_lemma =>
              have hii : ¬ (i3 : Int) < (n : Int) := by omega
              obtain ⟨v, L, q1, q2⟩ := HQ.out.hp
              have hLe : L = [] := by
                have h9 := q2.len
                rw [thL_len, List.length_take, List.length_map] at h9
                have := HLL.out.1
                exact List.length_eq_zero_iff.1 (by omega)
              subst hLe
              have hpo := Pop_Z q1
              have HQ1 : Hid (SL w wl wr o rb h lb sb d n l gl cp i3 i3) := HQ.out
              clear q1 q2 HQ hlen cb5
              go_wp2_with (go_at_call 14; fail)
              refine hpo.mono ?_
              rintro e w5 ⟨rfl, h5, h7⟩
              have FA : Fr w5 (w5.alloc (.cells #[.int .i64 0, .int .i64 0] 30)) (fun _ => False) := Fr.alloc _ _ _
              have HX : Hid (SL w wl (w5.alloc (.cells #[.int .i64 0, .int .i64 0] 30)) o rb h lb sb d n l gl cp i3 i3) := (HQ1.out.sm h7).sm FA
              have hlen2 := Len_O (h5.sm FA)
              clear h5 h7 hpo FA HQ1
              go_upto_region 33 with fail
              generalize w5.alloc (.cells #[.int .i64 0, .int .i64 0] 30) = w6 at *
              have cr : w6.cell? ⟨rb, 0, none⟩ = some (.bool false) := HX.out.rc.cell 0
              have frz := HX.out.rc.frozen 0
              have HD8 : Hid ((w6.setCell ⟨rb, 0, none⟩ (.bool true)).heap[wl.heap.size]? = some (.deferred (some [])) ∧ Blk (w6.setCell ⟨rb, 0, none⟩ (.bool true)) rb 4 #[.bool true] ∧ Fr w (w6.setCell ⟨rb, 0, none⟩ (.bool true)) (fun b => w.heap.size ≤ b)) := by
                have F : Fr w6 (w6.setCell ⟨rb, 0, none⟩ (.bool true)) (fun b => b = rb) := Fr.setCell _ _ _ _ rfl
                refine ⟨(F.block _ (Array.getElem?_eq_some_iff.1 HX.out.de).1 fun e => ?_).trans HX.out.de, HX.out.rc.set 0 _, HX.out.fr.trans F fun b _ q => ?_⟩
                · have h1 := HX.out.rc
                  unfold Blk at h1
                  rw [← e, HX.out.de] at h1
                  cases h1
                · rcases q with q | q
                  · exact q
                  · have := HX.out.ne; omega
              clear HX
              go_wp2_with (go_at_call 13; refine hlen2.mono ?_; rintro e w9 ⟨rfl, ew⟩; replace ew := ew.symm; subst ew)
              generalize w6.setCell ⟨rb, 0, none⟩ (.bool true) = w8 at *
              rw [HQF.out]
              refine ⟨by simp, .inl ⟨_, _, rfl, run_takeDeferred HD8.out.1, ?_⟩⟩
              have hlt8 : wl.heap.size < w8.heap.size := (Array.getElem?_eq_some_iff.1 HD8.out.1).1
              have F9 := fr_put w8 wl.heap.size (.deferred none)
              have hne : rb ≠ wl.heap.size := fun e => by
                have h1 := HD8.out.2.1
                unfold Blk at h1
                rw [e, HD8.out.1] at h1
                cases h1
              have hbl : Below w.heap.size w (w8.putObj wl.heap.size (.deferred none)) := below_of (HD8.out.2.2.trans F9 fun b _ q => by
                rcases q with q | q
                · exact q
                · have := HWS.out; omega)
              rw [HRB.out] at hbl
              exact ⟨_, results_bool rfl _ _ rfl ((HD8.out.2.1.fr F9 hne).cell 0), rfl, hbl⟩
        case hstop =>
          rintro c pre W _ hq _
          exact hq.elim
end Go.Proofs.Ytdnhhcbabdoomaa
