/-
  ArbiterPlays: marked rows grow; the owner's lists; what is put onto one of them.
-/
import Derived.Test.YtdncemecnbglaaaA25
namespace Go.Proofs.Ytdncemecnbglaaa
set_option linter.unusedVariables false
set_option linter.unusedSimpArgs false
open Go.RowKit Go.Great Go.Maps

/-- append onto a row: in place, or into a new block. -/
theorem run_append_at {P : Program} (w : World) (t ty e : TypeId) (i : TypeInfo) (z : Value) (size bytes : Nat) (ht : P.underlying t = some (.slice e)) (hi : P.info? e = some i) (hz : i.zero = some z)
    (hsize : i.size = size) (hby : i.bytes = bytes) (hzs : z.cells.size = size)
    (v : Value) (n : Nat) (xs : List Value) (hown : RowAt w e size v n xs)
    (a : Addr) (m c : Nat) (news : List Value) (hl : news.length = m * size) (hnews : ∀ j u, news[j]? = some u → w.cell? (a.add j) = some u) (h1 : ∀ u ∈ news, u.oneCell' = true)
    (hm : 0 < m ∨ 0 < n) (h63 : n + m ≤ maxLen) (hbytes : (n + m) * bytes ≤ 140737488355328) :
    ∃ v' w', (Builtin.append_ #[t, t] ty #[v, .slice (some a) m c]).run P w = .ok v' w' ∧ RowAt w' e size v' (n + m) (xs ++ news) ∧ Fr w w' (fun b => v.ownBlock = some b) ∧ ((∃ g off cap, v = .slice (some ⟨g, off, none⟩) n cap ∧ v' = .slice (some ⟨g, off, none⟩) (n + m) cap ∧ w' = w.setCells g (off + n * size) news) ∨ v'.ownBlock = some w.heap.size ∧ ∀ k, k < w.heap.size → w'.heap[k]? = w.heap[k]?) := by
  subst hsize
  subst hby
  have hsmall : n + m ≤ 9223372036854775807 := by simp only [maxLen] at h63; omega
  have hlen : (xs ++ news).length = (n + m) * i.size := by rw [List.length_append, hown.1, hl, Nat.add_mul]
  have grown : ∀ (old : Nat), old < n + m →
      RowAt (w.drew.alloc (.cells (xs.toArray ++ news.toArray ++ Builtin.zeroCells z.cells (grownCap w (n + m) old e - (n + m))) e)) e i.size
        (.slice (some ⟨w.heap.size, 0, none⟩) (n + m) (grownCap w (n + m) old e)) (n + m) (xs ++ news) ∧
      ∀ k, k < w.heap.size → (w.drew.alloc (.cells (xs.toArray ++ news.toArray ++ Builtin.zeroCells z.cells (grownCap w (n + m) old e - (n + m))) e)).heap[k]? = w.heap[k]? := by
    intro old ho
    have hge := grownCap_ge w (n + m) old e
    have hcm : grownCap w (n + m) old e ≤ maxLen := grownCap_le_maxLen w (n + m) old e h63
    refine ⟨⟨hlen, .inr ⟨w.heap.size, 0, _, _, rfl, heap_alloc_new w.drew _, hge, hcm, ?_, ?_⟩⟩, fun k hk => Below.heap_alloc w.drew _ k hk⟩
    · simp only [Array.size_append, List.size_toArray, size_zeroCells, hzs, hown.1, hl, ← Nat.add_mul]
      rw [show n + m + (grownCap w (n + m) old e - (n + m)) = grownCap w (n + m) old e by omega]; omega
    · simp only [Array.toList_append, List.append_assoc, List.drop_zero]
      rw [← List.append_assoc, ← hlen]
      exact List.take_left
  have frw : ∀ (o : Obj) (ex : Nat → Prop), Fr w (w.drew.alloc o) ex := fun o ex => ⟨rfl, rfl, rfl, by simp, fun b hb _ => Below.heap_alloc w.drew _ b hb⟩
  rcases hown.2 with ⟨rfl, rfl⟩ | ⟨g, off, cap, cur, rfl, hg, hnc, hcm, hcs, htake⟩
  · have hx : xs = [] := List.eq_nil_of_length_eq_zero (by simpa using hown.1)
    subst hx
    have hr := run_append_nil (P := P) w t ty e i z ht hi hz a m c news hl hnews (by omega) (by omega) (by have hb := hbytes; simp only [Nat.zero_add] at hb; omega)
    have hgr := grown 0 (by omega)
    simp only [Nat.zero_add, List.nil_append, Array.empty_append] at hgr ⊢
    exact ⟨_, _, hr, hgr.1, frw _ _, .inr ⟨rfl, hgr.2⟩⟩
  · by_cases hroom : n + m ≤ cap
    · have e1 : (n + m) * i.size ≤ cap * i.size := Nat.mul_le_mul_right _ hroom
      have e2 : (n + m) * i.size = n * i.size + news.length := by rw [Nat.add_mul, hl]
      have hthere : ∀ j, j < news.length → (w.cell? ⟨g, off + n * i.size + j, none⟩).isSome = true := fun j hj => by
        rw [cell_of_row _ _ _ _ _ _ hg, Array.getElem?_eq_getElem (by omega)]; rfl
      have hr := run_append_room_cells (P := P) w t ty e i ht hi g off n cap a m c news hl hnews h1 hroom hthere (fun j hj => frozen_of_row w g _ _ _ hg)
      have hF := Fr.setCells g (fun b => (Value.slice (some ⟨g, off, none⟩) n cap).ownBlock = some b) rfl news (off + n * i.size) w
      have hblk : ∀ (vs : List Value) (o : Nat) (w1 : World) (cur : Array Value), w1.heap[g]? = some (.cells cur e (0, 0)) → o + vs.length ≤ cur.size → (w1.setCells g o vs).heap[g]? = some (.cells (cur.toList.take o ++ vs ++ cur.toList.drop (o + vs.length)).toArray e (0, 0)) := by
        intro vs
        induction vs with
        | nil => intro o w1 cur h _; rw [World.setCells, h]; simp
        | cons u r ih =>
          intro o w1 cur h hsz
          rw [World.setCells, setCell_eq_setRow w1 g o cur e (0, 0) u h]
          simp only [List.length_cons] at hsz
          rw [ih (o + 1) _ _ (setRow_heap w1 g cur _ e (0, 0) h) (by simp; omega)]
          have hs : (cur.setIfInBounds o u).toList = cur.toList.set o u := by simp
          have hlt : o < cur.toList.length := by rw [Array.length_toList]; omega
          have e5 : (List.take (o + 1) cur.toList).set o u = List.take o cur.toList ++ [u] := by
            rw [List.take_succ_eq_append_getElem hlt, List.set_append_right _ _ (by simp; omega)]
            have e7 : (List.take o cur.toList).length = o := by rw [List.length_take]; omega
            rw [e7, Nat.sub_self]; rfl
          have e6 : List.take (o + 1) (cur.setIfInBounds o u).toList ++ r ++ List.drop (o + 1 + r.length) (cur.setIfInBounds o u).toList = List.take o cur.toList ++ (u :: r) ++ List.drop (o + (u :: r).length) cur.toList := by
            rw [hs, List.take_set, e5, List.drop_set, if_pos (by omega), List.length_cons, show o + 1 + r.length = o + (r.length + 1) by omega]; simp
          rw [e6]
      refine ⟨_, _, hr, ⟨hlen, .inr ⟨g, off, cap, _, rfl, hblk news _ w cur hg (by omega), hroom, hcm, ?_, ?_⟩⟩, hF, .inl ⟨g, off, cap, rfl, rfl, rfl⟩⟩
      · simp only [List.size_toArray, List.length_append, List.length_take, List.length_drop, Array.length_toList]; omega
      · have hd : (List.take (off + n * i.size) cur.toList ++ news ++ List.drop (off + n * i.size + news.length) cur.toList).drop off = xs ++ news ++ List.drop (off + n * i.size + news.length) cur.toList := by
          rw [List.append_assoc, List.drop_append_of_le_length (by rw [List.length_take, Array.length_toList]; omega), List.drop_take, show off + n * i.size - off = n * i.size by omega, htake, List.append_assoc]
        rw [hd, ← hlen]
        exact List.take_left
    · have holds : ∀ j u, xs[j]? = some u → w.cell? ((⟨g, off, none⟩ : Addr).add j) = some u := fun j u hj => by
        rw [Addr.add_mid]; exact hown.cell rfl hj
      have hr := run_append_grow (P := P) w t ty e i z ht hi hz ⟨g, off, none⟩ n cap xs hown.1 holds a m c news hl hnews (by omega) (by omega) (growslice_fits (by omega) hbytes)
      have hgr := grown cap (by omega)
      exact ⟨_, _, hr, hgr.1, frw _ _, .inr ⟨rfl, hgr.2⟩⟩
/-- More marks behind marks. -/
theorem MkA.app {s : Nat} {w : World} {G : Gh} {T : TypeId} {size m n : Nat} {v : Value} (k : MkA w G T size m v n) (gi : Gi G w) (hT : hotT T) (t ty : TypeId) (i : TypeInfo) (z : Value) (bytes : Nat) (ht : Try.prog.underlying t = some (.slice T)) (hi : Try.prog.info? T = some i) (hz : i.zero = some z)
    (hsize : i.size = size) (hby : i.bytes = bytes) (hzs : z.cells.size = size) (a : Addr) (m1 c : Nat) (news : List Value) (hl : news.length = m1 * size) (hnews : ∀ j u, news[j]? = some u → w.cell? (a.add j) = some u) (hC : ∀ u ∈ news, Cm G T m u)
    (hm : 0 < m1) (h63 : n + m1 ≤ maxLen) (hbytes : (n + m1) * bytes ≤ 140737488355328) :
    ∃ v' w' G', (Builtin.append_ #[t, t] ty #[v, .slice (some a) m1 c]).run Try.prog w = .ok v' w' ∧ MkA w' G' T size m v' (n + m1) ∧ Stp s (fun _ => False) G w G' w' ∧ ∀ q, q < w.heap.size → G' q = G q := by
  obtain ⟨xs, r, hx, hq⟩ := k
  obtain ⟨v', w', h1, h2, h3, h4⟩ := run_append_at w t ty T i z size bytes ht hi hz hsize hby hzs v n xs r a m1 c news hl hnews (fun u hu => (hC u hu).one) (.inl hm) h63 hbytes
  rcases h4 with ⟨g, off, cap, e1, e2, e3⟩ | ⟨e1, e2⟩
  · have hg : G g = (2, m) := hq g (by rw [e1]; rfl)
    obtain ⟨_, cur, hc⟩ := r.lt (g := g) (by rw [e1]; rfl)
    have hst : Stp s (fun _ => False) G w G w' := by rw [e3]; exact Stp.sets news _ w cur gi hg hc hC
    refine ⟨v', w', G, h1, ⟨xs ++ news, h2, fun x hm => ?_, fun q hv => ?_⟩, hst, fun _ _ => rfl⟩
    · rcases List.mem_append.1 hm with h | h
      · exact hx x h
      · exact hC x h
    · rw [e2] at hv
      have e : g = q := by injection hv
      rw [← e]; exact hg
  · have hf : Fr w w' (fun _ => False) := ⟨h3.os, h3.tape, h3.output, h3.size, fun b hb _ => e2 b hb⟩
    obtain ⟨hlt, cur, hc⟩ := h2.lt e1
    have h0 : G w.heap.size = (0, 0) := gi.zero (Nat.le_refl _)
    have hst : Stp s (fun _ => False) G w (pnt G w.heap.size (2, m)) w' := (Stp.of_fr gi hf fun _ _ _ h => h.elim).paint (Nat.le_refl _) h0 hc hT fun j hj => by simp at hj
    refine ⟨v', w', _, h1, ⟨xs ++ news, h2, fun x hm => ?_, fun q hv => ?_⟩, hst, fun q hq => pnt_ne _ _ (by omega)⟩
    · rcases List.mem_append.1 hm with h | h
      · exact hst.cm (hx x h)
      · exact hst.cm (hC x h)
    · have e9 : w.heap.size = q := by
        have := e1.symm.trans hv
        injection this
      rw [← e9]
      exact pnt_at _ _ _
/-- A hold: bytes that came out, written over. -/
structure En where
  v : Value
  n : Nat
  m : Nat
def eV (e : En) : List Value := [e.v, .int .u8 (e.m : Int)]
theorem eV_len (e : En) : (eV e).length = 2 := rfl
structure EOk (w : World) (G : Gh) (e : En) : Prop where
  m : e.m < 256
  n : e.n ≤ 140737488351302
  mr : MkA w G 5 1 e.m e.v e.n
section
variable {s : Nat} {ex : Nat → Prop} {G G' : Gh} {w w' : World}
theorem EOk.stp {e : En} (k : EOk w G e) (h : Stp s ex G w G' w') : EOk w' G' e := ⟨k.m, k.n, k.mr.stp h⟩
structure Hs (w : World) (G : Gh) (vk : Value) (es : List En) : Prop where
  row : RowAt w 89 2 vk es.length (flatL eV es)
  ok : ∀ e ∈ es, EOk w G e
theorem Hs.stp {vk : Value} {es : List En} (k : Hs w G vk es) (h : Stp s ex G w G' w') (hn : ∀ q, vk.ownBlock = some q → ¬ ex q) : Hs w' G' vk es := ⟨k.row.stpO h (by unfold hotT; decide) hn, fun e he => (k.ok e he).stp h⟩
structure Ls (E T : TypeId) (size : Nat) (w : World) (G : Gh) (v : Value) (os : List (Value × Nat)) : Prop where
  row : RowAt w E 1 v os.length (os.map (·.1))
  ok : ∀ (i : Nat) x, os[i]? = some x → MkA w G T size (i - i % 4) x.1 x.2
theorem Ls.stp {E T : TypeId} {size : Nat} {v : Value} {os : List (Value × Nat)} (k : Ls E T size w G v os) (hE : ¬ hotT E) (h : Stp s ex G w G' w') (hn : ∀ q, v.ownBlock = some q → ¬ ex q) : Ls E T size w' G' v os := ⟨k.row.stpO h hE hn, fun i x hx => (k.ok i x hx).stp h⟩
end
/-- The pair's cells. -/
structure PC where
  a : Value
  b : Value
  k : Value
  r : Value
  o : Value
  w : Value
  s : Value
  d : Value
def PC.cs (c : PC) : Array Value := #[c.a, c.b, c.k, c.r, c.o, c.w, c.s, c.d]
/-- What a list of the pair's has grown by one thing. -/
structure Psh (w w3 : World) (p : Nat) (cs cs' : Array Value) (E : TypeId) (size : Nat) (v v' : Value) (n : Nat) (xs news : List Value) : Prop where
  row : RowAt w3 E size v' (n + 1) (xs ++ news)
  blk : Blk w3 p 54 cs'
  fr : Fr w w3 (fun q => q = p ∨ v.ownBlock = some q)
  own : ∀ q, v'.ownBlock = some q → v.ownBlock = some q ∨ w.heap.size ≤ q
theorem push_any {w : World} {p c : Nat} {cs : Array Value} {E : TypeId} {size n : Nat} {v : Value} {xs : List Value} (hp : Blk w p 54 cs) (hr : RowAt w E size v n xs) (hE : E ≠ 54) (t ty : TypeId) (i : TypeInfo) (z : Value) (bytes : Nat) (ht : Try.prog.underlying t = some (.slice E)) (hi : Try.prog.info? E = some i) (hz : i.zero = some z)
    (hsize : i.size = size) (hby : i.bytes = bytes) (hzs : z.cells.size = size) (news : List Value) (hl : news.length = size) (h1 : ∀ u ∈ news, u.oneCell' = true) (h63 : n + 1 ≤ maxLen) (hbytes : (n + 1) * bytes ≤ 140737488355328) :
    ∃ v' w2, (Builtin.append_ #[t, t] ty #[v, .slice (some ⟨w.heap.size, 0, none⟩) 1 1]).run Try.prog (w.alloc (.cells news.toArray E)) = .ok v' w2 ∧ Blk w2 p 54 cs ∧ Fr w w2 (fun q => v.ownBlock = some q) ∧ Psh w (w2.setCell ⟨p, c, none⟩ v') p cs (cs.setIfInBounds c v') E size v v' n xs news ∧ ∃ a cap, v' = .slice a (n + 1) cap := by
  obtain ⟨v', w2, h2, h3, h4, h5⟩ := run_append_row (P := Try.prog) (w.alloc (.cells news.toArray E)) t ty E i z size bytes ht hi hz hsize hby hzs v n xs (hr.fr (Fr.alloc w _ (fun _ => False)) fun _ _ => id) ⟨w.heap.size, 0, none⟩ 1 1 news (by rw [Nat.one_mul]; exact hl) (fun j u hu => by
    rw [Addr.add_mid, Nat.zero_add, cell_of_row _ _ _ _ _ _ (heap_alloc_new w _)]
    simpa using hu) h1 (.inl (by decide)) h63 hbytes
  have hne : v.ownBlock ≠ some p := hr.ne_type hp hE
  have hpl := hp.lt
  have hp2 : Blk w2 p 54 cs := (hp.alloc _).fr h4 hne
  have hf : Fr w (w2.setCell ⟨p, c, none⟩ v') (fun q => q = p ∨ v.ownBlock = some q) := ((Fr.alloc w (.cells news.toArray E) (fun _ => False)).trans h4 (fun q _ h => h.elim False.elim fun h => .inr h)).trans (Fr.setCell w2 ⟨p, c, none⟩ v' (fun q => q = p) rfl) fun q _ h => h.elim id .inl
  have hne' : ∀ g, v'.ownBlock = some g → ¬ g = p := fun g hg e => by
    subst e
    exact h3.ne_type hp2 hE hg
  obtain ⟨a, cap, hform, _⟩ := h3.form
  refine ⟨v', w2, h2, hp2, (Fr.alloc w (.cells news.toArray E) (fun _ => False)).trans h4 (fun q _ h => h.elim False.elim id), ⟨h3.fr (Fr.setCell w2 ⟨p, c, none⟩ v' (fun q => q = p) rfl) hne', hp2.set c v', hf, fun q hq => ?_⟩, a, cap, hform⟩
  rcases h5 with h5 | ⟨h5, _⟩
  · exact .inl (h5 ▸ hq)
  · rw [h5] at hq
    injection hq with hq
    subst hq
    right
    simp
theorem info29 : (Try.prog.info? 32).map (fun i => (i.zero, i.size, i.bytes)) = some (some (.slice none 0 0), 1, 24) := by kernel_rfl
theorem infoRs : (Try.prog.info? 59).map (fun i => (i.zero, i.size, i.bytes)) = some (some (.slice none 0 0), 1, 24) := by kernel_rfl
theorem infoH : (Try.prog.info? 89).map (fun i => (i.zero, i.size, i.bytes)) = some (some (.agg #[.slice none 0 0, .int .u8 0]), 2, 32) := by kernel_rfl
theorem flatL_snoc {α : Type} (f : α → List Value) (l : List α) (a : α) : flatL f (l ++ [a]) = flatL f l ++ f a := by rw [flatL_app, flatL_one]
theorem get_snoc2 {α : Type} {l : List α} {a b : α} {i : Nat} (h : (l ++ [a])[i]? = some b) : l[i]? = some b ∨ i = l.length ∧ b = a := by
  by_cases hi : i < l.length
  · rw [List.getElem?_append_left hi] at h; exact .inl h
  · have hj : i < (l ++ [a]).length := (List.getElem?_eq_some_iff.1 h).1
    rw [List.length_append] at hj
    have e : i = l.length := by simp at hj; omega
    subst e
    simp at h
    exact .inr ⟨rfl, h.symm⟩
/-- Where given stands. -/
def gx (p : Nat) (c : PC) (q : Nat) : Prop := q = p ∨ c.k.ownBlock = some q ∨ c.o.ownBlock = some q
structure GV (s : Nat) (G : Gh) (w : World) (p : Nat) (c0 : PC) (G' : Gh) (w' : World) (c : PC) (es : List En) (os : List (Value × Nat)) : Prop where
  st : Stp s (gx p c0) G w G' w'
  blk : Blk w' p 54 c.cs
  hs : Hs w' G' c.k es
  os : Ls 32 35 1 w' G' c.o os
  same : c = { c0 with k := c.k, o := c.o }
  ko : ∀ q, c.k.ownBlock = some q → c0.k.ownBlock = some q ∨ w.heap.size ≤ q
  oo : ∀ q, c.o.ownBlock = some q → c0.o.ownBlock = some q ∨ w.heap.size ≤ q
section
variable {s : Nat} {G G' G2 : Gh} {w w' w2 w3 : World} {p : Nat} {c0 c : PC} {es : List En} {os : List (Value × Nat)}
theorem nhH : ¬ hotT 89 := by unfold hotT; decide
theorem nhO : ¬ hotT 32 := by unfold hotT; decide
theorem nhR : ¬ hotT 59 := by unfold hotT; decide
theorem nhP : ¬ hotT 54 := by unfold hotT; decide
theorem RowAt.nh {e : TypeId} {size n : Nat} {v : Value} {xs : List Value} (r : RowAt w e size v n xs) (he : ¬ hotT e) {q : Nat} (hq : v.ownBlock = some q) {cur : Array Value} {T : TypeId} (hc : w.heap[q]? = some (.cells cur T (0, 0))) : ¬ hotT T := by
  obtain ⟨_, c2, h2⟩ := r.lt hq
  rw [hc] at h2
  injection h2 with h2
  injection h2 with _ h2 _
  rw [h2]; exact he
theorem Blk.nh {g : Nat} {U : TypeId} {cs : Array Value} (b : Blk w g U cs) (he : ¬ hotT U) {cur : Array Value} {T : TypeId} (hc : w.heap[g]? = some (.cells cur T (0, 0))) : ¬ hotT T := by
  unfold Blk at b
  rw [b] at hc
  injection hc with hc
  injection hc with _ hc _
  rw [← hc]; exact he
theorem GV.start (gi : Gi G w) (hb : Blk w p 54 c0.cs) (hh : Hs w G c0.k es) (ho : Ls 32 35 1 w G c0.o os) : GV s G w p c0 G w c0 es os :=
  ⟨Stp.refl gi fun q cur T hq hc => by
    rcases hq with rfl | hq | hq
    · exact hb.nh nhP hc
    · exact hh.row.nh nhH hq hc
    · exact ho.row.nh nhO hq hc, hb, hh, ho, rfl, fun _ => .inl, fun _ => .inl⟩
theorem GV.step (h : GV s G w p c0 G' w' c es os) (k : Stp s (fun _ => False) G' w' G2 w2) : GV s G w p c0 G2 w2 c es os :=
  ⟨h.st.trans0 k, h.blk.stp k nhP id, h.hs.stp k fun _ _ => id, h.os.stp nhO k fun _ _ => id, h.same, h.ko, h.oo⟩
theorem GV.pushK (h : GV s G w p c0 G' w' c es os) {v' : Value} {e : En} (he : EOk w' G' e) (k : Psh w' w3 p c.cs (c.cs.setIfInBounds 2 v') 89 2 c.k v' es.length (flatL eV es) (eV e)) : GV s G w p c0 G' w3 { c with k := v' } (es ++ [e]) os := by
  have hx : ∀ q cur T, (q = p ∨ c.k.ownBlock = some q) → w'.heap[q]? = some (.cells cur T (0, 0)) → ¬ hotT T := fun q cur T hq hc => by
    rcases hq with rfl | hq
    · exact h.blk.nh nhP hc
    · exact h.hs.row.nh nhH hq hc
  have hst : Stp s (fun q => q = p ∨ c.k.ownBlock = some q) G' w' G' w3 := Stp.of_fr h.st.gi k.fr hx
  have hone : ∀ q, c.o.ownBlock = some q → ¬ (q = p ∨ c.k.ownBlock = some q) := fun q hq e => by
    obtain ⟨_, cur, hc⟩ := h.os.row.lt hq
    rcases e with rfl | e
    · exact h.os.row.ne_type h.blk (by decide) hq
    · exact h.hs.row.ne_type hc (by decide) e
  refine ⟨h.st.trans hst fun q hq e => ?_, k.blk, ⟨by rw [List.length_append, flatL_snoc]; exact k.row, fun e2 he2 => ?_⟩, h.os.stp nhO hst hone, by rw [h.same], fun q hq => ?_, h.oo⟩
  · rcases e with e | e
    · exact .inl e
    · rcases h.ko q e with e | e
      · exact .inr (.inl e)
      · omega
  · rcases List.mem_append.1 he2 with m | m
    · exact (h.hs.ok e2 m).stp hst
    · have : e2 = e := by simpa using m
      subst this
      exact he.stp hst
  · rcases k.own q hq with e | e
    · exact h.ko q e
    · right; have := h.st.size; omega
theorem GV.pushO (h : GV s G w p c0 G' w' c es os) {v' : Value} {x : Value × Nat} (hm : MkA w' G' 35 1 (os.length - os.length % 4) x.1 x.2) (k : Psh w' w3 p c.cs (c.cs.setIfInBounds 4 v') 32 1 c.o v' os.length (os.map (·.1)) [x.1]) : GV s G w p c0 G' w3 { c with o := v' } es (os ++ [x]) := by
  have hx : ∀ q cur T, (q = p ∨ c.o.ownBlock = some q) → w'.heap[q]? = some (.cells cur T (0, 0)) → ¬ hotT T := fun q cur T hq hc => by
    rcases hq with rfl | hq
    · exact h.blk.nh nhP hc
    · exact h.os.row.nh nhO hq hc
  have hst : Stp s (fun q => q = p ∨ c.o.ownBlock = some q) G' w' G' w3 := Stp.of_fr h.st.gi k.fr hx
  have hone : ∀ q, c.k.ownBlock = some q → ¬ (q = p ∨ c.o.ownBlock = some q) := fun q hq e => by
    obtain ⟨_, cur, hc⟩ := h.hs.row.lt hq
    rcases e with rfl | e
    · exact h.hs.row.ne_type h.blk (by decide) hq
    · exact h.os.row.ne_type hc (by decide) e
  refine ⟨h.st.trans hst fun q hq e => ?_, k.blk, h.hs.stp hst hone, ⟨by rw [List.length_append, List.map_append]; exact k.row, fun i y hy => ?_⟩, by rw [h.same], h.ko, fun q hq => ?_⟩
  · rcases e with e | e
    · exact .inl e
    · rcases h.oo q e with e | e
      · exact .inr (.inr e)
      · omega
  · rcases get_snoc2 hy with hy | ⟨rfl, rfl⟩
    · exact (h.os.ok i y hy).stp hst
    · exact hm.stp hst
  · rcases k.own q hq with e | e
    · exact h.oo q e
    · right; have := h.st.size; omega
end
/-- What waits for its owner: packets that came out. -/
structure Wt (s : Nat) (G : Gh) (w : World) (v : Value) (ks : List Kp) : Prop where
  row : RowAt w 35 1 v ks.length (ks.map (·.v))
  col : ∀ q, v.ownBlock = some q → G q = (1, s)
  pk : ∀ k ∈ ks, PkAt w k
  pc : ∀ k ∈ ks, ∀ q, k.v.ownBlock = some q → G q = (1, s)
  dis : ks.Pairwise fun a b => a.v.ownBlock ≠ b.v.ownBlock
/-- A cell of a row is written. -/
theorem RowAt.setE {w : World} {e : TypeId} {g off n cap i : Nat} {xs : List Value} {u : Value} (h : RowAt w e 1 (.slice (some ⟨g, off, none⟩) n cap) n xs) (hi : i < n) : RowAt (w.setCell ⟨g, off + i, none⟩ u) e 1 (.slice (some ⟨g, off, none⟩) n cap) n (xs.set i u) := by
  obtain ⟨g', off', cap', cur, e1, e3, e4, e5, e6, e7⟩ := h.more (by omega)
  injection e1 with e1 _ e8
  injection e1 with e1
  injection e1 with e1 e9
  subst e1 e8 e9
  rw [setCell_eq_setRow w g (off + i) cur e (0, 0) u e3]
  refine ⟨by rw [List.length_set]; exact h.1, .inr ⟨g, off, cap, _, rfl, setRow_heap w g cur _ e (0, 0) e3, e4, e5, by simpa using e6, ?_⟩⟩
  rw [← e7, Array.toList_setIfInBounds, List.drop_set, if_neg (by omega), show off + i - off = i by omega, List.take_set]
end Go.Proofs.Ytdncemecnbglaaa
