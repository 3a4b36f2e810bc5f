import Derived.Test.YthadnogcocmfgaaGreatDoorBRw
import Derived.Deep.AppendLies
import Derived.Deep.DeepAppendWide

namespace Go.Proofs.YthadnogcocmfgaaGreatDoor
set_option linter.unusedVariables false
set_option linter.unusedSimpArgs false
open Go.RowKit Go.Great Go.Lib

/-- The bytes that come out: a frame, or none. -/
def FL (M : Msg) : List UInt8 := if valE M = 0 then frameL M else []
theorem ownL_row {w : World} {g B : Nat} {l : List UInt8} (h : OwnL w g l) (hB : B ≤ g) (hl : l.length ≤ 140737488351232) : w.ownsRow B 5 1 (.slice (some ⟨g, 0, none⟩) l.length l.length) l.length (byteCells l) :=
  ⟨by rw [bc_len]; omega, .inr ⟨g, l.length, _, rfl, hB, h, Nat.le_refl _, by unfold maxLen; omega, by simp [bc_len], by simp; exact List.take_of_length_le (by rw [bc_len]; exact Nat.le_refl _)⟩⟩
theorem fl_short (M : Msg) : (FL M).length ≤ 418 := by
  unfold FL
  split
  · rename_i h
    rw [frame_length h]
    exact (size_eq (valid_fit h).1).2.1
  · exact Nat.zero_le _
theorem binEnc_any (M : Msg) (w : World) (hM : Mon w) (hz : M.ok) :
    Calls Tryz.prog 11 #[.agg M.cs] w fun e w' => ∃ v, e = .returned (.tuple #[v, .int .i64 (valE M)]) ∧ w'.ownsRow w.heap.size 5 1 v (FL M).length (byteCells (FL M)) ∧ Below w.heap.size w w' := by
  by_cases hv : valE M = 0
  · have hs := fl_short M
    have e : FL M = frameL M := if_pos hv
    rw [e] at hs ⊢
    refine (Encode_yes M w hM hz hv).mono ?_
    rintro x w' ⟨g, rfl, ho, hge, hb⟩
    exact ⟨_, by rw [hv], ownL_row ho hge (by omega), hb⟩
  · have e : FL M = [] := if_neg hv
    rw [e]
    refine (Encode_no M w hM hz hv).mono ?_
    rintro x w' ⟨rfl, hb⟩
    exact ⟨_, rfl, ⟨rfl, .inl ⟨rfl, rfl⟩⟩, hb⟩
set_option maxRecDepth 100000 in
set_option maxHeartbeats 1000000 in
theorem refEnc_any (M : Msg) (w : World) (hz : M.ok) (hS : M.okS) :
    Calls Tryz.prog 16 #[.agg M.cs] w fun e w' => ∃ v, e = .returned (.tuple #[v, .int .i64 (valE M)]) ∧ w'.ownsRow w.heap.size 5 1 v (FL M).length (byteCells (FL M)) ∧ Below w.heap.size w w' := by
  have HO1 : Hid (OwnM (w.alloc (.cells M.cs 23)) w.heap.size M ∧ Below w.heap.size w (w.alloc (.cells M.cs 23))) := ⟨heap_alloc_new w _, (Below.refl _ w).alloc (Nat.le_refl _) _⟩
  have HZ : Hid (M.ok ∧ M.okS) := ⟨hz, hS⟩
  clear hz hS
  go_enter Tryz.func16, Tryz.ntmps16
  go_upto_region 1 with fail
  generalize w.alloc (.cells M.cs 23) = w1 at *
  have HV : Hid (Unit → _) := fun _ => refValid_any M HZ.out.1 HZ.out.2 w1
  refine wp_region_lit ?_
  refine wpList_loadM HO1.out.1 (.tmp 1) rfl rfl rfl ?_
  refine wpList_callW rfl (some 8) rfl 34 #[.agg M.cs] (by kernel_rfl) (HV.out ()) ?_
  rintro e w2 ⟨rfl, hb2⟩
  refine ⟨_, rfl, ?_⟩
  have HO2 : Hid (OwnM w2 w.heap.size M ∧ Below w.heap.size w w2) := ⟨HO1.out.1.low hb2, HO1.out.2.trans (hb2.mono HO1.out.2.size)⟩
  clear HO1 hb2 HV
  by_cases hv : valE M = 0
  · have HF : Hid (FL M = frameL M) := if_pos hv
    have HR := Raw_any M w2 hv HZ.out.1
    have HVE : Hid (valE M = 0) := hv
    rw [hv]
    generalize valN M = VN at *
    refine wpList_runTo rfl (some 6) rfl (.tuple #[.int .i64 0, .int .i64 VN]) w2 (by kernel_rfl) ?_
    refine wpList_runTo rfl (some 9) rfl (.int .i64 0) w2 (by kernel_rfl) ?_
    refine wpList_runTo rfl (some 10) rfl (.int .i64 VN) w2 (by kernel_rfl) ?_
    refine wpList_runTo rfl (some 4) rfl (.int .i64 0) w2 (by kernel_rfl) ?_
    refine wpList_runTo rfl (some 5) rfl (.int .i64 VN) w2 (by kernel_rfl) ?_
    refine wpList_nil ?_
    simp only [Act.put, List.setIfInBounds_toArray, List.set_cons_zero, List.set_cons_succ]
    go_upto_region 4 with fail
    refine wp_region_lit ?_
    refine wpList_loadM HO2.out.1 (.tmp 1) rfl rfl rfl ?_
    refine wpList_callW rfl (some 15) rfl 35 #[.agg M.cs] (by kernel_rfl) HR ?_
    rintro e w3 ⟨v3, rfl, ho3, hb3⟩
    refine ⟨_, rfl, ?_⟩
    have HX : Hid (w3.ownsRow w.heap.size 5 1 v3 (FL M).length (byteCells (FL M)) ∧ Below w.heap.size w w3) := ⟨by rw [HF.out]; exact own_mono ho3 HO2.out.2.size, HO2.out.2.trans (hb3.mono HO2.out.2.size)⟩
    clear ho3 hb3 HR
    refine wpList_runTo rfl (some 2) rfl v3 w3 (by kernel_rfl) ?_
    refine wpList_runTo rfl (some 3) rfl (.int .i64 0) w3 (by kernel_rfl) ?_
    refine wpList_nil ?_
    simp only [Act.put, List.setIfInBounds_toArray, List.set_cons_zero, List.set_cons_succ]
    go_wp2
    go_ret2
    exact ⟨_, by rw [HVE.out]; rfl, HX.out.1, HX.out.2⟩
  · have HF : Hid (FL M = []) := if_neg hv
    have hvb : (valE M != 0) = true := by simp [hv]
    generalize hVE : valE M = VE at *
    have HVE : Hid (valE M = VE) := hVE
    clear hVE
    generalize valN M = VN at *
    refine wpList_runTo rfl (some 6) rfl (.tuple #[.int .i64 VE, .int .i64 VN]) w2 (by kernel_rfl) ?_
    refine wpList_runTo rfl (some 9) rfl (.int .i64 VE) w2 (by kernel_rfl) ?_
    refine wpList_runTo rfl (some 10) rfl (.int .i64 VN) w2 (by kernel_rfl) ?_
    refine wpList_runTo rfl (some 4) rfl (.int .i64 VE) w2 (by kernel_rfl) ?_
    refine wpList_runTo rfl (some 5) rfl (.int .i64 VN) w2 (by kernel_rfl) ?_
    refine wpList_nil ?_
    simp only [Act.put, List.setIfInBounds_toArray, List.set_cons_zero, List.set_cons_succ]
    generalize M.cs = CS at *
    go_wp2
    go_ret2
    refine ⟨_, by rw [HVE.out]; rfl, ?_, HO2.out.2⟩
    rw [HF.out]
    exact ⟨rfl, .inl ⟨rfl, rfl⟩⟩
/-- Bytes that were written over by their owner: their place, and the mark. -/
structure Ent where
  a : Option Addr
  len : Nat
  cap : Nat
  m : Nat
def holdV (l : List Ent) : List Value := l.flatMap fun e => [.slice e.a e.len e.cap, .int .u8 (e.m : Int)]
theorem holdV_app (a b : List Ent) : holdV (a ++ b) = holdV a ++ holdV b := by simp [holdV]
theorem holdV_length : ∀ l : List Ent, (holdV l).length = l.length * 2
  | [] => rfl
  | e :: l => by
    have := holdV_length l
    show (_ :: _ :: holdV l).length = _
    simp [this]; omega
theorem holdV_at : ∀ (l : List Ent) (i : Nat) (e : Ent), l[i]? = some e → (holdV l)[i * 2]? = some (.slice e.a e.len e.cap) ∧ (holdV l)[i * 2 + 1]? = some (.int .u8 (e.m : Int))
  | [], i, e, h => by simp at h
  | x :: l, 0, e, h => by
    have : x = e := by simpa using h
    subst this
    exact ⟨rfl, rfl⟩
  | x :: l, i + 1, e, h => by
    have ih := holdV_at l i e (by simpa using h)
    show (_ :: _ :: holdV l)[(i + 1) * 2]? = _ ∧ (_ :: _ :: holdV l)[(i + 1) * 2 + 1]? = _
    rw [show (i + 1) * 2 = i * 2 + 1 + 1 by omega, show i * 2 + 1 + 1 + 1 = (i * 2 + 1) + 1 + 1 by omega]
    simpa using ih
/-- Bytes that were kept read as their owner wrote them. -/
def EntOK (w : World) (e : Ent) : Prop := e.len ≤ 1000 ∧ e.len ≤ e.cap ∧ e.m < 256 ∧ (e.len = 0 ∨ ∃ g cur, e.a = some ⟨g, 0, none⟩ ∧ w.heap[g]? = some (.cells cur 5 (0, 0)) ∧ ∀ j, j < e.len → cur[j]? = some (.int .u8 (e.m : Int)))
def KeptOK (w : World) (l : List Ent) : Prop := ∀ e ∈ l, EntOK w e
theorem EntOK.src {w : World} {e : Ent} (h : EntOK w e) : Src w e.a e.len (fun _ => e.m) := by
  rcases h.2.2.2 with h0 | ⟨g, cur, h1, h2, h3⟩
  · exact .inl h0
  · refine .inr ⟨g, 0, h1, fun j hj => ⟨?_, h.2.2.1⟩⟩
    rw [Nat.zero_add, cell_of_row _ _ _ _ _ _ h2]
    exact h3 j hj
theorem EntOK.keep {w w' : World} {e : Ent} (h : EntOK w e) (hk : e.len ≠ 0 → ∀ g cur, e.a = some ⟨g, 0, none⟩ → w.heap[g]? = some (.cells cur 5 (0, 0)) → w'.heap[g]? = w.heap[g]?) : EntOK w' e := by
  refine ⟨h.1, h.2.1, h.2.2.1, ?_⟩
  by_cases hl : e.len = 0
  · exact .inl hl
  · rcases h.2.2.2 with h0 | ⟨g, cur, h1, h2, h3⟩
    · exact .inl h0
    · exact .inr ⟨g, cur, h1, (hk hl g cur h1 h2).trans h2, h3⟩
theorem KeptOK.below {w w' : World} {l : List Ent} (h : KeptOK w l) (hb : Below w.heap.size w w') : KeptOK w' l := fun e he => (h e he).keep fun _ g cur _ hg => hb.block g (Array.getElem?_eq_some_iff.1 hg).1
set_option maxRecDepth 100000 in
set_option maxHeartbeats 1000000 in
theorem looks_any (l : List Ent) (B n : Nat) (v : Value) (w : World) (hn : n = l.length) (hn2 : n ≤ 140737488351232) (ho : w.ownsRow B 83 2 v n (holdV l)) (hk : KeptOK w l) :
    Calls Tryz.prog 18 #[v] w fun e w' => e = .returned (.bool true) ∧ Below w.heap.size w w' := by
  obtain ⟨ao, co, hv, hgc⟩ : ∃ ao co, v = .slice ao n co ∧ (n = 0 ∨ ∃ g, ao = some ⟨g, 0, none⟩ ∧ n ≤ co) := by
    rcases ho.2 with ⟨h, h0⟩ | ⟨g, cap, cur, h, _, _, h4, _⟩
    · exact ⟨none, 0, by rw [h, h0], .inl h0⟩
    · exact ⟨_, _, h, .inr ⟨g, rfl, h4⟩⟩
  subst hv
  have HC : Hid (∀ w' i e g, Below w.heap.size w w' → ao = some ⟨g, 0, none⟩ → l[i]? = some e → w'.cell? ⟨g, i * 2, none⟩ = some (.slice e.a e.len e.cap) ∧ w'.cell? ⟨g, i * 2 + 1, none⟩ = some (.int .u8 (e.m : Int)) ∧ e.len ≤ 1000 ∧ e.len ≤ e.cap ∧ e.m < 256 ∧ Src w' e.a e.len (fun _ => e.m)) := fun w' i e g hb hao he => by
    subst hao
    obtain ⟨h1, h2⟩ := holdV_at l i e he
    have c1 := ho.cells (g := g) rfl _ _ h1
    have c2 := ho.cells (g := g) rfl _ _ h2
    rw [addr_add, Nat.zero_add] at c1 c2
    obtain ⟨k1, k2, k3, _⟩ := hk e (List.mem_of_getElem? he)
    have k4 := (hk e (List.mem_of_getElem? he)).src
    exact ⟨by rw [hb.cell (p := ⟨g, i * 2, none⟩) (World.block_lt_of_cell? _ _ c1)]; exact c1, by rw [hb.cell (p := ⟨g, i * 2 + 1, none⟩) (World.block_lt_of_cell? _ _ c2)]; exact c2, k1, k2, k3, k4.below hb⟩
  have Hn : Hid (n = l.length) := hn
  clear ho hk hn
  go_enter Tryz.func18, Tryz.ntmps18
  go_wp2
  go_loopw [3, 4] (fun x3 x4 wr => ∃ i : Nat, i ≤ n ∧ x3 = .int .i64 (i : Int) ∧ Hid (Below w.heap.size w wr)) (fun x3 _ _ => n - (RowKit.intOf x3).toNat)
  case atStart => exact ⟨0, Nat.zero_le _, rfl, Below.refl _ _⟩
  case round =>
    obtain ⟨i, hi, rfl, HB⟩ := hrel
    by_cases hlt : i < n
    · have hlt' : (i : Int) < (n : Int) := by omega
      obtain ⟨e, he⟩ : ∃ e, l[i]? = some e := ⟨_, List.getElem?_eq_getElem (by rw [← Hn.out]; exact hlt)⟩
      rcases hgc with h0 | ⟨g, rfl, hco⟩
      · omega
      · have HE : Hid (∀ w', Below w.heap.size w w' → w'.cell? ⟨g, i * 2, none⟩ = some (.slice e.a e.len e.cap) ∧ w'.cell? ⟨g, i * 2 + 1, none⟩ = some (.int .u8 (e.m : Int)) ∧ Src w' e.a e.len (fun _ => e.m)) := fun w' hb => by
          obtain ⟨a1, a2, _, _, _, a6⟩ := HC.out w' i e g hb rfl he
          exact ⟨a1, a2, a6⟩
        obtain ⟨_, _, k1, k2, k3, _⟩ := HC.out wr i e g HB.out rfl he
        obtain ⟨ea, el, ec, em⟩ := e
        dsimp only at HE k1 k2 k3
        go_upto_region 5 with fail
        go_loopw [4] (fun x4 wq => ∃ q : Nat, q ≤ el ∧ x4 = .int .i64 (q : Int) ∧ Hid (Below w.heap.size w wq)) (fun x4 _ => el - (RowKit.intOf x4).toNat)
        case atStart => exact ⟨0, Nat.zero_le _, rfl, HB⟩
        case round =>
          obtain ⟨q, hq, rfl, HB2⟩ := hrel
          obtain ⟨c1, c2, hsrc⟩ := HE.out wr HB2.out
          by_cases hlt2 : q < el
          · have hlt2' : (q : Int) < (el : Int) := by omega
            rcases hsrc with h0 | ⟨b, off, rfl, hr⟩
            · omega
            · have c3 := (hr q hlt2).1
              clear hr
              go_upto_region 7 with fail
              go_quiet (fail)
              go_wp2
              exact ⟨⟨q + 1, by omega, by go_num, below_drewN HB2.out _⟩, by simp [RowKit.intOf]; omega⟩
          · have hlt2' : ¬ (q : Int) < (el : Int) := by omega
            clear hsrc
            go_wp2
            exact ⟨⟨i + 1, by omega, by go_num, HB2.out⟩, by simp [RowKit.intOf]; omega⟩
    · obtain rfl : i = n := by omega
      go_wp2
      go_ret
      exact ⟨rfl, HB.out⟩
end Go.Proofs.YthadnogcocmfgaaGreatDoor

namespace Go.Proofs.YthadnogcocmfgaaGreatDoor
set_option linter.unusedVariables false
open Go.RowKit

/-- append onto a row of one's own: in place, or into a new block: then nothing that was there turns. -/
theorem run_append_keep {P : Program} (w : World) (base : Nat) (t ty e : TypeId) (i : TypeInfo) (z : Value) (size bytes : Nat) (ht : P.underlying t = some (.slice e)) (hi : P.info? e = some i) (hz : i.zero = some z)
    (hsize : i.size = size) (hby : i.bytes = bytes) (hzs : z.cells.size = size) (hsz : 0 < size)
    (v : Value) (n : Nat) (xs : List Value) (hown : w.ownsRow base e size v n xs)
    (a : Addr) (m c : Nat) (news : List Value) (hl : news.length = m * size) (hnews : ∀ j u, news[j]? = some u → w.cell? (a.add j) = some u) (h1 : ∀ u ∈ news, u.oneCell' = true)
    (hm : 0 < m) (h63 : n + m ≤ maxLen) (hbytes : ((n + m) + (n + m) / 4 + 192) * bytes ≤ 281474976710656) (hbase : base ≤ w.heap.size) :
    ∃ g cap w', (Builtin.append_ #[t, t] ty #[v, .slice (some a) m c]).run P w = .ok (.slice (some ⟨g, 0, none⟩) (n + m) cap) w' ∧ w'.ownsRow base e size (.slice (some ⟨g, 0, none⟩) (n + m) cap) (n + m) (xs ++ news) ∧ w.grownBy w' v.ownBlock ∧
      (v.ownBlock = some g ∨ (g = w.heap.size ∧ ∀ k, k < w.heap.size → w'.heap[k]? = w.heap[k]?)) := by
  subst hsize
  subst hby
  have hsmall : n + m ≤ 9223372036854775807 := by simp only [maxLen] at h63; omega
  have hlen : (xs ++ news).length = (n + m) * i.size := by rw [List.length_append, hown.1, hl, Nat.add_mul]
  have grown : ∀ (old : Nat), old < n + m →
      (w.drew.alloc (.cells (xs.toArray ++ news.toArray ++ Builtin.zeroCells z.cells (grownCap w (n + m) old e - (n + m))) e)).ownsRow base e i.size
        (.slice (some ⟨w.heap.size, 0, none⟩) (n + m) (grownCap w (n + m) old e)) (n + m) (xs ++ news) ∧
      (∀ row, w.grownBy (w.drew.alloc (.cells (xs.toArray ++ news.toArray ++ Builtin.zeroCells z.cells (grownCap w (n + m) old e - (n + m))) e)) row) ∧
      ∀ k, k < w.heap.size → (w.drew.alloc (.cells (xs.toArray ++ news.toArray ++ Builtin.zeroCells z.cells (grownCap w (n + m) old e - (n + m))) e)).heap[k]? = w.heap[k]? := by
    intro old ho
    have hge := grownCap_ge w (n + m) old e
    have hcm : grownCap w (n + m) old e ≤ maxLen := grownCap_le_maxLen w (n + m) old e h63
    refine ⟨⟨hlen, .inr ⟨w.heap.size, _, _, rfl, hbase, heap_alloc_new w.drew _, hge, hcm, ?_, ?_⟩⟩, fun row => ⟨rfl, rfl, rfl, by simp, fun k hk _ => heap_alloc_old w.drew _ hk⟩, fun k hk => heap_alloc_old w.drew _ hk⟩
    · simp only [Array.size_append, List.size_toArray, size_zeroCells, hzs, hown.1, hl, ← Nat.add_mul]
      congr 1
      omega
    · simp only [Array.toList_append, List.append_assoc]
      rw [← List.append_assoc, ← hlen]
      exact List.take_left
  rcases hown.2 with ⟨rfl, rfl⟩ | ⟨g, cap, cur, rfl, hbg, hg, hnc, hcm, hcs, htake⟩
  · have hx : xs = [] := List.eq_nil_of_length_eq_zero (by simpa using hown.1)
    subst hx
    have hr := run_append_nil (P := P) w t ty e i z ht hi hz a m c news hl hnews (by omega) (by omega) (by have hb := hbytes; simp only [Nat.zero_add] at hb; exact Nat.le_trans (Nat.mul_le_mul_right _ (by omega)) hb)
    have hgr := grown 0 (by omega)
    simp only [Nat.zero_add, List.nil_append, Array.empty_append] at hgr ⊢
    exact ⟨_, _, _, hr, hgr.1, hgr.2.1 _, .inr ⟨rfl, hgr.2.2⟩⟩
  · by_cases hroom : n + m ≤ cap
    · have hfit : n * i.size + news.length ≤ cur.size := by rw [hl, hcs, ← Nat.add_mul]; exact Nat.mul_le_mul_right _ hroom
      have hr := run_append_room (P := P) w t ty e i ht hi g n cap cur hg a m c news hl hnews h1 hroom hfit
      refine ⟨_, _, _, hr, ⟨hlen, .inr ⟨g, cap, _, rfl, hbg, setRow_heap w g cur _ e _ hg, hroom, hcm, ?_, ?_⟩⟩, ⟨rfl, rfl, rfl, by simp, fun k _ hk => setRow_other w g k _ (fun e => hk (by simp [Value.ownBlock, e]))⟩, Or.inl rfl⟩
      · simp only [List.size_toArray, List.length_append, List.length_take, List.length_drop, Array.length_toList]
        omega
      · rw [htake, ← hlen]
        exact List.take_left
    · have holds : ∀ j u, xs[j]? = some u → w.cell? ((⟨g, 0, none⟩ : Addr).add j) = some u := hown.cells (g := g) rfl
      have hr := run_append_grow (P := P) w t ty e i z ht hi hz ⟨g, 0, none⟩ n cap xs hown.1 holds a m c news hl hnews (by omega) (by omega) (growslice_fits_wide (by omega) hbytes)
      have hgr := grown cap (by omega)
      exact ⟨_, _, _, hr, hgr.1, hgr.2.1 _, .inr ⟨rfl, hgr.2.2⟩⟩
theorem wpList_append_keep {P : Program} (w : World) {ops : Array Oper} {rest : List Oper} {o : Oper} {a : Act} {Q : Exit → Act → World → Prop} (hgd : o.guard = none) (s x : Operand) (t : TypeId)
    (ho : o.op = .call { callee := .builtin .append, args := #[s, x], argTypes := #[t, t] })
    (base : Nat) (e : TypeId) (i : TypeInfo) (z : Value) (size bytes : Nat) (ht : P.underlying t = some (.slice e)) (hi : P.info? e = some i) (hz : i.zero = some z)
    (hsize : i.size = size) (hby : i.bytes = bytes) (hzs : z.cells.size = size) (hsz : 0 < size)
    (v : Value) (n : Nat) (xs : List Value) (hs : a.eval s = v) (hown : w.ownsRow base e size v n xs)
    (ad : Addr) (m c : Nat) (news : List Value) (hx : a.eval x = .slice (some ad) m c) (hl : news.length = m * size) (hnews : ∀ j u, news[j]? = some u → w.cell? (ad.add j) = some u) (h1 : ∀ u ∈ news, u.oneCell' = true)
    (hm : 0 < m) (h63 : n + m ≤ maxLen) (hbytes : ((n + m) + (n + m) / 4 + 192) * bytes ≤ 281474976710656) (hbase : base ≤ w.heap.size)
    (h : ∀ g cap w', w'.ownsRow base e size (.slice (some ⟨g, 0, none⟩) (n + m) cap) (n + m) (xs ++ news) → w.grownBy w' v.ownBlock → (v.ownBlock = some g ∨ (g = w.heap.size ∧ ∀ k, k < w.heap.size → w'.heap[k]? = w.heap[k]?)) → wpList P ops Q rest (a.put o.dst (.slice (some ⟨g, 0, none⟩) (n + m) cap)) w') : wpList P ops Q (o :: rest) a w := by
  refine wpList_plain hgd fun K hK => ?_
  obtain ⟨g, cap, w', hr, h2, h3, h4⟩ := run_append_keep (P := P) w base t o.type e i z size bytes ht hi hz hsize hby hzs hsz v n xs hown ad m c news hl hnews h1 hm h63 hbytes hbase
  unfold Oper.wp execOp
  simp only [ho, resolve, invoke, builtin, Sem.run_bind, Sem.run_pure, Result.andThen_ok, List.map_toArray, List.map_cons, List.map_nil, hs, hx, hr]
  exact hK _ _ (h g cap w' h2 h3 h4)
/-- A cell of a row of one's own is written. -/
theorem row_set {w : World} {B n g cap i : Nat} {xs : List Value} {u : Value} (h : w.ownsRow B 5 1 (.slice (some ⟨g, 0, none⟩) n cap) n xs) (hi : i < n) : (w.setCell ⟨g, i, none⟩ u).ownsRow B 5 1 (.slice (some ⟨g, 0, none⟩) n cap) n (xs.set i u) ∧ Wrt g w (w.setCell ⟨g, i, none⟩ u) := by
  rcases h.2 with ⟨h0, _⟩ | ⟨g', cap', cur, e1, e2, e3, e4, e5, e6, e7⟩
  · cases h0
  · injection e1 with e1 _ e8
    injection e1 with e1
    injection e1 with e1
    subst e1 e8
    have hl : g < w.heap.size := (Array.getElem?_eq_some_iff.1 e3).1
    rw [setCell_eq_setRow w g i cur 5 (0, 0) u e3]
    refine ⟨⟨by rw [List.length_set]; exact h.1, .inr ⟨g, cap, _, rfl, e2, setRow_heap w g cur _ 5 (0, 0) e3, e4, e5, by simpa using e6, ?_⟩⟩, Wrt.setRow hl (Below.refl _ _) _⟩
    rw [← e7, Array.toList_setIfInBounds, List.take_set]
end Go.Proofs.YthadnogcocmfgaaGreatDoor

namespace Go.Proofs.YthadnogcocmfgaaGreatDoor
set_option linter.unusedVariables false
set_option linter.unusedSimpArgs false
open Go.RowKit Go.Great Go.Lib

theorem infoH : (Tryz.prog.info? 83).map (fun i => (i.zero, i.size, i.bytes)) = some (some (.agg #[.slice none 0 0, .int .u8 0]), 2, 32) := by kernel_rfl
/-- How many are kept behind so many rounds. -/
def cK (t : Nat) : Nat := min t 2 + (if 12 < t then 1 else 0) + (if 69 < t then 1 else 0)
theorem cK_yes {t : Nat} (h : t < 2 ∨ t = 12 ∨ t = 69) : cK (t + 1) = cK t + 1 := by unfold cK; split <;> split <;> split <;> split <;> omega
theorem cK_no {t : Nat} (h1 : ¬ t < 2) (h2 : ¬ t = 12) (h3 : ¬ t = 69) : cK (t + 1) = cK t := by unfold cK; split <;> split <;> split <;> split <;> omega
/-- Bytes that keep has added: full of the mark, in the frame's own block or a new one. -/
def NewE (w : World) (ob : Option Nat) (mk L : Nat) (e : Ent) : Prop := e.m = mk ∧ e.len ≤ L ∧ (e.a = none ∧ e.len = 0 ∨ ∃ g, e.a = some ⟨g, 0, none⟩ ∧ (some g = ob ∨ w.heap.size ≤ g))
theorem NewE.mono {w : World} {ob : Option Nat} {mk L L' : Nat} {e : Ent} (h : NewE w ob mk L e) (hL : L ≤ L') : NewE w ob mk L' e := ⟨h.1, by have := h.2.1; omega, h.2.2⟩
def rep (n mk : Nat) : List Value := List.replicate n (.int .u8 (mk : Int))
theorem rep_succ (n mk : Nat) : rep (n + 1) mk = rep n mk ++ [.int .u8 (mk : Int)] := List.replicate_succ'
/-- The state behind t rounds of keep. -/
structure KS (w : World) (C B n nb mk : Nat) (l : List Ent) (v bv : Value) (t : Nat) (vK bt : Value) (wr : World) (es : List Ent) : Prop where
  len : es.length = 1 + cK t
  new : ∀ e ∈ es, NewE w bv.ownBlock mk (nb + t) e
  row : wr.ownsRow B 83 2 vK (n + es.length) (holdV (l ++ es))
  ok : KeptOK wr (l ++ es)
  bytes : wr.ownsRow C 5 1 bt (nb + t) (rep (nb + t) mk)
  own : bt.ownBlock = bv.ownBlock ∨ ∃ g, bt.ownBlock = some g ∧ w.heap.size ≤ g
  rest : ∀ b, b < w.heap.size → some b ≠ bv.ownBlock → some b ≠ v.ownBlock → wr.heap[b]? = w.heap[b]?
  size : w.heap.size ≤ wr.heap.size
  kown : vK.ownBlock = v.ownBlock ∨ ∃ g, vK.ownBlock = some g ∧ w.heap.size ≤ g
  low : Below C w wr
theorem own_type {w : World} {B e size n : Nat} {v : Value} {xs : List Value} (h : w.ownsRow B e size v n xs) {g : Nat} (hg : v.ownBlock = some g) : ∃ cur, w.heap[g]? = some (.cells cur e (0, 0)) := by
  rcases h.2 with ⟨rfl, _⟩ | ⟨g', cap, cur, rfl, _, h3, _⟩
  · cases hg
  · have : g' = g := by simpa [Value.ownBlock] using hg
    subst this
    exact ⟨cur, h3⟩
theorem own_ne {w : World} {B B' e e' size size' n n' : Nat} {v v' : Value} {xs xs' : List Value} (h : w.ownsRow B e size v n xs) (h' : w.ownsRow B' e' size' v' n' xs') (hne : e ≠ e') : v.ownBlock = none ∨ v.ownBlock ≠ v'.ownBlock := by
  cases hv : v.ownBlock with
  | none => exact .inl rfl
  | some g =>
    refine .inr fun he => hne ?_
    obtain ⟨c1, h1⟩ := own_type h hv
    obtain ⟨c2, h2⟩ := own_type h' he.symm
    rw [h1] at h2
    injection h2 with h2
    injection h2
/-- One byte more behind the bytes. -/
theorem KS.grow {w : World} {C B n nb mk : Nat} {l : List Ent} {v bv : Value} {t : Nat} {vK bt : Value} {wr : World} {es : List Ent} (h : KS w C B n nb mk l v bv t vK bt wr es) (hmk : mk < 256) (hnb : nb + t ≤ 900)
    (hd : ∀ e ∈ l, e.len ≠ 0 → ∀ g cur, e.a = some ⟨g, 0, none⟩ → w.heap[g]? = some (.cells cur 5 (0, 0)) → some g ≠ bv.ownBlock ∧ some g ≠ v.ownBlock) (hl : KeptOK w l) (o : Obj) {g cap : Nat} {w2 : World} (h1 : w2.ownsRow C 5 1 (.slice (some ⟨g, 0, none⟩) (nb + t + 1) cap) (nb + t + 1) (rep (nb + t) mk ++ [.int .u8 (mk : Int)])) (h2 : (wr.alloc o).grownBy w2 bt.ownBlock)
    (h3 : bt.ownBlock = some g ∨ (g = (wr.alloc o).heap.size ∧ ∀ k, k < (wr.alloc o).heap.size → w2.heap[k]? = (wr.alloc o).heap[k]?)) (hC : C ≤ w.heap.size) :
    w2.ownsRow B 83 2 vK (n + es.length) (holdV (l ++ es)) ∧ KeptOK w2 (l ++ es) ∧ w2.ownsRow C 5 1 (.slice (some ⟨g, 0, none⟩) (nb + (t + 1)) cap) (nb + (t + 1)) (rep (nb + (t + 1)) mk) ∧ (some g = bv.ownBlock ∨ w.heap.size ≤ g) ∧ (∀ b, b < w.heap.size → some b ≠ bv.ownBlock → some b ≠ v.ownBlock → w2.heap[b]? = w.heap[b]?) ∧ w.heap.size ≤ w2.heap.size ∧ Below C w w2 := by
  have hal : ∀ b, b < wr.heap.size → (wr.alloc o).heap[b]? = wr.heap[b]? := fun b hb => ((Below.refl wr.heap.size wr).alloc (Nat.le_refl _) o).block b hb
  have hsz : (wr.alloc o).heap.size = wr.heap.size + 1 := by simp
  have hgr : ∀ b, b < wr.heap.size → some b ≠ bt.ownBlock → w2.heap[b]? = wr.heap[b]? := fun b hb hne => (h2.block b (by omega) hne).trans (hal b hb)
  have hnew : w2.ownsRow C 5 1 (.slice (some ⟨g, 0, none⟩) (nb + (t + 1)) cap) (nb + (t + 1)) (rep (nb + (t + 1)) mk) := by
    rw [show nb + (t + 1) = nb + t + 1 by omega, rep_succ]; exact h1
  refine ⟨?_, fun e he => ?_, hnew, ?_, fun b hb n1 n2 => ?_, by have := h.size; have := h2.size; omega, ?_⟩
  · exact (h.row.alloc o).kept h2 (own_ne (h.row.alloc o) (h.bytes.alloc o) (by decide))
  · have hE := h.ok e he
    refine ⟨hE.1, hE.2.1, hE.2.2.1, ?_⟩
    by_cases hlen : e.len = 0
    · exact .inl hlen
    rcases hE.2.2.2 with h0 | ⟨q, cur, a1, a2, a3⟩
    · exact .inl h0
    · have hq := (Array.getElem?_eq_some_iff.1 a2).1
      by_cases hrow : some q = bt.ownBlock
      · rcases h3 with h3 | ⟨_, h3⟩
        · rw [h3] at hrow
          injection hrow with hrow
          subst hrow
          have hNE : e.m = mk ∧ e.len ≤ nb + t := by
            rcases List.mem_append.1 he with hel | hel
            · exfalso
              have hEl := hl e hel
              rcases hEl.2.2.2 with h0 | ⟨q', cur', b1, b2, _⟩
              · exact hlen h0
              · rw [a1] at b1
                injection b1 with b1
                injection b1 with b1
                subst b1
                have hqw := (Array.getElem?_eq_some_iff.1 b2).1
                rcases h.own with ho | ⟨g', ho, hge⟩
                · exact (hd e hel hlen q cur' a1 b2).1 (h3.symm.trans ho)
                · rw [h3] at ho
                  injection ho with ho
                  omega
            · exact ⟨(h.new e hel).1, (h.new e hel).2.1⟩
          obtain ⟨cur2, hc2⟩ := own_type hnew (g := q) rfl
          refine .inr ⟨q, cur2, a1, hc2, fun j hj => ?_⟩
          have hc := hnew.cells (g := q) rfl j (.int .u8 (mk : Int)) (by unfold rep; rw [List.getElem?_replicate, if_pos (by have := hNE.2; omega)])
          rw [addr_add, Nat.zero_add, cell_of_row _ _ _ _ _ _ hc2] at hc
          rw [hNE.1]; exact hc
        · exact .inr ⟨q, cur, a1, (h3 q (by omega)).trans ((hal q hq).trans a2), a3⟩
      · exact .inr ⟨q, cur, a1, (hgr q hq hrow).trans a2, a3⟩
  · rcases h3 with h3 | ⟨h3, _⟩
    · rcases h.own with ho | ⟨g', ho, hge⟩
      · left; rw [← ho, h3]
      · right; rw [h3] at ho; injection ho with ho; omega
    · right; have := h.size; omega
  · have hb2 : b < wr.heap.size := by have := h.size; omega
    refine (hgr b hb2 ?_).trans (h.rest b hb n1 n2)
    rcases h.own with ho | ⟨g', ho, hge⟩
    · rw [ho]; exact n1
    · rw [ho]; intro e; injection e with e; omega
  · exact below_grownBy (h.low.alloc (by have := h.size; omega) o) h2 hC (fun q hq => (h.bytes.lt q hq).1)
/-- The bytes, as they stand, are kept. -/
theorem KS.put {w : World} {C B n nb mk : Nat} {l : List Ent} {v bv : Value} {t : Nat} {vK bt : Value} {wr : World} {es : List Ent} (hrow : wr.ownsRow B 83 2 vK (n + es.length) (holdV (l ++ es))) (hok : KeptOK wr (l ++ es)) (hby : wr.ownsRow C 5 1 bt (nb + t) (rep (nb + t) mk)) (hmk : mk < 256) (hnb : nb + t ≤ 1000)
    (hkown : vK.ownBlock = v.ownBlock ∨ ∃ g, vK.ownBlock = some g ∧ w.heap.size ≤ g) (hsize : w.heap.size ≤ wr.heap.size) (hrest : ∀ b, b < w.heap.size → some b ≠ bv.ownBlock → some b ≠ v.ownBlock → wr.heap[b]? = w.heap[b]?) (hlow : Below C w wr) (hC : C ≤ w.heap.size) (hCB : C ≤ B)
    (ao : Option Addr) (cb : Nat) (hbt : bt = .slice ao (nb + t) cb) (o : Obj) {g cap : Nat} {w2 : World} (h1 : w2.ownsRow B 83 2 (.slice (some ⟨g, 0, none⟩) (n + es.length + 1) cap) (n + es.length + 1) (holdV (l ++ es) ++ [bt, .int .u8 (mk : Int)])) (h2 : (wr.alloc o).grownBy w2 vK.ownBlock)
    (h3 : vK.ownBlock = some g ∨ (g = (wr.alloc o).heap.size ∧ ∀ k, k < (wr.alloc o).heap.size → w2.heap[k]? = (wr.alloc o).heap[k]?)) :
    w2.ownsRow B 83 2 (.slice (some ⟨g, 0, none⟩) (n + (es ++ [(⟨ao, nb + t, cb, mk⟩ : Ent)]).length) cap) (n + (es ++ [(⟨ao, nb + t, cb, mk⟩ : Ent)]).length) (holdV (l ++ (es ++ [⟨ao, nb + t, cb, mk⟩]))) ∧ KeptOK w2 (l ++ (es ++ [⟨ao, nb + t, cb, mk⟩])) ∧ w2.ownsRow C 5 1 bt (nb + t) (rep (nb + t) mk) ∧ (some g = v.ownBlock ∨ w.heap.size ≤ g) ∧ (∀ b, b < w.heap.size → some b ≠ bv.ownBlock → some b ≠ v.ownBlock → w2.heap[b]? = w.heap[b]?) ∧ w.heap.size ≤ w2.heap.size ∧ Below C w w2 := by
  have hal : ∀ b, b < wr.heap.size → (wr.alloc o).heap[b]? = wr.heap[b]? := fun b hb => ((Below.refl wr.heap.size wr).alloc (Nat.le_refl _) o).block b hb
  have hsz : (wr.alloc o).heap.size = wr.heap.size + 1 := by simp
  have hgr : ∀ b, b < wr.heap.size → some b ≠ vK.ownBlock → w2.heap[b]? = wr.heap[b]? := fun b hb hne => (h2.block b (by omega) hne).trans (hal b hb)
  have hb2 : w2.ownsRow C 5 1 bt (nb + t) (rep (nb + t) mk) := (hby.alloc o).kept h2 (own_ne (hby.alloc o) (hrow.alloc o) (by decide))
  have hty : ∀ q cur, wr.heap[q]? = some (.cells cur 5 (0, 0)) → some q ≠ vK.ownBlock := fun q cur hq he => by
    obtain ⟨c2, hc2⟩ := own_type hrow he.symm
    rw [hq] at hc2
    injection hc2 with hc2
    injection hc2 with _ hc2
    exact absurd hc2 (by decide)
  refine ⟨?_, fun e he => ?_, hb2, ?_, fun b hb n1 n2 => ?_, by have := h2.size; omega, ?_⟩
  · rw [List.length_append, ← List.append_assoc, holdV_app, show n + (es.length + [(⟨ao, nb + t, cb, mk⟩ : Ent)].length) = n + es.length + 1 from rfl]
    rw [hbt] at h1
    exact h1
  · rw [← List.append_assoc] at he
    rcases List.mem_append.1 he with he | he
    · exact (hok e he).keep fun _ q cur _ hq => hgr q (Array.getElem?_eq_some_iff.1 hq).1 (hty q cur hq)
    · have : e = ⟨ao, nb + t, cb, mk⟩ := by simpa using he
      subst this
      rw [hbt] at hb2
      rcases hb2.2 with ⟨e1, e2⟩ | ⟨q, cap', cur, e1, e2, e3, e4, _, _, e7⟩
      · injection e1 with e1 e1b e1c
        exact ⟨hnb, by show nb + t ≤ cb; omega, hmk, .inl e2⟩
      · injection e1 with e1 _ e1c
        refine ⟨hnb, by show nb + t ≤ cb; omega, hmk, .inr ⟨q, cur, e1, e3, fun j hj => ?_⟩⟩
        have hj' : j < nb + t := hj
        have e8 := congrArg (·[j]?) e7
        simp only [Nat.mul_one, List.getElem?_take, if_pos hj', Array.getElem?_toList] at e8
        rw [e8]
        unfold rep
        rw [List.getElem?_replicate, if_pos hj']
  · rcases h3 with h3 | ⟨h3, _⟩
    · rcases hkown with ho | ⟨g', ho, hge⟩
      · left; rw [← ho, h3]
      · right; rw [h3] at ho; injection ho with ho; omega
    · right; omega
  · refine (hgr b (by omega) ?_).trans (hrest b hb n1 n2)
    rcases hkown with ho | ⟨g', ho, hge⟩
    · rw [ho]; exact n2
    · rw [ho]; intro e; injection e with e; omega
  · exact below_grownBy (hlow.alloc (by omega) o) h2 hC (fun q hq => by have := (hrow.lt q hq).1; omega)
end Go.Proofs.YthadnogcocmfgaaGreatDoor

namespace Go.Proofs.YthadnogcocmfgaaGreatDoor
set_option linter.unusedVariables false
set_option linter.unusedSimpArgs false
open Go.RowKit Go.Great Go.Lib

theorem rep_length (n mk : Nat) : (rep n mk).length = n := List.length_replicate
theorem set_rep {i mk : Nat} {L : List Value} (h : i < L.length) : (rep i mk ++ L.drop i).set i (.int .u8 (mk : Int)) = rep (i + 1) mk ++ L.drop (i + 1) := by
  rw [List.set_append_right _ _ (by rw [rep_length]; exact Nat.le_refl _), rep_length, Nat.sub_self, List.drop_eq_getElem_cons h, List.set_cons_zero, rep_succ, List.append_assoc]
  rfl
theorem at_rep {i mk : Nat} {xs : List UInt8} (h : i < xs.length) : ∃ c : UInt8, (rep i mk ++ (byteCells xs).drop i)[i]? = some (.int .u8 (c.toNat : Int)) := by
  obtain ⟨c, hc, _⟩ := dL_at h
  refine ⟨c, ?_⟩
  rw [List.getElem?_append_right (by rw [rep_length]; exact Nat.le_refl _), rep_length, Nat.sub_self, List.getElem?_drop]
  simp [byteCells, hc]
theorem hold_form {w : World} {B n : Nat} {v : Value} {xs : List Value} (h : w.ownsRow B 83 2 v n xs) : ∃ ao co, v = .slice ao n co := by
  rcases h.2 with ⟨rfl, rfl⟩ | ⟨g, cap, cur, rfl, _⟩
  · exact ⟨none, 0, rfl⟩
  · exact ⟨_, _, rfl⟩
theorem byte_some {w : World} {B n cb : Nat} {ab : Option Addr} {xs : List Value} (h : w.ownsRow B 5 1 (.slice ab n cb) n xs) (hn : 0 < n) : ∃ g cur, ab = some ⟨g, 0, none⟩ ∧ n ≤ cb ∧ w.heap[g]? = some (.cells cur 5 (0, 0)) := by
  rcases h.2 with ⟨_, h0⟩ | ⟨g, cap, cur, e1, _, e3, e4, _⟩
  · omega
  · injection e1 with e1 _ e5
    exact ⟨g, cur, e1, by omega, e3⟩
theorem new_of {w wr : World} {C nb t cb mk : Nat} {ab : Option Addr} {bv : Value} (h : wr.ownsRow C 5 1 (.slice ab (nb + t) cb) (nb + t) (rep (nb + t) mk)) (ho : (Value.slice ab (nb + t) cb).ownBlock = bv.ownBlock ∨ ∃ g, (Value.slice ab (nb + t) cb).ownBlock = some g ∧ w.heap.size ≤ g) : NewE w bv.ownBlock mk (nb + t) ⟨ab, nb + t, cb, mk⟩ := by
  refine ⟨rfl, Nat.le_refl _, ?_⟩
  rcases h.2 with ⟨e1, e2⟩ | ⟨g, cap, cur, e1, _⟩
  · injection e1 with e1
    exact .inl ⟨e1, e2⟩
  · injection e1 with e1
    subst e1
    refine .inr ⟨g, rfl, ?_⟩
    rcases ho with ho | ⟨g', ho, hge⟩
    · exact .inl ho
    · injection ho with ho
      exact .inr (by show w.heap.size ≤ g; have : g = g' := ho; omega)
set_option maxRecDepth 100000 in
set_option maxHeartbeats 4000000 in
theorem keep_any (C B n nb : Nat) (l : List Ent) (v bv : Value) (xs : List UInt8) (w : World) (hn2 : n ≤ 5300000000000) (hv : w.ownsRow B 83 2 v n (holdV l)) (hk : KeptOK w l) (hb : w.ownsRow C 5 1 bv nb (byteCells xs)) (hnb : nb ≤ 418) (hC : C ≤ w.heap.size) (hCB : C ≤ B) (hB : B ≤ w.heap.size)
    (hd : ∀ e ∈ l, e.len ≠ 0 → ∀ g cur, e.a = some ⟨g, 0, none⟩ → w.heap[g]? = some (.cells cur 5 (0, 0)) → some g ≠ bv.ownBlock) :
    Calls Tryz.prog 17 #[v, bv] w fun e w' => ∃ vK bt es mk, e = .returned vK ∧ KS w C B n nb mk l v bv 70 vK bt w' es := by
  obtain ⟨i0, hi, hz0, hz1, hz2⟩ := info_parts info5
  obtain ⟨ih, hih, hh0, hh1, hh2⟩ := info_parts infoH
  obtain ⟨av, cv, rfl⟩ := hold_form hv
  obtain ⟨ab, cb, rfl⟩ := own_form3 hb
  have hxl : nb = xs.length := by have := hb.1; rw [bc_len] at this; omega
  have hd2 : ∀ e ∈ l, e.len ≠ 0 → ∀ g cur, e.a = some ⟨g, 0, none⟩ → w.heap[g]? = some (.cells cur 5 (0, 0)) → some g ≠ (Value.slice ab nb cb).ownBlock ∧ some g ≠ (Value.slice av n cv).ownBlock := fun e he hl0 g cur h1 h2 => ⟨hd e he hl0 g cur h1 h2, fun h3 => by
    obtain ⟨c2, hc2⟩ := own_type hv h3.symm
    rw [h2] at hc2
    injection hc2 with hc2
    injection hc2 with _ hc2
    exact absurd hc2 (by decide)⟩
  have HX : Hid (w.ownsRow B 83 2 (.slice av n cv) n (holdV l) ∧ KeptOK w l ∧ w.ownsRow C 5 1 (.slice ab nb cb) nb (byteCells xs) ∧ C ≤ w.heap.size ∧ C ≤ B ∧ B ≤ w.heap.size ∧ nb = xs.length) := ⟨hv, hk, hb, hC, hCB, hB, hxl⟩
  have HD : Hid (∀ e ∈ l, e.len ≠ 0 → ∀ g cur, e.a = some ⟨g, 0, none⟩ → w.heap[g]? = some (.cells cur 5 (0, 0)) → some g ≠ (Value.slice ab nb cb).ownBlock ∧ some g ≠ (Value.slice av n cv).ownBlock) := hd2
  clear hv hk hb hC hCB hB hd hxl hd2
  have hw1 : IntKind.i64.wrap (41 * (n : Int)) = 41 * (n : Int) := by rw [IntKind.wrap_i64]; omega
  have hw2 : IntKind.i64.wrap (50 + 41 * (n : Int)) = 50 + 41 * (n : Int) := by rw [IntKind.wrap_i64]; omega
  have hcv := u8_wrap (50 + 41 * (n : Int))
  obtain ⟨mk, hmk⟩ : ∃ mk, mk = (UInt8.ofNat (u64N (50 + 41 * (n : Int)) % 256)).toNat := ⟨_, rfl⟩
  have hm256 : mk < 256 := by rw [hmk]; exact UInt8.toNat_lt _
  rw [← hmk] at hcv
  clear hmk
  go_enter Tryz.func17, Tryz.ntmps17
  go_upto_region 3 with fail
  clear hw1 hw2 hcv
  go_loopw [6] (fun x6 wr => ∃ i : Nat, i ≤ nb ∧ x6 = .int .i64 (i : Int) ∧ Hid (wr.ownsRow C 5 1 (.slice ab nb cb) nb (rep i mk ++ (byteCells xs).drop i) ∧ (∀ b, b < w.heap.size → some b ≠ (Value.slice ab nb cb).ownBlock → wr.heap[b]? = w.heap[b]?) ∧ wr.heap.size = w.heap.size ∧ Below C w wr)) (fun x6 _ => nb - (RowKit.intOf x6).toNat)
  case atStart => exact ⟨0, Nat.zero_le _, rfl, HX.out.2.2.1, fun _ _ _ => rfl, rfl, Below.refl _ _⟩
  case round =>
    obtain ⟨i, hi2, rfl, HR⟩ := hrel
    by_cases hlt : i < nb
    · have hlt' : (i : Int) < (nb : Int) := by omega
      obtain ⟨gb, cur, rfl, hcb, hgb⟩ := byte_some HR.out.1 (by omega)
      obtain ⟨c, hc⟩ := at_rep (mk := mk) (xs := xs) (i := i) (by have := HX.out.2.2.2.2.2.2; omega)
      have hcl := HR.out.1.cells (g := gb) rfl i _ hc
      rw [addr_add, Nat.zero_add] at hcl
      have hfr : wr.frozen? ⟨gb, i, none⟩ = false := frozen_of_row wr gb i _ _ hgb
      have hset := row_set (u := .int .u8 (mk : Int)) HR.out.1 hlt
      rw [set_rep (by rw [bc_len]; have := HX.out.2.2.2.2.2.2; omega)] at hset
      have HQ : Hid ((wr.setCell ⟨gb, i, none⟩ (.int .u8 (mk : Int))).ownsRow C 5 1 (.slice (some ⟨gb, 0, none⟩) nb cb) nb (rep (i + 1) mk ++ (byteCells xs).drop (i + 1)) ∧ (∀ b, b < w.heap.size → some b ≠ (Value.slice (some ⟨gb, 0, none⟩) nb cb).ownBlock → (wr.setCell ⟨gb, i, none⟩ (.int .u8 (mk : Int))).heap[b]? = w.heap[b]?) ∧ (wr.setCell ⟨gb, i, none⟩ (.int .u8 (mk : Int))).heap.size = w.heap.size ∧ Below C w (wr.setCell ⟨gb, i, none⟩ (.int .u8 (mk : Int)))) := by
        refine ⟨hset.1, fun b hb hne => ?_, ?_, ?_⟩
        · refine (hset.2.other b (by have := HR.out.2.2.1; omega) fun e => hne (by rw [e]; rfl)).trans (HR.out.2.1 b hb hne)
        · rw [setCell_eq_setRow wr gb i cur 5 (0, 0) _ hgb]
          simp [HR.out.2.2.1]
        · exact HR.out.2.2.2.trans (hset.2.below.mono (by have := (HR.out.1.lt gb rfl).1; omega))
      clear HR hset hc hgb
      go_wp2
      exact ⟨⟨i + 1, by omega, by go_num, HQ.out⟩, by simp [RowKit.intOf]; omega⟩
    · obtain rfl : i = nb := by omega
      have HR2 : Hid (wr.ownsRow C 5 1 (.slice ab (i + 0) cb) (i + 0) (rep (i + 0) mk) ∧ (∀ b, b < w.heap.size → some b ≠ (Value.slice ab i cb).ownBlock → wr.heap[b]? = w.heap[b]?) ∧ wr.heap.size = w.heap.size ∧ Below C w wr ∧ wr.ownsRow B 83 2 (.slice av n cv) n (holdV l) ∧ KeptOK wr l) := by
        have h1 := HR.out.1
        rw [List.drop_eq_nil_of_le (by rw [bc_len]; have := HX.out.2.2.2.2.2.2; omega), List.append_nil] at h1
        refine ⟨h1, HR.out.2.1, HR.out.2.2.1, HR.out.2.2.2, ?_, fun e he => ?_⟩
        · have hne := own_ne HX.out.1 HX.out.2.2.1 (by decide)
          refine ⟨HX.out.1.1, ?_⟩
          rcases HX.out.1.2 with h | ⟨g, cap, cur, e1, e2, e3, e4⟩
          · exact .inl h
          · refine .inr ⟨g, cap, cur, e1, e2, (HR.out.2.1 g (Array.getElem?_eq_some_iff.1 e3).1 ?_).trans e3, e4⟩
            rw [e1] at hne
            rcases hne with h | h
            · cases h
            · exact h
        · exact (HX.out.2.1 e he).keep fun hl0 g cur h2 h3 => HR.out.2.1 g (Array.getElem?_eq_some_iff.1 h3).1 (HD.out e he hl0 g cur h2 h3).1
      clear HR hlt
      have hnewH : Hid (∀ j u, [Value.slice ab i cb, .int .u8 (mk : Int)][j]? = some u → (wr.alloc (.cells #[.slice ab i cb, .int .u8 (mk : Int)] 83)).cell? ((⟨wr.heap.size, 0, none⟩ : Addr).add j) = some u) := cells_new wr _ _
      go_upto_region 7 with (at_builtin; refine wpList_append_keep _ rfl _ _ 42 rfl B 83 ih (.agg #[.slice none 0 0, .int .u8 0]) 2 32 Tryz.underlying42 hih hh0 hh1 hh2 rfl (by decide) _ n (holdV l) rfl (HR2.out.2.2.2.2.1.alloc _) ⟨wr.heap.size, 0, none⟩ 1 1 [.slice ab i cb, .int .u8 (mk : Int)] rfl rfl hnewH.out (fun x hx => by simp at hx; rcases hx with rfl | rfl <;> rfl) (by decide) (by unfold maxLen; omega) (by omega) (by have := HX.out.2.2.2.2.2.1; have := HR2.out.2.2.1; simp; omega) ?_; intro g2 c2 w2 hown2 hgrow2 hcase2)
      have HK : Hid (∃ es, es.length = 1 + cK 0 ∧ KS w C B n i mk l (.slice av n cv) (.slice ab i cb) 0 (.slice (some ⟨g2, 0, none⟩) (n + es.length) c2) (.slice ab (i + 0) cb) w2 es) := by
        have hp := KS.put (w := w) (bv := .slice ab i cb) (v := .slice av n cv) (es := []) (t := 0) (by rw [List.append_nil]; exact HR2.out.2.2.2.2.1) (by rw [List.append_nil]; exact HR2.out.2.2.2.2.2) HR2.out.1 hm256 (by omega) (.inl rfl) (by have := HR2.out.2.2.1; omega) (fun b hb n1 _ => HR2.out.2.1 b hb n1) HR2.out.2.2.2.1 HX.out.2.2.2.1 HX.out.2.2.2.2.1 ab cb rfl _ (by rw [List.append_nil]; exact hown2) hgrow2 hcase2
        refine ⟨[⟨ab, i + 0, cb, mk⟩], rfl, ⟨rfl, fun e he => ?_, hp.1, hp.2.1, hp.2.2.1, .inl rfl, hp.2.2.2.2.1, hp.2.2.2.2.2.1, ?_, hp.2.2.2.2.2.2⟩⟩
        · have : e = ⟨ab, i + 0, cb, mk⟩ := by simpa using he
          subst this
          exact new_of hp.2.2.1 (.inl rfl)
        · rcases hp.2.2.2.1 with h | h
          · exact .inl h
          · exact .inr ⟨g2, rfl, h⟩
      clear hown2 hgrow2 hcase2 hnewH HR2
      obtain ⟨es0, hes0, hks0⟩ := HK.out
      have HK0 : Hid (es0.length = 1 + cK 0 ∧ KS w C B n i mk l (.slice av n cv) (.slice ab i cb) 0 (.slice (some ⟨g2, 0, none⟩) (n + es0.length) c2) (.slice ab (i + 0) cb) w2 es0) := ⟨hes0, hks0⟩
      clear hes0 hks0 HK
      go_wp2
      go_loopw [0, 1, 7] (fun x0 x1 x7 wr => ∃ (t nk nt : Nat) (ak : Option Addr) (ck : Nat) (at_ : Option Addr) (ct : Nat), t ≤ 70 ∧ x7 = .int .i64 (t : Int) ∧ x0 = .slice ak nk ck ∧ x1 = .slice at_ nt ct ∧ Hid (nt = i + t ∧ ∃ es, nk = n + es.length ∧ KS w C B n i mk l (.slice av n cv) (.slice ab i cb) t (.slice ak nk ck) (.slice at_ nt ct) wr es)) (fun _ _ x7 _ => 70 - (RowKit.intOf x7).toNat)
      case atStart => exact ⟨0, n + 1, i, some ⟨g2, 0, none⟩, c2, ab, cb, by omega, rfl, rfl, rfl, rfl, es0, by rw [HK0.out.1]; rfl, by have := HK0.out.2; rw [HK0.out.1] at this; exact this⟩
      case round =>
        obtain ⟨t, nk, nt, ak, ck, at_, ct, ht, rfl, rfl, rfl, HS⟩ := hrel
        by_cases hlt : t < 70
        · have hlt' : (t : Int) < 70 := by omega
          obtain ⟨hnt, es, hnk, hks⟩ := HS.out
          subst hnt hnk
          have HKo : Hid (((Value.slice ak (n + es.length) ck).ownBlock = (Value.slice av n cv).ownBlock ∨ ∃ g, (Value.slice ak (n + es.length) ck).ownBlock = some g ∧ w.heap.size ≤ g) ∧ es.length = 1 + cK t ∧ ∀ e ∈ es, NewE w (Value.slice ab i cb).ownBlock mk (i + t) e) := ⟨hks.kown, hks.len, hks.new⟩
          have hesl : es.length ≤ 10 := by rw [hks.len]; unfold cK; split <;> split <;> omega
          have HKS : Hid (KS w C B n i mk l (.slice av n cv) (.slice ab i cb) t (.slice ak (n + es.length) ck) (.slice at_ (i + t) ct) wr es) := hks
          clear hks HS
          have hnew : Hid (∀ j u, [Value.int .u8 (mk : Int)][j]? = some u → (wr.alloc (.cells #[.int .u8 (mk : Int)] 5)).cell? ((⟨wr.heap.size, 0, none⟩ : Addr).add j) = some u) := cell_one_new wr (.int .u8 (mk : Int)) 5
          go_upto_region 11 with (at_builtin; refine wpList_append_keep _ rfl _ _ 28 rfl C 5 i0 (.int .u8 0) 1 1 Tryz.underlying28 hi hz0 hz1 hz2 rfl (by decide) _ (i + t) (rep (i + t) mk) rfl (HKS.out.bytes.alloc _) ⟨wr.heap.size, 0, none⟩ 1 1 [.int .u8 (mk : Int)] rfl rfl hnew.out (fun x hx => by simp at hx; subst hx; rfl) (by decide) (by unfold maxLen; omega) (by omega) (by have := HX.out.2.2.2.1; have := HKS.out.size; simp; omega) ?_; intro g3 c3 w3 hown3 hgrow3 hcase3)
          have HG : Hid (w3.ownsRow B 83 2 (.slice ak (n + es.length) ck) (n + es.length) (holdV (l ++ es)) ∧ KeptOK w3 (l ++ es) ∧ w3.ownsRow C 5 1 (.slice (some ⟨g3, 0, none⟩) (i + (t + 1)) c3) (i + (t + 1)) (rep (i + (t + 1)) mk) ∧ (some g3 = (Value.slice ab i cb).ownBlock ∨ w.heap.size ≤ g3) ∧ (∀ b, b < w.heap.size → some b ≠ (Value.slice ab i cb).ownBlock → some b ≠ (Value.slice av n cv).ownBlock → w3.heap[b]? = w.heap[b]?) ∧ w.heap.size ≤ w3.heap.size ∧ Below C w w3) := HKS.out.grow hm256 (by omega) HD.out HX.out.2.1 _ hown3 hgrow3 hcase3 HX.out.2.2.2.1
          clear hown3 hgrow3 hcase3 HKS hnew
          by_cases t2 : t < 2
          · have t2' : (t : Int) < 2 := by omega
            have hnew2 : Hid (∀ j u, [Value.slice (some ⟨g3, 0, none⟩) (i + t + 1) c3, .int .u8 (mk : Int)][j]? = some u → (w3.alloc (.cells #[.slice (some ⟨g3, 0, none⟩) (i + t + 1) c3, .int .u8 (mk : Int)] 83)).cell? ((⟨w3.heap.size, 0, none⟩ : Addr).add j) = some u) := cells_new w3 _ _
            go_upto_region 12 with fail
            go_wp2_with (at_builtin; refine wpList_append_keep _ rfl _ _ 42 rfl B 83 ih (.agg #[.slice none 0 0, .int .u8 0]) 2 32 Tryz.underlying42 hih hh0 hh1 hh2 rfl (by decide) _ (n + es.length) (holdV (l ++ es)) rfl (HG.out.1.alloc _) ⟨w3.heap.size, 0, none⟩ 1 1 [.slice (some ⟨g3, 0, none⟩) (i + t + 1) c3, .int .u8 (mk : Int)] rfl rfl hnew2.out (fun x hx => by simp at hx; rcases hx with rfl | rfl <;> rfl) (by decide) (by unfold maxLen; omega) (by omega) (by have := HX.out.2.2.2.2.2.1; have := HG.out.2.2.2.2.2.1; simp; omega) ?_; intro g4 c4 w4 hown4 hgrow4 hcase4)
            have HK4 : Hid (∃ es', n + es.length + 1 = n + es'.length ∧ KS w C B n i mk l (.slice av n cv) (.slice ab i cb) (t + 1) (.slice (some ⟨g4, 0, none⟩) (n + es.length + 1) c4) (.slice (some ⟨g3, 0, none⟩) (i + t + 1) c3) w4 es') := by
              have hp := KS.put (w := w) (bv := .slice ab i cb) (v := .slice av n cv) (es := es) (t := t + 1) HG.out.1 HG.out.2.1 HG.out.2.2.1 hm256 (by omega) HKo.out.1 HG.out.2.2.2.2.2.1 HG.out.2.2.2.2.1 HG.out.2.2.2.2.2.2 HX.out.2.2.2.1 HX.out.2.2.2.2.1 (some ⟨g3, 0, none⟩) c3 rfl _ hown4 hgrow4 hcase4
              refine ⟨es ++ [⟨some ⟨g3, 0, none⟩, i + (t + 1), c3, mk⟩], by simp; omega, ⟨?_, fun e he => ?_, by have h := hp.1; have e : n + (es ++ [(⟨some ⟨g3, 0, none⟩, i + (t + 1), c3, mk⟩ : Ent)]).length = n + es.length + 1 := (by rw [List.length_append]; rfl); rw [e] at h ⊢; exact h, hp.2.1, hp.2.2.1, ?_, hp.2.2.2.2.1, hp.2.2.2.2.2.1, ?_, hp.2.2.2.2.2.2⟩⟩
              · rw [List.length_append, HKo.out.2.1, cK_yes (.inl t2)]; rfl
              · rcases List.mem_append.1 he with he | he
                · exact (HKo.out.2.2 e he).mono (by omega)
                · have : e = ⟨some ⟨g3, 0, none⟩, i + (t + 1), c3, mk⟩ := by simpa using he
                  subst this
                  refine new_of hp.2.2.1 ?_
                  rcases HG.out.2.2.2.1 with h | h
                  · exact .inl h
                  · exact .inr ⟨g3, rfl, h⟩
              · rcases HG.out.2.2.2.1 with h | h
                · exact .inl h
                · exact .inr ⟨g3, rfl, h⟩
              · rcases hp.2.2.2.1 with h | h
                · exact .inl h
                · exact .inr ⟨g4, rfl, h⟩
            clear hown4 hgrow4 hcase4 hnew2 HG HKo
            exact ⟨⟨t + 1, n + es.length + 1, i + t + 1, some ⟨g4, 0, none⟩, c4, some ⟨g3, 0, none⟩, c3, by omega, by go_num, rfl, rfl, ⟨by omega, HK4.out⟩⟩, by simp [RowKit.intOf]; omega⟩
          · have t2' : ¬ (t : Int) < 2 := by omega
            by_cases t12 : t = 12
            · have t12' : ((t : Int) == 12) = true := by simp; omega
              have T12 : Hid (t = 12) := t12
              clear t12
              have hnew2 : Hid (∀ j u, [Value.slice (some ⟨g3, 0, none⟩) (i + t + 1) c3, .int .u8 (mk : Int)][j]? = some u → (w3.alloc (.cells #[.slice (some ⟨g3, 0, none⟩) (i + t + 1) c3, .int .u8 (mk : Int)] 83)).cell? ((⟨w3.heap.size, 0, none⟩ : Addr).add j) = some u) := cells_new w3 _ _
              go_upto_region 12 with fail
              go_wp2_with (at_builtin; refine wpList_append_keep _ rfl _ _ 42 rfl B 83 ih (.agg #[.slice none 0 0, .int .u8 0]) 2 32 Tryz.underlying42 hih hh0 hh1 hh2 rfl (by decide) _ (n + es.length) (holdV (l ++ es)) rfl (HG.out.1.alloc _) ⟨w3.heap.size, 0, none⟩ 1 1 [.slice (some ⟨g3, 0, none⟩) (i + t + 1) c3, .int .u8 (mk : Int)] rfl rfl hnew2.out (fun x hx => by simp at hx; rcases hx with rfl | rfl <;> rfl) (by decide) (by unfold maxLen; omega) (by omega) (by have := HX.out.2.2.2.2.2.1; have := HG.out.2.2.2.2.2.1; simp; omega) ?_; intro g4 c4 w4 hown4 hgrow4 hcase4)
              have HK4 : Hid (∃ es', n + es.length + 1 = n + es'.length ∧ KS w C B n i mk l (.slice av n cv) (.slice ab i cb) (t + 1) (.slice (some ⟨g4, 0, none⟩) (n + es.length + 1) c4) (.slice (some ⟨g3, 0, none⟩) (i + t + 1) c3) w4 es') := by
                have hp := KS.put (w := w) (bv := .slice ab i cb) (v := .slice av n cv) (es := es) (t := t + 1) HG.out.1 HG.out.2.1 HG.out.2.2.1 hm256 (by omega) HKo.out.1 HG.out.2.2.2.2.2.1 HG.out.2.2.2.2.1 HG.out.2.2.2.2.2.2 HX.out.2.2.2.1 HX.out.2.2.2.2.1 (some ⟨g3, 0, none⟩) c3 rfl _ hown4 hgrow4 hcase4
                refine ⟨es ++ [⟨some ⟨g3, 0, none⟩, i + (t + 1), c3, mk⟩], by simp; omega, ⟨?_, fun e he => ?_, by have h := hp.1; have e : n + (es ++ [(⟨some ⟨g3, 0, none⟩, i + (t + 1), c3, mk⟩ : Ent)]).length = n + es.length + 1 := (by rw [List.length_append]; rfl); rw [e] at h ⊢; exact h, hp.2.1, hp.2.2.1, ?_, hp.2.2.2.2.1, hp.2.2.2.2.2.1, ?_, hp.2.2.2.2.2.2⟩⟩
                · rw [List.length_append, HKo.out.2.1, cK_yes (.inr (.inl T12.out))]; rfl
                · rcases List.mem_append.1 he with he | he
                  · exact (HKo.out.2.2 e he).mono (by omega)
                  · have : e = ⟨some ⟨g3, 0, none⟩, i + (t + 1), c3, mk⟩ := by simpa using he
                    subst this
                    refine new_of hp.2.2.1 ?_
                    rcases HG.out.2.2.2.1 with h | h
                    · exact .inl h
                    · exact .inr ⟨g3, rfl, h⟩
                · rcases HG.out.2.2.2.1 with h | h
                  · exact .inl h
                  · exact .inr ⟨g3, rfl, h⟩
                · rcases hp.2.2.2.1 with h | h
                  · exact .inl h
                  · exact .inr ⟨g4, rfl, h⟩
              clear hown4 hgrow4 hcase4 hnew2 HG HKo
              exact ⟨⟨t + 1, n + es.length + 1, i + t + 1, some ⟨g4, 0, none⟩, c4, some ⟨g3, 0, none⟩, c3, by omega, by go_num, rfl, rfl, ⟨by omega, HK4.out⟩⟩, by simp [RowKit.intOf]; omega⟩
            · have t12' : ((t : Int) == 12) = false := by simp; omega
              by_cases t69 : t = 69
              · have t69' : ((t : Int) == 69) = true := by simp; omega
                have T69 : Hid (t = 69) := t69
                clear t69
                have hnew2 : Hid (∀ j u, [Value.slice (some ⟨g3, 0, none⟩) (i + t + 1) c3, .int .u8 (mk : Int)][j]? = some u → (w3.alloc (.cells #[.slice (some ⟨g3, 0, none⟩) (i + t + 1) c3, .int .u8 (mk : Int)] 83)).cell? ((⟨w3.heap.size, 0, none⟩ : Addr).add j) = some u) := cells_new w3 _ _
                go_upto_region 12 with fail
                go_wp2_with (at_builtin; refine wpList_append_keep _ rfl _ _ 42 rfl B 83 ih (.agg #[.slice none 0 0, .int .u8 0]) 2 32 Tryz.underlying42 hih hh0 hh1 hh2 rfl (by decide) _ (n + es.length) (holdV (l ++ es)) rfl (HG.out.1.alloc _) ⟨w3.heap.size, 0, none⟩ 1 1 [.slice (some ⟨g3, 0, none⟩) (i + t + 1) c3, .int .u8 (mk : Int)] rfl rfl hnew2.out (fun x hx => by simp at hx; rcases hx with rfl | rfl <;> rfl) (by decide) (by unfold maxLen; omega) (by omega) (by have := HX.out.2.2.2.2.2.1; have := HG.out.2.2.2.2.2.1; simp; omega) ?_; intro g4 c4 w4 hown4 hgrow4 hcase4)
                have HK4 : Hid (∃ es', n + es.length + 1 = n + es'.length ∧ KS w C B n i mk l (.slice av n cv) (.slice ab i cb) (t + 1) (.slice (some ⟨g4, 0, none⟩) (n + es.length + 1) c4) (.slice (some ⟨g3, 0, none⟩) (i + t + 1) c3) w4 es') := by
                  have hp := KS.put (w := w) (bv := .slice ab i cb) (v := .slice av n cv) (es := es) (t := t + 1) HG.out.1 HG.out.2.1 HG.out.2.2.1 hm256 (by omega) HKo.out.1 HG.out.2.2.2.2.2.1 HG.out.2.2.2.2.1 HG.out.2.2.2.2.2.2 HX.out.2.2.2.1 HX.out.2.2.2.2.1 (some ⟨g3, 0, none⟩) c3 rfl _ hown4 hgrow4 hcase4
                  refine ⟨es ++ [⟨some ⟨g3, 0, none⟩, i + (t + 1), c3, mk⟩], by simp; omega, ⟨?_, fun e he => ?_, by have h := hp.1; have e : n + (es ++ [(⟨some ⟨g3, 0, none⟩, i + (t + 1), c3, mk⟩ : Ent)]).length = n + es.length + 1 := (by rw [List.length_append]; rfl); rw [e] at h ⊢; exact h, hp.2.1, hp.2.2.1, ?_, hp.2.2.2.2.1, hp.2.2.2.2.2.1, ?_, hp.2.2.2.2.2.2⟩⟩
                  · rw [List.length_append, HKo.out.2.1, cK_yes (.inr (.inr T69.out))]; rfl
                  · rcases List.mem_append.1 he with he | he
                    · exact (HKo.out.2.2 e he).mono (by omega)
                    · have : e = ⟨some ⟨g3, 0, none⟩, i + (t + 1), c3, mk⟩ := by simpa using he
                      subst this
                      refine new_of hp.2.2.1 ?_
                      rcases HG.out.2.2.2.1 with h | h
                      · exact .inl h
                      · exact .inr ⟨g3, rfl, h⟩
                  · rcases HG.out.2.2.2.1 with h | h
                    · exact .inl h
                    · exact .inr ⟨g3, rfl, h⟩
                  · rcases hp.2.2.2.1 with h | h
                    · exact .inl h
                    · exact .inr ⟨g4, rfl, h⟩
                clear hown4 hgrow4 hcase4 hnew2 HG HKo
                exact ⟨⟨t + 1, n + es.length + 1, i + t + 1, some ⟨g4, 0, none⟩, c4, some ⟨g3, 0, none⟩, c3, by omega, by go_num, rfl, rfl, ⟨by omega, HK4.out⟩⟩, by simp [RowKit.intOf]; omega⟩
              · have t69' : ((t : Int) == 69) = false := by simp; omega
                have HK4 : Hid (KS w C B n i mk l (.slice av n cv) (.slice ab i cb) (t + 1) (.slice ak (n + es.length) ck) (.slice (some ⟨g3, 0, none⟩) (i + t + 1) c3) w3 es) := by
                  refine ⟨by rw [HKo.out.2.1, cK_no t2 t12 t69], fun e he => (HKo.out.2.2 e he).mono (by omega), HG.out.1, HG.out.2.1, HG.out.2.2.1, ?_, HG.out.2.2.2.2.1, HG.out.2.2.2.2.2.1, HKo.out.1, HG.out.2.2.2.2.2.2⟩
                  rcases HG.out.2.2.2.1 with h | h
                  · exact .inl h
                  · exact .inr ⟨g3, rfl, h⟩
                clear HG HKo
                go_wp2
                exact ⟨⟨t + 1, n + es.length, i + t + 1, ak, ck, some ⟨g3, 0, none⟩, c3, by omega, by go_num, rfl, rfl, ⟨by omega, es, rfl, HK4.out⟩⟩, by simp [RowKit.intOf]; omega⟩
        · obtain rfl : t = 70 := by omega
          go_wp2
          go_ret
          obtain ⟨_, es, _, hks⟩ := HS.out
          exact ⟨_, _, es, mk, rfl, hks⟩
end Go.Proofs.YthadnogcocmfgaaGreatDoor
