/-
  The law's outs: fill.
-/
import Derived.Test.YtfgfjkchcnpakaaDoorFOuts1
import Derived.Deep.DeepCutAuto
namespace Go.Proofs.YtfgfjkchcnpakaaDoor
set_option linter.unusedVariables false
open Go.RowKit

def fillZ (l : List Int) (n : Int) (k : Nat) : List Int := List.replicate k n ++ l.drop k
theorem fillZ_length (l : List Int) (n : Int) (k : Nat) (h : k ≤ l.length) : (fillZ l n k).length = l.length := by simp [fillZ]; omega
theorem fillZ_zero (l : List Int) (n : Int) : fillZ l n 0 = l := by simp [fillZ]
theorem fillZ_set (l : List Int) (n : Int) (k : Nat) (h : k < l.length) : (fillZ l n k).set k n = fillZ l n (k + 1) := by
  unfold fillZ
  rw [List.set_append, if_neg (by simp), List.drop_eq_getElem_cons h, List.length_replicate, Nat.sub_self, List.set_cons_zero, List.replicate_succ']
  simp
theorem fillZ_all (l : List Int) (n : Int) : fillZ l n l.length = List.replicate l.length n := by simp [fillZ]
theorem row_frozen {w : World} {B T s n g m c : Nat} {xs : List Value} (h : w.ownsRow B T s (.slice (some ⟨g, 0, none⟩) m c) n xs) (j : Nat) : w.frozen? ⟨g, j, none⟩ = false := by
  obtain ⟨_, _, cur, t⟩ := row_typed h (k := g) rfl
  simp [World.frozen?, t]
section
variable {B : Nat} {w0 w w1 w' : World} {q : Nat} {vo0 vo : Value} {E : List (Value × Value × Int)} {P0 P : Value} {zs : List Int} {Q0 Q : Value} {vs : List Value}
theorem O1.putP {g c m : Nat} (h : O1 B w0 w q vo0 vo E P0 (.slice (some ⟨g, 0, none⟩) m c) zs Q0 Q vs) (hm : zs.length = m) (i : Nat) (hi : i < m) (n : Int) :
    O1 B w0 (w.setCell ⟨g, i, none⟩ (.int .i64 n)) q vo0 vo E P0 (.slice (some ⟨g, 0, none⟩) m c) (zs.set i n) Q0 Q vs := by
  subst hm
  exact h.writeP i hi n
theorem O1.putQ {g c m : Nat} (h : O1 B w0 w q vo0 vo E P0 P zs Q0 (.slice (some ⟨g, 0, none⟩) m c) vs) (hm : vs.length = m) (i : Nat) (hi : i < m) (u : Value) :
    O1 B w0 (w.setCell ⟨g, i, none⟩ u) q vo0 vo E P0 P zs Q0 (.slice (some ⟨g, 0, none⟩) m c) (vs.set i u) ∧ (∀ (k : Nat) cur, w.heap[k]? = some (.cells cur 36 (0, 0)) → (w.setCell ⟨g, i, none⟩ u).heap[k]? = w.heap[k]?) := by
  subst hm
  exact h.writeQ i hi u
theorem O1.far (h : O1 B w0 w q vo0 vo E P0 P zs Q0 Q vs) (o : Obj) (w1 : World) (hg : (w.alloc o).grownBy w1 vo.ownBlock) : w1.cell? ⟨q, 0, none⟩ = some vo ∧ w1.frozen? ⟨q, 0, none⟩ = false := by
  have hvo : vo.ownBlock ≠ some q := fun e => by obtain ⟨_, _, cur, t⟩ := row_typed h.row e; exact typed_ne h.qb t (by decide)
  have hp : w1.heap[q]? = some (.cells #[vo] 52 (0, 0)) := by
    have hb0 : Below w.heap.size w (w.alloc o) := (Below.refl _ w).alloc (Nat.le_refl _) _
    rw [hg.block q (by have := hb0.size; have := h.qlt; omega) (fun e => hvo e.symm), hb0.block q h.qlt]; exact h.qb
  exact ⟨by rw [cell_of_row w1 q _ _ _ _ hp]; rfl, by simp [World.frozen?, hp]⟩
theorem Mq.keep {n : Int} {u : Value} (h : Mq w n u) (hf : ∀ (g : Nat) cur, w.heap[g]? = some (.cells cur 36 (0, 0)) → w'.heap[g]? = w.heap[g]?) : Mq w' n u := by
  obtain ⟨g, e, t⟩ := h
  exact ⟨g, e, (hf g _ t).trans t⟩
theorem Mq.below {n : Int} {u : Value} (h : Mq w n u) (hb : Below w.heap.size w w') : Mq w' n u := h.keep (fun g cur t => hb.block g (lt_of_heap t))
end
set_option maxRecDepth 100000 in
set_option maxHeartbeats 4000000 in
theorem ofill_any (B q : Nat) (vo : Value) (E : List (Value × Value × Int)) (P : Value) (zs0 : List Int) (Q : Value) (vs0 : List Value) (w : World) (h : O1 B w w q vo vo E P P zs0 Q Q vs0) (hE : E.length ≤ 1000) (hz : zs0.length ≤ 5864062014634) (hv : vs0.length ≤ 1000) :
    Calls Tryd.prog 20 #[.pointer (some ⟨q, 0, none⟩), P, Q] w fun e w' => e = .returned (.tuple #[]) ∧ ∃ vo' P2 zs2 Q2 vs2 n, O1 B w w' q vo vo' (E ++ [(P, Q, n)] ++ [(P2, Q2, n)]) P P2 zs2 Q Q2 vs2 ∧ E1 w' P zs0.length Q vs0.length n ∧ zs2 = List.replicate (zs0.length + 64) n ∧ vs2.length = vs0.length + 64 ∧ (∀ (j : Nat) x, vs2[j]? = some x → Mq w' n x) ∧ n = -1 - (E.length : Int) := by
  obtain ⟨iz, hiz, hz0, hz1, hz2⟩ := info_parts info3
  obtain ⟨iq, hiq, hq0, hq1, hq2⟩ := info_parts info22
  obtain ⟨io, hio, ho0, ho1, ho2⟩ := info_parts infoO
  obtain ⟨ap, cp, rfl, hcp, _, hap⟩ := row_form h.oP
  obtain ⟨aq, cq, rfl, hcq, _, haq⟩ := row_form h.oQ
  obtain ⟨ao, co, rfl, hco, _, _⟩ := row_form h.row
  have H0 : Hid (O1 B w w q (.slice ao E.length co) (.slice ao E.length co) E (.slice ap zs0.length cp) (.slice ap zs0.length cp) zs0 (.slice aq vs0.length cq) (.slice aq vs0.length cq) vs0 ∧ (0 < zs0.length → ∃ g, ap = some ⟨g, 0, none⟩) ∧ (0 < vs0.length → ∃ g, aq = some ⟨g, 0, none⟩)) := ⟨h, hap, haq⟩
  have hcell := h.cell.1
  clear h hap haq
  generalize hlz : zs0.length = lz at *
  generalize hlv : vs0.length = lv at *
  generalize hlE : E.length = L at *
  have HLL : Hid (zs0.length = lz ∧ vs0.length = lv ∧ E.length = L) := ⟨hlz, hlv, hlE⟩
  clear hlz hlv hlE
  go_enter Tryd.func20, Tryd.ntmps20
  go_upto_region 0 with fail
  go_cut [6] (fun v wx => ∃ n : Int, v = .int .i64 n ∧ -1001 ≤ n ∧ n ≤ 0 ∧ Hid (n = -1 - (L : Int)) ∧ wx = w)
  case first =>
    go_wp2
    go_meet
    exact ⟨-1 - (L : Int), by first | rfl | (congr 1), by omega, by omega, rfl, rfl⟩
  case rest =>
    obtain ⟨n, rfl, hn0, hn1, HN, hw⟩ := hcut
    subst hw
    clear hcell
    go_wp2
    go_loopw [7] (fun i wr => ∃ k : Nat, k ≤ lz ∧ i = .int .i64 (k : Int) ∧ O1 B wc wr q (.slice ao L co) (.slice ao L co) E (.slice ap lz cp) (.slice ap lz cp) (fillZ zs0 n k) (.slice aq lv cq) (.slice aq lv cq) vs0) (fun i _ => lz - (intOf i).toNat)
    case atStart => exact ⟨0, Nat.zero_le _, rfl, by rw [fillZ_zero]; exact H0.out.1⟩
    case round =>
      obtain ⟨k, hk, rfl, hf⟩ := hrel
      have hfl : (fillZ zs0 n k).length = lz := by rw [fillZ_length _ _ _ (by rw [HLL.out.1]; exact hk), HLL.out.1]
      by_cases hlt : k < lz
      · have hlt' : (k : Int) < (lz : Int) := by omega
        obtain ⟨g, rfl⟩ := H0.out.2.1 (by omega)
        have hx : (zcs (fillZ zs0 n k))[k]? = some (.int .i64 ((fillZ zs0 n k).getD k 0)) := by
          unfold zcs
          rw [List.getElem?_map, List.getElem?_eq_getElem (by omega), List.getD_eq_getElem?_getD, List.getElem?_eq_getElem (by omega)]
          rfl
        have c0 := row_cell hf.oP hx
        have z0 := row_frozen hf.oP k
        have HW : Hid (O1 B wc (wr.setCell ⟨g, k, none⟩ (.int .i64 n)) q (.slice ao L co) (.slice ao L co) E (.slice (some ⟨g, 0, none⟩) lz cp) (.slice (some ⟨g, 0, none⟩) lz cp) (fillZ zs0 n (k + 1)) (.slice aq lv cq) (.slice aq lv cq) vs0) := by
          have h5 := hf.putP hfl k hlt n
          rw [fillZ_set _ _ _ (by rw [HLL.out.1]; exact hlt)] at h5
          exact h5
        generalize (fillZ zs0 n k).getD k 0 = old at *
        clear hf hfl hx
        go_wp2
        exact ⟨⟨k + 1, by omega, by go_num, HW.out⟩, by simp [intOf]; omega⟩
      · have hkz : lz = k := by omega
        subst hkz
        have HF : Hid (O1 B wc wr q (.slice ao L co) (.slice ao L co) E (.slice ap lz cp) (.slice ap lz cp) (List.replicate lz n) (.slice aq lv cq) (.slice aq lv cq) vs0) := by
          have e := fillZ_all zs0 n
          rw [HLL.out.1] at e
          rw [← e]; exact hf
        clear hf hfl
        go_wp2
        go_loopw [8] (fun i wr2 => ∃ (k : Nat) (us : List Value), k ≤ lv ∧ i = .int .i64 (k : Int) ∧ Hid (O1 B wc wr2 q (.slice ao L co) (.slice ao L co) E (.slice ap lz cp) (.slice ap lz cp) (List.replicate lz n) (.slice aq lv cq) (.slice aq lv cq) us ∧ us.length = lv ∧ ∀ (j : Nat) x, j < k → us[j]? = some x → Mq wr2 n x)) (fun i _ => lv - (intOf i).toNat)
        case atStart => exact ⟨0, vs0, Nat.zero_le _, rfl, ⟨HF.out, HLL.out.2.1, fun j x hj => by omega⟩⟩
        case round =>
          obtain ⟨k, us, hk2, rfl, hh⟩ := hrel
          by_cases hlt2 : k < lv
          · have hlt2' : (k : Int) < (lv : Int) := by omega
            obtain ⟨g, rfl⟩ := H0.out.2.2 (by omega)
            have h1 := mark_any n wr (by omega) (by omega)
            go_wp2_with (go_at_call 45; fail)
            refine h1.mono ?_
            rintro e w3 ⟨rfl, hb3⟩
            have hb4 : Below wr.heap.size wr (w3.alloc (.cells #[.int .i64 (-n), .string ⟨#[109, 105, 110, 101]⟩] 36)) := hb3.alloc hb3.size _
            have ho4 := hh.out.1.below hb4
            obtain ⟨old, hxu⟩ : ∃ old, us[k]? = some old := ⟨_, List.getElem?_eq_getElem (by rw [hh.out.2.1]; exact hlt2)⟩
            have c0 := row_cell ho4.oQ hxu
            have z0 := row_frozen ho4.oQ k
            have HW : Hid (O1 B wc ((w3.alloc (.cells #[.int .i64 (-n), .string ⟨#[109, 105, 110, 101]⟩] 36)).setCell ⟨g, k, none⟩ (.slice (some ⟨w3.heap.size, 0, none⟩) 1 1)) q (.slice ao L co) (.slice ao L co) E (.slice ap lz cp) (.slice ap lz cp) (List.replicate lz n) (.slice (some ⟨g, 0, none⟩) lv cq) (.slice (some ⟨g, 0, none⟩) lv cq) (us.set k (.slice (some ⟨w3.heap.size, 0, none⟩) 1 1)) ∧ (us.set k (.slice (some ⟨w3.heap.size, 0, none⟩) 1 1)).length = lv ∧ ∀ (j : Nat) x, j < k + 1 → (us.set k (.slice (some ⟨w3.heap.size, 0, none⟩) 1 1))[j]? = some x → Mq ((w3.alloc (.cells #[.int .i64 (-n), .string ⟨#[109, 105, 110, 101]⟩] 36)).setCell ⟨g, k, none⟩ (.slice (some ⟨w3.heap.size, 0, none⟩) 1 1)) n x) := by
              obtain ⟨h5, h6⟩ := ho4.putQ hh.out.2.1 k hlt2 (.slice (some ⟨w3.heap.size, 0, none⟩) 1 1)
              refine ⟨h5, by rw [List.length_set]; exact hh.out.2.1, fun j x hj hx => ?_⟩
              rw [List.getElem?_set] at hx
              split at hx
              · rw [if_pos (by rw [hh.out.2.1]; omega)] at hx
                injection hx with hx
                subst hx
                have t := heap_alloc_new w3 (.cells #[.int .i64 (-n), .string ⟨#[109, 105, 110, 101]⟩] 36)
                exact ⟨w3.heap.size, rfl, (h6 _ _ t).trans t⟩
              · exact ((hh.out.2.2 j x (by omega) hx).below hb4).keep h6
            clear h1 hb3 hb4 ho4 hxu hh
            go_wp2
            exact ⟨⟨k + 1, _, by omega, by go_num, HW.out⟩, by simp [intOf]; omega⟩
          · have hkv : lv = k := by omega
            subst hkv
            have hcell := hh.out.1.cell.1
            have hfz := hh.out.1.cell.2
            have hrow := hh.out.1.row
            rw [HLL.out.2.2] at hrow
            have HROW : Hid (wr.ownsRow B 91 3 (.slice ao L co) L (ocs E)) := hrow
            have hsz := hh.out.1.size
            have HFAR : Hid (∀ (o : Obj) (w1 : World), (wr.alloc o).grownBy w1 (Value.ownBlock (.slice ao L co)) → w1.cell? ⟨q, 0, none⟩ = some (.slice ao L co) ∧ w1.frozen? ⟨q, 0, none⟩ = false) := hh.out.1.far
            clear hrow
            go_wp2_with (at_builtin; refine wpList_append_lies _ rfl _ _ 50 rfl B 91 io _ 3 56 Tryd.underlying50 hio ho0 ho1 ho2 rfl (by decide) _ L (ocs E) rfl (World.ownsRow.alloc HROW.out _) ⟨wr.heap.size, 0, none⟩ 1 1 [.slice ap lz cp, .slice aq lv cq, .int .i64 n] rfl rfl (World.news_of_block (cs := #[.slice ap lz cp, .slice aq lv cq, .int .i64 n]) (t := 91) (fr := (0, 0)) (heap_alloc_new wr _)) (by simp [Value.oneCell']) (by decide) (by unfold maxLen; omega) (by omega) (by simp; omega) (wr.heap.size + 1) (by simp) ?_; intro G cap w5 hown5 hgrow5 hat5 hlt5; obtain ⟨x1, x2⟩ := HFAR.out _ _ hgrow5)
            have HS1 : Hid (O1 B wc (w5.setCell ⟨q, 0, none⟩ (.slice (some ⟨G, 0, none⟩) (L + 1) cap)) q (.slice ao L co) (.slice (some ⟨G, 0, none⟩) (L + 1) cap) (E ++ [(.slice ap lz cp, .slice aq lv cq, n)]) (.slice ap lz cp) (.slice ap lz cp) (List.replicate lz n) (.slice aq lv cq) (.slice aq lv cq) us ∧ us.length = lv ∧ (∀ (j : Nat) x, us[j]? = some x → Mq (w5.setCell ⟨q, 0, none⟩ (.slice (some ⟨G, 0, none⟩) (L + 1) cap)) n x) ∧ E1 (w5.setCell ⟨q, 0, none⟩ (.slice (some ⟨G, 0, none⟩) (L + 1) cap)) (.slice ap lz cp) lz (.slice aq lv cq) lv n) := by
              have h5 := hh.out.1.snoc (p := .slice ap lz cp) (r := .slice aq lv cq) (n := n) (G := G) (cap := cap) ((Below.refl _ wr).alloc (Nat.le_refl _) (.cells #[.slice ap lz cp, .slice aq lv cq, .int .i64 n] 91)) (by rw [HLL.out.2.2]; exact hown5) hgrow5 (by rcases hat5 with h | h; exact .inl h; exact .inr (by simpa using h))
              rw [HLL.out.2.2] at h5
              obtain ⟨h6, h7⟩ := h5
              have hall : ∀ (j : Nat) x, us[j]? = some x → Mq wr n x := fun j x hx => hh.out.2.2 j x (by have := (List.getElem?_eq_some_iff.1 hx).1; have := hh.out.2.1; omega) hx
              have hrz : wr.ownsRow B 3 1 (.slice ap lz cp) lz (zcs (List.replicate lz n)) := by have h := hh.out.1.oP; rw [List.length_replicate] at h; exact h
              have hrq : wr.ownsRow B 22 1 (.slice aq lv cq) lv us := by have h := hh.out.1.oQ; rw [hh.out.2.1] at h; exact h
              refine ⟨h6, hh.out.2.1, fun j x hx => (hall j x hx).keep (fun g cur t => h7 g cur _ t (.inr (.inr rfl))), E1.keep (w := wr) ⟨SrcZ.of_row hrz rfl (Nat.le_refl _) hcp (fun _ => rfl) H0.out.2.1, SrcQ.of_row hrq (fun j u _ hx => hall j u hx) rfl (Nat.le_refl _) hcq (fun _ => rfl) H0.out.2.2, fun k hk => (row_typed hrz hk).2.2, fun k hk => (row_typed hrq hk).2.2, fun a l c e hl => by injection e with e1 e2 e3; subst e1 e2; exact H0.out.2.1 hl, fun a l c e hl => by injection e with e1 e2 e3; subst e1 e2; exact H0.out.2.2 hl⟩ h7⟩
            clear hown5 hgrow5 hat5 hlt5 x1 x2 hcell hfz HROW HFAR hh HF
            generalize w5.setCell ⟨q, 0, none⟩ (.slice (some ⟨G, 0, none⟩) (L + 1) cap) = w6 at *
            go_loopw [1, 2, 9] (fun pv qv iv wr => ∃ (k : Nat) (ap2 : Option Addr) (cp2 : Nat) (aq2 : Option Addr) (cq2 : Nat) (vs2 : List Value), k ≤ 64 ∧ pv = .slice ap2 (lz + k) cp2 ∧ qv = .slice aq2 (lv + k) cq2 ∧ iv = .int .i64 (k : Int) ∧ Hid (O1 B wc wr q (.slice ao L co) (.slice (some ⟨G, 0, none⟩) (L + 1) cap) (E ++ [(.slice ap lz cp, .slice aq lv cq, n)]) (.slice ap lz cp) (.slice ap2 (lz + k) cp2) (List.replicate (lz + k) n) (.slice aq lv cq) (.slice aq2 (lv + k) cq2) vs2 ∧ vs2.length = lv + k ∧ (∀ (j : Nat) x, vs2[j]? = some x → Mq wr n x) ∧ E1 wr (.slice ap lz cp) lz (.slice aq lv cq) lv n)) (fun _ _ iv _ => 64 - (intOf iv).toNat)
            case atStart => exact ⟨0, ap, cp, aq, cq, us, by omega, rfl, rfl, rfl, HS1.out⟩
            case round =>
              obtain ⟨k, ap2, cp2, aq2, cq2, vs2, hk3, rfl, rfl, rfl, hh⟩ := hrel
              clear HS1
              by_cases hlt3 : k < 64
              · have hlt3' : (k : Int) < 64 := by omega
                have hb1 : Below wr.heap.size wr (wr.alloc (.cells #[.int .i64 n] 3)) := (Below.refl _ wr).alloc (Nat.le_refl _) _
                have hrow := hh.out.1.oP
                rw [List.length_replicate] at hrow
                have HRP : Hid (wr.ownsRow B 3 1 (.slice ap2 (lz + k) cp2) (lz + k) (zcs (List.replicate (lz + k) n))) := hrow
                have hsz := hh.out.1.size
                clear hrow
                go_upto_region 14 with (at_builtin; refine wpList_append_keep _ rfl _ _ 55 rfl B 3 iz _ 1 8 Tryd.underlying55 hiz hz0 hz1 hz2 rfl (by decide) _ (lz + k) (zcs (List.replicate (lz + k) n)) rfl (World.ownsRow.alloc HRP.out _) ⟨wr.heap.size, 0, none⟩ 1 1 [.int .i64 n] rfl rfl (World.news_of_block (cs := #[.int .i64 n]) (t := 3) (fr := (0, 0)) (heap_alloc_new wr _)) (by simp [Value.oneCell']) (by decide) (by unfold maxLen; omega) (by omega) (by simp; omega) ?_; intro g4 c4 w7 ho7 hg7 hat7)
                have HX : Hid (O1 B wc w7 q (.slice ao L co) (.slice (some ⟨G, 0, none⟩) (L + 1) cap) (E ++ [(.slice ap lz cp, .slice aq lv cq, n)]) (.slice ap lz cp) (.slice (some ⟨g4, 0, none⟩) (lz + k + 1) c4) (List.replicate (lz + k + 1) n) (.slice aq lv cq) (.slice aq2 (lv + k) cq2) vs2 ∧ vs2.length = lv + k ∧ (∀ (j : Nat) x, vs2[j]? = some x → Mq w7 n x) ∧ E1 w7 (.slice ap lz cp) lz (.slice aq lv cq) lv n) := by
                  have h5 := hh.out.1.growP (n := n) (g' := g4) (cap := c4) hb1 (by rw [List.length_replicate]; exact ho7) hg7 hat7
                  rw [List.length_replicate, ← List.replicate_succ'] at h5
                  refine ⟨h5, hh.out.2.1, fun j x hx => (hh.out.2.2.1 j x hx).keep (fun g cur t => ?_), hh.out.2.2.2.growP HRP.out (by omega) hb1 ho7 hg7 hat7⟩
                  rw [hg7.block g (by have := lt_of_heap t; have := hb1.size; omega) (fun e => by obtain ⟨_, _, c1, t2⟩ := row_typed HRP.out e.symm; exact typed_ne t t2 (by decide)), hb1.block g (lt_of_heap t)]
                clear ho7 hg7 hat7 hb1 HRP hh hsz
                have h1 := mark_any n w7 (by omega) (by omega)
                go_wp2_with (go_at_call 45; fail)
                refine h1.mono ?_
                rintro e w8 ⟨rfl, hb8⟩
                have hb9 : Below w7.heap.size w7 ((w8.alloc (.cells #[.int .i64 (-n), .string ⟨#[109, 105, 110, 101]⟩] 36)).alloc (.cells #[.slice (some ⟨w8.heap.size, 0, none⟩) 1 1] 22)) := (hb8.alloc hb8.size _).alloc (by have := hb8.size; simp; omega) _
                have hrow := ownsRow_below HX.out.1.oQ hb9
                rw [HX.out.2.1] at hrow
                have HRQ : Hid (((w8.alloc (.cells #[.int .i64 (-n), .string ⟨#[109, 105, 110, 101]⟩] 36)).alloc (.cells #[.slice (some ⟨w8.heap.size, 0, none⟩) 1 1] 22)).ownsRow B 22 1 (.slice aq2 (lv + k) cq2) (lv + k) vs2) := hrow
                have HB9 : Hid (Below w7.heap.size w7 ((w8.alloc (.cells #[.int .i64 (-n), .string ⟨#[109, 105, 110, 101]⟩] 36)).alloc (.cells #[.slice (some ⟨w8.heap.size, 0, none⟩) 1 1] 22))) := hb9
                have HNQ : Hid (∀ j u, ([.slice (some ⟨w8.heap.size, 0, none⟩) 1 1] : List Value)[j]? = some u → ((w8.alloc (.cells #[.int .i64 (-n), .string ⟨#[109, 105, 110, 101]⟩] 36)).alloc (.cells #[.slice (some ⟨w8.heap.size, 0, none⟩) 1 1] 22)).cell? ((⟨w8.heap.size + 1, 0, none⟩ : Addr).add j) = some u) := by
                  have h := World.news_of_block (cs := #[.slice (some ⟨w8.heap.size, 0, none⟩) 1 1]) (t := 22) (fr := (0, 0)) (heap_alloc_new (w8.alloc (.cells #[.int .i64 (-n), .string ⟨#[109, 105, 110, 101]⟩] 36)) _)
                  intro j u hj
                  have h2 := h j u hj
                  simpa using h2
                have hsz : B ≤ w8.heap.size := Nat.le_trans HX.out.1.size hb8.size
                clear hrow hb9 h1 hb8
                go_wp2_with (at_builtin; refine wpList_append_keep _ rfl _ _ 37 rfl B 22 iq _ 1 24 Tryd.underlying37 hiq hq0 hq1 hq2 rfl (by decide) _ (lv + k) vs2 rfl HRQ.out ⟨w8.heap.size + 1, 0, none⟩ 1 1 [.slice (some ⟨w8.heap.size, 0, none⟩) 1 1] rfl rfl HNQ.out (by simp [Value.oneCell']) (by decide) (by unfold maxLen; omega) (by omega) (by simp; omega) ?_; intro g5 c5 wb hob hgb hatb)
                have HY : Hid (O1 B wc wb q (.slice ao L co) (.slice (some ⟨G, 0, none⟩) (L + 1) cap) (E ++ [(.slice ap lz cp, .slice aq lv cq, n)]) (.slice ap lz cp) (.slice (some ⟨g4, 0, none⟩) (lz + k + 1) c4) (List.replicate (lz + k + 1) n) (.slice aq lv cq) (.slice (some ⟨g5, 0, none⟩) (lv + k + 1) c5) (vs2 ++ [Value.slice (some ⟨w8.heap.size, 0, none⟩) 1 1]) ∧ (vs2 ++ [Value.slice (some ⟨w8.heap.size, 0, none⟩) 1 1]).length = lv + (k + 1) ∧ (∀ (j : Nat) x, (vs2 ++ [Value.slice (some ⟨w8.heap.size, 0, none⟩) 1 1])[j]? = some x → Mq wb n x) ∧ E1 wb (.slice ap lz cp) lz (.slice aq lv cq) lv n) := by
                  have h5 := HX.out.1.growQ (u := .slice (some ⟨w8.heap.size, 0, none⟩) 1 1) (g' := g5) (cap := c5) HB9.out (by rw [HX.out.2.1]; exact hob) hgb hatb
                  rw [HX.out.2.1] at h5
                  have hfl : ∀ (g : Nat) cur, ((w8.alloc (.cells #[.int .i64 (-n), .string ⟨#[109, 105, 110, 101]⟩] 36)).alloc (.cells #[.slice (some ⟨w8.heap.size, 0, none⟩) 1 1] 22)).heap[g]? = some (.cells cur 36 (0, 0)) → wb.heap[g]? = ((w8.alloc (.cells #[.int .i64 (-n), .string ⟨#[109, 105, 110, 101]⟩] 36)).alloc (.cells #[.slice (some ⟨w8.heap.size, 0, none⟩) 1 1] 22)).heap[g]? := fun g cur t =>
                    hgb.block g (lt_of_heap t) (fun e => by obtain ⟨_, _, c1, t2⟩ := row_typed HRQ.out e.symm; exact typed_ne t t2 (by decide))
                  have hmq : ∀ (j : Nat) x, (vs2 ++ [Value.slice (some ⟨w8.heap.size, 0, none⟩) 1 1])[j]? = some x → Mq wb n x := fun j x hx => by
                    by_cases hj : j < vs2.length
                    · rw [List.getElem?_append_left hj] at hx
                      exact ((HX.out.2.2.1 j x hx).below HB9.out).keep hfl
                    · rw [List.getElem?_append_right (by omega)] at hx
                      have ej : j - vs2.length = 0 := by
                        rcases Nat.eq_zero_or_pos (j - vs2.length) with h | h
                        · exact h
                        · rw [List.getElem?_eq_none (by simp; omega)] at hx; cases hx
                      rw [ej] at hx
                      injection hx with hx
                      subst hx
                      have t := heap_alloc_new w8 (.cells #[.int .i64 (-n), .string ⟨#[109, 105, 110, 101]⟩] 36)
                      have t2 : ((w8.alloc (.cells #[.int .i64 (-n), .string ⟨#[109, 105, 110, 101]⟩] 36)).alloc (.cells #[.slice (some ⟨w8.heap.size, 0, none⟩) 1 1] 22)).heap[w8.heap.size]? = some (.cells #[.int .i64 (-n), .string ⟨#[109, 105, 110, 101]⟩] 36 (0, 0)) := by
                        rw [Below.heap_alloc _ _ _ (by simp)]; exact t
                      exact ⟨w8.heap.size, rfl, (hfl _ _ t2).trans t2⟩
                  exact ⟨h5, by rw [List.length_append, HX.out.2.1]; rfl, hmq, (HX.out.2.2.2).growQ (vs := vs2) (by have h := HX.out.1.oQ; exact h) hmq (by rw [HX.out.2.1]; omega) HB9.out (by rw [HX.out.2.1]; exact hob) hgb hatb⟩
                clear hob hgb hatb HRQ HNQ HB9 hsz HX
                go_roundw
                case rel => exact ⟨k + 1, some ⟨g4, 0, none⟩, c4, some ⟨g5, 0, none⟩, c5, _, by omega, rfl, rfl, by go_num, HY.out⟩
                case measure => simp [intOf]; omega
              · obtain rfl : k = 64 := by omega
                have hcell := hh.out.1.cell.1
                have hfz := hh.out.1.cell.2
                have hrow := hh.out.1.row
                have hel : (E ++ [((Value.slice ap lz cp), (Value.slice aq lv cq), n)]).length = L + 1 := by rw [List.length_append, HLL.out.2.2]; rfl
                rw [hel] at hrow
                have HEL : Hid ((E ++ [((Value.slice ap lz cp), (Value.slice aq lv cq), n)]).length = L + 1) := hel
                have HROW : Hid (wr.ownsRow B 91 3 (.slice (some ⟨G, 0, none⟩) (L + 1) cap) (L + 1) (ocs (E ++ [((Value.slice ap lz cp), (Value.slice aq lv cq), n)]))) := hrow
                have hsz := hh.out.1.size
                have HFAR : Hid (∀ (o : Obj) (w1 : World), (wr.alloc o).grownBy w1 (Value.ownBlock (.slice (some ⟨G, 0, none⟩) (L + 1) cap)) → w1.cell? ⟨q, 0, none⟩ = some (.slice (some ⟨G, 0, none⟩) (L + 1) cap) ∧ w1.frozen? ⟨q, 0, none⟩ = false) := hh.out.1.far
                clear hrow hel
                go_wp2_with (at_builtin; refine wpList_append_lies _ rfl _ _ 50 rfl B 91 io _ 3 56 Tryd.underlying50 hio ho0 ho1 ho2 rfl (by decide) _ (L + 1) _ rfl (World.ownsRow.alloc HROW.out _) ⟨wr.heap.size, 0, none⟩ 1 1 [.slice ap2 (lz + 64) cp2, .slice aq2 (lv + 64) cq2, .int .i64 n] rfl rfl (World.news_of_block (cs := #[.slice ap2 (lz + 64) cp2, .slice aq2 (lv + 64) cq2, .int .i64 n]) (t := 91) (fr := (0, 0)) (heap_alloc_new wr _)) (by simp [Value.oneCell']) (by decide) (by unfold maxLen; omega) (by omega) (by simp; omega) (wr.heap.size + 1) (by simp) ?_; intro G2 cap2 w5 hown5 hgrow5 hat5 hlt5; obtain ⟨x1, x2⟩ := HFAR.out _ _ hgrow5)
                have HZ : Hid (O1 B wc (w5.setCell ⟨q, 0, none⟩ (.slice (some ⟨G2, 0, none⟩) (L + 1 + 1) cap2)) q (.slice ao L co) (.slice (some ⟨G2, 0, none⟩) (L + 1 + 1) cap2) (E ++ [((Value.slice ap lz cp), (Value.slice aq lv cq), n)] ++ [((Value.slice ap2 (lz + 64) cp2), (Value.slice aq2 (lv + 64) cq2), n)]) (.slice ap lz cp) (.slice ap2 (lz + 64) cp2) (List.replicate (lz + 64) n) (.slice aq lv cq) (.slice aq2 (lv + 64) cq2) vs2 ∧ E1 (w5.setCell ⟨q, 0, none⟩ (.slice (some ⟨G2, 0, none⟩) (L + 1 + 1) cap2)) (.slice ap lz cp) lz (.slice aq lv cq) lv n ∧ vs2.length = lv + 64 ∧ (∀ (j : Nat) x, vs2[j]? = some x → Mq (w5.setCell ⟨q, 0, none⟩ (.slice (some ⟨G2, 0, none⟩) (L + 1 + 1) cap2)) n x)) := by
                  have h5 := hh.out.1.snoc (p := .slice ap2 (lz + 64) cp2) (r := .slice aq2 (lv + 64) cq2) (n := n) (G := G2) (cap := cap2) ((Below.refl _ wr).alloc (Nat.le_refl _) (.cells #[.slice ap2 (lz + 64) cp2, .slice aq2 (lv + 64) cq2, .int .i64 n] 91)) (by rw [HEL.out]; exact hown5) hgrow5 (by rcases hat5 with h | h; exact .inl h; exact .inr (by simpa using h))
                  rw [HEL.out] at h5
                  obtain ⟨h6, h7⟩ := h5
                  exact ⟨h6, hh.out.2.2.2.keep h7, hh.out.2.1, fun j x hx => (hh.out.2.2.1 j x hx).keep (fun g cur t => h7 g cur _ t (.inr (.inr rfl)))⟩
                clear hown5 hgrow5 hat5 hlt5 x1 x2 hcell hfz
                go_end0
                exact ⟨rfl, _, _, _, _, _, n, HZ.out.1, HZ.out.2.1, rfl, HZ.out.2.2.1, HZ.out.2.2.2, HN.out⟩
end Go.Proofs.YtfgfjkchcnpakaaDoor
