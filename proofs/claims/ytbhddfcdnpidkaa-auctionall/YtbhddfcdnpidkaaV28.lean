/-
  auction: Fills.
-/
import Derived.Test.YtbhddfcdnpidkaaMA
namespace Go.Proofs.Ytbhddfcdnpidkaa
set_option linter.unusedVariables false
set_option linter.unusedSimpArgs false
open Go.RowKit Go.Great
attribute [local irreducible] wpList

theorem appR {P : Program} (w : World) {op : Oper} {a : Act} {K : Act → World → Prop} {Q : Exit → Act → World → Prop} {d : Option Tmp} (hd : op.dst = d) (s x : Operand) (t : TypeId)
    (ho : op.op = .call { callee := .builtin .append, args := #[s, x], argTypes := #[t, t] })
    (e : TypeId) (i : TypeInfo) (z : Value) (size bytes : Nat) (ht : P.underlying t = some (.slice e)) (hi : P.info? e = some i) (hz : i.zero = some z)
    (hsize : i.size = size) (hby : i.bytes = bytes) (hzs : z.cells.size = size)
    (v : Value) (n : Nat) (xs : List Value) (hs : a.eval s = v) (hown : RowAt w e size v n xs)
    (ad : Addr) (m c : Nat) (news : List Value) (hx : a.eval x = .slice (some ad) m c) (hl : news.length = m * size) (hnews : ∀ j u, news[j]? = some u → w.cell? (ad.add j) = some u) (h1 : ∀ u ∈ news, u.oneCell' = true)
    (hm : 0 < m ∨ 0 < n) (h63 : n + m ≤ maxLen) (hbytes : (n + m) * bytes ≤ 140737488355328)
    (h : ∀ v' w', RowAt w' e size v' (n + m) (xs ++ news) → Fr w w' (fun b => v.ownBlock = some b) → (v'.ownBlock = v.ownBlock ∨ v'.ownBlock = some w.heap.size ∧ ∀ k, k < w.heap.size → w'.heap[k]? = w.heap[k]?) → K (a.put d v') w') : op.wp P a w K Q := by
  subst hd
  obtain ⟨v', w', hr, h2, h3, h4⟩ := run_append_row (P := P) w t op.type e i z size bytes ht hi hz hsize hby hzs v n xs hown ad m c news hl hnews h1 hm h63 hbytes
  unfold Oper.wp execOp
  simp only [ho, resolve, invoke, builtin, Sem.run_bind, Sem.run_pure, Result.andThen_ok, List.map_toArray, List.map_cons, List.map_nil, hs, hx, hr]
  exact h v' w' h2 h3 h4
/-- What Fills tells of two lists and a result. -/
def FV (b s : List Od) (r : Rs) (F : List Fl) : Prop := ((r.qty < 1 ∨ ¬ (1 ≤ r.price ∧ r.price ≤ 1000000000)) ∧ F = []) ∨ (1 ≤ r.qty ∧ (1 ≤ r.price ∧ r.price ≤ 1000000000) ∧ ∃ B S, Rws b s B S ∧ F = fillsF r.price ((B.takeWhile (atB r.price)).length + (S.takeWhile (atS r.price)).length) r.qty (B.takeWhile (atB r.price)) (S.takeWhile (atS r.price)))
theorem wns_ok {l : List Od} {R D : List Wn} {f : Wn → Bool} (h : R.Perm (wns l)) (hd : D = R.takeWhile f) : okQ D := fun v hv => by
  subst hd
  have h1 : v ∈ R := List.takeWhile_prefix f |>.subset hv
  obtain ⟨o, _, ho⟩ := List.mem_filterMap.1 (h.mem_iff.1 h1)
  exact wnO_q ho
set_option maxRecDepth 100000 in
set_option maxHeartbeats 4000000 in
theorem Fills_any {w : World} {b s : List Od} {a a' : Option Addr} {c c' : Nat} (hb : RowAt w 42 15 (.slice a b.length c) b.length (flatL (fun o => o.cs.toList) b)) (hbo : ∀ o ∈ b, o.ok) (hbl : b.length ≤ 1000000000000) (hs : RowAt w 42 15 (.slice a' s.length c') s.length (flatL (fun o => o.cs.toList) s)) (hso : ∀ o ∈ s, o.ok) (hsl : s.length ≤ 1000000000000) (r : Rs) (hq : r.qty ≤ 9223372036854775807) :
    Calls Try.prog 14 #[.slice a b.length c, .slice a' s.length c', .agg r.cs] w fun e w' => ∃ v, e = .returned v ∧ Hid (∃ F, FR w w' v F ∧ FV b s r F) := by
  obtain ⟨i0, hi0, hz0, hz1, hz2⟩ := info_parts infoFl
  have HI : Hid (Try.prog.info? 39 = some i0 ∧ i0.zero = some (.agg #[.int .i64 0, .int .i64 0, .int .i64 0, .int .i64 0, .int .i64 0]) ∧ i0.size = 5 ∧ i0.bytes = 40) := ⟨hi0, hz0, hz1, hz2⟩
  clear hi0 hz0 hz1 hz2
  obtain ⟨nb, hnb⟩ : ∃ nb, nb = b.length := ⟨_, rfl⟩
  obtain ⟨ns, hns⟩ : ∃ ns, ns = s.length := ⟨_, rfl⟩
  have HR : Hid ((RowAt w 42 15 (.slice a nb c) nb (flatL (fun o => o.cs.toList) b) ∧ (∀ o ∈ b, o.ok) ∧ nb = b.length ∧ nb ≤ 1000000000000) ∧ RowAt w 42 15 (.slice a' ns c') ns (flatL (fun o => o.cs.toList) s) ∧ (∀ o ∈ s, o.ok) ∧ ns = s.length ∧ ns ≤ 1000000000000) := ⟨⟨by rw [hnb]; exact hb, hbo, hnb, by omega⟩, by rw [hns]; exact hs, hso, hns, by omega⟩
  rw [← hnb, ← hns]
  clear hb hbo hbl hs hso hsl hnb hns
  have H0 : Hid (Below w.heap.size w (w.alloc (.cells r.cs 28)) ∧ Blk (w.alloc (.cells r.cs 28)) w.heap.size 28 r.cs) := ⟨(Below.refl _ w).alloc (Nat.le_refl _) _, Blk.new _ _ _⟩
  go_enter Try.func14, Try.ntmps14
  go_upto_region 1 with fail
  generalize w.alloc (.cells r.cs 28) = w1 at *
  obtain ⟨b5, hb5⟩ : ∃ b5, b5 = w.heap.size := ⟨_, rfl⟩
  have H1 : Hid (Below w.heap.size w w1 ∧ Blk w1 b5 28 r.cs ∧ w.heap.size ≤ b5) := by rw [hb5]; exact ⟨H0.out.1, H0.out.2, Nat.le_refl _⟩
  rw [← hb5]
  clear H0 hb5
  rename_i K hK
  refine wp_region_lit ?_
  refine wpList_runTo rfl (some 12) rfl (.pointer (some ⟨b5, 1, none⟩)) w1 (by kernel_rfl) ?_
  simp only [Act.put, List.setIfInBounds_toArray, List.set_cons_zero, List.set_cons_succ]
  refine wpList_runTo rfl (some 13) rfl (.int .i64 r.qty) w1 (by exact ldN_run (.inl rfl) (.tmp 12) rfl (by kernel_rfl) (H1.out.2.1.cell 1)) ?_
  simp only [Act.put, List.setIfInBounds_toArray, List.set_cons_zero, List.set_cons_succ]
  by_cases hq1 : r.qty < 1
  ·
    refine wpList_runTo rfl (some 14) rfl (.bool true) w1 (by exact lt1_run (.tmp 13) rfl (by kernel_rfl) (decide_eq_true hq1) _) ?_
    simp only [Act.put, List.setIfInBounds_toArray, List.set_cons_zero, List.set_cons_succ]
    refine wpList_runTo rfl (some 15) rfl (.bool true) w1 (by kernel_rfl) ?_
    simp only [Act.put, List.setIfInBounds_toArray, List.set_cons_zero, List.set_cons_succ]
    refine wpList_skipG (by kernel_rfl) ?_
    simp only [Act.put, List.setIfInBounds_toArray, List.set_cons_zero, List.set_cons_succ]
    refine wpList_skipG (by kernel_rfl) ?_
    simp only [Act.put, List.setIfInBounds_toArray, List.set_cons_zero, List.set_cons_succ]
    refine wpList_skipG (by kernel_rfl) ?_
    simp only [Act.put, List.setIfInBounds_toArray, List.set_cons_zero, List.set_cons_succ]
    refine wpList_skipG (by kernel_rfl) ?_
    simp only [Act.put, List.setIfInBounds_toArray, List.set_cons_zero, List.set_cons_succ]
    refine wpList_runTo rfl (some 20) rfl (.bool true) w1 (by kernel_rfl) ?_
    simp only [Act.put, List.setIfInBounds_toArray, List.set_cons_zero, List.set_cons_succ]
    refine wpList_nil ?_
    refine hK _ _ ?_
    clear hK
    have HF : Hid (∃ F, FR w w1 (.slice none 0 0) F ∧ FV b s r F) := ⟨[], ⟨RowAt.none0 _ _ _, H1.out.1, fun q hq => by cases hq⟩, .inl ⟨.inl hq1, rfl⟩⟩
    clear H1
    go_wp2
    go_ret
    exact ⟨_, rfl, HF⟩

  ·
    refine wpList_runTo rfl (some 14) rfl (.bool false) w1 (by exact lt1_run (.tmp 13) rfl (by kernel_rfl) (decide_eq_false hq1) _) ?_
    simp only [Act.put, List.setIfInBounds_toArray, List.set_cons_zero, List.set_cons_succ]
    refine wpList_runTo rfl (some 15) rfl (.bool false) w1 (by kernel_rfl) ?_
    simp only [Act.put, List.setIfInBounds_toArray, List.set_cons_zero, List.set_cons_succ]
    refine wpList_runToG (by kernel_rfl) (some 16) rfl (.pointer (some ⟨b5, 0, none⟩)) w1 (by kernel_rfl) ?_
    simp only [Act.put, List.setIfInBounds_toArray, List.set_cons_zero, List.set_cons_succ]
    refine wpList_runToG (by kernel_rfl) (some 17) rfl (.int .i64 r.price) w1 (by exact ldN_run (.inl rfl) (.tmp 16) rfl (by kernel_rfl) (H1.out.2.1.cell 0)) ?_
    simp only [Act.put, List.setIfInBounds_toArray, List.set_cons_zero, List.set_cons_succ]
    have hip := isPrice_any w1 r.price
    obtain ⟨pb, hpb⟩ : ∃ pb, pb = decide (1 ≤ r.price ∧ r.price ≤ 1000000000) := ⟨_, rfl⟩
    have HPB : Hid (pb = decide (1 ≤ r.price ∧ r.price ≤ 1000000000)) := hpb
    rw [← hpb] at hip
    clear hpb
    refine wpList_callG (by kernel_rfl) (some 18) rfl 23 #[.int .i64 r.price] (by kernel_rfl) hip ?_
    clear hip
    rintro e w2 ⟨rfl, ew⟩
    replace ew := ew.symm
    subst ew
    refine ⟨_, rfl, ?_⟩
    simp only [Act.put, List.setIfInBounds_toArray, List.set_cons_zero, List.set_cons_succ]
    refine wpList_runToG (by kernel_rfl) (some 19) rfl (.bool (!pb)) w1 (by exact not_run (.tmp 18) rfl (by kernel_rfl) _) ?_
    simp only [Act.put, List.setIfInBounds_toArray, List.set_cons_zero, List.set_cons_succ]
    refine wpList_runTo rfl (some 20) rfl (.bool (!pb)) w1 (by exact pickN_run (.tmp 15) (.tmp 19) rfl (by kernel_rfl) (by kernel_rfl) _) ?_
    simp only [Act.put, List.setIfInBounds_toArray, List.set_cons_zero, List.set_cons_succ]
    cases pb with
    | false =>
      have hnot : (!false) = true := rfl
      rw [hnot]
      refine wpList_nil ?_
      refine hK _ _ ?_
      clear hK
      have HF : Hid (∃ F, FR w w1 (.slice none 0 0) F ∧ FV b s r F) := ⟨[], ⟨RowAt.none0 _ _ _, H1.out.1, fun q hq => by cases hq⟩, .inl ⟨.inr (of_decide_eq_false HPB.out.symm), rfl⟩⟩
      clear H1
      go_wp2
      go_ret
      exact ⟨_, rfl, HF⟩

    | true =>
      have hnot : (!true) = false := rfl
      rw [hnot]
      clear hnot
      refine wpList_nil ?_
      refine hK _ _ ?_
      clear hK
      have hrb : ∀ W', Below w1.heap.size w1 W' → Calls Try.prog 33 #[.slice a nb c, .int .i64 1, .int .i64 r.price] W' fun e w' => ∃ v, e = .returned v ∧ Hid (∃ D, RA 1 r.price W' w' v b D) := fun W' hW => by
        have h1 := HR.out.1.1.fr (Fr.of_below (H1.out.1.trans (hW.mono H1.out.1.size)) (fun _ => False)) fun _ _ => id
        rw [HR.out.1.2.2.1] at h1 ⊢
        exact rowAt_any 1 r.price h1 HR.out.1.2.1 (by have := HR.out.1.2.2; omega)
      have hrs : ∀ W', Below w1.heap.size w1 W' → Calls Try.prog 33 #[.slice a' ns c', .int .i64 2, .int .i64 r.price] W' fun e w' => ∃ v, e = .returned v ∧ Hid (∃ D, RA 2 r.price W' w' v s D) := fun W' hW => by
        have h1 := HR.out.2.1.fr (Fr.of_below (H1.out.1.trans (hW.mono H1.out.1.size)) (fun _ => False)) fun _ _ => id
        rw [HR.out.2.2.2.1] at h1 ⊢
        exact rowAt_any 2 r.price h1 HR.out.2.2.1 (by have := HR.out.2.2.2; omega)
      go_upto_region 3 with fail
      rename_i K hK
      refine wp_region_held (S := fun w' => Below w1.heap.size w1 w') (by kernel_rfl) ?_
      change wpAnyH _ _ _ _ _ _ _ _ (World.drew _)
      have hS0 : Below w1.heap.size w1 w1.drew := (Below.refl _ w1).drew
      generalize w1.drew = Z0 at *
      refine takeR (i := 0) (v := .slice a nb c) (some 21) rfl rfl (by kernel_rfl) (by kernel_rfl) (by kernel_rfl) (fun _ _ _ h => h) (Or.inl ⟨by kernel_rfl, fun w' hSw => by kernel_rfl⟩) hS0 ?_
      simp only [Act.put, List.setIfInBounds_toArray, List.set_cons_zero, List.set_cons_succ]
      refine takeR (i := 1) (v := .pointer (some ⟨b5, 0, none⟩)) (some 22) rfl rfl (by kernel_rfl) (by kernel_rfl) (by kernel_rfl) (fun _ _ _ h => h) (Or.inl ⟨by kernel_rfl, fun w' hSw => by kernel_rfl⟩) hS0 ?_
      simp only [Act.put, List.setIfInBounds_toArray, List.set_cons_zero, List.set_cons_succ]
      refine takeR (i := 2) (v := .int .i64 r.price) (some 23) rfl rfl (by kernel_rfl) (by kernel_rfl) (by kernel_rfl) (fun _ _ _ h => h) (Or.inl ⟨by kernel_rfl, fun w' hSw => by exact ldN_run (.inl rfl) (.tmp 22) rfl (by kernel_rfl) ((H1.out.2.1.below hSw H1.out.2.1.lt).cell 0)⟩) hS0 ?_
      simp only [Act.put, List.setIfInBounds_toArray, List.set_cons_zero, List.set_cons_succ]
      refine takeR (i := 4) (v := .slice a' ns c') (some 25) rfl rfl (by kernel_rfl) (by kernel_rfl) (by kernel_rfl) (fun _ _ _ h => h) (Or.inl ⟨by kernel_rfl, fun w' hSw => by kernel_rfl⟩) hS0 ?_
      simp only [Act.put, List.setIfInBounds_toArray, List.set_cons_zero, List.set_cons_succ]
      refine takeR (i := 5) (v := .pointer (some ⟨b5, 0, none⟩)) (some 26) rfl rfl (by kernel_rfl) (by kernel_rfl) (by kernel_rfl) (fun _ _ _ h => h) (Or.inl ⟨by kernel_rfl, fun w' hSw => by kernel_rfl⟩) hS0 ?_
      simp only [Act.put, List.setIfInBounds_toArray, List.set_cons_zero, List.set_cons_succ]
      refine takeR (i := 6) (v := .int .i64 r.price) (some 27) rfl rfl (by kernel_rfl) (by kernel_rfl) (by kernel_rfl) (fun _ _ _ h => h) (Or.inl ⟨by kernel_rfl, fun w' hSw => by exact ldN_run (.inl rfl) (.tmp 26) rfl (by kernel_rfl) ((H1.out.2.1.below hSw H1.out.2.1.lt).cell 0)⟩) hS0 ?_
      simp only [Act.put, List.setIfInBounds_toArray, List.set_cons_zero, List.set_cons_succ]
      refine wpAnyH_ready (rs := [3]) (by kernel_rfl) (by simp) ?_
      refine AllReadyH.cons rfl (fun K1 hK1 => ?_) AllReadyH.nil
      rw [if_pos (by kernel_rfl)]
      refine callR (d := some 24) rfl 33 #[.slice a nb c, .int .i64 1, .int .i64 r.price] (by kernel_rfl) (hrb Z0 hS0) ?_
      rintro e Z1 ⟨v7, rfl, H7⟩
      refine ⟨_, rfl, ?_⟩
      obtain ⟨BT, hBT⟩ := H7.out
      have hS1 : Below w1.heap.size w1 Z1 := below_step hS0 hBT.co.bel
      refine hK1.out _ _ hS1 (fun hzz => ?_)
      clear hK1 hzz
      simp only [Act.put, List.setIfInBounds_toArray, List.set_cons_zero, List.set_cons_succ]
      refine wpAnyH_ready (rs := [7]) (by kernel_rfl) (by simp) ?_
      refine AllReadyH.cons rfl (fun K1 hK1 => ?_) AllReadyH.nil
      rw [if_pos (by kernel_rfl)]
      refine callR (d := some 28) rfl 33 #[.slice a' ns c', .int .i64 2, .int .i64 r.price] (by kernel_rfl) (hrs Z1 hS1) ?_
      rintro e Z2 ⟨v8, rfl, H8⟩
      refine ⟨_, rfl, ?_⟩
      obtain ⟨STl, hST⟩ := H8.out
      have hS2 : Below w1.heap.size w1 Z2 := below_step hS1 hST.co.bel
      refine hK1.out _ _ hS2 (fun hzz => ?_)
      clear hK1 hzz
      simp only [Act.put, List.setIfInBounds_toArray, List.set_cons_zero, List.set_cons_succ]
      refine takeR (i := 8) (v := v7) (some 7) rfl rfl (by kernel_rfl) (by kernel_rfl) (by kernel_rfl) (fun _ _ _ h => h) (Or.inl ⟨by kernel_rfl, fun w' hSw => by kernel_rfl⟩) hS2 ?_
      simp only [Act.put, List.setIfInBounds_toArray, List.set_cons_zero, List.set_cons_succ]
      refine takeR (i := 9) (v := v8) (some 8) rfl rfl (by kernel_rfl) (by kernel_rfl) (by kernel_rfl) (fun _ _ _ h => h) (Or.inl ⟨by kernel_rfl, fun w' hSw => by kernel_rfl⟩) hS2 ?_
      simp only [Act.put, List.setIfInBounds_toArray, List.set_cons_zero, List.set_cons_succ]
      refine wpAnyH_done (by kernel_rfl) ?_ _
      have HFI : Hid (FI w Z2 b5 r v7 v8 (.slice none 0 0) BT STl [] ∧ (∃ B S, Rws b s B S ∧ BT = B.takeWhile (atB r.price) ∧ STl = S.takeWhile (atS r.price)) ∧ okQ BT ∧ okQ STl ∧ BT.length + STl.length ≤ 2000000000000) := by
        obtain ⟨B, e1, e2, e3⟩ := hBT.eq
        obtain ⟨S, f1, f2, f3⟩ := hST.eq
        have k1 : ∀ q, v7.ownBlock = some q → w1.heap.size ≤ q := fun q hq => Nat.le_trans hS0.size (hBT.co.own q hq)
        have k2 : ∀ q, v8.ownBlock = some q → Z1.heap.size ≤ q := fun q hq => hST.co.own q hq
        have k3 := H1.out.2.1.lt
        refine ⟨⟨H1.out.1.trans (hS2.mono H1.out.1.size), H1.out.2.1.below hS2 H1.out.2.1.lt, H1.out.2.2, hBT.co.row.fr (Fr.of_below hST.co.bel (fun _ => False)) fun _ _ => id, hST.co.row, RowAt.none0 _ _ _, fun q hq => ⟨?_, ?_⟩, fun q hq => ⟨?_, ?_⟩, fun q hq => (by cases hq), fun q hq e => ?_, fun q _ e => (by cases e), fun q _ e => (by cases e)⟩, ⟨B, S, ⟨e1, f1, e2.1.imp fun h => leB_of h, f2.1.imp fun h => leS_of h, e2.2, f2.2⟩, by rw [e3, atW1], by rw [f3, atW2]⟩, wns_ok e1 e3, wns_ok f1 f3, ?_⟩
        · have := k1 q hq; have := H1.out.1.size; omega
        · have := k1 q hq; omega
        · have := k2 q hq; have := hS1.size; have := H1.out.1.size; omega
        · have := k2 q hq; have := hS1.size; omega
        · have h1 := (hBT.co.row.lt hq).1
          have h2 := k2 q e
          omega
        · have h1 := List.length_filterMap_le wnO b
          have h2 := List.length_filterMap_le wnO s
          have h3 := e1.length_eq
          have h4 := f1.length_eq
          have h5 : BT.length ≤ B.length := by rw [e3]; exact (List.takeWhile_prefix _).length_le
          have h6 : STl.length ≤ S.length := by rw [f3]; exact (List.takeWhile_prefix _).length_le
          have h7 := HR.out
          unfold wns at h3 h4
          omega
      clear hrb hrs hBT hST H7 H8 hS0 hS1 hS2 H1
      generalize Z2 = w2 at *
      refine hK _ _ ?_
      clear hK
      obtain ⟨T, hT⟩ : ∃ T, T = fillsF r.price (BT.length + STl.length) r.qty BT STl := ⟨_, rfl⟩
      obtain ⟨N, hN⟩ : ∃ N, N = BT.length + STl.length := ⟨_, rfl⟩
      have HT : Hid (FV b s r T ∧ N ≤ 2000000000000) := by
        refine ⟨.inr ⟨by omega, of_decide_eq_true HPB.out.symm, ?_⟩, by rw [hN]; exact HFI.out.2.2.2.2⟩
        obtain ⟨B, S, k1, k2, k3⟩ := HFI.out.2.1
        exact ⟨B, S, k1, by rw [← k2, ← k3]; exact hT⟩
      have HL0 : Hid (FI w w2 b5 r v7 v8 (.slice none 0 0) BT STl [] ∧ FS r.price T N r.qty BT STl []) := ⟨HFI.out.1, by rw [hT, hN]; exact FS.start r.price HFI.out.2.2.1 HFI.out.2.2.2.1 (by omega)⟩
      clear HFI hT hN HPB
      go_upto_region 5 with fail
      rename_i K hK
      refine wp_region_lit ?_
      refine wpList_runTo rfl (some 29) rfl (.pointer (some ⟨b5, 1, none⟩)) w2 (by kernel_rfl) ?_
      simp only [Act.put, List.setIfInBounds_toArray, List.set_cons_zero, List.set_cons_succ]
      refine wpList_runTo rfl (some 30) rfl (.int .i64 r.qty) w2 (by exact ldN_run (.inl rfl) (.tmp 29) rfl (by kernel_rfl) (HL0.out.1.k5.cell 1)) ?_
      simp only [Act.put, List.setIfInBounds_toArray, List.set_cons_zero, List.set_cons_succ]
      refine wpList_runTo rfl (some 10) rfl (.int .i64 r.qty) w2 (by kernel_rfl) ?_
      simp only [Act.put, List.setIfInBounds_toArray, List.set_cons_zero, List.set_cons_succ]
      refine wpList_nil ?_
      refine hK _ _ ?_
      clear hK
      go_wp2
      go_loopw [7, 8, 9, 10] (fun x7 x8 x9 x10 wr => ∃ (v7 v8 v9 : Value) (left : Int) (B S : List Wn) (F : List Fl), v7 = x7 ∧ v8 = x8 ∧ v9 = x9 ∧ x10 = .int .i64 left ∧ left ≤ 9223372036854775807 ∧ Hid (FI w wr b5 r v7 v8 v9 B S F ∧ FS r.price T N left B S F)) (fun x7 x8 _ x10 _ => if RowKit.intOf x10 ≤ 0 then 0 else (match x7 with | .slice _ n _ => n | _ => 0) + (match x8 with | .slice _ n _ => n | _ => 0) + 1)
      case atStart => exact ⟨v7, v8, _, r.qty, BT, STl, [], rfl, rfl, rfl, rfl, hq, HL0.out⟩
      case round => as_aux_lemma =>
        clear HL0 hq hq1
        obtain ⟨v7, v8, v9, left, B, S, F, rfl, rfl, rfl, rfl, hq, HL⟩ := hrel
        obtain ⟨a7, c7, e7, _⟩ := HL.out.1.rB.form
        obtain ⟨a8, c8, e8, _⟩ := HL.out.1.rS.form
        subst e7 e8
        by_cases hl : left ≤ 0
        · go_upto_region 6 with fail
          rename_i K hK
          refine wp_region_lit ?_
          refine wpList_runTo rfl (some 31) rfl (.int .i64 left) wr (by kernel_rfl) ?_
          simp only [Act.put, List.setIfInBounds_toArray, List.set_cons_zero, List.set_cons_succ]
          refine wpList_runTo rfl (some 32) rfl (.bool false) wr (by exact gt02_run (p := left) (.tmp 31) rfl (by kernel_rfl) (decide_eq_false (by omega)) _) ?_
          simp only [Act.put, List.setIfInBounds_toArray, List.set_cons_zero, List.set_cons_succ]
          refine wpList_runTo rfl (some 33) rfl (.bool false) wr (by kernel_rfl) ?_
          simp only [Act.put, List.setIfInBounds_toArray, List.set_cons_zero, List.set_cons_succ]
          refine wpList_skipG (by kernel_rfl) ?_
          simp only [Act.put, List.setIfInBounds_toArray, List.set_cons_zero, List.set_cons_succ]
          refine wpList_skipG (by kernel_rfl) ?_
          simp only [Act.put, List.setIfInBounds_toArray, List.set_cons_zero, List.set_cons_succ]
          refine wpList_skipG (by kernel_rfl) ?_
          simp only [Act.put, List.setIfInBounds_toArray, List.set_cons_zero, List.set_cons_succ]
          refine wpList_runTo rfl (some 37) rfl (.bool false) wr (by kernel_rfl) ?_
          simp only [Act.put, List.setIfInBounds_toArray, List.set_cons_zero, List.set_cons_succ]
          refine wpList_runTo rfl (some 38) rfl (.bool false) wr (by kernel_rfl) ?_
          simp only [Act.put, List.setIfInBounds_toArray, List.set_cons_zero, List.set_cons_succ]
          refine wpList_skipG (by kernel_rfl) ?_
          simp only [Act.put, List.setIfInBounds_toArray, List.set_cons_zero, List.set_cons_succ]
          refine wpList_skipG (by kernel_rfl) ?_
          simp only [Act.put, List.setIfInBounds_toArray, List.set_cons_zero, List.set_cons_succ]
          refine wpList_skipG (by kernel_rfl) ?_
          simp only [Act.put, List.setIfInBounds_toArray, List.set_cons_zero, List.set_cons_succ]
          refine wpList_runTo rfl (some 42) rfl (.bool false) wr (by kernel_rfl) ?_
          simp only [Act.put, List.setIfInBounds_toArray, List.set_cons_zero, List.set_cons_succ]
          refine wpList_nil ?_
          refine hK _ _ ?_
          clear hK
          have HF : Hid (∃ F, FR w wr v9 F ∧ FV b s r F) := by
            refine ⟨T, ?_, HT.out.1⟩
            have hd := HL.out.2.done (by rintro ⟨h, _⟩; omega)
            rw [← hd]
            exact ⟨HL.out.1.rF, HL.out.1.bel, fun q hq => (HL.out.1.o9 q hq).1⟩
          clear HL HT
          go_wp2
          go_ret
          exact ⟨_, rfl, HF⟩

        ·
          by_cases hB : B.length = 0
          · go_upto_region 6 with fail
            rename_i K hK
            refine wp_region_lit ?_
            refine wpList_runTo rfl (some 31) rfl (.int .i64 left) wr (by kernel_rfl) ?_
            simp only [Act.put, List.setIfInBounds_toArray, List.set_cons_zero, List.set_cons_succ]
            refine wpList_runTo rfl (some 32) rfl (.bool true) wr (by exact gt02_run (p := left) (.tmp 31) rfl (by kernel_rfl) (decide_eq_true (by omega)) _) ?_
            simp only [Act.put, List.setIfInBounds_toArray, List.set_cons_zero, List.set_cons_succ]
            refine wpList_runTo rfl (some 33) rfl (.bool true) wr (by kernel_rfl) ?_
            simp only [Act.put, List.setIfInBounds_toArray, List.set_cons_zero, List.set_cons_succ]
            refine wpList_runToG (by kernel_rfl) (some 34) rfl (.slice a7 B.length c7) wr (by kernel_rfl) ?_
            simp only [Act.put, List.setIfInBounds_toArray, List.set_cons_zero, List.set_cons_succ]
            refine wpList_runToG (by kernel_rfl) (some 35) rfl (.int .i64 (B.length : Int)) wr (by exact lenW_run (v := .slice a7 B.length c7) (ao := a7) (n := B.length) (c := c7) rfl (.tmp 34) rfl (by kernel_rfl) _) ?_
            simp only [Act.put, List.setIfInBounds_toArray, List.set_cons_zero, List.set_cons_succ]
            refine wpList_runToG (by kernel_rfl) (some 36) rfl (.bool false) wr (by exact gt0_run (p := (B.length : Int)) (.tmp 35) rfl (by kernel_rfl) (decide_eq_false (by omega)) _) ?_
            simp only [Act.put, List.setIfInBounds_toArray, List.set_cons_zero, List.set_cons_succ]
            refine wpList_runTo rfl (some 37) rfl (.bool false) wr (by exact pick_run (.tmp 33) (.tmp 36) rfl (by kernel_rfl) (by kernel_rfl) _) ?_
            simp only [Act.put, List.setIfInBounds_toArray, List.set_cons_zero, List.set_cons_succ]
            refine wpList_runTo rfl (some 38) rfl (.bool false) wr (by kernel_rfl) ?_
            simp only [Act.put, List.setIfInBounds_toArray, List.set_cons_zero, List.set_cons_succ]
            refine wpList_skipG (by kernel_rfl) ?_
            simp only [Act.put, List.setIfInBounds_toArray, List.set_cons_zero, List.set_cons_succ]
            refine wpList_skipG (by kernel_rfl) ?_
            simp only [Act.put, List.setIfInBounds_toArray, List.set_cons_zero, List.set_cons_succ]
            refine wpList_skipG (by kernel_rfl) ?_
            simp only [Act.put, List.setIfInBounds_toArray, List.set_cons_zero, List.set_cons_succ]
            refine wpList_runTo rfl (some 42) rfl (.bool false) wr (by kernel_rfl) ?_
            simp only [Act.put, List.setIfInBounds_toArray, List.set_cons_zero, List.set_cons_succ]
            refine wpList_nil ?_
            refine hK _ _ ?_
            clear hK
            have HF : Hid (∃ F, FR w wr v9 F ∧ FV b s r F) := by
              refine ⟨T, ?_, HT.out.1⟩
              have hd := HL.out.2.done (by rintro ⟨_, h, _⟩; exact h (List.length_eq_zero_iff.1 hB))
              rw [← hd]
              exact ⟨HL.out.1.rF, HL.out.1.bel, fun q hq => (HL.out.1.o9 q hq).1⟩
            clear HL HT
            go_wp2
            go_ret
            exact ⟨_, rfl, HF⟩

          ·
            by_cases hS : S.length = 0
            · go_upto_region 6 with fail
              rename_i K hK
              refine wp_region_lit ?_
              refine wpList_runTo rfl (some 31) rfl (.int .i64 left) wr (by kernel_rfl) ?_
              simp only [Act.put, List.setIfInBounds_toArray, List.set_cons_zero, List.set_cons_succ]
              refine wpList_runTo rfl (some 32) rfl (.bool true) wr (by exact gt02_run (p := left) (.tmp 31) rfl (by kernel_rfl) (decide_eq_true (by omega)) _) ?_
              simp only [Act.put, List.setIfInBounds_toArray, List.set_cons_zero, List.set_cons_succ]
              refine wpList_runTo rfl (some 33) rfl (.bool true) wr (by kernel_rfl) ?_
              simp only [Act.put, List.setIfInBounds_toArray, List.set_cons_zero, List.set_cons_succ]
              refine wpList_runToG (by kernel_rfl) (some 34) rfl (.slice a7 B.length c7) wr (by kernel_rfl) ?_
              simp only [Act.put, List.setIfInBounds_toArray, List.set_cons_zero, List.set_cons_succ]
              refine wpList_runToG (by kernel_rfl) (some 35) rfl (.int .i64 (B.length : Int)) wr (by exact lenW_run (v := .slice a7 B.length c7) (ao := a7) (n := B.length) (c := c7) rfl (.tmp 34) rfl (by kernel_rfl) _) ?_
              simp only [Act.put, List.setIfInBounds_toArray, List.set_cons_zero, List.set_cons_succ]
              refine wpList_runToG (by kernel_rfl) (some 36) rfl (.bool true) wr (by exact gt0_run (p := (B.length : Int)) (.tmp 35) rfl (by kernel_rfl) (decide_eq_true (by omega)) _) ?_
              simp only [Act.put, List.setIfInBounds_toArray, List.set_cons_zero, List.set_cons_succ]
              refine wpList_runTo rfl (some 37) rfl (.bool true) wr (by exact pick_run (.tmp 33) (.tmp 36) rfl (by kernel_rfl) (by kernel_rfl) _) ?_
              simp only [Act.put, List.setIfInBounds_toArray, List.set_cons_zero, List.set_cons_succ]
              refine wpList_runTo rfl (some 38) rfl (.bool true) wr (by kernel_rfl) ?_
              simp only [Act.put, List.setIfInBounds_toArray, List.set_cons_zero, List.set_cons_succ]
              refine wpList_runToG (by kernel_rfl) (some 39) rfl (.slice a8 S.length c8) wr (by kernel_rfl) ?_
              simp only [Act.put, List.setIfInBounds_toArray, List.set_cons_zero, List.set_cons_succ]
              refine wpList_runToG (by kernel_rfl) (some 40) rfl (.int .i64 (S.length : Int)) wr (by exact lenW_run (v := .slice a8 S.length c8) (ao := a8) (n := S.length) (c := c8) rfl (.tmp 39) rfl (by kernel_rfl) _) ?_
              simp only [Act.put, List.setIfInBounds_toArray, List.set_cons_zero, List.set_cons_succ]
              refine wpList_runToG (by kernel_rfl) (some 41) rfl (.bool false) wr (by exact gt0_run (p := (S.length : Int)) (.tmp 40) rfl (by kernel_rfl) (decide_eq_false (by omega)) _) ?_
              simp only [Act.put, List.setIfInBounds_toArray, List.set_cons_zero, List.set_cons_succ]
              refine wpList_runTo rfl (some 42) rfl (.bool false) wr (by exact pick_run (.tmp 38) (.tmp 41) rfl (by kernel_rfl) (by kernel_rfl) _) ?_
              simp only [Act.put, List.setIfInBounds_toArray, List.set_cons_zero, List.set_cons_succ]
              refine wpList_nil ?_
              refine hK _ _ ?_
              clear hK
              have HF : Hid (∃ F, FR w wr v9 F ∧ FV b s r F) := by
                refine ⟨T, ?_, HT.out.1⟩
                have hd := HL.out.2.done (by rintro ⟨_, _, h⟩; exact h (List.length_eq_zero_iff.1 hS))
                rw [← hd]
                exact ⟨HL.out.1.rF, HL.out.1.bel, fun q hq => (HL.out.1.o9 q hq).1⟩
              clear HL HT
              go_wp2
              go_ret
              exact ⟨_, rfl, HF⟩

            ·
              cases B with
              | nil => exact absurd rfl hB
              | cons v B =>
              cases S with
              | nil => exact absurd rfl hS
              | cons u S =>
              have hl0 : 0 < left := by omega
              obtain ⟨nB, hnB⟩ : ∃ nB, nB = (v :: B).length := ⟨_, rfl⟩
              obtain ⟨nS, hnS⟩ : ∃ nS, nS = (u :: S).length := ⟨_, rfl⟩
              have hB0 : 0 < nB := by rw [hnB]; simp
              have hS0 : 0 < nS := by rw [hnS]; simp
              have HNB : Hid (nB = (v :: B).length ∧ nS = (u :: S).length) := ⟨hnB, hnS⟩
              have HRb : Hid (RowAt wr 69 4 (.slice a7 nB c7) nB (flatL wL (v :: B)) ∧ RowAt wr 69 4 (.slice a8 nS c8) nS (flatL wL (u :: S))) := by rw [hnB, hnS]; exact ⟨HL.out.1.rB, HL.out.1.rS⟩
              rw [← hnB, ← hnS] at HL ⊢
              clear hnB hnS hB hS
              obtain ⟨g7, o7, x7, y7, ea7, _⟩ := HRb.out.1.more hB0
              obtain ⟨g8, o8, x8, y8, ea8, _⟩ := HRb.out.2.more hS0
              injection ea7 with e1 _ e2
              injection ea8 with e3 _ e4
              subst e1 e2 e3 e4
              go_upto_region 6 with fail
              rename_i K hK
              refine wp_region_lit ?_
              refine wpList_runTo rfl (some 31) rfl (.int .i64 left) wr (by kernel_rfl) ?_
              simp only [Act.put, List.setIfInBounds_toArray, List.set_cons_zero, List.set_cons_succ]
              refine wpList_runTo rfl (some 32) rfl (.bool true) wr (by exact gt02_run (p := left) (.tmp 31) rfl (by kernel_rfl) (decide_eq_true (by omega)) _) ?_
              simp only [Act.put, List.setIfInBounds_toArray, List.set_cons_zero, List.set_cons_succ]
              refine wpList_runTo rfl (some 33) rfl (.bool true) wr (by kernel_rfl) ?_
              simp only [Act.put, List.setIfInBounds_toArray, List.set_cons_zero, List.set_cons_succ]
              refine wpList_runToG (by kernel_rfl) (some 34) rfl (.slice (some ⟨g7, o7, none⟩) nB c7) wr (by kernel_rfl) ?_
              simp only [Act.put, List.setIfInBounds_toArray, List.set_cons_zero, List.set_cons_succ]
              refine wpList_runToG (by kernel_rfl) (some 35) rfl (.int .i64 (nB : Int)) wr (by exact lenW_run (v := .slice (some ⟨g7, o7, none⟩) nB c7) (ao := some ⟨g7, o7, none⟩) (n := nB) (c := c7) rfl (.tmp 34) rfl (by kernel_rfl) _) ?_
              simp only [Act.put, List.setIfInBounds_toArray, List.set_cons_zero, List.set_cons_succ]
              refine wpList_runToG (by kernel_rfl) (some 36) rfl (.bool true) wr (by exact gt0_run (p := (nB : Int)) (.tmp 35) rfl (by kernel_rfl) (decide_eq_true (by omega)) _) ?_
              simp only [Act.put, List.setIfInBounds_toArray, List.set_cons_zero, List.set_cons_succ]
              refine wpList_runTo rfl (some 37) rfl (.bool true) wr (by exact pick_run (.tmp 33) (.tmp 36) rfl (by kernel_rfl) (by kernel_rfl) _) ?_
              simp only [Act.put, List.setIfInBounds_toArray, List.set_cons_zero, List.set_cons_succ]
              refine wpList_runTo rfl (some 38) rfl (.bool true) wr (by kernel_rfl) ?_
              simp only [Act.put, List.setIfInBounds_toArray, List.set_cons_zero, List.set_cons_succ]
              refine wpList_runToG (by kernel_rfl) (some 39) rfl (.slice (some ⟨g8, o8, none⟩) nS c8) wr (by kernel_rfl) ?_
              simp only [Act.put, List.setIfInBounds_toArray, List.set_cons_zero, List.set_cons_succ]
              refine wpList_runToG (by kernel_rfl) (some 40) rfl (.int .i64 (nS : Int)) wr (by exact lenW_run (v := .slice (some ⟨g8, o8, none⟩) nS c8) (ao := some ⟨g8, o8, none⟩) (n := nS) (c := c8) rfl (.tmp 39) rfl (by kernel_rfl) _) ?_
              simp only [Act.put, List.setIfInBounds_toArray, List.set_cons_zero, List.set_cons_succ]
              refine wpList_runToG (by kernel_rfl) (some 41) rfl (.bool true) wr (by exact gt0_run (p := (nS : Int)) (.tmp 40) rfl (by kernel_rfl) (decide_eq_true (by omega)) _) ?_
              simp only [Act.put, List.setIfInBounds_toArray, List.set_cons_zero, List.set_cons_succ]
              refine wpList_runTo rfl (some 42) rfl (.bool true) wr (by exact pick_run (.tmp 38) (.tmp 41) rfl (by kernel_rfl) (by kernel_rfl) _) ?_
              simp only [Act.put, List.setIfInBounds_toArray, List.set_cons_zero, List.set_cons_succ]
              refine wpList_nil ?_
              refine hK _ _ ?_
              clear hK
              have HM : Hid (1 ≤ mnF left v u ∧ mnF left v u ≤ left ∧ mnF left v u ≤ v.q ∧ mnF left v u ≤ u.q ∧ (mnF left v u = left ∨ mnF left v u = v.q ∨ mnF left v u = u.q) ∧ v.q ≤ 1000000 ∧ u.q ≤ 1000000 ∧ F.length ≤ N) := by
                have k1 := HL.out.2.ob v List.mem_cons_self
                have k2 := HL.out.2.os u List.mem_cons_self
                obtain ⟨m1, m2, m3, m4, m5⟩ := mnF_bd hl0 k1.1 k2.1
                refine ⟨m1, m2, m3, m4, m5, k1.2, k2.2, ?_⟩
                rcases HL.out.2.len with ⟨_, h⟩ | h <;> omega
              have HLs : Hid (FI w wr b5 r (.slice (some ⟨g7, o7, none⟩) nB c7) (.slice (some ⟨g8, o8, none⟩) nS c8) v9 (v :: B) (u :: S) F ∧ FS r.price T N (left - mnF left v u) (lessL (mnF left v u) (v :: B)) (lessL (mnF left v u) (u :: S)) (F ++ [⟨v.id, u.id, r.price, mnF left v u⟩])) := ⟨HL.out.1, HL.out.2.step hl0⟩
              clear HL HRb
              obtain ⟨mn, hmn⟩ : ∃ mn, mn = mnF left v u := ⟨_, rfl⟩
              have HMn : Hid (mn = mn2 (mn2 left v.q) u.q) := hmn
              rw [← hmn] at HM HLs
              clear hmn
              -- how much
              go_upto_region 7 with fail
              rename_i K hK
              refine wp_region_held (S := fun w' => Below wr.heap.size wr w') (by kernel_rfl) ?_
              change wpAnyH _ _ _ _ _ _ _ _ (World.drew _)
              have hS7 : Below wr.heap.size wr wr.drew := (Below.refl _ wr).drew
              have row7 : ∀ w', Below wr.heap.size wr w' → RowAt w' 69 4 (.slice (some ⟨g7, o7, none⟩) nB c7) nB (flatL wL (v :: B)) := fun w' hw => by
                have := (HLs.out.1.below hw).rB
                rwa [← HNB.out.1] at this
              have row8 : ∀ w', Below wr.heap.size wr w' → RowAt w' 69 4 (.slice (some ⟨g8, o8, none⟩) nS c8) nS (flatL wL (u :: S)) := fun w' hw => by
                have := (HLs.out.1.below hw).rS
                rwa [← HNB.out.2] at this
              generalize wr.drew = Z0 at *
              refine takeR (i := 0) (v := .int .i64 left) (some 43) rfl rfl (by kernel_rfl) (by kernel_rfl) (by kernel_rfl) (fun _ _ _ h => h) (Or.inl ⟨by kernel_rfl, fun w' hSw => by kernel_rfl⟩) hS7 ?_
              simp only [Act.put, List.setIfInBounds_toArray, List.set_cons_zero, List.set_cons_succ]
              refine takeR (i := 1) (v := .slice (some ⟨g7, o7, none⟩) nB c7) (some 44) rfl rfl (by kernel_rfl) (by kernel_rfl) (by kernel_rfl) (fun _ _ _ h => h) (Or.inl ⟨by kernel_rfl, fun w' hSw => by kernel_rfl⟩) hS7 ?_
              simp only [Act.put, List.setIfInBounds_toArray, List.set_cons_zero, List.set_cons_succ]
              refine takeR (i := 2) (v := .pointer (some ⟨g7, o7 + 0 * 4, none⟩)) (some 45) rfl rfl (by kernel_rfl) (by kernel_rfl) (by kernel_rfl) (fun _ _ _ h => h) (Or.inl ⟨by kernel_rfl, fun w' hSw => by exact ixW_run (i := 0) (n := nB) (c := c7) (.tmp 44) (.const (.int .i64 0)) rfl (by kernel_rfl) rfl hB0 w'⟩) hS7 ?_
              simp only [Act.put, List.setIfInBounds_toArray, List.set_cons_zero, List.set_cons_succ]
              refine takeR (i := 3) (v := .pointer (some ⟨g7, o7 + 3, none⟩)) (some 46) rfl rfl (by kernel_rfl) (by kernel_rfl) (by kernel_rfl) (fun _ _ _ h => h) (Or.inl ⟨by kernel_rfl, fun w' hSw => by kernel_rfl⟩) hS7 ?_
              simp only [Act.put, List.setIfInBounds_toArray, List.set_cons_zero, List.set_cons_succ]
              refine takeR (i := 4) (v := .int .i64 v.q) (some 47) rfl rfl (by kernel_rfl) (by kernel_rfl) (by kernel_rfl) (fun _ _ _ h => h) (Or.inl ⟨by kernel_rfl, fun w' hSw => by exact ldN_run (.inl rfl) (.tmp 46) rfl (by kernel_rfl) ((row7 _ hSw).cell rfl (j := 3) rfl)⟩) hS7 ?_
              simp only [Act.put, List.setIfInBounds_toArray, List.set_cons_zero, List.set_cons_succ]
              refine takeR (i := 5) (v := .slice (some ⟨g8, o8, none⟩) nS c8) (some 48) rfl rfl (by kernel_rfl) (by kernel_rfl) (by kernel_rfl) (fun _ _ _ h => h) (Or.inl ⟨by kernel_rfl, fun w' hSw => by kernel_rfl⟩) hS7 ?_
              simp only [Act.put, List.setIfInBounds_toArray, List.set_cons_zero, List.set_cons_succ]
              refine takeR (i := 6) (v := .pointer (some ⟨g8, o8 + 0 * 4, none⟩)) (some 49) rfl rfl (by kernel_rfl) (by kernel_rfl) (by kernel_rfl) (fun _ _ _ h => h) (Or.inl ⟨by kernel_rfl, fun w' hSw => by exact ixW_run (i := 0) (n := nS) (c := c8) (.tmp 48) (.const (.int .i64 0)) rfl (by kernel_rfl) rfl hS0 w'⟩) hS7 ?_
              simp only [Act.put, List.setIfInBounds_toArray, List.set_cons_zero, List.set_cons_succ]
              refine takeR (i := 7) (v := .pointer (some ⟨g8, o8 + 3, none⟩)) (some 50) rfl rfl (by kernel_rfl) (by kernel_rfl) (by kernel_rfl) (fun _ _ _ h => h) (Or.inl ⟨by kernel_rfl, fun w' hSw => by kernel_rfl⟩) hS7 ?_
              simp only [Act.put, List.setIfInBounds_toArray, List.set_cons_zero, List.set_cons_succ]
              refine takeR (i := 8) (v := .int .i64 u.q) (some 51) rfl rfl (by kernel_rfl) (by kernel_rfl) (by kernel_rfl) (fun _ _ _ h => h) (Or.inl ⟨by kernel_rfl, fun w' hSw => by exact ldN_run (.inl rfl) (.tmp 50) rfl (by kernel_rfl) ((row8 _ hSw).cell rfl (j := 3) rfl)⟩) hS7 ?_
              simp only [Act.put, List.setIfInBounds_toArray, List.set_cons_zero, List.set_cons_succ]
              refine takeR (i := 9) (v := .int .i64 (mn2 (mn2 left v.q) u.q)) (some 52) rfl rfl (by kernel_rfl) (by kernel_rfl) (by kernel_rfl) (fun _ _ _ h => h) (Or.inl ⟨by kernel_rfl, fun w' hSw => by exact min3_run (.tmp 43) (.tmp 47) (.tmp 51) rfl (by kernel_rfl) (by kernel_rfl) (by kernel_rfl) w'⟩) hS7 ?_
              simp only [Act.put, List.setIfInBounds_toArray, List.set_cons_zero, List.set_cons_succ]
              rw [← HMn.out]
              refine takeR (i := 10) (v := .int .i64 mn) (some 11) rfl rfl (by kernel_rfl) (by kernel_rfl) (by kernel_rfl) (fun _ _ _ h => h) (Or.inl ⟨by kernel_rfl, fun w' hSw => by kernel_rfl⟩) hS7 ?_
              simp only [Act.put, List.setIfInBounds_toArray, List.set_cons_zero, List.set_cons_succ]
              refine wpAnyH_done (by kernel_rfl) ?_ _
              have HL8 : Hid (FI w Z0 b5 r (.slice (some ⟨g7, o7, none⟩) nB c7) (.slice (some ⟨g8, o8, none⟩) nS c8) v9 (v :: B) (u :: S) F) := HLs.out.1.below hS7
              have HS8 : Hid (FS r.price T N (left - mn) (lessL mn (v :: B)) (lessL mn (u :: S)) (F ++ [⟨v.id, u.id, r.price, mn⟩])) := HLs.out.2
              clear HLs hS7 row7 row8 HMn
              generalize Z0 = W2 at *
              refine hK _ _ ?_
              clear hK
              -- the fill
              go_upto_region 8 with fail
              rename_i K hK
              refine wp_region_held (S := fun w' => Fr W2 w' (fun x => v9.ownBlock = some x)) (by kernel_rfl) ?_
              change wpAnyH _ _ _ _ _ _ _ _ (World.drew _)
              have hSa : Fr W2 W2.drew (fun x => v9.ownBlock = some x) := (Fr.refl W2 _).drew
              have row7 : ∀ w', Fr W2 w' (fun x => v9.ownBlock = some x) → RowAt w' 69 4 (.slice (some ⟨g7, o7, none⟩) nB c7) nB (flatL wL (v :: B)) := fun w' hw => by
                have := HL8.out.rB.fr hw (fun q hq e => HL8.out.d79 q hq e)
                rwa [← HNB.out.1] at this
              have row8 : ∀ w', Fr W2 w' (fun x => v9.ownBlock = some x) → RowAt w' 69 4 (.slice (some ⟨g8, o8, none⟩) nS c8) nS (flatL wL (u :: S)) := fun w' hw => by
                have := HL8.out.rS.fr hw (fun q hq e => HL8.out.d89 q hq e)
                rwa [← HNB.out.2] at this
              have k5 : ∀ w', Fr W2 w' (fun x => v9.ownBlock = some x) → Blk w' b5 28 r.cs := fun w' hw => (hw.block b5 HL8.out.k5.lt (fun e => (HL8.out.o9 b5 e).2 rfl)).trans HL8.out.k5
              have hd2 : Below W2.heap.size W2 W2.drew := (Below.refl _ W2).drew
              generalize W2.drew = Z0 at *
              refine takeR (i := 0) (v := v9) (some 53) rfl rfl (by kernel_rfl) (by kernel_rfl) (by kernel_rfl) (fun _ _ _ h => h) (Or.inl ⟨by kernel_rfl, fun w' hSw => by kernel_rfl⟩) hSa ?_
              simp only [Act.put, List.setIfInBounds_toArray, List.set_cons_zero, List.set_cons_succ]
              refine takeR (i := 1) (v := .slice (some ⟨g7, o7, none⟩) nB c7) (some 54) rfl rfl (by kernel_rfl) (by kernel_rfl) (by kernel_rfl) (fun _ _ _ h => h) (Or.inl ⟨by kernel_rfl, fun w' hSw => by kernel_rfl⟩) hSa ?_
              simp only [Act.put, List.setIfInBounds_toArray, List.set_cons_zero, List.set_cons_succ]
              refine takeR (i := 2) (v := .pointer (some ⟨g7, o7 + 0 * 4, none⟩)) (some 55) rfl rfl (by kernel_rfl) (by kernel_rfl) (by kernel_rfl) (fun _ _ _ h => h) (Or.inl ⟨by kernel_rfl, fun w' hSw => by exact ixW_run (i := 0) (n := nB) (c := c7) (.tmp 54) (.const (.int .i64 0)) rfl (by kernel_rfl) rfl hB0 w'⟩) hSa ?_
              simp only [Act.put, List.setIfInBounds_toArray, List.set_cons_zero, List.set_cons_succ]
              refine takeR (i := 3) (v := .pointer (some ⟨g7, o7 + 0, none⟩)) (some 56) rfl rfl (by kernel_rfl) (by kernel_rfl) (by kernel_rfl) (fun _ _ _ h => h) (Or.inl ⟨by kernel_rfl, fun w' hSw => by kernel_rfl⟩) hSa ?_
              simp only [Act.put, List.setIfInBounds_toArray, List.set_cons_zero, List.set_cons_succ]
              refine takeR (i := 4) (v := .int .i64 v.id) (some 57) rfl rfl (by kernel_rfl) (by kernel_rfl) (by kernel_rfl) (fun _ _ _ h => h) (Or.inl ⟨by kernel_rfl, fun w' hSw => by exact ldN_run (.inr rfl) (.tmp 56) rfl (by kernel_rfl) ((row7 _ hSw).cell rfl (j := 0) rfl)⟩) hSa ?_
              simp only [Act.put, List.setIfInBounds_toArray, List.set_cons_zero, List.set_cons_succ]
              refine takeR (i := 5) (v := .slice (some ⟨g8, o8, none⟩) nS c8) (some 58) rfl rfl (by kernel_rfl) (by kernel_rfl) (by kernel_rfl) (fun _ _ _ h => h) (Or.inl ⟨by kernel_rfl, fun w' hSw => by kernel_rfl⟩) hSa ?_
              simp only [Act.put, List.setIfInBounds_toArray, List.set_cons_zero, List.set_cons_succ]
              refine takeR (i := 6) (v := .pointer (some ⟨g8, o8 + 0 * 4, none⟩)) (some 59) rfl rfl (by kernel_rfl) (by kernel_rfl) (by kernel_rfl) (fun _ _ _ h => h) (Or.inl ⟨by kernel_rfl, fun w' hSw => by exact ixW_run (i := 0) (n := nS) (c := c8) (.tmp 58) (.const (.int .i64 0)) rfl (by kernel_rfl) rfl hS0 w'⟩) hSa ?_
              simp only [Act.put, List.setIfInBounds_toArray, List.set_cons_zero, List.set_cons_succ]
              refine takeR (i := 7) (v := .pointer (some ⟨g8, o8 + 0, none⟩)) (some 60) rfl rfl (by kernel_rfl) (by kernel_rfl) (by kernel_rfl) (fun _ _ _ h => h) (Or.inl ⟨by kernel_rfl, fun w' hSw => by kernel_rfl⟩) hSa ?_
              simp only [Act.put, List.setIfInBounds_toArray, List.set_cons_zero, List.set_cons_succ]
              refine takeR (i := 8) (v := .int .i64 u.id) (some 61) rfl rfl (by kernel_rfl) (by kernel_rfl) (by kernel_rfl) (fun _ _ _ h => h) (Or.inl ⟨by kernel_rfl, fun w' hSw => by exact ldN_run (.inr rfl) (.tmp 60) rfl (by kernel_rfl) ((row8 _ hSw).cell rfl (j := 0) rfl)⟩) hSa ?_
              simp only [Act.put, List.setIfInBounds_toArray, List.set_cons_zero, List.set_cons_succ]
              refine takeR (i := 9) (v := .pointer (some ⟨b5, 0, none⟩)) (some 62) rfl rfl (by kernel_rfl) (by kernel_rfl) (by kernel_rfl) (fun _ _ _ h => h) (Or.inl ⟨by kernel_rfl, fun w' hSw => by kernel_rfl⟩) hSa ?_
              simp only [Act.put, List.setIfInBounds_toArray, List.set_cons_zero, List.set_cons_succ]
              refine takeR (i := 10) (v := .int .i64 r.price) (some 63) rfl rfl (by kernel_rfl) (by kernel_rfl) (by kernel_rfl) (fun _ _ _ h => h) (Or.inl ⟨by kernel_rfl, fun w' hSw => by exact ldN_run (.inl rfl) (.tmp 62) rfl (by kernel_rfl) ((k5 _ hSw).cell 0)⟩) hSa ?_
              simp only [Act.put, List.setIfInBounds_toArray, List.set_cons_zero, List.set_cons_succ]
              refine takeR (i := 11) (v := .int .i64 mn) (some 64) rfl rfl (by kernel_rfl) (by kernel_rfl) (by kernel_rfl) (fun _ _ _ h => h) (Or.inl ⟨by kernel_rfl, fun w' hSw => by kernel_rfl⟩) hSa ?_
              simp only [Act.put, List.setIfInBounds_toArray, List.set_cons_zero, List.set_cons_succ]
              refine takeR (i := 12) (v := .agg #[.int .i64 v.id, .int .i64 u.id, .int .i64 0, .int .i64 r.price, .int .i64 mn]) (some 65) rfl rfl (by kernel_rfl) (by kernel_rfl) (by kernel_rfl) (fun _ _ _ h => h) (Or.inl ⟨by kernel_rfl, fun w' hSw => by exact buildFl_run (.tmp 57) (.tmp 61) (.tmp 63) (.tmp 64) rfl (by kernel_rfl) (by kernel_rfl) (by kernel_rfl) (by kernel_rfl) w'⟩) hSa ?_
              simp only [Act.put, List.setIfInBounds_toArray, List.set_cons_zero, List.set_cons_succ]
              refine wpAnyH_ready (rs := [13]) (by kernel_rfl) (by simp) ?_
              refine AllReadyH.cons rfl (fun K1 hK1 => ?_) AllReadyH.nil
              rw [if_pos (by kernel_rfl)]
              refine valR (d := some 66) rfl (.slice (some ⟨Z0.heap.size, 0, none⟩) 1 1) (w' := Z0.alloc (.cells #[.int .i64 v.id, .int .i64 u.id, .int .i64 0, .int .i64 r.price, .int .i64 mn] 39)) (buildFs_run (.tmp 65) rfl (by kernel_rfl) _) ?_
              have hal : Below Z0.heap.size Z0 (Z0.alloc (.cells #[.int .i64 v.id, .int .i64 u.id, .int .i64 0, .int .i64 r.price, .int .i64 mn] 39)) := (Below.refl _ Z0).alloc (Nat.le_refl _) _
              have hSb : Fr W2 (Z0.alloc (.cells #[.int .i64 v.id, .int .i64 u.id, .int .i64 0, .int .i64 r.price, .int .i64 mn] 39)) (fun x => v9.ownBlock = some x) := Fr.of_below (below_step hd2 hal) _
              have HLa : Hid (FI w (Z0.alloc (.cells #[.int .i64 v.id, .int .i64 u.id, .int .i64 0, .int .i64 r.price, .int .i64 mn] 39)) b5 r (.slice (some ⟨g7, o7, none⟩) nB c7) (.slice (some ⟨g8, o8, none⟩) nS c8) v9 (v :: B) (u :: S) F) := HL8.out.below (below_step hd2 hal)
              have hnw : Blk (Z0.alloc (.cells #[.int .i64 v.id, .int .i64 u.id, .int .i64 0, .int .i64 r.price, .int .i64 mn] 39)) Z0.heap.size 39 #[.int .i64 v.id, .int .i64 u.id, .int .i64 0, .int .i64 r.price, .int .i64 mn] := Blk.new _ _ _
              refine hK1.out _ _ hSb (fun hzz => ?_)
              clear hK1 hzz hal hd2
              simp only [Act.put, List.setIfInBounds_toArray, List.set_cons_zero, List.set_cons_succ]
              generalize Z0.alloc (.cells #[.int .i64 v.id, .int .i64 u.id, .int .i64 0, .int .i64 r.price, .int .i64 mn] 39) = Z1 at *
              generalize Z0.heap.size = ba at *
              refine wpAnyH_ready (rs := [14]) (by kernel_rfl) (by simp) ?_
              refine AllReadyH.cons rfl (fun K1 hK1 => ?_) AllReadyH.nil
              rw [if_pos (by kernel_rfl)]
              refine appR Z1 (d := some 67) rfl (.tmp 53) (.tmp 66) 36 rfl 39 i0 _ 5 40 Try.underlying36 HI.out.1 HI.out.2.1 HI.out.2.2.1 HI.out.2.2.2 (by rfl) v9 F.length (flatL flL F) (by kernel_rfl) HLa.out.rF ⟨ba, 0, none⟩ 1 1 (flL ⟨v.id, u.id, r.price, mn⟩) (by kernel_rfl) (by rfl) (fun j u hj => by rw [Addr.add_mid, Nat.zero_add, hnw.cell]; simpa [flL] using hj) (fun x hx => by simp only [flL, List.mem_cons, List.mem_nil_iff, or_false] at hx; rcases hx with rfl | rfl | rfl | rfl | rfl <;> rfl) (Or.inl (by omega)) (by have := HM.out.2.2.2.2.2.2.2; have := HT.out.2; unfold maxLen; omega) (by have := HM.out.2.2.2.2.2.2.2; have := HT.out.2; omega) ?_
              intro v5 w5 hrow hfr hnew
              have hSc : Fr W2 w5 (fun x => v9.ownBlock = some x) := hSb.trans hfr (fun _ _ h => h.elim id id)
              refine hK1.out _ _ hSc (fun hzz => ?_)
              clear hK1 hzz
              simp only [Act.put, List.setIfInBounds_toArray, List.set_cons_zero, List.set_cons_succ]
              have HLb : Hid (FI w w5 b5 r (.slice (some ⟨g7, o7, none⟩) nB c7) (.slice (some ⟨g8, o8, none⟩) nS c8) v5 (v :: B) (u :: S) (F ++ [⟨v.id, u.id, r.price, mn⟩])) := HLa.out.app hrow hfr hnew
              refine takeR (i := 15) (v := v5) (some 9) rfl rfl (by kernel_rfl) (by kernel_rfl) (by kernel_rfl) (fun _ _ _ h => h) (Or.inl ⟨by kernel_rfl, fun w' hSw => by kernel_rfl⟩) hSc ?_
              simp only [Act.put, List.setIfInBounds_toArray, List.set_cons_zero, List.set_cons_succ]
              refine wpAnyH_done (by kernel_rfl) ?_ _
              clear hSa hSb hSc row7 row8 k5 HL8 HLa hnw hrow hfr hnew Z0 Z1
              refine hK _ _ ?_
              clear hK
              have hm1 := HM.out
              obtain ⟨n7, hn7⟩ : ∃ n7, n7 = (lessL mn (v :: B)).length := ⟨_, rfl⟩
              obtain ⟨n8, hn8⟩ : ∃ n8, n8 = (lessL mn (u :: S)).length := ⟨_, rfl⟩
              have HMu : Hid (n7 ≤ nB ∧ n8 ≤ nS ∧ (mn = left ∨ n7 + 1 = nB ∨ n8 + 1 = nS) ∧ n7 = (lessL mn (v :: B)).length ∧ n8 = (lessL mn (u :: S)).length) := by
                have l1 := lessL_len (q := mn) (v := v) (l := B)
                have l2 := lessL_len (q := mn) (v := u) (l := S)
                have k1 := HNB.out.1
                have k2 := HNB.out.2
                simp only [List.length_cons] at k1 k2
                refine ⟨by omega, by omega, ?_, hn7, hn8⟩
                rcases hm1.2.2.2.2.1 with m5 | m5 | m5
                · exact .inl m5
                · have := l1.2 m5; exact .inr (.inl (by omega))
                · have := l2.2 m5; exact .inr (.inr (by omega))
              have hc7 := less_any (w := w5) (g := g7) (o := o7) (n := nB) (c := c7) (v := v) (l := B) (by have := HLb.out.rB; rwa [← HNB.out.1] at this) (by have := HNB.out.1; simpa using this) mn (by omega)
              rw [← hn7] at hc7
              go_upto_region 9 with fail
              rename_i K hK
              refine wp_region_lit ?_
              refine wpList_runTo rfl (some 68) rfl (.int .i64 left) w5 (by kernel_rfl) ?_
              simp only [Act.put, List.setIfInBounds_toArray, List.set_cons_zero, List.set_cons_succ]
              refine wpList_runTo rfl (some 69) rfl (.int .i64 mn) w5 (by kernel_rfl) ?_
              simp only [Act.put, List.setIfInBounds_toArray, List.set_cons_zero, List.set_cons_succ]
              refine wpList_runTo rfl (some 70) rfl (.int .i64 (left - mn)) w5 (by exact subW_run (.tmp 68) (.tmp 69) rfl (by kernel_rfl) (by kernel_rfl) (by omega) _) ?_
              simp only [Act.put, List.setIfInBounds_toArray, List.set_cons_zero, List.set_cons_succ]
              refine wpList_runTo rfl (some 10) rfl (.int .i64 (left - mn)) w5 (by kernel_rfl) ?_
              simp only [Act.put, List.setIfInBounds_toArray, List.set_cons_zero, List.set_cons_succ]
              refine wpList_nil ?_
              refine hK _ _ ?_
              clear hK
              go_upto_region 10 with fail
              refine wp_region_lit ?_
              refine wpList_runTo rfl (some 71) rfl (.slice (some ⟨g7, o7, none⟩) nB c7) w5 (by kernel_rfl) ?_
              simp only [Act.put, List.setIfInBounds_toArray, List.set_cons_zero, List.set_cons_succ]
              refine wpList_runTo rfl (some 72) rfl (.int .i64 mn) w5 (by kernel_rfl) ?_
              simp only [Act.put, List.setIfInBounds_toArray, List.set_cons_zero, List.set_cons_succ]
              refine wpList_callW rfl (some 73) rfl 34 #[.slice (some ⟨g7, o7, none⟩) nB c7, .int .i64 mn] (by kernel_rfl) hc7 ?_
              clear hc7
              rintro e w6 ⟨x7, rfl, H7⟩
              refine ⟨_, rfl, ?_⟩
              simp only [Act.put, List.setIfInBounds_toArray, List.set_cons_zero, List.set_cons_succ]
              have HL6 : Hid (FI w w6 b5 r x7 (.slice (some ⟨g8, o8, none⟩) nS c8) v5 (lessL mn (v :: B)) (u :: S) (F ++ [⟨v.id, u.id, r.price, mn⟩])) := HLb.out.lessB (g := g7) rfl (by rw [← hn7]; exact H7.out.1) H7.out.2.1 H7.out.2.2
              obtain ⟨a7', c7', e7', _⟩ := H7.out.1.form
              clear HLb H7
              have hc8 := less_any (w := w6) (g := g8) (o := o8) (n := nS) (c := c8) (v := u) (l := S) (by have := HL6.out.rS; rwa [← HNB.out.2] at this) (by have := HNB.out.2; simpa using this) mn (by omega)
              rw [← hn8] at hc8
              refine wpList_runTo rfl (some 74) rfl (.slice (some ⟨g8, o8, none⟩) nS c8) w6 (by kernel_rfl) ?_
              simp only [Act.put, List.setIfInBounds_toArray, List.set_cons_zero, List.set_cons_succ]
              refine wpList_runTo rfl (some 75) rfl (.int .i64 mn) w6 (by kernel_rfl) ?_
              simp only [Act.put, List.setIfInBounds_toArray, List.set_cons_zero, List.set_cons_succ]
              refine wpList_callW rfl (some 76) rfl 34 #[.slice (some ⟨g8, o8, none⟩) nS c8, .int .i64 mn] (by kernel_rfl) hc8 ?_
              clear hc8
              rintro e w7 ⟨x8, rfl, H8⟩
              refine ⟨_, rfl, ?_⟩
              simp only [Act.put, List.setIfInBounds_toArray, List.set_cons_zero, List.set_cons_succ]
              have HL7 : Hid (FI w w7 b5 r x7 x8 v5 (lessL mn (v :: B)) (lessL mn (u :: S)) (F ++ [⟨v.id, u.id, r.price, mn⟩])) := HL6.out.lessS (g := g8) rfl (by rw [← hn8]; exact H8.out.1) H8.out.2.1 H8.out.2.2
              obtain ⟨a8', c8', e8', _⟩ := H8.out.1.form
              clear HL6 H8
              subst e7' e8'
              refine wpList_runTo rfl (some 7) rfl (.slice a7' n7 c7') w7 (by kernel_rfl) ?_
              simp only [Act.put, List.setIfInBounds_toArray, List.set_cons_zero, List.set_cons_succ]
              refine wpList_runTo rfl (some 8) rfl (.slice a8' n8 c8') w7 (by kernel_rfl) ?_
              simp only [Act.put, List.setIfInBounds_toArray, List.set_cons_zero, List.set_cons_succ]
              refine wpList_nil ?_
              have HF : Hid (FI w w7 b5 r (.slice a7' n7 c7') (.slice a8' n8 c8') v5 (lessL mn (v :: B)) (lessL mn (u :: S)) (F ++ [⟨v.id, u.id, r.price, mn⟩]) ∧ FS r.price T N (left - mn) (lessL mn (v :: B)) (lessL mn (u :: S)) (F ++ [⟨v.id, u.id, r.price, mn⟩])) := ⟨HL7.out, HS8.out⟩
              have hlo : left - mn ≤ 9223372036854775807 := by omega
              have hμ : (if left - mn ≤ 0 then 0 else n7 + n8 + 1) < (if left ≤ 0 then 0 else nB + nS + 1) := by
                have := HMu.out
                rw [if_neg (by omega : ¬ left ≤ 0)]
                split <;> omega
              clear HL7 HS8 HM hm1 HMu hn7 hn8 HNB hl hl0 hB0 hS0
              go_wp2
              exact ⟨⟨_, _, v5, left - mn, lessL mn (v :: B), lessL mn (u :: S), _, rfl, rfl, rfl, rfl, hlo, HF.out⟩, hμ⟩

end Go.Proofs.Ytbhddfcdnpidkaa
