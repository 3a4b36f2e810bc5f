/-
  auction: points.
-/
import Derived.Test.YtbhddfcdnpidkaaV21
namespace Go.Proofs.Ytbhddfcdnpidkaa
set_option linter.unusedVariables false
set_option linter.unusedSimpArgs false
open Go.RowKit Go.Great

theorem atB_eq (p : Int) (v : Wn) : atW 1 p v = atB p v := by rw [atW1]
theorem atS_eq (p : Int) (v : Wn) : atW 2 p v = atS p v := by rw [atW2]
/-- What is known of the two rows, all along. -/
structure PR (w : World) (a a' : Option Addr) (nb c ns c' : Nat) (B S : List Wn) : Prop where
  rb : RowAt w 69 4 (.slice a nb c) nb (flatL wL B)
  rs : RowAt w 69 4 (.slice a' ns c') ns (flatL wL S)
  eb : nb = B.length
  es : ns = S.length
  lb : nb ≤ 2000000000000
  ls : ns ≤ 2000000000000
  sb : B.Pairwise leB
  ss : S.Pairwise leS
  qb : ∀ v ∈ B, 0 ≤ v.q ∧ v.q ≤ 1000000
  qs : ∀ v ∈ S, 0 ≤ v.q ∧ v.q ≤ 1000000
theorem ptsOf_take {B S : List Wn} {C : List Int} {i : Nat} {p : Int} (h : C[i]? = some p) : ptsOf B S (C.take (i + 1)) = ptsOf B S (C.take i) ++ [⟨p, bo B p, so S p⟩] := by
  unfold ptsOf
  rw [List.take_add_one, h]
  simp
attribute [local irreducible] wpList
set_option maxRecDepth 100000 in
set_option maxHeartbeats 8000000 in
theorem points_any {w : World} {B S : List Wn} {a a' : Option Addr} {nb ns c c' : Nat} (hpr : PR w a a' nb c ns c' B S) (ref : Int) :
    Calls Try.prog 25 #[.slice a nb c, .slice a' ns c', .int .i64 ref] w fun e w' => ∃ v, e = .returned v ∧ Hid (BO w w' v (ptsOf B S (cndL (gat ref B S 2)))) := by
  obtain ⟨i0, hi0, hz0, hz1, hz2⟩ := info_parts infoPt
  have HI : Hid (Try.prog.info? 61 = some i0 ∧ i0.zero = some (.agg #[.int .i64 0, .int .i64 0, .int .i64 0]) ∧ i0.size = 3 ∧ i0.bytes = 24) := ⟨hi0, hz0, hz1, hz2⟩
  clear hi0 hz0 hz1 hz2
  have HR : Hid (PR w a a' nb c ns c' B S) := hpr
  have hnb9 := hpr.lb
  have hns9 := hpr.ls
  have hcand := fun (W : World) (hb : Below w.heap.size w W) => by
    have h1 := hpr.rb.fr (Fr.of_below hb (fun _ => False)) fun _ _ => id
    have h2 := hpr.rs.fr (Fr.of_below hb (fun _ => False)) fun _ _ => id
    have h3 := hpr.lb
    have h4 := hpr.ls
    rw [hpr.eb] at h1 h3
    rw [hpr.es] at h2 h4
    have := candidates_any h1 h2 (by omega) (by omega) ref
    rwa [← hpr.eb, ← hpr.es] at this
  have HC : Hid (∀ W, Below w.heap.size w W → Calls Try.prog 44 #[.slice a nb c, .slice a' ns c', .int .i64 ref] W fun e w' => ∃ v, e = .returned v ∧ Hid (RowAt w' 2 1 v (cndL (gat ref B S 2)).length ((cndL (gat ref B S 2)).map eI) ∧ Below W.heap.size W w' ∧ ∀ q, v.ownBlock = some q → W.heap.size ≤ q)) := hcand
  have HL : Hid ((cndL (gat ref B S 2)).length ≤ 4000000000001 ∧ (cndL (gat ref B S 2)).Pairwise fun a b => a < b) := by
    refine ⟨?_, cndL_asc _⟩
    have h1 := cndL_len (gat ref B S 2)
    have h2 := gat_len ref B S 2
    have h3 := hpr.lb
    have h4 := hpr.ls
    have h5 := hpr.eb
    have h6 := hpr.es
    show _ ≤ _
    omega
  clear hpr hcand
  generalize cndL (gat ref B S 2) = C at *
  go_enter Try.func25, Try.ntmps25
  go_upto_region 4 with fail
  go_loopw [8, 16] (fun x8 x16 wr => ∃ (i : Nat) (z : Int), i ≤ nb ∧ x8 = .int .i64 z ∧ x16 = .int .i64 (i : Int) ∧ Hid (Below w.heap.size w wr ∧ z = totW (B.take i))) (fun _ x16 _ => nb - (RowKit.intOf x16).toNat)
  case atStart => exact ⟨0, 0, Nat.zero_le _, rfl, rfl, Below.refl _ w, rfl⟩
  case round => as_aux_lemma =>
    obtain ⟨i, z, hi, rfl, rfl, HB⟩ := hrel
    by_cases hlt : i < nb
    · have hlt' : (i : Int) < (nb : Int) := by omega
      obtain ⟨v, hv⟩ : ∃ v, B[i]? = some v := ⟨_, List.getElem?_eq_getElem (by rw [← HR.out.eb]; exact hlt)⟩
      obtain ⟨g, o, cx, cur, ea, _⟩ := HR.out.rb.more (by omega)
      injection ea with ea1 _ ea2
      subst ea1 ea2
      have hrg : wr.rangeAt g (o + i * 4) v.cs.toList := row_rangeW (HR.out.rb.fr (Fr.of_below HB.out.1 (fun _ => False)) fun _ _ => id) hv
      have HZ : Hid (z + v.q = totW (B.take (i + 1)) ∧ 0 ≤ z + v.q ∧ z + v.q ≤ 4398046511104000000) := by
        have e : z + v.q = totW (B.take (i + 1)) := by rw [tot_take hv, HB.out.2]
        have := totW_bd HR.out.qb (i + 1) (by rw [← HR.out.eb]; omega)
        rw [← e] at this
        exact ⟨e, this⟩
      clear hv
      go_upto_region 5 with fail
      rename_i K hK
      refine wp_region_lit ?_
      refine wpList_runTo rfl (some 18) rfl (.pointer (some ⟨g, o + i * 4, none⟩)) wr (by exact ixW_run (n := nb) (c := c) (.tmp 14) (.tmp 16) rfl (by kernel_rfl) (by kernel_rfl) hlt _) ?_
      simp only [Act.put, List.setIfInBounds_toArray, List.set_cons_zero, List.set_cons_succ]
      refine wpList_runTo rfl (some 19) rfl (.agg v.cs) wr (by exact ldA_run hrg Try.underlying69 rfl infoW (.tmp 18) rfl (by kernel_rfl)) ?_
      simp only [Act.put, List.setIfInBounds_toArray, List.set_cons_zero, List.set_cons_succ]
      refine wpList_runTo rfl (some 11) rfl (.pointer (some ⟨wr.heap.size, 0, none⟩)) (wr.alloc (.cells #[.int .i64 0, .bool false, .int .i64 0, .int .i64 0] 69)) (by kernel_rfl) ?_
      simp only [Act.put, List.setIfInBounds_toArray, List.set_cons_zero, List.set_cons_succ]
      refine wpList_plain rfl fun K1 hK1 => ?_
      refine wp_store_row 69 (.tmp 11) (.tmp 19) rfl wr.heap.size v.cs (by kernel_rfl) (by kernel_rfl) 69 #[.int .i64 0, .bool false, .int .i64 0, .int .i64 0] (heap_alloc_new wr _) (by kernel_rfl) (by first | rfl | kernel_rfl | (simp [Wn.cs, Value.oneCell'])) (by first | rfl | kernel_rfl | (simp [Wn.cs, Value.oneCell'])) ?_
      rw [World.setRow_alloc_new]
      refine hK1 _ _ ?_
      clear hK1
      refine wpList_nil ?_
      refine hK _ _ ?_
      clear hK hrg
      have q3 : (wr.alloc (.cells v.cs 69)).cell? ⟨wr.heap.size, 3, none⟩ = some (.int .i64 v.q) := (Blk.new wr 69 v.cs).cell 3
      have HB1 : Hid (Below w.heap.size w (wr.alloc (.cells v.cs 69))) := below_step HB.out.1 ((Below.refl _ wr).alloc (Nat.le_refl _) _)
      clear HB
      generalize wr.alloc (.cells v.cs 69) = w3 at *
      generalize wr.heap.size = bx at *
      generalize v.q = vq at *
      go_upto_region 6 with fail
      rename_i K hK
      refine wp_region_lit ?_
      refine wpList_runTo rfl (some 20) rfl (.int .i64 z) w3 (by kernel_rfl) ?_
      simp only [Act.put, List.setIfInBounds_toArray, List.set_cons_zero, List.set_cons_succ]
      refine wpList_runTo rfl (some 21) rfl (.pointer (some ⟨bx, 3, none⟩)) w3 (by kernel_rfl) ?_
      simp only [Act.put, List.setIfInBounds_toArray, List.set_cons_zero, List.set_cons_succ]
      refine wpList_runTo rfl (some 22) rfl (.int .i64 vq) w3 (by exact ldN_run (.inl rfl) (.tmp 21) rfl (by kernel_rfl) q3) ?_
      simp only [Act.put, List.setIfInBounds_toArray, List.set_cons_zero, List.set_cons_succ]
      refine wpList_runTo rfl (some 23) rfl (.int .i64 (z + vq)) w3 (by exact addW_run (.tmp 20) (.tmp 22) rfl (by kernel_rfl) (by kernel_rfl) (by have := HZ.out.2; omega) _) ?_
      simp only [Act.put, List.setIfInBounds_toArray, List.set_cons_zero, List.set_cons_succ]
      refine wpList_runTo rfl (some 8) rfl (.int .i64 (z + vq)) w3 (by kernel_rfl) ?_
      simp only [Act.put, List.setIfInBounds_toArray, List.set_cons_zero, List.set_cons_succ]
      refine wpList_nil ?_
      refine hK _ _ ?_
      clear hK q3
      have HF : Hid (Below w.heap.size w w3 ∧ z + vq = totW (B.take (i + 1))) := ⟨HB1.out, HZ.out.1⟩
      clear HB1 HZ
      go_wp2
      exact ⟨⟨i + 1, _, by omega, rfl, by go_num, HF.out⟩, by simp [RowKit.intOf]; omega⟩
    · have e : i = nb := by omega
      subst e
      have HB1 : Hid (Below w.heap.size w wr ∧ z = totW (B.take i)) := HB.out
      clear HB
      have hc := HC.out wr HB1.out.1
      go_upto_region 8 with fail
      rename_i K hK
      refine wp_region_lit ?_
      refine wpList_runTo rfl (some 25) rfl (.slice a i c) wr (by kernel_rfl) ?_
      simp only [Act.put, List.setIfInBounds_toArray, List.set_cons_zero, List.set_cons_succ]
      refine wpList_runTo rfl (some 26) rfl (.slice a' ns c') wr (by kernel_rfl) ?_
      simp only [Act.put, List.setIfInBounds_toArray, List.set_cons_zero, List.set_cons_succ]
      refine wpList_runTo rfl (some 27) rfl (.int .i64 ref) wr (by kernel_rfl) ?_
      simp only [Act.put, List.setIfInBounds_toArray, List.set_cons_zero, List.set_cons_succ]
      refine wpList_callW rfl (some 28) rfl 44 #[.slice a i c, .slice a' ns c', .int .i64 ref] (by kernel_rfl) hc ?_
      clear hc
      rintro e w8 ⟨vc, rfl, H8⟩
      refine ⟨_, rfl, ?_⟩
      simp only [Act.put, List.setIfInBounds_toArray, List.set_cons_zero, List.set_cons_succ]
      obtain ⟨ac, cc, evc, _⟩ := H8.out.1.form
      subst evc
      obtain ⟨nc, hnc⟩ : ∃ nc, nc = C.length := ⟨_, rfl⟩
      have HCr : Hid (RowAt w8 2 1 (.slice ac nc cc) nc (C.map eI) ∧ nc = C.length ∧ nc ≤ 4000000000001 ∧ (C.Pairwise fun a b => a < b) ∧ Below w.heap.size w w8) := ⟨by rw [hnc]; exact H8.out.1, hnc, by rw [hnc]; exact HL.out.1, HL.out.2, below_step HB1.out.1 H8.out.2.1⟩
      rw [← hnc]
      clear hnc H8 HL HC
      refine wpList_runTo rfl (some 29) rfl (.int .i64 (nc : Int)) w8 (by kernel_rfl) ?_
      simp only [Act.put, List.setIfInBounds_toArray, List.set_cons_zero, List.set_cons_succ]
      refine wpList_runTo rfl (some 30) rfl (.int .i64 0) w8 (by kernel_rfl) ?_
      simp only [Act.put, List.setIfInBounds_toArray, List.set_cons_zero, List.set_cons_succ]
      refine wpList_nil ?_
      refine hK _ _ ?_
      clear hK
      have hnc9 := HCr.out.2.2.1
      have hz0 := HB1.out.2
      have HS0 : Hid (BO w8 w8 (.slice none 0 0) (ptsOf B S (C.take 0)) ∧ RowAt w8 69 4 (.slice a' ns c') ns (flatL wL (S.drop 0)) ∧ z = totW (B.take i) ∧ (0 : Int) = totW (S.take 0) ∧ ∀ p ∈ C.drop 0, PB B i p ∧ PS S 0 p) :=
        ⟨⟨RowAt.none0 _ _ _, Below.refl _ _, fun q hq => by cases hq⟩, HR.out.rs.fr (Fr.of_below HCr.out.2.2.2.2 (fun _ => False)) (fun _ _ => id), hz0, rfl, fun p _ => ⟨by have := PB.start B p; rwa [← HR.out.eb] at this, PS.start S p⟩⟩
      clear HB1 hz0
      go_wp2
      go_loopw [0, 1, 7, 8, 9, 30] (fun x0 x1 x7 x8 x9 x30 wr => ∃ (j kb ks n1 c1 : Nat) (a1 : Option Addr) (bg sd : Int) (xv : Value), xv = x7 ∧ j ≤ nc ∧ kb ≤ i ∧ x0 = .slice a kb c ∧ x1 = .slice a1 n1 c1 ∧ x8 = .int .i64 bg ∧ x9 = .int .i64 sd ∧ x30 = .int .i64 (j : Int) ∧ n1 + ks = ns ∧ Hid (BO w8 wr xv (ptsOf B S (C.take j)) ∧ RowAt w8 69 4 (.slice a1 n1 c1) n1 (flatL wL (S.drop ks)) ∧ bg = totW (B.take kb) ∧ sd = totW (S.take ks) ∧ ∀ p ∈ C.drop j, PB B kb p ∧ PS S ks p)) (fun _ _ _ _ _ x30 _ => nc - (RowKit.intOf x30).toNat)
      case atStart => exact ⟨0, i, 0, ns, c', a', z, 0, _, rfl, Nat.zero_le _, Nat.le_refl _, rfl, rfl, rfl, rfl, rfl, by omega, HS0.out⟩
      case round => as_aux_lemma =>
        clear HS0
        obtain ⟨j, kb, ks, n1, c1, a1, bg, sd, xv, rfl, hj, hkb, rfl, rfl, rfl, rfl, rfl, hn1, HB⟩ := hrel
        by_cases hlt : j < nc
        · have hlt' : (j : Int) < (nc : Int) := by omega
          obtain ⟨p, hp⟩ : ∃ p, C[j]? = some p := ⟨_, List.getElem?_eq_getElem (by rw [← HCr.out.2.1]; exact hlt)⟩
          obtain ⟨gc, oc, cx, cur, ea, _⟩ := HCr.out.1.more (by omega)
          injection ea with ea1 _ ea2
          subst ea1 ea2
          have hcl : wr.cell? ⟨gc, oc + j, none⟩ = some (.int .i64 p) := by
            have := HCr.out.1.cell rfl (j := j) (u := eI p) (by rw [List.getElem?_map, hp]; rfl)
            exact (Fr.of_below HB.out.1.bel (fun _ => False)).cell this id
          have HP : Hid (ptsOf B S (C.take (j + 1)) = ptsOf B S (C.take j) ++ [⟨p, bo B p, so S p⟩] ∧ PB B kb p ∧ PS S ks p ∧ (∀ r ∈ C.drop (j + 1), p ≤ r) ∧ (ptsOf B S (C.take j)).length ≤ j) := by
            have hm : p ∈ C.drop j := by
              have := List.getElem?_drop (xs := C) (i := j) (j := 0)
              rw [Nat.add_zero, hp] at this
              exact List.mem_of_getElem? this
            obtain ⟨k1, k2⟩ := HB.out.2.2.2.2 p hm
            refine ⟨ptsOf_take hp, k1, k2, fun r hr => ?_, ?_⟩
            · obtain ⟨t, ht⟩ := List.getElem?_of_mem hr
              rw [List.getElem?_drop] at ht
              obtain ⟨h1, h2⟩ := List.getElem?_eq_some_iff.1 hp
              obtain ⟨h3, h4⟩ := List.getElem?_eq_some_iff.1 ht
              have := List.pairwise_iff_getElem.1 HCr.out.2.2.2.1 j (j + 1 + t) h1 h3 (by omega)
              rw [h2, h4] at this
              omega
            · unfold ptsOf
              rw [List.length_map, List.length_take]
              omega
          have HL3 : Hid (BO w8 wr xv (ptsOf B S (C.take j)) ∧ bg = totW (B.take kb) ∧ PB B kb p) := ⟨HB.out.1, HB.out.2.2.1, HP.out.2.1⟩
          have HSs : Hid (RowAt w8 69 4 (.slice a1 n1 c1) n1 (flatL wL (S.drop ks)) ∧ sd = totW (S.take ks) ∧ PS S ks p) := ⟨HB.out.2.1, HB.out.2.2.2.1, HP.out.2.2.1⟩
          clear HB hp
          go_upto_region 10 with fail
          rename_i K hK
          refine wp_region_lit ?_
          refine wpList_runTo rfl (some 32) rfl (.pointer (some ⟨gc, oc + j, none⟩)) wr (by exact ixI_run (n := nc) (c := cc) (.tmp 28) (.tmp 30) rfl (by kernel_rfl) (by kernel_rfl) hlt _) ?_
          simp only [Act.put, List.setIfInBounds_toArray, List.set_cons_zero, List.set_cons_succ]
          refine wpList_runTo rfl (some 33) rfl (.int .i64 p) wr (by exact ldN_run (.inl rfl) (.tmp 32) rfl (by kernel_rfl) hcl) ?_
          simp only [Act.put, List.setIfInBounds_toArray, List.set_cons_zero, List.set_cons_succ]
          refine wpList_runTo rfl (some 13) rfl (.int .i64 p) wr (by kernel_rfl) ?_
          simp only [Act.put, List.setIfInBounds_toArray, List.set_cons_zero, List.set_cons_succ]
          refine wpList_nil ?_
          refine hK _ _ ?_
          clear hK hcl
          go_wp2
          go_loopw [0, 8] (fun x0 x8 wr => ∃ (kb : Nat) (bg : Int), kb ≤ i ∧ x0 = .slice a kb c ∧ x8 = .int .i64 bg ∧ Hid (BO w8 wr xv (ptsOf B S (C.take j)) ∧ bg = totW (B.take kb) ∧ PB B kb p)) (fun x0 _ _ => match x0 with | .slice _ n _ => n | _ => 0)
          case atStart => exact ⟨kb, bg, hkb, rfl, rfl, HL3.out⟩
          case round => as_aux_lemma =>
            clear HL3 hkb
            obtain ⟨kb, bg, hkb, rfl, rfl, HL⟩ := hrel
            by_cases h0 : kb = 0
            · go_upto_region 11 with fail
              rename_i K hK
              refine wp_region_lit ?_
              refine wpList_runTo rfl (some 34) rfl (.slice a kb c) wr (by kernel_rfl) ?_
              simp only [Act.put, List.setIfInBounds_toArray, List.set_cons_zero, List.set_cons_succ]
              refine wpList_runTo rfl (some 35) rfl (.int .i64 (kb : Int)) wr (by exact lenW_run (v := .slice a kb c) (ao := a) (n := kb) (c := c) rfl (.tmp 34) rfl (by kernel_rfl) _) ?_
              simp only [Act.put, List.setIfInBounds_toArray, List.set_cons_zero, List.set_cons_succ]
              refine wpList_runTo rfl (some 36) rfl (.bool false) wr (by exact gt0_run (p := (kb : Int)) (.tmp 35) rfl (by kernel_rfl) (decide_eq_false (by omega)) _) ?_
              simp only [Act.put, List.setIfInBounds_toArray, List.set_cons_zero, List.set_cons_succ]
              refine wpList_runTo rfl (some 37) rfl (.bool false) wr (by kernel_rfl) ?_
              simp only [Act.put, List.setIfInBounds_toArray, List.set_cons_zero, List.set_cons_succ]
              refine wpList_skipG (by kernel_rfl) ?_
              simp only [Act.put, List.setIfInBounds_toArray, List.set_cons_zero, List.set_cons_succ]
              refine wpList_skipG (by kernel_rfl) ?_
              simp only [Act.put, List.setIfInBounds_toArray, List.set_cons_zero, List.set_cons_succ]
              refine wpList_skipG (by kernel_rfl) ?_
              simp only [Act.put, List.setIfInBounds_toArray, List.set_cons_zero, List.set_cons_succ]
              refine wpList_skipG (by kernel_rfl) ?_
              simp only [Act.put, List.setIfInBounds_toArray, List.set_cons_zero, List.set_cons_succ]
              refine wpList_skipG (by kernel_rfl) ?_
              simp only [Act.put, List.setIfInBounds_toArray, List.set_cons_zero, List.set_cons_succ]
              refine wpList_skipG (by kernel_rfl) ?_
              simp only [Act.put, List.setIfInBounds_toArray, List.set_cons_zero, List.set_cons_succ]
              refine wpList_skipG (by kernel_rfl) ?_
              simp only [Act.put, List.setIfInBounds_toArray, List.set_cons_zero, List.set_cons_succ]
              refine wpList_skipG (by kernel_rfl) ?_
              simp only [Act.put, List.setIfInBounds_toArray, List.set_cons_zero, List.set_cons_succ]
              refine wpList_skipG (by kernel_rfl) ?_
              simp only [Act.put, List.setIfInBounds_toArray, List.set_cons_zero, List.set_cons_succ]
              refine wpList_runTo rfl (some 47) rfl (.bool false) wr (by kernel_rfl) ?_
              simp only [Act.put, List.setIfInBounds_toArray, List.set_cons_zero, List.set_cons_succ]
              refine wpList_nil ?_
              refine hK _ _ ?_
              clear hK
              have HX3 : Hid (BO w8 wr xv (ptsOf B S (C.take j)) ∧ (bg = totW (B.take kb) ∧ bg = bo B p ∧ PB B kb p)) :=
                ⟨HL.out.1, HL.out.2.1, by rw [HL.out.2.1]; exact (HL.out.2.2.done HR.out.sb (.inl h0)).symm, HL.out.2.2⟩
              clear HL
              go_wp2
              go_loopw [1, 9] (fun x1 x9 wr => ∃ (ks n1 c1 : Nat) (a1 : Option Addr) (sd : Int), x1 = .slice a1 n1 c1 ∧ x9 = .int .i64 sd ∧ n1 + ks = ns ∧ Hid (BO w8 wr xv (ptsOf B S (C.take j)) ∧ (bg = totW (B.take kb) ∧ bg = bo B p ∧ PB B kb p) ∧ RowAt w8 69 4 (.slice a1 n1 c1) n1 (flatL wL (S.drop ks)) ∧ sd = totW (S.take ks) ∧ PS S ks p)) (fun x1 _ _ => match x1 with | .slice _ n _ => n | _ => 0)
              case atStart => exact ⟨ks, n1, c1, a1, sd, rfl, rfl, hn1, HX3.out.1, HX3.out.2, HSs.out⟩
              case round => as_aux_lemma =>
                clear HX3 HSs hn1
                obtain ⟨ks, n1, c1, a1, sd, rfl, rfl, hn1, HS⟩ := hrel
                by_cases h0 : n1 = 0
                · go_upto_region 14 with fail
                  rename_i K hK
                  refine wp_region_lit ?_
                  refine wpList_runTo rfl (some 62) rfl (.slice a1 n1 c1) wr (by kernel_rfl) ?_
                  simp only [Act.put, List.setIfInBounds_toArray, List.set_cons_zero, List.set_cons_succ]
                  refine wpList_runTo rfl (some 63) rfl (.int .i64 (n1 : Int)) wr (by exact lenW_run (v := .slice a1 n1 c1) (ao := a1) (n := n1) (c := c1) rfl (.tmp 62) rfl (by kernel_rfl) _) ?_
                  simp only [Act.put, List.setIfInBounds_toArray, List.set_cons_zero, List.set_cons_succ]
                  refine wpList_runTo rfl (some 64) rfl (.bool false) wr (by exact gt0_run (p := (n1 : Int)) (.tmp 63) rfl (by kernel_rfl) (decide_eq_false (by omega)) _) ?_
                  simp only [Act.put, List.setIfInBounds_toArray, List.set_cons_zero, List.set_cons_succ]
                  refine wpList_runTo rfl (some 65) rfl (.bool false) wr (by kernel_rfl) ?_
                  simp only [Act.put, List.setIfInBounds_toArray, List.set_cons_zero, List.set_cons_succ]
                  refine wpList_skipG (by kernel_rfl) ?_
                  simp only [Act.put, List.setIfInBounds_toArray, List.set_cons_zero, List.set_cons_succ]
                  refine wpList_skipG (by kernel_rfl) ?_
                  simp only [Act.put, List.setIfInBounds_toArray, List.set_cons_zero, List.set_cons_succ]
                  refine wpList_skipG (by kernel_rfl) ?_
                  simp only [Act.put, List.setIfInBounds_toArray, List.set_cons_zero, List.set_cons_succ]
                  refine wpList_skipG (by kernel_rfl) ?_
                  simp only [Act.put, List.setIfInBounds_toArray, List.set_cons_zero, List.set_cons_succ]
                  refine wpList_skipG (by kernel_rfl) ?_
                  simp only [Act.put, List.setIfInBounds_toArray, List.set_cons_zero, List.set_cons_succ]
                  refine wpList_runTo rfl (some 71) rfl (.bool false) wr (by kernel_rfl) ?_
                  simp only [Act.put, List.setIfInBounds_toArray, List.set_cons_zero, List.set_cons_succ]
                  refine wpList_nil ?_
                  refine hK _ _ ?_
                  clear hK
                  have HX4 : Hid (BO w8 wr xv (ptsOf B S (C.take j)) ∧ (bg = totW (B.take kb) ∧ bg = bo B p ∧ PB B kb p) ∧ (sd = totW (S.take ks) ∧ sd = so S p) ∧ RowAt w8 69 4 (.slice a1 n1 c1) n1 (flatL wL (S.drop ks)) ∧ PS S ks p) :=
                    ⟨HS.out.1, HS.out.2.1, ⟨HS.out.2.2.2.1, by rw [HS.out.2.2.2.1]; exact (HS.out.2.2.2.2.done HR.out.ss (.inl (by have := HR.out.es; omega))).symm⟩, HS.out.2.2.1, HS.out.2.2.2.2⟩
                  clear HS
                  go_upto_region 17 with fail
                  refine wp_region_lit ?_
                  refine wpList_runTo rfl (some 80) rfl (xv) wr (by kernel_rfl) ?_
                  simp only [Act.put, List.setIfInBounds_toArray, List.set_cons_zero, List.set_cons_succ]
                  refine wpList_runTo rfl (some 81) rfl (.int .i64 p) wr (by kernel_rfl) ?_
                  simp only [Act.put, List.setIfInBounds_toArray, List.set_cons_zero, List.set_cons_succ]
                  refine wpList_runTo rfl (some 82) rfl (.int .i64 bg) wr (by kernel_rfl) ?_
                  simp only [Act.put, List.setIfInBounds_toArray, List.set_cons_zero, List.set_cons_succ]
                  refine wpList_runTo rfl (some 83) rfl (.int .i64 sd) wr (by kernel_rfl) ?_
                  simp only [Act.put, List.setIfInBounds_toArray, List.set_cons_zero, List.set_cons_succ]
                  refine wpList_runTo rfl (some 84) rfl (.agg #[.int .i64 p, .int .i64 bg, .int .i64 sd]) wr (by exact buildPt_run (.tmp 81) (.tmp 82) (.tmp 83) rfl (by kernel_rfl) (by kernel_rfl) (by kernel_rfl) _) ?_
                  simp only [Act.put, List.setIfInBounds_toArray, List.set_cons_zero, List.set_cons_succ]
                  refine wpList_runTo rfl (some 85) rfl (.slice (some ⟨wr.heap.size, 0, none⟩) 1 1) (wr.alloc (.cells #[.int .i64 p, .int .i64 bg, .int .i64 sd] 61)) (by exact buildPs_run (.tmp 84) rfl (by kernel_rfl) _) ?_
                  simp only [Act.put, List.setIfInBounds_toArray, List.set_cons_zero, List.set_cons_succ]
                  have hrA : RowAt (wr.alloc (.cells #[.int .i64 p, .int .i64 bg, .int .i64 sd] 61)) 61 3 xv (ptsOf B S (C.take j)).length (flatL pL (ptsOf B S (C.take j))) := HX4.out.1.row.fr (Fr.alloc wr _ (fun _ => False)) fun _ _ => id
                  refine wpList_append_row _ rfl (.tmp 80) (.tmp 85) 55 rfl 61 i0 _ 3 24 Try.underlying55 HI.out.1 HI.out.2.1 HI.out.2.2.1 HI.out.2.2.2 (by rfl) xv (ptsOf B S (C.take j)).length (flatL pL (ptsOf B S (C.take j))) (by kernel_rfl) hrA ⟨wr.heap.size, 0, none⟩ 1 1 (pL ⟨p, bg, sd⟩) (by kernel_rfl) (by rfl) (fun j u hj => by rw [Addr.add_mid, Nat.zero_add, (Blk.new wr 61 #[.int .i64 p, .int .i64 bg, .int .i64 sd]).cell]; simpa [pL] using hj) (pL_one _) (Or.inl (by omega)) (by have := HP.out.2.2.2.2; unfold maxLen; omega) (by have := HP.out.2.2.2.2; omega) ?_
                  intro v5 w5 hrow hfr hnew
                  have HF : Hid (BO w8 w5 v5 (ptsOf B S (C.take (j + 1))) ∧ RowAt w8 69 4 (.slice a1 n1 c1) n1 (flatL wL (S.drop ks)) ∧ bg = totW (B.take kb) ∧ sd = totW (S.take ks) ∧ ∀ r ∈ C.drop (j + 1), PB B kb r ∧ PS S ks r) := by
                    refine ⟨?_, HX4.out.2.2.2.1, HX4.out.2.1.1, HX4.out.2.2.1.1, fun r hr => ⟨HX4.out.2.1.2.2.up (HP.out.2.2.2.1 r hr), HX4.out.2.2.2.2.up (HP.out.2.2.2.1 r hr)⟩⟩
                    rw [HP.out.1, ← HX4.out.2.1.2.1, ← HX4.out.2.2.1.2]
                    exact (HX4.out.1.below ((Below.refl _ wr).alloc (Nat.le_refl _) _)).app hrow hfr hnew
                  clear hrow hfr hnew hrA HX4 HP
                  simp only [Act.put, List.setIfInBounds_toArray, List.set_cons_zero, List.set_cons_succ]
                  refine wpList_runTo rfl (some 7) rfl (v5) w5 (by kernel_rfl) ?_
                  simp only [Act.put, List.setIfInBounds_toArray, List.set_cons_zero, List.set_cons_succ]
                  refine wpList_nil ?_
                  go_wp2
                  exact ⟨⟨j + 1, kb, ks, n1, c1, a1, bg, sd, v5, rfl, by omega, hkb, rfl, rfl, rfl, rfl, by go_num, hn1, HF.out⟩, by simp [RowKit.intOf]; omega⟩

                · obtain ⟨v, hv⟩ : ∃ v, S[ks]? = some v := ⟨_, List.getElem?_eq_getElem (by rw [← HR.out.es]; omega)⟩
                  have hv0 : (S.drop ks)[0]? = some v := by rw [List.getElem?_drop, Nat.add_zero]; exact hv
                  obtain ⟨g, o, cx, cur, ea, _⟩ := HS.out.2.2.1.more (by omega)
                  injection ea with ea1 _ ea2
                  subst ea1 ea2
                  have hrw : RowAt wr 69 4 (.slice (some ⟨g, o, none⟩) n1 c1) n1 (flatL wL (S.drop ks)) := HS.out.2.2.1.fr (Fr.of_below HS.out.1.bel (fun _ => False)) fun _ _ => id
                  have hrg : wr.rangeAt g (o + 0 * 4) v.cs.toList := row_rangeW hrw hv0
                  have HVv : Hid (S[ks]? = some v) := hv
                  have hat := at_any wr v 2 p
                  rw [atS_eq] at hat
                  have hn0 : 0 < n1 := by omega
                  clear hv hrw
                  obtain ⟨bb, hbb⟩ : ∃ bb, bb = atS p v := ⟨_, rfl⟩
                  have HBB : Hid (bb = atS p v) := hbb
                  rw [← hbb] at hat
                  clear hbb
                  go_upto_region 14 with fail
                  rename_i K hK
                  refine wp_region_lit ?_
                  refine wpList_runTo rfl (some 62) rfl (.slice (some ⟨g, o, none⟩) n1 c1) wr (by kernel_rfl) ?_
                  simp only [Act.put, List.setIfInBounds_toArray, List.set_cons_zero, List.set_cons_succ]
                  refine wpList_runTo rfl (some 63) rfl (.int .i64 (n1 : Int)) wr (by exact lenW_run (v := .slice (some ⟨g, o, none⟩) n1 c1) (ao := some ⟨g, o, none⟩) (n := n1) (c := c1) rfl (.tmp 62) rfl (by kernel_rfl) _) ?_
                  simp only [Act.put, List.setIfInBounds_toArray, List.set_cons_zero, List.set_cons_succ]
                  refine wpList_runTo rfl (some 64) rfl (.bool true) wr (by exact gt0_run (p := (n1 : Int)) (.tmp 63) rfl (by kernel_rfl) (decide_eq_true (by omega)) _) ?_
                  simp only [Act.put, List.setIfInBounds_toArray, List.set_cons_zero, List.set_cons_succ]
                  refine wpList_runTo rfl (some 65) rfl (.bool true) wr (by kernel_rfl) ?_
                  simp only [Act.put, List.setIfInBounds_toArray, List.set_cons_zero, List.set_cons_succ]
                  refine wpList_runToG (by kernel_rfl) (some 66) rfl (.slice (some ⟨g, o, none⟩) n1 c1) wr (by kernel_rfl) ?_
                  simp only [Act.put, List.setIfInBounds_toArray, List.set_cons_zero, List.set_cons_succ]
                  refine wpList_runToG (by kernel_rfl) (some 67) rfl (.pointer (some ⟨g, o + 0 * 4, none⟩)) wr (by exact ixW_run (i := 0) (n := n1) (c := c1) (.tmp 66) (.const (.int .i64 0)) rfl (by kernel_rfl) rfl hn0 _) ?_
                  simp only [Act.put, List.setIfInBounds_toArray, List.set_cons_zero, List.set_cons_succ]
                  refine wpList_runToG (by kernel_rfl) (some 68) rfl (.agg v.cs) wr (by exact ldA_run hrg Try.underlying69 rfl infoW (.tmp 67) rfl (by kernel_rfl)) ?_
                  simp only [Act.put, List.setIfInBounds_toArray, List.set_cons_zero, List.set_cons_succ]
                  refine wpList_runToG (by kernel_rfl) (some 69) rfl (.int .i64 p) wr (by kernel_rfl) ?_
                  simp only [Act.put, List.setIfInBounds_toArray, List.set_cons_zero, List.set_cons_succ]
                  refine wpList_callG (by kernel_rfl) (some 70) rfl 45 #[.agg v.cs, .int .i64 2, .int .i64 p] (by kernel_rfl) hat ?_
                  clear hat
                  rintro e w9 ⟨rfl, hb⟩
                  refine ⟨_, rfl, ?_⟩
                  simp only [Act.put, List.setIfInBounds_toArray, List.set_cons_zero, List.set_cons_succ]
                  have HS9 : Hid (BO w8 w9 xv (ptsOf B S (C.take j)) ∧ (bg = totW (B.take kb) ∧ bg = bo B p ∧ PB B kb p) ∧ RowAt w8 69 4 (.slice (some ⟨g, o, none⟩) n1 c1) n1 (flatL wL (S.drop ks)) ∧ sd = totW (S.take ks) ∧ PS S ks p) := ⟨HS.out.1.below hb, HS.out.2⟩
                  clear HS hb hrg
                  refine wpList_runTo rfl (some 71) rfl (.bool bb) w9 (by exact pick_run (.tmp 65) (.tmp 70) rfl (by kernel_rfl) (by kernel_rfl) _) ?_
                  simp only [Act.put, List.setIfInBounds_toArray, List.set_cons_zero, List.set_cons_succ]
                  refine wpList_nil ?_
                  refine hK _ _ ?_
                  clear hK
                  cases bb with
                  | false =>
                    have HX4 : Hid (BO w8 w9 xv (ptsOf B S (C.take j)) ∧ (bg = totW (B.take kb) ∧ bg = bo B p ∧ PB B kb p) ∧ (sd = totW (S.take ks) ∧ sd = so S p) ∧ RowAt w8 69 4 (.slice (some ⟨g, o, none⟩) n1 c1) n1 (flatL wL (S.drop ks)) ∧ PS S ks p) :=
                      ⟨HS9.out.1, HS9.out.2.1, ⟨HS9.out.2.2.2.1, by rw [HS9.out.2.2.2.1]; exact (HS9.out.2.2.2.2.done HR.out.ss (.inr ⟨v, HVv.out, HBB.out.symm⟩)).symm⟩, HS9.out.2.2.1, HS9.out.2.2.2.2⟩
                    clear HS9 HVv HBB hv0 hn0 h0
                    generalize w9 = wr at *
                    go_upto_region 17 with fail
                    refine wp_region_lit ?_
                    refine wpList_runTo rfl (some 80) rfl (xv) wr (by kernel_rfl) ?_
                    simp only [Act.put, List.setIfInBounds_toArray, List.set_cons_zero, List.set_cons_succ]
                    refine wpList_runTo rfl (some 81) rfl (.int .i64 p) wr (by kernel_rfl) ?_
                    simp only [Act.put, List.setIfInBounds_toArray, List.set_cons_zero, List.set_cons_succ]
                    refine wpList_runTo rfl (some 82) rfl (.int .i64 bg) wr (by kernel_rfl) ?_
                    simp only [Act.put, List.setIfInBounds_toArray, List.set_cons_zero, List.set_cons_succ]
                    refine wpList_runTo rfl (some 83) rfl (.int .i64 sd) wr (by kernel_rfl) ?_
                    simp only [Act.put, List.setIfInBounds_toArray, List.set_cons_zero, List.set_cons_succ]
                    refine wpList_runTo rfl (some 84) rfl (.agg #[.int .i64 p, .int .i64 bg, .int .i64 sd]) wr (by exact buildPt_run (.tmp 81) (.tmp 82) (.tmp 83) rfl (by kernel_rfl) (by kernel_rfl) (by kernel_rfl) _) ?_
                    simp only [Act.put, List.setIfInBounds_toArray, List.set_cons_zero, List.set_cons_succ]
                    refine wpList_runTo rfl (some 85) rfl (.slice (some ⟨wr.heap.size, 0, none⟩) 1 1) (wr.alloc (.cells #[.int .i64 p, .int .i64 bg, .int .i64 sd] 61)) (by exact buildPs_run (.tmp 84) rfl (by kernel_rfl) _) ?_
                    simp only [Act.put, List.setIfInBounds_toArray, List.set_cons_zero, List.set_cons_succ]
                    have hrA : RowAt (wr.alloc (.cells #[.int .i64 p, .int .i64 bg, .int .i64 sd] 61)) 61 3 xv (ptsOf B S (C.take j)).length (flatL pL (ptsOf B S (C.take j))) := HX4.out.1.row.fr (Fr.alloc wr _ (fun _ => False)) fun _ _ => id
                    refine wpList_append_row _ rfl (.tmp 80) (.tmp 85) 55 rfl 61 i0 _ 3 24 Try.underlying55 HI.out.1 HI.out.2.1 HI.out.2.2.1 HI.out.2.2.2 (by rfl) xv (ptsOf B S (C.take j)).length (flatL pL (ptsOf B S (C.take j))) (by kernel_rfl) hrA ⟨wr.heap.size, 0, none⟩ 1 1 (pL ⟨p, bg, sd⟩) (by kernel_rfl) (by rfl) (fun j u hj => by rw [Addr.add_mid, Nat.zero_add, (Blk.new wr 61 #[.int .i64 p, .int .i64 bg, .int .i64 sd]).cell]; simpa [pL] using hj) (pL_one _) (Or.inl (by omega)) (by have := HP.out.2.2.2.2; unfold maxLen; omega) (by have := HP.out.2.2.2.2; omega) ?_
                    intro v5 w5 hrow hfr hnew
                    have HF : Hid (BO w8 w5 v5 (ptsOf B S (C.take (j + 1))) ∧ RowAt w8 69 4 (.slice (some ⟨g, o, none⟩) n1 c1) n1 (flatL wL (S.drop ks)) ∧ bg = totW (B.take kb) ∧ sd = totW (S.take ks) ∧ ∀ r ∈ C.drop (j + 1), PB B kb r ∧ PS S ks r) := by
                      refine ⟨?_, HX4.out.2.2.2.1, HX4.out.2.1.1, HX4.out.2.2.1.1, fun r hr => ⟨HX4.out.2.1.2.2.up (HP.out.2.2.2.1 r hr), HX4.out.2.2.2.2.up (HP.out.2.2.2.1 r hr)⟩⟩
                      rw [HP.out.1, ← HX4.out.2.1.2.1, ← HX4.out.2.2.1.2]
                      exact (HX4.out.1.below ((Below.refl _ wr).alloc (Nat.le_refl _) _)).app hrow hfr hnew
                    clear hrow hfr hnew hrA HX4 HP
                    simp only [Act.put, List.setIfInBounds_toArray, List.set_cons_zero, List.set_cons_succ]
                    refine wpList_runTo rfl (some 7) rfl (v5) w5 (by kernel_rfl) ?_
                    simp only [Act.put, List.setIfInBounds_toArray, List.set_cons_zero, List.set_cons_succ]
                    refine wpList_nil ?_
                    go_wp2
                    exact ⟨⟨j + 1, kb, ks, n1, c1, (some ⟨g, o, none⟩), bg, sd, v5, rfl, by omega, hkb, rfl, rfl, rfl, rfl, by go_num, hn1, HF.out⟩, by simp [RowKit.intOf]; omega⟩

                  | true =>
                    have hq3 : w9.cell? ⟨g, o + 0 * 4 + 3, none⟩ = some (.int .i64 v.q) := by
                      have hr9 : RowAt w9 69 4 (.slice (some ⟨g, o, none⟩) n1 c1) n1 (flatL wL (S.drop ks)) := HS9.out.2.2.1.fr (Fr.of_below HS9.out.1.bel (fun _ => False)) fun _ _ => id
                      exact row_rangeW hr9 hv0 3 (.int .i64 v.q) rfl
                    have HN : Hid (RowAt w8 69 4 (.slice (if c1 = 1 then some ⟨g, o, none⟩ else some ⟨g, o + 4, none⟩) (n1 - 1) (c1 - 1)) (n1 - 1) (flatL wL (S.drop (ks + 1))) ∧ sd + v.q = totW (S.take (ks + 1)) ∧ PS S (ks + 1) p ∧ 0 ≤ sd + v.q ∧ sd + v.q ≤ 4398046511104000000) := by
                      have e : sd + v.q = totW (S.take (ks + 1)) := by rw [tot_take HVv.out, HS9.out.2.2.2.1]
                      have h2 := totW_bd HR.out.qs (ks + 1) (by rw [← HR.out.es]; omega)
                      rw [← e] at h2
                      have h3 := rowW_from HS9.out.2.2.1 hn0
                      rw [List.drop_drop] at h3
                      exact ⟨h3, e, HS9.out.2.2.2.2.pop HVv.out HBB.out.symm, h2⟩
                    clear HVv HBB hv0 h0
                    generalize v.q = vq at *
                    go_upto_region 15 with fail
                    rename_i K hK
                    refine wp_region_lit ?_
                    refine wpList_runTo rfl (some 72) rfl (.int .i64 sd) w9 (by kernel_rfl) ?_
                    simp only [Act.put, List.setIfInBounds_toArray, List.set_cons_zero, List.set_cons_succ]
                    refine wpList_runTo rfl (some 73) rfl (.slice (some ⟨g, o, none⟩) n1 c1) w9 (by kernel_rfl) ?_
                    simp only [Act.put, List.setIfInBounds_toArray, List.set_cons_zero, List.set_cons_succ]
                    refine wpList_runTo rfl (some 74) rfl (.pointer (some ⟨g, o + 0 * 4, none⟩)) w9 (by exact ixW_run (i := 0) (n := n1) (c := c1) (.tmp 73) (.const (.int .i64 0)) rfl (by kernel_rfl) rfl hn0 _) ?_
                    simp only [Act.put, List.setIfInBounds_toArray, List.set_cons_zero, List.set_cons_succ]
                    refine wpList_runTo rfl (some 75) rfl (.pointer (some ⟨g, o + 0 * 4 + 3, none⟩)) w9 (by kernel_rfl) ?_
                    simp only [Act.put, List.setIfInBounds_toArray, List.set_cons_zero, List.set_cons_succ]
                    refine wpList_runTo rfl (some 76) rfl (.int .i64 vq) w9 (by exact ldN_run (.inl rfl) (.tmp 75) rfl (by kernel_rfl) hq3) ?_
                    simp only [Act.put, List.setIfInBounds_toArray, List.set_cons_zero, List.set_cons_succ]
                    refine wpList_runTo rfl (some 77) rfl (.int .i64 (sd + vq)) w9 (by exact addW_run (.tmp 72) (.tmp 76) rfl (by kernel_rfl) (by kernel_rfl) (by have := HN.out.2.2.2; omega) _) ?_
                    simp only [Act.put, List.setIfInBounds_toArray, List.set_cons_zero, List.set_cons_succ]
                    refine wpList_runTo rfl (some 9) rfl (.int .i64 (sd + vq)) w9 (by kernel_rfl) ?_
                    simp only [Act.put, List.setIfInBounds_toArray, List.set_cons_zero, List.set_cons_succ]
                    refine wpList_nil ?_
                    refine hK _ _ ?_
                    clear hK hq3
                    go_upto_region 16 with fail
                    refine wp_region_lit ?_
                    refine wpList_runTo rfl (some 78) rfl (.slice (some ⟨g, o, none⟩) n1 c1) w9 (by kernel_rfl) ?_
                    simp only [Act.put, List.setIfInBounds_toArray, List.set_cons_zero, List.set_cons_succ]
                    refine wpList_runTo rfl (some 79) rfl (.slice (if c1 = 1 then some ⟨g, o, none⟩ else some ⟨g, o + 4, none⟩) (n1 - 1) (c1 - 1)) w9 (by exact fromW_run (.tmp 78) rfl (by kernel_rfl) hn0 _) ?_
                    simp only [Act.put, List.setIfInBounds_toArray, List.set_cons_zero, List.set_cons_succ]
                    have HF : Hid (BO w8 w9 xv (ptsOf B S (C.take j)) ∧ (bg = totW (B.take kb) ∧ bg = bo B p ∧ PB B kb p) ∧ RowAt w8 69 4 (.slice (if c1 = 1 then some ⟨g, o, none⟩ else some ⟨g, o + 4, none⟩) (n1 - 1) (c1 - 1)) (n1 - 1) (flatL wL (S.drop (ks + 1))) ∧ sd + vq = totW (S.take (ks + 1)) ∧ PS S (ks + 1) p) := ⟨HS9.out.1, HS9.out.2.1, HN.out.1, HN.out.2.1, HN.out.2.2.1⟩
                    clear HS9 HN
                    generalize (if c1 = 1 then some (⟨g, o, none⟩ : Addr) else some ⟨g, o + 4, none⟩) = a2 at *
                    obtain ⟨n2, hn2⟩ : ∃ n2, n2 = n1 - 1 := ⟨_, rfl⟩
                    have hn3 : n2 + (ks + 1) = ns := by omega
                    have hn4 : n2 < n1 := by omega
                    rw [← hn2] at HF ⊢
                    clear hn2
                    generalize c1 - 1 = c2 at *
                    refine wpList_runTo rfl (some 1) rfl (.slice a2 n2 c2) w9 (by kernel_rfl) ?_
                    simp only [Act.put, List.setIfInBounds_toArray, List.set_cons_zero, List.set_cons_succ]
                    refine wpList_nil ?_
                    go_wp2
                    exact ⟨⟨ks + 1, n2, c2, a2, sd + vq, rfl, rfl, hn3, HF.out⟩, hn4⟩

            · obtain ⟨k, rfl⟩ : ∃ k, kb = k + 1 := ⟨kb - 1, by omega⟩
              obtain ⟨v, hv⟩ : ∃ v, B[k]? = some v := ⟨_, List.getElem?_eq_getElem (by rw [← HR.out.eb]; omega)⟩
              obtain ⟨g, o, cx, cur, ea, hce, hncx, _⟩ := HR.out.rb.more (by omega)
              injection ea with ea1 _ ea2
              subst ea1 ea2
              have hrw : RowAt wr 69 4 (.slice (some ⟨g, o, none⟩) i c) i (flatL wL B) := HR.out.rb.fr (Fr.of_below (HCr.out.2.2.2.2.trans (HL.out.1.bel.mono HCr.out.2.2.2.2.size)) (fun _ => False)) fun _ _ => id
              have hrg : wr.rangeAt g (o + k * 4) v.cs.toList := row_rangeW hrw hv
              have HVv : Hid (B[k]? = some v) := hv
              have hat := at_any wr v 1 p
              rw [atB_eq] at hat
              clear hv hrw hce
              obtain ⟨bb, hbb⟩ : ∃ bb, bb = atB p v := ⟨_, rfl⟩
              have HBB : Hid (bb = atB p v) := hbb
              rw [← hbb] at hat
              clear hbb
              go_upto_region 11 with fail
              rename_i K hK
              refine wp_region_lit ?_
              refine wpList_runTo rfl (some 34) rfl (.slice (some ⟨g, o, none⟩) (k + 1) c) wr (by kernel_rfl) ?_
              simp only [Act.put, List.setIfInBounds_toArray, List.set_cons_zero, List.set_cons_succ]
              refine wpList_runTo rfl (some 35) rfl (.int .i64 ((k + 1 : Nat) : Int)) wr (by exact lenW_run (v := .slice (some ⟨g, o, none⟩) (k + 1) c) (ao := some ⟨g, o, none⟩) (n := k + 1) (c := c) rfl (.tmp 34) rfl (by kernel_rfl) _) ?_
              simp only [Act.put, List.setIfInBounds_toArray, List.set_cons_zero, List.set_cons_succ]
              refine wpList_runTo rfl (some 36) rfl (.bool true) wr (by exact gt0_run (p := ((k + 1 : Nat) : Int)) (.tmp 35) rfl (by kernel_rfl) (decide_eq_true (by omega)) _) ?_
              simp only [Act.put, List.setIfInBounds_toArray, List.set_cons_zero, List.set_cons_succ]
              refine wpList_runTo rfl (some 37) rfl (.bool true) wr (by kernel_rfl) ?_
              simp only [Act.put, List.setIfInBounds_toArray, List.set_cons_zero, List.set_cons_succ]
              refine wpList_runToG (by kernel_rfl) (some 38) rfl (.slice (some ⟨g, o, none⟩) (k + 1) c) wr (by kernel_rfl) ?_
              simp only [Act.put, List.setIfInBounds_toArray, List.set_cons_zero, List.set_cons_succ]
              refine wpList_runToG (by kernel_rfl) (some 39) rfl (.slice (some ⟨g, o, none⟩) (k + 1) c) wr (by kernel_rfl) ?_
              simp only [Act.put, List.setIfInBounds_toArray, List.set_cons_zero, List.set_cons_succ]
              refine wpList_runToG (by kernel_rfl) (some 40) rfl (.int .i64 ((k + 1 : Nat) : Int)) wr (by exact lenW_run (v := .slice (some ⟨g, o, none⟩) (k + 1) c) (ao := some ⟨g, o, none⟩) (n := k + 1) (c := c) rfl (.tmp 39) rfl (by kernel_rfl) _) ?_
              simp only [Act.put, List.setIfInBounds_toArray, List.set_cons_zero, List.set_cons_succ]
              refine wpList_runToG (by kernel_rfl) (some 41) rfl (.int .i64 (k : Int)) wr (by exact lenM_run (n := k + 1) (.tmp 40) rfl (by kernel_rfl) (by omega) (by omega) _) ?_
              simp only [Act.put, List.setIfInBounds_toArray, List.set_cons_zero, List.set_cons_succ]
              refine wpList_runToG (by kernel_rfl) (some 42) rfl (.pointer (some ⟨g, o + k * 4, none⟩)) wr (by exact ixW_run (i := k) (n := k + 1) (c := c) (.tmp 38) (.tmp 41) rfl (by kernel_rfl) (by kernel_rfl) (by omega) _) ?_
              simp only [Act.put, List.setIfInBounds_toArray, List.set_cons_zero, List.set_cons_succ]
              refine wpList_runToG (by kernel_rfl) (some 43) rfl (.agg v.cs) wr (by exact ldA_run hrg Try.underlying69 rfl infoW (.tmp 42) rfl (by kernel_rfl)) ?_
              simp only [Act.put, List.setIfInBounds_toArray, List.set_cons_zero, List.set_cons_succ]
              refine wpList_runToG (by kernel_rfl) (some 44) rfl (.int .i64 p) wr (by kernel_rfl) ?_
              simp only [Act.put, List.setIfInBounds_toArray, List.set_cons_zero, List.set_cons_succ]
              refine wpList_callG (by kernel_rfl) (some 45) rfl 45 #[.agg v.cs, .int .i64 1, .int .i64 p] (by kernel_rfl) hat ?_
              clear hat
              rintro e w9 ⟨rfl, hb⟩
              refine ⟨_, rfl, ?_⟩
              simp only [Act.put, List.setIfInBounds_toArray, List.set_cons_zero, List.set_cons_succ]
              have HL9 : Hid (BO w8 w9 xv (ptsOf B S (C.take j)) ∧ bg = totW (B.take (k + 1)) ∧ PB B (k + 1) p) := ⟨HL.out.1.below hb, HL.out.2⟩
              clear HL hb hrg
              refine wpList_runToG (by kernel_rfl) (some 46) rfl (.bool (!bb)) w9 (by exact not_run (.tmp 45) rfl (by kernel_rfl) _) ?_
              simp only [Act.put, List.setIfInBounds_toArray, List.set_cons_zero, List.set_cons_succ]
              refine wpList_runTo rfl (some 47) rfl (.bool (!bb)) w9 (by exact pick_run (.tmp 37) (.tmp 46) rfl (by kernel_rfl) (by kernel_rfl) _) ?_
              simp only [Act.put, List.setIfInBounds_toArray, List.set_cons_zero, List.set_cons_succ]
              refine wpList_nil ?_
              refine hK _ _ ?_
              clear hK
              cases bb with
              | true =>
                have HX3 : Hid (BO w8 w9 xv (ptsOf B S (C.take j)) ∧ (bg = totW (B.take (k + 1)) ∧ bg = bo B p ∧ PB B (k + 1) p)) :=
                  ⟨HL9.out.1, HL9.out.2.1, by rw [HL9.out.2.1]; exact (HL9.out.2.2.done HR.out.sb (.inr ⟨v, HVv.out, HBB.out.symm⟩)).symm, HL9.out.2.2⟩
                clear HL9 HVv HBB h0
                generalize w9 = wr at *
                have hnot : (!true) = false := rfl
                rw [hnot]
                clear hnot
                go_wp2
                go_loopw [1, 9] (fun x1 x9 wr => ∃ (ks n1 c1 : Nat) (a1 : Option Addr) (sd : Int), x1 = .slice a1 n1 c1 ∧ x9 = .int .i64 sd ∧ n1 + ks = ns ∧ Hid (BO w8 wr xv (ptsOf B S (C.take j)) ∧ (bg = totW (B.take (k + 1)) ∧ bg = bo B p ∧ PB B (k + 1) p) ∧ RowAt w8 69 4 (.slice a1 n1 c1) n1 (flatL wL (S.drop ks)) ∧ sd = totW (S.take ks) ∧ PS S ks p)) (fun x1 _ _ => match x1 with | .slice _ n _ => n | _ => 0)
                case atStart => exact ⟨ks, n1, c1, a1, sd, rfl, rfl, hn1, HX3.out.1, HX3.out.2, HSs.out⟩
                case round => as_aux_lemma =>
                  clear HX3 HSs hn1
                  obtain ⟨ks, n1, c1, a1, sd, rfl, rfl, hn1, HS⟩ := hrel
                  by_cases h0 : n1 = 0
                  · go_upto_region 14 with fail
                    rename_i K hK
                    refine wp_region_lit ?_
                    refine wpList_runTo rfl (some 62) rfl (.slice a1 n1 c1) wr (by kernel_rfl) ?_
                    simp only [Act.put, List.setIfInBounds_toArray, List.set_cons_zero, List.set_cons_succ]
                    refine wpList_runTo rfl (some 63) rfl (.int .i64 (n1 : Int)) wr (by exact lenW_run (v := .slice a1 n1 c1) (ao := a1) (n := n1) (c := c1) rfl (.tmp 62) rfl (by kernel_rfl) _) ?_
                    simp only [Act.put, List.setIfInBounds_toArray, List.set_cons_zero, List.set_cons_succ]
                    refine wpList_runTo rfl (some 64) rfl (.bool false) wr (by exact gt0_run (p := (n1 : Int)) (.tmp 63) rfl (by kernel_rfl) (decide_eq_false (by omega)) _) ?_
                    simp only [Act.put, List.setIfInBounds_toArray, List.set_cons_zero, List.set_cons_succ]
                    refine wpList_runTo rfl (some 65) rfl (.bool false) wr (by kernel_rfl) ?_
                    simp only [Act.put, List.setIfInBounds_toArray, List.set_cons_zero, List.set_cons_succ]
                    refine wpList_skipG (by kernel_rfl) ?_
                    simp only [Act.put, List.setIfInBounds_toArray, List.set_cons_zero, List.set_cons_succ]
                    refine wpList_skipG (by kernel_rfl) ?_
                    simp only [Act.put, List.setIfInBounds_toArray, List.set_cons_zero, List.set_cons_succ]
                    refine wpList_skipG (by kernel_rfl) ?_
                    simp only [Act.put, List.setIfInBounds_toArray, List.set_cons_zero, List.set_cons_succ]
                    refine wpList_skipG (by kernel_rfl) ?_
                    simp only [Act.put, List.setIfInBounds_toArray, List.set_cons_zero, List.set_cons_succ]
                    refine wpList_skipG (by kernel_rfl) ?_
                    simp only [Act.put, List.setIfInBounds_toArray, List.set_cons_zero, List.set_cons_succ]
                    refine wpList_runTo rfl (some 71) rfl (.bool false) wr (by kernel_rfl) ?_
                    simp only [Act.put, List.setIfInBounds_toArray, List.set_cons_zero, List.set_cons_succ]
                    refine wpList_nil ?_
                    refine hK _ _ ?_
                    clear hK
                    have HX4 : Hid (BO w8 wr xv (ptsOf B S (C.take j)) ∧ (bg = totW (B.take (k + 1)) ∧ bg = bo B p ∧ PB B (k + 1) p) ∧ (sd = totW (S.take ks) ∧ sd = so S p) ∧ RowAt w8 69 4 (.slice a1 n1 c1) n1 (flatL wL (S.drop ks)) ∧ PS S ks p) :=
                      ⟨HS.out.1, HS.out.2.1, ⟨HS.out.2.2.2.1, by rw [HS.out.2.2.2.1]; exact (HS.out.2.2.2.2.done HR.out.ss (.inl (by have := HR.out.es; omega))).symm⟩, HS.out.2.2.1, HS.out.2.2.2.2⟩
                    clear HS
                    go_upto_region 17 with fail
                    refine wp_region_lit ?_
                    refine wpList_runTo rfl (some 80) rfl (xv) wr (by kernel_rfl) ?_
                    simp only [Act.put, List.setIfInBounds_toArray, List.set_cons_zero, List.set_cons_succ]
                    refine wpList_runTo rfl (some 81) rfl (.int .i64 p) wr (by kernel_rfl) ?_
                    simp only [Act.put, List.setIfInBounds_toArray, List.set_cons_zero, List.set_cons_succ]
                    refine wpList_runTo rfl (some 82) rfl (.int .i64 bg) wr (by kernel_rfl) ?_
                    simp only [Act.put, List.setIfInBounds_toArray, List.set_cons_zero, List.set_cons_succ]
                    refine wpList_runTo rfl (some 83) rfl (.int .i64 sd) wr (by kernel_rfl) ?_
                    simp only [Act.put, List.setIfInBounds_toArray, List.set_cons_zero, List.set_cons_succ]
                    refine wpList_runTo rfl (some 84) rfl (.agg #[.int .i64 p, .int .i64 bg, .int .i64 sd]) wr (by exact buildPt_run (.tmp 81) (.tmp 82) (.tmp 83) rfl (by kernel_rfl) (by kernel_rfl) (by kernel_rfl) _) ?_
                    simp only [Act.put, List.setIfInBounds_toArray, List.set_cons_zero, List.set_cons_succ]
                    refine wpList_runTo rfl (some 85) rfl (.slice (some ⟨wr.heap.size, 0, none⟩) 1 1) (wr.alloc (.cells #[.int .i64 p, .int .i64 bg, .int .i64 sd] 61)) (by exact buildPs_run (.tmp 84) rfl (by kernel_rfl) _) ?_
                    simp only [Act.put, List.setIfInBounds_toArray, List.set_cons_zero, List.set_cons_succ]
                    have hrA : RowAt (wr.alloc (.cells #[.int .i64 p, .int .i64 bg, .int .i64 sd] 61)) 61 3 xv (ptsOf B S (C.take j)).length (flatL pL (ptsOf B S (C.take j))) := HX4.out.1.row.fr (Fr.alloc wr _ (fun _ => False)) fun _ _ => id
                    refine wpList_append_row _ rfl (.tmp 80) (.tmp 85) 55 rfl 61 i0 _ 3 24 Try.underlying55 HI.out.1 HI.out.2.1 HI.out.2.2.1 HI.out.2.2.2 (by rfl) xv (ptsOf B S (C.take j)).length (flatL pL (ptsOf B S (C.take j))) (by kernel_rfl) hrA ⟨wr.heap.size, 0, none⟩ 1 1 (pL ⟨p, bg, sd⟩) (by kernel_rfl) (by rfl) (fun j u hj => by rw [Addr.add_mid, Nat.zero_add, (Blk.new wr 61 #[.int .i64 p, .int .i64 bg, .int .i64 sd]).cell]; simpa [pL] using hj) (pL_one _) (Or.inl (by omega)) (by have := HP.out.2.2.2.2; unfold maxLen; omega) (by have := HP.out.2.2.2.2; omega) ?_
                    intro v5 w5 hrow hfr hnew
                    have HF : Hid (BO w8 w5 v5 (ptsOf B S (C.take (j + 1))) ∧ RowAt w8 69 4 (.slice a1 n1 c1) n1 (flatL wL (S.drop ks)) ∧ bg = totW (B.take (k + 1)) ∧ sd = totW (S.take ks) ∧ ∀ r ∈ C.drop (j + 1), PB B (k + 1) r ∧ PS S ks r) := by
                      refine ⟨?_, HX4.out.2.2.2.1, HX4.out.2.1.1, HX4.out.2.2.1.1, fun r hr => ⟨HX4.out.2.1.2.2.up (HP.out.2.2.2.1 r hr), HX4.out.2.2.2.2.up (HP.out.2.2.2.1 r hr)⟩⟩
                      rw [HP.out.1, ← HX4.out.2.1.2.1, ← HX4.out.2.2.1.2]
                      exact (HX4.out.1.below ((Below.refl _ wr).alloc (Nat.le_refl _) _)).app hrow hfr hnew
                    clear hrow hfr hnew hrA HX4 HP
                    simp only [Act.put, List.setIfInBounds_toArray, List.set_cons_zero, List.set_cons_succ]
                    refine wpList_runTo rfl (some 7) rfl (v5) w5 (by kernel_rfl) ?_
                    simp only [Act.put, List.setIfInBounds_toArray, List.set_cons_zero, List.set_cons_succ]
                    refine wpList_nil ?_
                    go_wp2
                    exact ⟨⟨j + 1, (k + 1), ks, n1, c1, a1, bg, sd, v5, rfl, by omega, hkb, rfl, rfl, rfl, rfl, by go_num, hn1, HF.out⟩, by simp [RowKit.intOf]; omega⟩

                  · obtain ⟨v, hv⟩ : ∃ v, S[ks]? = some v := ⟨_, List.getElem?_eq_getElem (by rw [← HR.out.es]; omega)⟩
                    have hv0 : (S.drop ks)[0]? = some v := by rw [List.getElem?_drop, Nat.add_zero]; exact hv
                    obtain ⟨g, o, cx, cur, ea, _⟩ := HS.out.2.2.1.more (by omega)
                    injection ea with ea1 _ ea2
                    subst ea1 ea2
                    have hrw : RowAt wr 69 4 (.slice (some ⟨g, o, none⟩) n1 c1) n1 (flatL wL (S.drop ks)) := HS.out.2.2.1.fr (Fr.of_below HS.out.1.bel (fun _ => False)) fun _ _ => id
                    have hrg : wr.rangeAt g (o + 0 * 4) v.cs.toList := row_rangeW hrw hv0
                    have HVv : Hid (S[ks]? = some v) := hv
                    have hat := at_any wr v 2 p
                    rw [atS_eq] at hat
                    have hn0 : 0 < n1 := by omega
                    clear hv hrw
                    obtain ⟨bb, hbb⟩ : ∃ bb, bb = atS p v := ⟨_, rfl⟩
                    have HBB : Hid (bb = atS p v) := hbb
                    rw [← hbb] at hat
                    clear hbb
                    go_upto_region 14 with fail
                    rename_i K hK
                    refine wp_region_lit ?_
                    refine wpList_runTo rfl (some 62) rfl (.slice (some ⟨g, o, none⟩) n1 c1) wr (by kernel_rfl) ?_
                    simp only [Act.put, List.setIfInBounds_toArray, List.set_cons_zero, List.set_cons_succ]
                    refine wpList_runTo rfl (some 63) rfl (.int .i64 (n1 : Int)) wr (by exact lenW_run (v := .slice (some ⟨g, o, none⟩) n1 c1) (ao := some ⟨g, o, none⟩) (n := n1) (c := c1) rfl (.tmp 62) rfl (by kernel_rfl) _) ?_
                    simp only [Act.put, List.setIfInBounds_toArray, List.set_cons_zero, List.set_cons_succ]
                    refine wpList_runTo rfl (some 64) rfl (.bool true) wr (by exact gt0_run (p := (n1 : Int)) (.tmp 63) rfl (by kernel_rfl) (decide_eq_true (by omega)) _) ?_
                    simp only [Act.put, List.setIfInBounds_toArray, List.set_cons_zero, List.set_cons_succ]
                    refine wpList_runTo rfl (some 65) rfl (.bool true) wr (by kernel_rfl) ?_
                    simp only [Act.put, List.setIfInBounds_toArray, List.set_cons_zero, List.set_cons_succ]
                    refine wpList_runToG (by kernel_rfl) (some 66) rfl (.slice (some ⟨g, o, none⟩) n1 c1) wr (by kernel_rfl) ?_
                    simp only [Act.put, List.setIfInBounds_toArray, List.set_cons_zero, List.set_cons_succ]
                    refine wpList_runToG (by kernel_rfl) (some 67) rfl (.pointer (some ⟨g, o + 0 * 4, none⟩)) wr (by exact ixW_run (i := 0) (n := n1) (c := c1) (.tmp 66) (.const (.int .i64 0)) rfl (by kernel_rfl) rfl hn0 _) ?_
                    simp only [Act.put, List.setIfInBounds_toArray, List.set_cons_zero, List.set_cons_succ]
                    refine wpList_runToG (by kernel_rfl) (some 68) rfl (.agg v.cs) wr (by exact ldA_run hrg Try.underlying69 rfl infoW (.tmp 67) rfl (by kernel_rfl)) ?_
                    simp only [Act.put, List.setIfInBounds_toArray, List.set_cons_zero, List.set_cons_succ]
                    refine wpList_runToG (by kernel_rfl) (some 69) rfl (.int .i64 p) wr (by kernel_rfl) ?_
                    simp only [Act.put, List.setIfInBounds_toArray, List.set_cons_zero, List.set_cons_succ]
                    refine wpList_callG (by kernel_rfl) (some 70) rfl 45 #[.agg v.cs, .int .i64 2, .int .i64 p] (by kernel_rfl) hat ?_
                    clear hat
                    rintro e w9 ⟨rfl, hb⟩
                    refine ⟨_, rfl, ?_⟩
                    simp only [Act.put, List.setIfInBounds_toArray, List.set_cons_zero, List.set_cons_succ]
                    have HS9 : Hid (BO w8 w9 xv (ptsOf B S (C.take j)) ∧ (bg = totW (B.take (k + 1)) ∧ bg = bo B p ∧ PB B (k + 1) p) ∧ RowAt w8 69 4 (.slice (some ⟨g, o, none⟩) n1 c1) n1 (flatL wL (S.drop ks)) ∧ sd = totW (S.take ks) ∧ PS S ks p) := ⟨HS.out.1.below hb, HS.out.2⟩
                    clear HS hb hrg
                    refine wpList_runTo rfl (some 71) rfl (.bool bb) w9 (by exact pick_run (.tmp 65) (.tmp 70) rfl (by kernel_rfl) (by kernel_rfl) _) ?_
                    simp only [Act.put, List.setIfInBounds_toArray, List.set_cons_zero, List.set_cons_succ]
                    refine wpList_nil ?_
                    refine hK _ _ ?_
                    clear hK
                    cases bb with
                    | false =>
                      have HX4 : Hid (BO w8 w9 xv (ptsOf B S (C.take j)) ∧ (bg = totW (B.take (k + 1)) ∧ bg = bo B p ∧ PB B (k + 1) p) ∧ (sd = totW (S.take ks) ∧ sd = so S p) ∧ RowAt w8 69 4 (.slice (some ⟨g, o, none⟩) n1 c1) n1 (flatL wL (S.drop ks)) ∧ PS S ks p) :=
                        ⟨HS9.out.1, HS9.out.2.1, ⟨HS9.out.2.2.2.1, by rw [HS9.out.2.2.2.1]; exact (HS9.out.2.2.2.2.done HR.out.ss (.inr ⟨v, HVv.out, HBB.out.symm⟩)).symm⟩, HS9.out.2.2.1, HS9.out.2.2.2.2⟩
                      clear HS9 HVv HBB hv0 hn0 h0
                      generalize w9 = wr at *
                      go_upto_region 17 with fail
                      refine wp_region_lit ?_
                      refine wpList_runTo rfl (some 80) rfl (xv) wr (by kernel_rfl) ?_
                      simp only [Act.put, List.setIfInBounds_toArray, List.set_cons_zero, List.set_cons_succ]
                      refine wpList_runTo rfl (some 81) rfl (.int .i64 p) wr (by kernel_rfl) ?_
                      simp only [Act.put, List.setIfInBounds_toArray, List.set_cons_zero, List.set_cons_succ]
                      refine wpList_runTo rfl (some 82) rfl (.int .i64 bg) wr (by kernel_rfl) ?_
                      simp only [Act.put, List.setIfInBounds_toArray, List.set_cons_zero, List.set_cons_succ]
                      refine wpList_runTo rfl (some 83) rfl (.int .i64 sd) wr (by kernel_rfl) ?_
                      simp only [Act.put, List.setIfInBounds_toArray, List.set_cons_zero, List.set_cons_succ]
                      refine wpList_runTo rfl (some 84) rfl (.agg #[.int .i64 p, .int .i64 bg, .int .i64 sd]) wr (by exact buildPt_run (.tmp 81) (.tmp 82) (.tmp 83) rfl (by kernel_rfl) (by kernel_rfl) (by kernel_rfl) _) ?_
                      simp only [Act.put, List.setIfInBounds_toArray, List.set_cons_zero, List.set_cons_succ]
                      refine wpList_runTo rfl (some 85) rfl (.slice (some ⟨wr.heap.size, 0, none⟩) 1 1) (wr.alloc (.cells #[.int .i64 p, .int .i64 bg, .int .i64 sd] 61)) (by exact buildPs_run (.tmp 84) rfl (by kernel_rfl) _) ?_
                      simp only [Act.put, List.setIfInBounds_toArray, List.set_cons_zero, List.set_cons_succ]
                      have hrA : RowAt (wr.alloc (.cells #[.int .i64 p, .int .i64 bg, .int .i64 sd] 61)) 61 3 xv (ptsOf B S (C.take j)).length (flatL pL (ptsOf B S (C.take j))) := HX4.out.1.row.fr (Fr.alloc wr _ (fun _ => False)) fun _ _ => id
                      refine wpList_append_row _ rfl (.tmp 80) (.tmp 85) 55 rfl 61 i0 _ 3 24 Try.underlying55 HI.out.1 HI.out.2.1 HI.out.2.2.1 HI.out.2.2.2 (by rfl) xv (ptsOf B S (C.take j)).length (flatL pL (ptsOf B S (C.take j))) (by kernel_rfl) hrA ⟨wr.heap.size, 0, none⟩ 1 1 (pL ⟨p, bg, sd⟩) (by kernel_rfl) (by rfl) (fun j u hj => by rw [Addr.add_mid, Nat.zero_add, (Blk.new wr 61 #[.int .i64 p, .int .i64 bg, .int .i64 sd]).cell]; simpa [pL] using hj) (pL_one _) (Or.inl (by omega)) (by have := HP.out.2.2.2.2; unfold maxLen; omega) (by have := HP.out.2.2.2.2; omega) ?_
                      intro v5 w5 hrow hfr hnew
                      have HF : Hid (BO w8 w5 v5 (ptsOf B S (C.take (j + 1))) ∧ RowAt w8 69 4 (.slice (some ⟨g, o, none⟩) n1 c1) n1 (flatL wL (S.drop ks)) ∧ bg = totW (B.take (k + 1)) ∧ sd = totW (S.take ks) ∧ ∀ r ∈ C.drop (j + 1), PB B (k + 1) r ∧ PS S ks r) := by
                        refine ⟨?_, HX4.out.2.2.2.1, HX4.out.2.1.1, HX4.out.2.2.1.1, fun r hr => ⟨HX4.out.2.1.2.2.up (HP.out.2.2.2.1 r hr), HX4.out.2.2.2.2.up (HP.out.2.2.2.1 r hr)⟩⟩
                        rw [HP.out.1, ← HX4.out.2.1.2.1, ← HX4.out.2.2.1.2]
                        exact (HX4.out.1.below ((Below.refl _ wr).alloc (Nat.le_refl _) _)).app hrow hfr hnew
                      clear hrow hfr hnew hrA HX4 HP
                      simp only [Act.put, List.setIfInBounds_toArray, List.set_cons_zero, List.set_cons_succ]
                      refine wpList_runTo rfl (some 7) rfl (v5) w5 (by kernel_rfl) ?_
                      simp only [Act.put, List.setIfInBounds_toArray, List.set_cons_zero, List.set_cons_succ]
                      refine wpList_nil ?_
                      go_wp2
                      exact ⟨⟨j + 1, (k + 1), ks, n1, c1, (some ⟨g, o, none⟩), bg, sd, v5, rfl, by omega, hkb, rfl, rfl, rfl, rfl, by go_num, hn1, HF.out⟩, by simp [RowKit.intOf]; omega⟩

                    | true =>
                      have hq3 : w9.cell? ⟨g, o + 0 * 4 + 3, none⟩ = some (.int .i64 v.q) := by
                        have hr9 : RowAt w9 69 4 (.slice (some ⟨g, o, none⟩) n1 c1) n1 (flatL wL (S.drop ks)) := HS9.out.2.2.1.fr (Fr.of_below HS9.out.1.bel (fun _ => False)) fun _ _ => id
                        exact row_rangeW hr9 hv0 3 (.int .i64 v.q) rfl
                      have HN : Hid (RowAt w8 69 4 (.slice (if c1 = 1 then some ⟨g, o, none⟩ else some ⟨g, o + 4, none⟩) (n1 - 1) (c1 - 1)) (n1 - 1) (flatL wL (S.drop (ks + 1))) ∧ sd + v.q = totW (S.take (ks + 1)) ∧ PS S (ks + 1) p ∧ 0 ≤ sd + v.q ∧ sd + v.q ≤ 4398046511104000000) := by
                        have e : sd + v.q = totW (S.take (ks + 1)) := by rw [tot_take HVv.out, HS9.out.2.2.2.1]
                        have h2 := totW_bd HR.out.qs (ks + 1) (by rw [← HR.out.es]; omega)
                        rw [← e] at h2
                        have h3 := rowW_from HS9.out.2.2.1 hn0
                        rw [List.drop_drop] at h3
                        exact ⟨h3, e, HS9.out.2.2.2.2.pop HVv.out HBB.out.symm, h2⟩
                      clear HVv HBB hv0 h0
                      generalize v.q = vq at *
                      go_upto_region 15 with fail
                      rename_i K hK
                      refine wp_region_lit ?_
                      refine wpList_runTo rfl (some 72) rfl (.int .i64 sd) w9 (by kernel_rfl) ?_
                      simp only [Act.put, List.setIfInBounds_toArray, List.set_cons_zero, List.set_cons_succ]
                      refine wpList_runTo rfl (some 73) rfl (.slice (some ⟨g, o, none⟩) n1 c1) w9 (by kernel_rfl) ?_
                      simp only [Act.put, List.setIfInBounds_toArray, List.set_cons_zero, List.set_cons_succ]
                      refine wpList_runTo rfl (some 74) rfl (.pointer (some ⟨g, o + 0 * 4, none⟩)) w9 (by exact ixW_run (i := 0) (n := n1) (c := c1) (.tmp 73) (.const (.int .i64 0)) rfl (by kernel_rfl) rfl hn0 _) ?_
                      simp only [Act.put, List.setIfInBounds_toArray, List.set_cons_zero, List.set_cons_succ]
                      refine wpList_runTo rfl (some 75) rfl (.pointer (some ⟨g, o + 0 * 4 + 3, none⟩)) w9 (by kernel_rfl) ?_
                      simp only [Act.put, List.setIfInBounds_toArray, List.set_cons_zero, List.set_cons_succ]
                      refine wpList_runTo rfl (some 76) rfl (.int .i64 vq) w9 (by exact ldN_run (.inl rfl) (.tmp 75) rfl (by kernel_rfl) hq3) ?_
                      simp only [Act.put, List.setIfInBounds_toArray, List.set_cons_zero, List.set_cons_succ]
                      refine wpList_runTo rfl (some 77) rfl (.int .i64 (sd + vq)) w9 (by exact addW_run (.tmp 72) (.tmp 76) rfl (by kernel_rfl) (by kernel_rfl) (by have := HN.out.2.2.2; omega) _) ?_
                      simp only [Act.put, List.setIfInBounds_toArray, List.set_cons_zero, List.set_cons_succ]
                      refine wpList_runTo rfl (some 9) rfl (.int .i64 (sd + vq)) w9 (by kernel_rfl) ?_
                      simp only [Act.put, List.setIfInBounds_toArray, List.set_cons_zero, List.set_cons_succ]
                      refine wpList_nil ?_
                      refine hK _ _ ?_
                      clear hK hq3
                      go_upto_region 16 with fail
                      refine wp_region_lit ?_
                      refine wpList_runTo rfl (some 78) rfl (.slice (some ⟨g, o, none⟩) n1 c1) w9 (by kernel_rfl) ?_
                      simp only [Act.put, List.setIfInBounds_toArray, List.set_cons_zero, List.set_cons_succ]
                      refine wpList_runTo rfl (some 79) rfl (.slice (if c1 = 1 then some ⟨g, o, none⟩ else some ⟨g, o + 4, none⟩) (n1 - 1) (c1 - 1)) w9 (by exact fromW_run (.tmp 78) rfl (by kernel_rfl) hn0 _) ?_
                      simp only [Act.put, List.setIfInBounds_toArray, List.set_cons_zero, List.set_cons_succ]
                      have HF : Hid (BO w8 w9 xv (ptsOf B S (C.take j)) ∧ (bg = totW (B.take (k + 1)) ∧ bg = bo B p ∧ PB B (k + 1) p) ∧ RowAt w8 69 4 (.slice (if c1 = 1 then some ⟨g, o, none⟩ else some ⟨g, o + 4, none⟩) (n1 - 1) (c1 - 1)) (n1 - 1) (flatL wL (S.drop (ks + 1))) ∧ sd + vq = totW (S.take (ks + 1)) ∧ PS S (ks + 1) p) := ⟨HS9.out.1, HS9.out.2.1, HN.out.1, HN.out.2.1, HN.out.2.2.1⟩
                      clear HS9 HN
                      generalize (if c1 = 1 then some (⟨g, o, none⟩ : Addr) else some ⟨g, o + 4, none⟩) = a2 at *
                      obtain ⟨n2, hn2⟩ : ∃ n2, n2 = n1 - 1 := ⟨_, rfl⟩
                      have hn3 : n2 + (ks + 1) = ns := by omega
                      have hn4 : n2 < n1 := by omega
                      rw [← hn2] at HF ⊢
                      clear hn2
                      generalize c1 - 1 = c2 at *
                      refine wpList_runTo rfl (some 1) rfl (.slice a2 n2 c2) w9 (by kernel_rfl) ?_
                      simp only [Act.put, List.setIfInBounds_toArray, List.set_cons_zero, List.set_cons_succ]
                      refine wpList_nil ?_
                      go_wp2
                      exact ⟨⟨ks + 1, n2, c2, a2, sd + vq, rfl, rfl, hn3, HF.out⟩, hn4⟩

              | false =>
                have hq3 : w9.cell? ⟨g, o + k * 4 + 3, none⟩ = some (.int .i64 v.q) := by
                  have hr9 : RowAt w9 69 4 (.slice (some ⟨g, o, none⟩) i c) i (flatL wL B) := HR.out.rb.fr (Fr.of_below (HCr.out.2.2.2.2.trans (HL9.out.1.bel.mono HCr.out.2.2.2.2.size)) (fun _ => False)) fun _ _ => id
                  exact row_rangeW hr9 HVv.out 3 (.int .i64 v.q) rfl
                have HN : Hid (bg - v.q = totW (B.take k) ∧ PB B k p ∧ 0 ≤ bg - v.q ∧ bg - v.q ≤ 4398046511104000000) := by
                  have e : bg - v.q = totW (B.take k) := by rw [HL9.out.2.1, tot_take HVv.out]; omega
                  have h2 := totW_bd HR.out.qb k (by rw [← HR.out.eb]; omega)
                  rw [← e] at h2
                  exact ⟨e, HL9.out.2.2.pop HVv.out HBB.out.symm, h2⟩
                clear HVv HBB h0
                generalize v.q = vq at *
                have hnot : (!false) = true := rfl
                rw [hnot]
                clear hnot
                go_upto_region 12 with fail
                rename_i K hK
                refine wp_region_lit ?_
                refine wpList_runTo rfl (some 48) rfl (.int .i64 bg) w9 (by kernel_rfl) ?_
                simp only [Act.put, List.setIfInBounds_toArray, List.set_cons_zero, List.set_cons_succ]
                refine wpList_runTo rfl (some 49) rfl (.slice (some ⟨g, o, none⟩) (k + 1) c) w9 (by kernel_rfl) ?_
                simp only [Act.put, List.setIfInBounds_toArray, List.set_cons_zero, List.set_cons_succ]
                refine wpList_runTo rfl (some 50) rfl (.slice (some ⟨g, o, none⟩) (k + 1) c) w9 (by kernel_rfl) ?_
                simp only [Act.put, List.setIfInBounds_toArray, List.set_cons_zero, List.set_cons_succ]
                refine wpList_runTo rfl (some 51) rfl (.int .i64 ((k + 1 : Nat) : Int)) w9 (by exact lenW_run (v := .slice (some ⟨g, o, none⟩) (k + 1) c) (ao := some ⟨g, o, none⟩) (n := k + 1) (c := c) rfl (.tmp 50) rfl (by kernel_rfl) _) ?_
                simp only [Act.put, List.setIfInBounds_toArray, List.set_cons_zero, List.set_cons_succ]
                refine wpList_runTo rfl (some 52) rfl (.int .i64 (k : Int)) w9 (by exact lenM_run (n := k + 1) (.tmp 51) rfl (by kernel_rfl) (by omega) (by omega) _) ?_
                simp only [Act.put, List.setIfInBounds_toArray, List.set_cons_zero, List.set_cons_succ]
                refine wpList_runTo rfl (some 53) rfl (.pointer (some ⟨g, o + k * 4, none⟩)) w9 (by exact ixW_run (i := k) (n := k + 1) (c := c) (.tmp 49) (.tmp 52) rfl (by kernel_rfl) (by kernel_rfl) (by omega) _) ?_
                simp only [Act.put, List.setIfInBounds_toArray, List.set_cons_zero, List.set_cons_succ]
                refine wpList_runTo rfl (some 54) rfl (.pointer (some ⟨g, o + k * 4 + 3, none⟩)) w9 (by kernel_rfl) ?_
                simp only [Act.put, List.setIfInBounds_toArray, List.set_cons_zero, List.set_cons_succ]
                refine wpList_runTo rfl (some 55) rfl (.int .i64 vq) w9 (by exact ldN_run (.inl rfl) (.tmp 54) rfl (by kernel_rfl) hq3) ?_
                simp only [Act.put, List.setIfInBounds_toArray, List.set_cons_zero, List.set_cons_succ]
                refine wpList_runTo rfl (some 56) rfl (.int .i64 (bg - vq)) w9 (by exact subW_run (.tmp 48) (.tmp 55) rfl (by kernel_rfl) (by kernel_rfl) (by have := HN.out.2.2; omega) _) ?_
                simp only [Act.put, List.setIfInBounds_toArray, List.set_cons_zero, List.set_cons_succ]
                refine wpList_runTo rfl (some 8) rfl (.int .i64 (bg - vq)) w9 (by kernel_rfl) ?_
                simp only [Act.put, List.setIfInBounds_toArray, List.set_cons_zero, List.set_cons_succ]
                refine wpList_nil ?_
                refine hK _ _ ?_
                clear hK hq3
                go_upto_region 13 with fail
                refine wp_region_lit ?_
                refine wpList_runTo rfl (some 57) rfl (.slice (some ⟨g, o, none⟩) (k + 1) c) w9 (by kernel_rfl) ?_
                simp only [Act.put, List.setIfInBounds_toArray, List.set_cons_zero, List.set_cons_succ]
                refine wpList_runTo rfl (some 58) rfl (.slice (some ⟨g, o, none⟩) (k + 1) c) w9 (by kernel_rfl) ?_
                simp only [Act.put, List.setIfInBounds_toArray, List.set_cons_zero, List.set_cons_succ]
                refine wpList_runTo rfl (some 59) rfl (.int .i64 ((k + 1 : Nat) : Int)) w9 (by exact lenW_run (v := .slice (some ⟨g, o, none⟩) (k + 1) c) (ao := some ⟨g, o, none⟩) (n := k + 1) (c := c) rfl (.tmp 58) rfl (by kernel_rfl) _) ?_
                simp only [Act.put, List.setIfInBounds_toArray, List.set_cons_zero, List.set_cons_succ]
                refine wpList_runTo rfl (some 60) rfl (.int .i64 (k : Int)) w9 (by exact lenM_run (n := k + 1) (.tmp 59) rfl (by kernel_rfl) (by omega) (by omega) _) ?_
                simp only [Act.put, List.setIfInBounds_toArray, List.set_cons_zero, List.set_cons_succ]
                refine wpList_runTo rfl (some 61) rfl (.slice (some ⟨g, o, none⟩) k c) w9 (by exact cutW_run (n := k + 1) (k := k) (.tmp 57) (.tmp 60) rfl (by kernel_rfl) (by kernel_rfl) (by omega) _) ?_
                simp only [Act.put, List.setIfInBounds_toArray, List.set_cons_zero, List.set_cons_succ]
                refine wpList_runTo rfl (some 0) rfl (.slice (some ⟨g, o, none⟩) k c) w9 (by kernel_rfl) ?_
                simp only [Act.put, List.setIfInBounds_toArray, List.set_cons_zero, List.set_cons_succ]
                refine wpList_nil ?_
                have HF : Hid (BO w8 w9 xv (ptsOf B S (C.take j)) ∧ bg - vq = totW (B.take k) ∧ PB B k p) := ⟨HL9.out.1, HN.out.1, HN.out.2.1⟩
                clear HL9 HN
                go_wp2
                exact ⟨⟨k, bg - vq, by omega, rfl, rfl, HF.out⟩, by simp⟩

        · have e : j = nc := by omega
          subst e
          have HF : Hid (BO w wr xv (ptsOf B S C)) := by
            have h1 := HB.out.1
            rw [HCr.out.2.1, List.take_length] at h1
            exact ⟨h1.row, HCr.out.2.2.2.2.trans (h1.bel.mono HCr.out.2.2.2.2.size), fun q hq => Nat.le_trans HCr.out.2.2.2.2.size (h1.own q hq)⟩
          clear HB
          go_wp2
          go_ret
          exact ⟨_, rfl, HF⟩
end Go.Proofs.Ytbhddfcdnpidkaa
