/-
  given, walked.
-/
import Derived.Test.YtdncemecnbglaaaA27
import Derived.Deep.WholeRow
namespace Go.Proofs.Ytdncemecnbglaaa
set_option linter.unusedVariables false
set_option linter.unusedSimpArgs false
open Go.RowKit Go.Great Go.Maps

/-- The holds from a on, up to b, are no longer than what can come in. -/
def NB (es : List En) (a b : Nat) : Prop := ∀ (j : Nat) e, a ≤ j → j < b → es[j]? = some e → e.n ≤ 140737488351232
theorem NB.app {es : List En} {a b : Nat} (h : NB es a b) (hb : b ≤ es.length) (l : List En) : NB (es ++ l) a b := fun j e h1 h2 h3 => by
  rw [List.getElem?_append_left (by omega)] at h3
  exact h j e h1 h2 h3
theorem NB.snoc {es : List En} {a b : Nat} (h : NB es a b) (hb : b = es.length) {e : En} (he : e.n ≤ 140737488351232) : NB (es ++ [e]) a (b + 1) := fun j x h1 h2 h3 => by
  rcases get_snoc2 h3 with h3 | ⟨_, rfl⟩
  · have := (List.getElem?_eq_some_iff.1 h3).1
    exact h j x h1 (by omega) h3
  · exact he
set_option maxRecDepth 100000 in
set_option maxHeartbeats 4000000 in
theorem given_any {s : Nat} {G : Gh} {w : World} {p : Nat} {c0 : PC} {es0 : List En} {os0 : List (Value × Nat)} {av : Value} {ks : List Kp} (gi : Gi G w) (hb : Blk w p 54 c0.cs) (hh : Hs w G c0.k es0) (ho : Ls 32 35 1 w G c0.o os0) (hw : Wt s G w av ks) (h4 : os0.length % 4 = 0)
    (hE : es0.length + 4 * ks.length ≤ 1000000000000) (hO : os0.length + 4 ≤ 1000000000000) (hL : ∀ k ∈ ks, k.l.length ≤ 140737488351232) :
    Calls Try.prog 42 #[.pointer (some ⟨p, 0, none⟩), av] w fun e w' => e = .returned (.tuple #[]) ∧ Hid (∃ G' c es os, GV s G w p c0 G' w' c es os ∧ es.length = es0.length + 4 * ks.length ∧ os.length = os0.length + 4) := by
  obtain ⟨aa, ac, hav, hac⟩ := hw.row.form
  obtain ⟨n, hn⟩ : ∃ n, n = ks.length := ⟨_, rfl⟩
  rw [← hn] at hav hac hE ⊢
  have HN : Hid (n = ks.length) := hn
  obtain ⟨ka, kc, hk0, _⟩ := hh.row.form
  obtain ⟨n0, hn0⟩ : ∃ n0, n0 = es0.length := ⟨_, rfl⟩
  rw [← hn0] at hk0 hE ⊢
  have HN0 : Hid (n0 = es0.length) := hn0
  have q2 : w.cell? ⟨p, 2, none⟩ = some (.slice ka n0 kc) := by rw [← hk0]; exact hb.cell 2
  have H0 : Hid (P1 s G w p c0 av ks os0 0 G w c0 es0) := ⟨GV.start gi hb hh ho, hw.row, hw.col, fun j k _ hk => ⟨hw.pk k (List.mem_of_getElem? hk), hw.pc k (List.mem_of_getElem? hk)⟩⟩
  have HKF : Hid (∀ k ∈ ks, ∃ a n c, k.v = .slice a n c) := fun k hk => by
    obtain ⟨a, c, e, _⟩ := (hw.pk k hk).1.form
    exact ⟨a, _, c, e⟩
  have HD : Hid (ks.Pairwise fun a b => a.v.ownBlock ≠ b.v.ownBlock) := hw.dis
  have HL : Hid (∀ k ∈ ks, k.l.length ≤ 140737488351232) := hL
  have H4 : Hid (os0.length % 4 = 0 ∧ os0.length + 4 ≤ 1000000000000) := ⟨h4, hO⟩
  clear hw hh ho hb gi hn hn0 hk0 hL h4 hO
  subst hav
  go_enter Try.func42, Try.ntmps42
  go_wp2
  clear q2
  go_loopw [5, 6, 7] (fun x5 _ _ wr => ∃ i : Nat, i ≤ n ∧ x5 = .int .i64 (i : Int) ∧ Hid (∃ G' c es, P1 s G w p c0 (.slice aa n ac) ks os0 i G' wr c es ∧ es.length = n0 + i ∧ NB es n0 (n0 + i))) (fun x5 _ _ _ => n - (RowKit.intOf x5).toNat)
  case atStart => exact ⟨0, Nat.zero_le _, rfl, G, c0, es0, H0.out, HN0.out.symm, fun j e h1 h2 _ => by omega⟩
  case round =>
    obtain ⟨i, hi, rfl, HS⟩ := hrel
    by_cases hlt : i < n
    · have hlt' : (i : Int) < (n : Int) := by omega
      obtain ⟨G1, c, es, h1, hes, hnb⟩ := HS.out
      have HNB : Hid (NB es n0 (n0 + i)) := hnb
      clear HS H0 hnb
      obtain ⟨k, hk⟩ : ∃ k, ks[i]? = some k := ⟨_, List.getElem?_eq_getElem (by rw [← HN.out]; exact hlt)⟩
      obtain ⟨ag, ao, ac', acur, ea, _⟩ := h1.row.more (by rw [← HN.out]; omega)
      injection ea with ea1 _ ea2
      subst ea1 ea2
      have hkp := h1.pk i k (Nat.le_refl _) hk
      obtain ⟨bg, bo, bc, bcur, ebv, _⟩ := hkp.1.1.more (List.length_pos_iff.2 hkp.1.2.2)
      obtain ⟨ck, cc, eck, _⟩ := h1.gv.hs.row.form
      obtain ⟨nk, hnk⟩ : ∃ nk, nk = es.length := ⟨_, rfl⟩
      obtain ⟨bl, hbl⟩ : ∃ bl, bl = k.l.length := ⟨_, rfl⟩
      rw [← hnk] at eck hes
      rw [← hbl] at ebv
      have HES : Hid (nk = n0 + i) := hes
      have hnkb : nk ≤ 1000000000000 := by omega
      have hblb : bl ≤ 140737488351232 := by rw [hbl]; exact HL.out k (List.mem_of_getElem? hk)
      clear hes
      have HC : Hid (nk = es.length ∧ bl = k.l.length ∧ ks[i]? = some k ∧ c.k = .slice ck nk cc ∧ k.v = .slice (some ⟨bg, bo, none⟩) bl bc) := ⟨hnk, hbl, hk, eck, ebv⟩
      have q2 : wr.cell? ⟨p, 2, none⟩ = some (.slice ck nk cc) := by rw [← eck]; exact h1.gv.blk.cell 2
      have hw1 : IntKind.i64.wrap (37 * (nk : Int)) = 37 * (nk : Int) := by rw [IntKind.wrap_i64]; omega
      have hw2 : IntKind.i64.wrap (20 + 37 * (nk : Int)) = 20 + 37 * (nk : Int) := by rw [IntKind.wrap_i64]; omega
      have hw1' : wrap64 (37 * (nk : Int)) = 37 * (nk : Int) := by unfold wrap64; omega
      have hw2' : wrap64 (20 + 37 * (nk : Int)) = 20 + 37 * (nk : Int) := by unfold wrap64; omega
      obtain ⟨mk, hcv, hm256⟩ : ∃ mk : Nat, IntKind.u8.wrap (20 + 37 * (nk : Int)) = (mk : Int) ∧ mk < 256 := ⟨((20 + 37 * (nk : Int)) % 256).toNat, by rw [IntKind.wrap_u8]; omega, by omega⟩
      have hbr := hkp.1.br mk
      rw [ebv, ← hbl] at hbr
      have H1 : Hid (P1 s G w p c0 (.slice (some ⟨ag, ao, none⟩) n ac) ks os0 (i + 1) (pnt G1 bg (2, mk)) wr c es ∧ BR wr (.slice (some ⟨bg, bo, none⟩) bl bc) bl 0 mk) := ⟨h1.turn HD.out hk (by rw [ebv]; rfl) mk, hbr⟩
      clear hnk hbl eck ebv hkp hbr h1 hk
      go_upto_region 6 with fail
      clear q2 hw1 hw2 hw1' hw2' hcv
      go_loopw [7] (fun x7 wq => ∃ q : Nat, q ≤ bl ∧ x7 = .int .i64 (q : Int) ∧ Hid (P1 s G w p c0 (.slice (some ⟨ag, ao, none⟩) n ac) ks os0 (i + 1) (pnt G1 bg (2, mk)) wq c es ∧ BR wq (.slice (some ⟨bg, bo, none⟩) bl bc) bl q mk)) (fun x7 _ => bl - (RowKit.intOf x7).toNat)
      case atStart => exact ⟨0, Nat.zero_le _, rfl, H1.out⟩
      case round =>
        obtain ⟨q, hq, rfl, HQ⟩ := hrel
        have ca : wr.cell? ⟨ag, ao + i, none⟩ = some (.slice (some ⟨bg, bo, none⟩) bl bc) := by
          rw [← HC.out.2.2.2.2]
          refine HQ.out.1.row.cell (congrArg (fun z => Value.slice (some ⟨ag, ao, none⟩) z ac) HN.out) ?_
          rw [List.getElem?_map, HC.out.2.2.1]
          rfl
        by_cases hltq : q < bl
        · have hltq' : (q : Int) < (bl : Int) := by omega
          obtain ⟨⟨x, cx⟩, fx⟩ := HQ.out.2.cell hltq
          obtain ⟨bcu, hbcu⟩ := HQ.out.2.blk
          have hset : Stp s (fun _ => False) (pnt G1 bg (2, mk)) wr (pnt G1 bg (2, mk)) (wr.setCell ⟨bg, bo + q, none⟩ (.int .u8 (mk : Int))) := Stp.set HQ.out.1.gv.st.gi (pnt_at _ _ _) hbcu (.inl ⟨rfl, .inl ⟨rfl, hm256⟩⟩)
          have HQ2 : Hid (P1 s G w p c0 (.slice (some ⟨ag, ao, none⟩) n ac) ks os0 (i + 1) (pnt G1 bg (2, mk)) (wr.setCell ⟨bg, bo + q, none⟩ (.int .u8 (mk : Int))) c es ∧ BR (wr.setCell ⟨bg, bo + q, none⟩ (.int .u8 (mk : Int))) (.slice (some ⟨bg, bo, none⟩) bl bc) bl (q + 1) mk) := ⟨HQ.out.1.step hset fun _ h => h, HQ.out.2.set hltq⟩
          clear HQ hset hbcu H1
          go_wp2
          exact ⟨⟨q + 1, by omega, by go_num, HQ2.out⟩, by simp [RowKit.intOf]; omega⟩
        · have hltq' : ¬ (q : Int) < (bl : Int) := by omega
          obtain rfl : q = bl := by omega
          have HZ : Hid (P1 s G w p c0 (.slice (some ⟨ag, ao, none⟩) n ac) ks os0 (i + 1) (pnt G1 bg (2, mk)) wr.drew c es ∧ EOk wr.drew (pnt G1 bg (2, mk)) ⟨.slice (some ⟨bg, bo, none⟩) q bc, q, mk⟩) := by
            have hd : Stp s (fun _ => False) (pnt G1 bg (2, mk)) wr (pnt G1 bg (2, mk)) wr.drew := Stp.drew HQ.out.1.gv.st.gi
            exact ⟨HQ.out.1.step hd fun _ h => h, hm256, by show q ≤ _; omega, (HQ.out.2.done hm256 fun z hz => by
              have e : bg = z := by injection hz
              rw [← e]; exact pnt_at _ _ _).stp hd⟩
          clear hltq H1 HQ hltq'
          go_upto_region 9 with fail
          refine wp_region_late (fun w' => w'.cell? ⟨p, 2, none⟩ = some (.slice ck nk cc) ∧ w'.cell? ⟨ag, ao + i, none⟩ = some (.slice (some ⟨bg, bo, none⟩) q bc)) 15 (by kernel_rfl) ?_
          intro hCl
          clear ca
          generalize wr.drew = Z at *
          change wpAnyL _ _ _ _ _ _ 16 _ _ _
          have hS : Z.cell? ⟨p, 2, none⟩ = some (.slice ck nk cc) ∧ Z.cell? ⟨ag, ao + i, none⟩ = some (.slice (some ⟨bg, bo, none⟩) q bc) := ⟨by rw [← HC.out.2.2.2.1]; exact HZ.out.1.gv.blk.cell 2, by
            rw [← HC.out.2.2.2.2]
            refine HZ.out.1.row.cell (congrArg (fun z => Value.slice (some ⟨ag, ao, none⟩) z ac) HN.out) ?_
            rw [List.getElem?_map, HC.out.2.2.1]
            rfl⟩
          have hlen : es.length + 1 ≤ 4000000000000 := by rw [← HC.out.1]; omega
          obtain ⟨v2, w2, hr, hp2, hf2, hrow2, hP2, ⟨a2, c2, hv2⟩, _⟩ := HZ.out.1.pushR HZ.out.2 hlen 49
          rw [HC.out.2.2.2.1] at hr
          rw [← HC.out.1] at hv2
          have hSb : ∀ W, P1 s G w p c0 (.slice (some ⟨ag, ao, none⟩) n ac) ks os0 (i + 1) (pnt G1 bg (2, mk)) W c es → W.cell? ⟨p, 2, none⟩ = some (.slice ck nk cc) ∧ W.cell? ⟨ag, ao + i, none⟩ = some (.slice (some ⟨bg, bo, none⟩) q bc) := fun W hW => ⟨by rw [← HC.out.2.2.2.1]; exact hW.gv.blk.cell 2, by
            rw [← HC.out.2.2.2.2]
            refine hW.row.cell (congrArg (fun z => Value.slice (some ⟨ag, ao, none⟩) z ac) HN.out) ?_
            rw [List.getElem?_map, HC.out.2.2.1]
            rfl⟩
          have hS1 : (Z.alloc (.cells #[.slice (some ⟨bg, bo, none⟩) q bc, .int .u8 (mk : Int)] 89)).cell? ⟨p, 2, none⟩ = some (.slice ck nk cc) ∧ (Z.alloc (.cells #[.slice (some ⟨bg, bo, none⟩) q bc, .int .u8 (mk : Int)] 89)).cell? ⟨ag, ao + i, none⟩ = some (.slice (some ⟨bg, bo, none⟩) q bc) := hSb _ (HZ.out.1.step (Stp.alloc HZ.out.1.gv.st.gi _) fun _ h => h)
          have hS2 : w2.cell? ⟨p, 2, none⟩ = some (.slice ck nk cc) ∧ w2.cell? ⟨ag, ao + i, none⟩ = some (.slice (some ⟨bg, bo, none⟩) q bc) := ⟨by rw [← HC.out.2.2.2.1]; exact hp2.cell 2, by
            rw [← HC.out.2.2.2.2]
            refine hrow2.cell (congrArg (fun z => Value.slice (some ⟨ag, ao, none⟩) z ac) HN.out) ?_
            rw [List.getElem?_map, HC.out.2.2.1]
            rfl⟩
          have hfz : w2.frozen? ⟨p, 2, none⟩ = false := hp2.frozen 2
          clear hSb
          refine takeL (i := 0) (v := .pointer (some ⟨p, 0, none⟩)) 15 (some 50) rfl rfl (by kernel_rfl) (by kernel_rfl) (by kernel_rfl) (by kernel_rfl) hCl (fun _ _ _ h => h) (Or.inl ⟨by kernel_rfl, fun w' hSw => by kernel_rfl⟩) hS ?_
          clear hCl
          intro hCl
          simp only [Act.put, List.setIfInBounds_toArray, List.set_cons_zero, List.set_cons_succ]
          refine takeL (i := 1) (v := .pointer (some ⟨p, 0, none⟩)) 15 (some 51) rfl rfl (by kernel_rfl) (by kernel_rfl) (by kernel_rfl) (by kernel_rfl) hCl (fun _ _ _ h => h) (Or.inl ⟨by kernel_rfl, fun w' hSw => by kernel_rfl⟩) hS ?_
          clear hCl
          intro hCl
          simp only [Act.put, List.setIfInBounds_toArray, List.set_cons_zero, List.set_cons_succ]
          refine takeL (i := 2) (v := .pointer (some ⟨p, 0, none⟩)) 15 (some 52) rfl rfl (by kernel_rfl) (by kernel_rfl) (by kernel_rfl) (by kernel_rfl) hCl (fun _ _ _ h => h) (Or.inl ⟨by kernel_rfl, fun w' hSw => by kernel_rfl⟩) hS ?_
          clear hCl
          intro hCl
          simp only [Act.put, List.setIfInBounds_toArray, List.set_cons_zero, List.set_cons_succ]
          refine takeL (i := 3) (v := .pointer (some ⟨p, 2, none⟩)) 15 (some 53) rfl rfl (by kernel_rfl) (by kernel_rfl) (by kernel_rfl) (by kernel_rfl) hCl (fun _ _ _ h => h) (Or.inl ⟨by kernel_rfl, fun w' hSw => by kernel_rfl⟩) hS ?_
          clear hCl
          intro hCl
          simp only [Act.put, List.setIfInBounds_toArray, List.set_cons_zero, List.set_cons_succ]
          refine takeL (i := 4) (v := .slice ck nk cc) 15 (some 54) rfl rfl (by kernel_rfl) (by kernel_rfl) (by kernel_rfl) (by kernel_rfl) hCl (fun _ _ _ h => h) (Or.inl ⟨by kernel_rfl, fun w' hSw => by exact ldS_run (.inl rfl) (.tmp 53) rfl (by kernel_rfl) hSw.1⟩) hS ?_
          clear hCl
          intro hCl
          simp only [Act.put, List.setIfInBounds_toArray, List.set_cons_zero, List.set_cons_succ]
          refine takeL (i := 5) (v := .slice (some ⟨ag, ao, none⟩) n ac) 15 (some 55) rfl rfl (by kernel_rfl) (by kernel_rfl) (by kernel_rfl) (by kernel_rfl) hCl (fun _ _ _ h => h) (Or.inl ⟨by kernel_rfl, fun w' hSw => by kernel_rfl⟩) hS ?_
          clear hCl
          intro hCl
          simp only [Act.put, List.setIfInBounds_toArray, List.set_cons_zero, List.set_cons_succ]
          refine takeL (i := 6) (v := .int .i64 (i : Int)) 15 (some 56) rfl rfl (by kernel_rfl) (by kernel_rfl) (by kernel_rfl) (by kernel_rfl) hCl (fun _ _ _ h => h) (Or.inl ⟨by kernel_rfl, fun w' hSw => by kernel_rfl⟩) hS ?_
          clear hCl
          intro hCl
          simp only [Act.put, List.setIfInBounds_toArray, List.set_cons_zero, List.set_cons_succ]
          refine takeL (i := 7) (v := .pointer (some ⟨ag, ao + i, none⟩)) 15 (some 57) rfl rfl (by kernel_rfl) (by kernel_rfl) (by kernel_rfl) (by kernel_rfl) hCl (fun _ _ _ h => h) (Or.inl ⟨by kernel_rfl, fun w' hSw => by exact ixV_run (n := n) (c := ac) (.tmp 55) (.tmp 56) rfl (by kernel_rfl) (by kernel_rfl) hlt _⟩) hS ?_
          clear hCl
          intro hCl
          simp only [Act.put, List.setIfInBounds_toArray, List.set_cons_zero, List.set_cons_succ]
          refine takeL (i := 8) (v := .slice (some ⟨bg, bo, none⟩) q bc) 15 (some 58) rfl rfl (by kernel_rfl) (by kernel_rfl) (by kernel_rfl) (by kernel_rfl) hCl (fun _ _ _ h => h) (Or.inl ⟨by kernel_rfl, fun w' hSw => by exact ldS_run (.inr (.inr (.inl rfl))) (.tmp 57) rfl (by kernel_rfl) hSw.2⟩) hS ?_
          clear hCl
          intro hCl
          simp only [Act.put, List.setIfInBounds_toArray, List.set_cons_zero, List.set_cons_succ]
          refine takeL (i := 9) (v := .int .u8 (mk : Int)) 15 (some 59) rfl rfl (by kernel_rfl) (by kernel_rfl) (by kernel_rfl) (by kernel_rfl) hCl (fun _ _ _ h => h) (Or.inl ⟨by kernel_rfl, fun w' hSw => by kernel_rfl⟩) hS ?_
          clear hCl
          intro hCl
          simp only [Act.put, List.setIfInBounds_toArray, List.set_cons_zero, List.set_cons_succ]
          refine takeL (i := 10) (v := .agg #[.slice (some ⟨bg, bo, none⟩) q bc, .int .u8 (mk : Int)]) 15 (some 60) rfl rfl (by kernel_rfl) (by kernel_rfl) (by kernel_rfl) (by kernel_rfl) hCl (fun _ _ _ h => h) (Or.inl ⟨by kernel_rfl, fun w' hSw => by exact buildH_run ⟨_, _, _, rfl⟩ (.tmp 58) (.tmp 59) rfl (by kernel_rfl) (by kernel_rfl) _⟩) hS ?_
          clear hCl
          intro hCl
          simp only [Act.put, List.setIfInBounds_toArray, List.set_cons_zero, List.set_cons_succ]
          refine oneL (i := 11) rfl (by kernel_rfl) hCl (by kernel_rfl) (fun K1 hK1 => ?_)
          refine valR (d := some 61) rfl (.slice (some ⟨Z.heap.size, 0, none⟩) 1 1) (w' := Z.alloc (.cells #[.slice (some ⟨bg, bo, none⟩) q bc, .int .u8 (mk : Int)] 89)) (buildH1_run ⟨_, _, _, rfl⟩ (.tmp 60) rfl (by kernel_rfl) _) ?_
          refine hK1.out _ _ (fun _ => hS1) ?_
          clear hK1 hCl
          intro hCl
          simp only [Act.put, List.setIfInBounds_toArray, List.set_cons_zero, List.set_cons_succ]
          refine oneL (i := 12) rfl (by kernel_rfl) hCl (by kernel_rfl) (fun K1 hK1 => ?_)
          refine valR (d := some 62) rfl v2 (w' := w2) (exec_append (v1 := .slice ck nk cc) (v2 := .slice (some ⟨Z.heap.size, 0, none⟩) 1 1) (.tmp 54) (.tmp 61) rfl (by kernel_rfl) (by kernel_rfl) hr) ?_
          refine hK1.out _ _ (fun _ => hS2) ?_
          clear hK1 hCl
          intro hCl
          simp only [Act.put, List.setIfInBounds_toArray, List.set_cons_zero, List.set_cons_succ]
          refine takeL (i := 13) (v := .pointer (some ⟨p, 0, none⟩)) 15 (some 63) rfl rfl (by kernel_rfl) (by kernel_rfl) (by kernel_rfl) (by kernel_rfl) hCl (fun _ _ _ h => h) (Or.inl ⟨by kernel_rfl, fun w' hSw => by kernel_rfl⟩) hS2 ?_
          clear hCl
          intro hCl
          simp only [Act.put, List.setIfInBounds_toArray, List.set_cons_zero, List.set_cons_succ]
          refine takeL (i := 14) (v := .pointer (some ⟨p, 2, none⟩)) 15 (some 64) rfl rfl (by kernel_rfl) (by kernel_rfl) (by kernel_rfl) (by kernel_rfl) hCl (fun _ _ _ h => h) (Or.inl ⟨by kernel_rfl, fun w' hSw => by kernel_rfl⟩) hS2 ?_
          clear hCl
          intro hCl
          simp only [Act.put, List.setIfInBounds_toArray, List.set_cons_zero, List.set_cons_succ]
          refine oneL (i := 15) rfl (by kernel_rfl) hCl (by kernel_rfl) (fun K1 hK1 => ?_)
          refine skipR (d := none) rfl (w' := w2.setCell ⟨p, 2, none⟩ v2) (stS_run (.inl rfl) ⟨_, _, _, hv2⟩ ⟨_, _, _, rfl⟩ (.tmp 64) (.tmp 62) rfl (by kernel_rfl) (by kernel_rfl) hS2.1 hfz) ?_
          refine hK1.out _ _ (fun h => absurd rfl h) ?_
          clear hK1 hCl
          intro hCl
          simp only [Act.put, List.setIfInBounds_toArray, List.set_cons_zero, List.set_cons_succ]
          refine doneL (by kernel_rfl) ?_
          clear hCl
          clear hr hp2 hf2 hrow2 hS hS1 hS2 hfz HZ
          have HW : Hid (∃ G' c' es', P1 s G w p c0 (.slice (some ⟨ag, ao, none⟩) n ac) ks os0 (i + 1) G' (w2.setCell ⟨p, 2, none⟩ v2) c' es' ∧ es'.length = n0 + (i + 1) ∧ NB es' n0 (n0 + (i + 1))) := ⟨_, _, _, hP2, by rw [List.length_append, ← HC.out.1, HES.out]; show n0 + i + 1 = _; omega, HNB.out.snoc (by rw [← HC.out.1, HES.out]) hblb⟩
          clear hP2 hv2
          generalize w2.setCell ⟨p, 2, none⟩ v2 = w3 at *
          go_wp2
          exact ⟨⟨i + 1, by omega, by go_num, HW.out⟩, by simp [RowKit.intOf]; omega⟩
    · obtain rfl : i = n := by omega
      obtain ⟨G1, c, es, h1, hes, hnb⟩ := HS.out
      obtain ⟨ck, cc, eck, _⟩ := h1.gv.hs.row.form
      obtain ⟨nA, hnA⟩ : ∃ nA, nA = n0 + i := ⟨_, rfl⟩
      rw [hes, ← hnA] at eck
      rw [← hnA] at hes hnb
      have q2 : wr.cell? ⟨p, 2, none⟩ = some (.slice ck nA cc) := by rw [← eck]; exact h1.gv.blk.cell 2
      have H1 : Hid (P1 s G w p c0 (.slice aa i ac) ks os0 i G1 wr c es ∧ es.length = nA ∧ NB es n0 nA) := ⟨h1, hes, hnb⟩
      have hnA0 : n0 ≤ nA := by omega
      have hnA1 : nA + 3 * (nA - n0) ≤ 1000000000000 := by omega
      have HA : Hid (nA = n0 + i) := hnA
      have hib : i ≤ 1000000000000 := by have := HN.out; omega
      clear h1 hes eck HS H0 hnA hlt hE hnb
      go_upto_region 12 with fail
      clear q2
      go_loopw [9, 10, 11] (fun x9 _ _ wr => ∃ j : Nat, n0 ≤ j ∧ j ≤ nA ∧ x9 = .int .i64 (j : Int) ∧ Hid (∃ G' c es, P1 s G w p c0 (.slice aa i ac) ks os0 i G' wr c es ∧ es.length = nA + 3 * (j - n0) ∧ NB es n0 nA)) (fun x9 _ _ _ => nA - (RowKit.intOf x9).toNat)
      case atStart => exact ⟨n0, Nat.le_refl _, hnA0, rfl, G1, c, es, H1.out.1, by rw [H1.out.2.1]; omega, H1.out.2.2⟩
      case round =>
        obtain ⟨j, hj0, hj, rfl, HS⟩ := hrel
        clear H1
        by_cases hlt : j < nA
        · have hlt' : (j : Int) < (nA : Int) := by omega
          obtain ⟨G1, c, es, h1, hes, hnb⟩ := HS.out
          obtain ⟨e, he⟩ : ∃ e, es[j]? = some e := ⟨_, List.getElem?_eq_getElem (by omega)⟩
          obtain ⟨kg, ko, kc2, kcur, eck, _⟩ := h1.gv.hs.row.more (by omega)
          obtain ⟨ne, hne⟩ : ∃ ne, ne = es.length := ⟨_, rfl⟩
          have hrow := h1.gv.hs.row
          rw [← hne] at eck hes
          have hok := h1.gv.hs.ok e (List.mem_of_getElem? he)
          obtain ⟨ea, ec, eev, _⟩ := hok.mr.form
          obtain ⟨ev, en, em⟩ := e
          dsimp only at eev
          subst eev
          have hem : em < 256 := hok.m
          have hen : en ≤ 140737488351232 := hnb j _ hj0 hlt he
          have HNB : Hid (NB es n0 nA) := hnb
          clear hnb
          have q2 : wr.cell? ⟨p, 2, none⟩ = some (.slice (some ⟨kg, ko, none⟩) ne kc2) := by rw [← eck]; exact h1.gv.blk.cell 2
          have hjne : j < ne := by omega
          have hneb : ne ≤ 1000000000000 := by omega
          have hrg : wr.rangeAt kg (ko + j * 2) (#[Value.slice ea en ec, .int .u8 (em : Int)] : Array Value).toList := fun z u hu => by
            have hz : z < 2 := (List.getElem?_eq_some_iff.1 hu).1
            rw [Nat.add_assoc]
            exact hrow.cell (by rw [eck, hne]) (by rw [flatL_get eV_len he hz]; exact hu)
          have HNE : Hid (ne = es.length ∧ ne = nA + 3 * (j - n0)) := ⟨hne, hes⟩
          have HJ : Hid (P1 s G w p c0 (.slice aa i ac) ks os0 i G1 (wr.alloc (.cells #[.slice ea en ec, .int .u8 (em : Int)] 89)) c es ∧ MkA (wr.alloc (.cells #[.slice ea en ec, .int .u8 (em : Int)] 89)) G1 5 1 em (.slice ea en ec) en ∧ Blk (wr.alloc (.cells #[.slice ea en ec, .int .u8 (em : Int)] 89)) wr.heap.size 89 #[.slice ea en ec, .int .u8 (em : Int)] ∧ c.k.ownBlock ≠ some wr.heap.size ∧ w.heap.size ≤ wr.heap.size) := by
            have hal : Stp s (fun _ => False) G1 wr G1 (wr.alloc (.cells #[.slice ea en ec, .int .u8 (em : Int)] 89)) := Stp.alloc h1.gv.st.gi _
            refine ⟨h1.step hal fun _ h => h, hok.mr.stp hal, Blk.new wr _ _, fun hq => ?_, h1.gv.st.size⟩
            have := (hrow.lt hq).1
            omega
          clear h1 hes hok he hrow eck HS hne
          go_upto_region 14 with fail
          rename_i K hK
          refine wp_region_lit ?_
          refine wpList_runTo rfl (some 76) rfl (.pointer (some ⟨p, 0, none⟩)) wr (by kernel_rfl) ?_
          simp only [Act.put, List.setIfInBounds_toArray, List.set_cons_zero, List.set_cons_succ]
          refine wpList_runTo rfl (some 77) rfl (.pointer (some ⟨p, 0, none⟩)) wr (by kernel_rfl) ?_
          simp only [Act.put, List.setIfInBounds_toArray, List.set_cons_zero, List.set_cons_succ]
          refine wpList_runTo rfl (some 78) rfl (.pointer (some ⟨p, 2, none⟩)) wr (by kernel_rfl) ?_
          simp only [Act.put, List.setIfInBounds_toArray, List.set_cons_zero, List.set_cons_succ]
          refine wpList_runTo rfl (some 79) rfl (.slice (some ⟨kg, ko, none⟩) ne kc2) wr (by exact ldS_run (.inl rfl) (.tmp 78) rfl (by kernel_rfl) q2) ?_
          simp only [Act.put, List.setIfInBounds_toArray, List.set_cons_zero, List.set_cons_succ]
          refine wpList_runTo rfl (some 80) rfl (.int .i64 (j : Int)) wr (by kernel_rfl) ?_
          simp only [Act.put, List.setIfInBounds_toArray, List.set_cons_zero, List.set_cons_succ]
          refine wpList_runTo rfl (some 81) rfl (.pointer (some ⟨kg, ko + j * 2, none⟩)) wr (by exact ixH_run (n := ne) (c := kc2) (.tmp 79) (.tmp 80) rfl (by kernel_rfl) (by kernel_rfl) hjne _) ?_
          simp only [Act.put, List.setIfInBounds_toArray, List.set_cons_zero, List.set_cons_succ]
          refine wpList_runTo rfl (some 82) rfl (.agg #[.slice ea en ec, .int .u8 (em : Int)]) wr (by exact ldA_run hrg Try.underlying89 rfl infoHs (.tmp 81) rfl (by kernel_rfl)) ?_
          simp only [Act.put, List.setIfInBounds_toArray, List.set_cons_zero, List.set_cons_succ]
          refine wpList_runTo rfl (some 10) rfl (.pointer (some ⟨wr.heap.size, 0, none⟩)) (wr.alloc (.cells #[.slice none 0 0, .int .u8 0] 89)) (by kernel_rfl) ?_
          simp only [Act.put, List.setIfInBounds_toArray, List.set_cons_zero, List.set_cons_succ]
          refine wpList_plain rfl fun K1 hK1 => ?_
          refine wp_store_row 89 (.tmp 10) (.tmp 82) rfl wr.heap.size #[.slice ea en ec, .int .u8 (em : Int)] (by kernel_rfl) (by kernel_rfl) 89 #[.slice none 0 0, .int .u8 0] (heap_alloc_new wr _) (by kernel_rfl) (by kernel_rfl) (by kernel_rfl) ?_
          rw [World.setRow_alloc_new]
          refine hK1 _ _ ?_
          clear hK1
          refine wpList_nil ?_
          refine hK _ _ ?_
          clear hK q2 hrg hjne
          generalize wr.alloc (.cells #[.slice ea en ec, .int .u8 (em : Int)] 89) = W1 at *
          generalize wr.heap.size = bx at *
          go_upto_region 16 with fail
          go_loopw [11] (fun x11 wq => ∃ t : Nat, t ≤ 70 ∧ x11 = .int .i64 (t : Int) ∧ Hid (∃ G' c es v', P1 s G w p c0 (.slice aa i ac) ks os0 i G' wq c es ∧ MkA wq G' 5 1 em v' (en + t) ∧ Blk wq bx 89 #[v', .int .u8 (em : Int)] ∧ c.k.ownBlock ≠ some bx ∧ es.length = ne + (if t < 2 then t else if t < 70 then 2 else 3) ∧ NB es n0 nA)) (fun x11 _ => 70 - (RowKit.intOf x11).toNat)
          case atStart => exact ⟨0, by omega, rfl, G1, c, es, _, HJ.out.1, HJ.out.2.1, HJ.out.2.2.1, HJ.out.2.2.2.1, HNE.out.1.symm, HNB.out⟩
          case round =>
            obtain ⟨t, ht, rfl, HT⟩ := hrel
            by_cases ht70 : t < 70
            · have ht' : (t : Int) < 70 := by omega
              obtain ⟨G2, c2, es2, v2, h2, hmk, hbx, hnk, hes2, hnb⟩ := HT.out
              have hbs : w.heap.size ≤ bx := HJ.out.2.2.2.2
              clear HT HJ
              obtain ⟨i0, hi0, hz0, hz1, hz2⟩ := info_parts info5
              have hmx : 140737488355328 ≤ maxLen := by decide
              obtain ⟨va, vc, hv2, _⟩ := hmk.form
              have hal : Stp s (fun _ => False) G2 wr G2 (wr.alloc (.cells #[.int .u8 (em : Int)] 5)) := Stp.alloc h2.gv.st.gi _
              obtain ⟨v3, W3, G3, hr, hmk3, hst3, hG3⟩ := MkA.app (s := s) (hmk.stp hal) hal.gi (.inl rfl) 35 35 i0 (.int .u8 0) 1 Try.underlying35 hi0 hz0 hz1 hz2 rfl ⟨wr.heap.size, 0, none⟩ 1 1 [.int .u8 (em : Int)] rfl (fun z u hu => by
                rw [Addr.add_mid, Nat.zero_add, cell_of_row _ _ _ _ _ _ (heap_alloc_new wr _)]
                simpa using hu) (fun u hu => by
                have e : u = .int .u8 (em : Int) := by simpa using hu
                subst e
                exact .inl ⟨rfl, .inl ⟨rfl, hem⟩⟩) (by decide) (by omega) (by omega)
              have hone : ∀ q, G2 q = (1, s) → G3 q = (1, s) := fun q hq => by
                rw [hG3 q (hal.gi.lt (by rw [hq]; simp))]; exact hq
              have h3 := (h2.step hal fun _ h => h).step hst3 hone
              have hbx3 : Blk W3 bx 89 #[v2, .int .u8 (em : Int)] := (hbx.alloc _).stp hst3 nhH id
              have hbl : bx < wr.heap.size := hbx.lt
              obtain ⟨va3, vc3, hv3, _⟩ := hmk3.form
              have q0 : wr.cell? ⟨bx, 0, none⟩ = some v2 := hbx.cell 0
              have q1 : wr.cell? ⟨bx, 1, none⟩ = some (.int .u8 (em : Int)) := hbx.cell 1
              have q03 : W3.cell? ⟨bx, 0, none⟩ = some v2 := hbx3.cell 0
              have qf3 : W3.frozen? ⟨bx, 0, none⟩ = false := hbx3.frozen 0
              have HT : Hid (P1 s G w p c0 (.slice aa i ac) ks os0 i G3 (W3.setCell ⟨bx, 0, none⟩ v3) c2 es2 ∧ MkA (W3.setCell ⟨bx, 0, none⟩ v3) G3 5 1 em v3 (en + (t + 1)) ∧ Blk (W3.setCell ⟨bx, 0, none⟩ v3) bx 89 #[v3, .int .u8 (em : Int)] ∧ c2.k.ownBlock ≠ some bx ∧ es2.length = ne + (if t < 2 then t else 2) ∧ NB es2 n0 nA) := ⟨h3.box hbx3 hbs hnk, hmk3.box hbx3 (by decide), hbx3.set 0 v3, hnk, by rw [hes2, if_pos ht70], hnb⟩
              clear h2 hmk hbx hmk3 hst3 h3 hbx3 hes2 hal hG3 hone hnb HNB
              rw [hv2] at hr q0 q03
              go_upto_region 18 with fail
              rename_i K hK
              refine wp_region_lit ?_
              refine wpList_runTo rfl (some 87) rfl (.pointer (some ⟨bx, 0, none⟩)) wr (by kernel_rfl) ?_
              simp only [Act.put, List.setIfInBounds_toArray, List.set_cons_zero, List.set_cons_succ]
              refine wpList_runTo rfl (some 88) rfl (.slice va (en + t) vc) wr (by exact ldS_run (.inr (.inr (.inl rfl))) (.tmp 87) rfl (by kernel_rfl) q0) ?_
              simp only [Act.put, List.setIfInBounds_toArray, List.set_cons_zero, List.set_cons_succ]
              refine wpList_runTo rfl (some 89) rfl (.pointer (some ⟨bx, 1, none⟩)) wr (by kernel_rfl) ?_
              simp only [Act.put, List.setIfInBounds_toArray, List.set_cons_zero, List.set_cons_succ]
              refine wpList_runTo rfl (some 90) rfl (.int .u8 (em : Int)) wr (by exact ldY_run (.tmp 89) rfl (by kernel_rfl) q1) ?_
              simp only [Act.put, List.setIfInBounds_toArray, List.set_cons_zero, List.set_cons_succ]
              refine wpList_runTo rfl (some 91) rfl (.slice (some ⟨wr.heap.size, 0, none⟩) 1 1) (wr.alloc (.cells #[.int .u8 (em : Int)] 5)) (by exact buildB1_run (.tmp 90) rfl (by kernel_rfl) _) ?_
              simp only [Act.put, List.setIfInBounds_toArray, List.set_cons_zero, List.set_cons_succ]
              refine wpList_runTo rfl (some 92) rfl (v3) W3 (by exact exec_append (v1 := .slice va (en + t) vc) (v2 := .slice (some ⟨wr.heap.size, 0, none⟩) 1 1) (.tmp 88) (.tmp 91) rfl (by kernel_rfl) (by kernel_rfl) hr) ?_
              simp only [Act.put, List.setIfInBounds_toArray, List.set_cons_zero, List.set_cons_succ]
              refine wpList_runTo rfl (some 93) rfl (.pointer (some ⟨bx, 0, none⟩)) W3 (by kernel_rfl) ?_
              simp only [Act.put, List.setIfInBounds_toArray, List.set_cons_zero, List.set_cons_succ]
              refine wpList_skipW rfl none rfl (w' := W3.setCell ⟨bx, 0, none⟩ v3) (stS_run (.inr (.inr (.inl rfl))) ⟨_, _, _, hv3⟩ ⟨_, _, _, rfl⟩ (.tmp 93) (.tmp 92) rfl (by kernel_rfl) (by kernel_rfl) q03 qf3) ?_
              refine wpList_nil ?_
              refine hK _ _ ?_
              clear hK q0 q1 q03 qf3 hr
              generalize W3.setCell ⟨bx, 0, none⟩ v3 = W4 at *
              by_cases t2 : t < 2
              · have t2' : (t : Int) < 2 := by omega
                have HU : Hid (P1 s G w p c0 (.slice aa i ac) ks os0 i G3 W4.drew c2 es2 ∧ EOk W4.drew G3 ⟨v3, en + (t + 1), em⟩ ∧ Blk W4.drew bx 89 #[v3, .int .u8 (em : Int)]) := by
                  have hd : Stp s (fun _ => False) G3 W4 G3 W4.drew := Stp.drew HT.out.1.gv.st.gi
                  exact ⟨HT.out.1.step hd fun _ h => h, ⟨hem, by show en + (t + 1) ≤ _; omega, HT.out.2.1.stp hd⟩, HT.out.2.2.1.stp hd nhH id⟩
                have HTn : Hid (c2.k.ownBlock ≠ some bx ∧ es2.length = ne + (if t < 2 then t else 2) ∧ NB es2 n0 nA) := HT.out.2.2.2
                have hneA : nA ≤ es2.length := by rw [HTn.out.2.1, HNE.out.2]; omega
                clear HT 
                go_upto_region 20 with fail
                obtain ⟨ck2, cc2, eck2, _⟩ := HU.out.1.gv.hs.row.form
                have hlen : es2.length + 1 ≤ 4000000000000 := by rw [HTn.out.2.1]; split <;> omega
                obtain ⟨v5, W5, hr, hp5, hf5, hrow5, hP5, ⟨a5, c5, hv5⟩, hown5⟩ := HU.out.1.pushR HU.out.2.1 hlen 49
                rw [eck2] at hr
                obtain ⟨ne2, hne2⟩ : ∃ ne2, ne2 = es2.length := ⟨_, rfl⟩
                rw [← hne2] at hr eck2 hv5
                refine wp_region_late (fun w' => w'.cell? ⟨p, 2, none⟩ = some (.slice ck2 ne2 cc2) ∧ w'.rangeAt bx 0 (#[v3, .int .u8 (em : Int)] : Array Value).toList) 10 (by kernel_rfl) ?_
                intro hCl
                generalize W4.drew = Z at *
                change wpAnyL _ _ _ _ _ _ 11 _ _ _
                have hS : Z.cell? ⟨p, 2, none⟩ = some (.slice ck2 ne2 cc2) ∧ Z.rangeAt bx 0 (#[v3, .int .u8 (em : Int)] : Array Value).toList := ⟨by rw [← eck2]; exact HU.out.1.gv.blk.cell 2, fun z u hu => by rw [Nat.zero_add, HU.out.2.2.cell]; simpa using hu⟩
                have hS1 : (Z.alloc (.cells #[v3, .int .u8 (em : Int)] 89)).cell? ⟨p, 2, none⟩ = some (.slice ck2 ne2 cc2) ∧ (Z.alloc (.cells #[v3, .int .u8 (em : Int)] 89)).rangeAt bx 0 (#[v3, .int .u8 (em : Int)] : Array Value).toList := ⟨by rw [← eck2]; exact (HU.out.1.gv.blk.alloc _).cell 2, fun z u hu => by rw [Nat.zero_add, (HU.out.2.2.alloc _).cell]; simpa using hu⟩
                have hbx5 : Blk W5 bx 89 #[v3, .int .u8 (em : Int)] := HU.out.2.2.fr hf5 HTn.out.1
                have hS2 : W5.cell? ⟨p, 2, none⟩ = some (.slice ck2 ne2 cc2) ∧ W5.rangeAt bx 0 (#[v3, .int .u8 (em : Int)] : Array Value).toList := ⟨by rw [← eck2]; exact hp5.cell 2, fun z u hu => by rw [Nat.zero_add, hbx5.cell]; simpa using hu⟩
                have hfz : W5.frozen? ⟨p, 2, none⟩ = false := hp5.frozen 2
                have hbz : bx < Z.heap.size := HU.out.2.2.lt
                refine takeL (i := 0) (v := .pointer (some ⟨p, 0, none⟩)) 10 (some 100) rfl rfl (by kernel_rfl) (by kernel_rfl) (by kernel_rfl) (by kernel_rfl) hCl (fun _ _ _ h => h) (Or.inl ⟨by kernel_rfl, fun w' hSw => by kernel_rfl⟩) hS ?_
                clear hCl
                intro hCl
                simp only [Act.put, List.setIfInBounds_toArray, List.set_cons_zero, List.set_cons_succ]
                refine takeL (i := 1) (v := .pointer (some ⟨p, 0, none⟩)) 10 (some 101) rfl rfl (by kernel_rfl) (by kernel_rfl) (by kernel_rfl) (by kernel_rfl) hCl (fun _ _ _ h => h) (Or.inl ⟨by kernel_rfl, fun w' hSw => by kernel_rfl⟩) hS ?_
                clear hCl
                intro hCl
                simp only [Act.put, List.setIfInBounds_toArray, List.set_cons_zero, List.set_cons_succ]
                refine takeL (i := 2) (v := .pointer (some ⟨p, 0, none⟩)) 10 (some 102) rfl rfl (by kernel_rfl) (by kernel_rfl) (by kernel_rfl) (by kernel_rfl) hCl (fun _ _ _ h => h) (Or.inl ⟨by kernel_rfl, fun w' hSw => by kernel_rfl⟩) hS ?_
                clear hCl
                intro hCl
                simp only [Act.put, List.setIfInBounds_toArray, List.set_cons_zero, List.set_cons_succ]
                refine takeL (i := 3) (v := .pointer (some ⟨p, 2, none⟩)) 10 (some 103) rfl rfl (by kernel_rfl) (by kernel_rfl) (by kernel_rfl) (by kernel_rfl) hCl (fun _ _ _ h => h) (Or.inl ⟨by kernel_rfl, fun w' hSw => by kernel_rfl⟩) hS ?_
                clear hCl
                intro hCl
                simp only [Act.put, List.setIfInBounds_toArray, List.set_cons_zero, List.set_cons_succ]
                refine takeL (i := 4) (v := .slice ck2 ne2 cc2) 10 (some 104) rfl rfl (by kernel_rfl) (by kernel_rfl) (by kernel_rfl) (by kernel_rfl) hCl (fun _ _ _ h => h) (Or.inl ⟨by kernel_rfl, fun w' hSw => by exact ldS_run (.inl rfl) (.tmp 103) rfl (by kernel_rfl) hSw.1⟩) hS ?_
                clear hCl
                intro hCl
                simp only [Act.put, List.setIfInBounds_toArray, List.set_cons_zero, List.set_cons_succ]
                refine takeL (i := 5) (v := .agg #[v3, .int .u8 (em : Int)]) 10 (some 105) rfl rfl (by kernel_rfl) (by kernel_rfl) (by kernel_rfl) (by kernel_rfl) hCl (fun _ _ _ h => h) (Or.inl ⟨by kernel_rfl, fun w' hSw => by exact ldA_run hSw.2 Try.underlying89 rfl infoHs (.tmp 10) rfl (by kernel_rfl)⟩) hS ?_
                clear hCl
                intro hCl
                simp only [Act.put, List.setIfInBounds_toArray, List.set_cons_zero, List.set_cons_succ]
                refine oneL (i := 6) rfl (by kernel_rfl) hCl (by kernel_rfl) (fun K1 hK1 => ?_)
                refine valR (d := some 106) rfl (.slice (some ⟨Z.heap.size, 0, none⟩) 1 1) (w' := Z.alloc (.cells #[v3, .int .u8 (em : Int)] 89)) (buildH1_run ⟨_, _, _, hv3⟩ (.tmp 105) rfl (by kernel_rfl) _) ?_
                refine hK1.out _ _ (fun _ => hS1) ?_
                clear hK1 hCl
                intro hCl
                simp only [Act.put, List.setIfInBounds_toArray, List.set_cons_zero, List.set_cons_succ]
                refine oneL (i := 7) rfl (by kernel_rfl) hCl (by kernel_rfl) (fun K1 hK1 => ?_)
                refine valR (d := some 107) rfl v5 (w' := W5) (exec_append (v1 := .slice ck2 ne2 cc2) (v2 := .slice (some ⟨Z.heap.size, 0, none⟩) 1 1) (.tmp 104) (.tmp 106) rfl (by kernel_rfl) (by kernel_rfl) hr) ?_
                refine hK1.out _ _ (fun _ => hS2) ?_
                clear hK1 hCl
                intro hCl
                simp only [Act.put, List.setIfInBounds_toArray, List.set_cons_zero, List.set_cons_succ]
                refine takeL (i := 8) (v := .pointer (some ⟨p, 0, none⟩)) 10 (some 108) rfl rfl (by kernel_rfl) (by kernel_rfl) (by kernel_rfl) (by kernel_rfl) hCl (fun _ _ _ h => h) (Or.inl ⟨by kernel_rfl, fun w' hSw => by kernel_rfl⟩) hS2 ?_
                clear hCl
                intro hCl
                simp only [Act.put, List.setIfInBounds_toArray, List.set_cons_zero, List.set_cons_succ]
                refine takeL (i := 9) (v := .pointer (some ⟨p, 2, none⟩)) 10 (some 109) rfl rfl (by kernel_rfl) (by kernel_rfl) (by kernel_rfl) (by kernel_rfl) hCl (fun _ _ _ h => h) (Or.inl ⟨by kernel_rfl, fun w' hSw => by kernel_rfl⟩) hS2 ?_
                clear hCl
                intro hCl
                simp only [Act.put, List.setIfInBounds_toArray, List.set_cons_zero, List.set_cons_succ]
                refine oneL (i := 10) rfl (by kernel_rfl) hCl (by kernel_rfl) (fun K1 hK1 => ?_)
                refine skipR (d := none) rfl (w' := W5.setCell ⟨p, 2, none⟩ v5) (stS_run (.inl rfl) ⟨_, _, _, hv5⟩ ⟨_, _, _, rfl⟩ (.tmp 109) (.tmp 107) rfl (by kernel_rfl) (by kernel_rfl) hS2.1 hfz) ?_
                refine hK1.out _ _ (fun h => absurd rfl h) ?_
                clear hK1 hCl
                intro hCl
                simp only [Act.put, List.setIfInBounds_toArray, List.set_cons_zero, List.set_cons_succ]
                refine doneL (by kernel_rfl) ?_
                clear hCl
                have HW : Hid (∃ G' c' es' v', P1 s G w p c0 (.slice aa i ac) ks os0 i G' (W5.setCell ⟨p, 2, none⟩ v5) c' es' ∧ MkA (W5.setCell ⟨p, 2, none⟩ v5) G' 5 1 em v' (en + (t + 1)) ∧ Blk (W5.setCell ⟨p, 2, none⟩ v5) bx 89 #[v', .int .u8 (em : Int)] ∧ c'.k.ownBlock ≠ some bx ∧ es'.length = ne + (if t + 1 < 2 then t + 1 else if t + 1 < 70 then 2 else 3) ∧ NB es' n0 nA) := by
                  have hf : Fr W5 (W5.setCell ⟨p, 2, none⟩ v5) (fun q => q = p) := Fr.setCell W5 ⟨p, 2, none⟩ v5 (fun q => q = p) rfl
                  have hpb : ¬ bx = p := fun e => by subst e; exact Blk.neT hp5 hbx5 (by decide)
                  refine ⟨G3, _, _, v3, hP5, ?_, hbx5.fr hf hpb, fun hq => ?_, ?_, HTn.out.2.2.app hneA _⟩
                  · exact (hP5.gv.hs.ok ⟨v3, en + (t + 1), em⟩ (List.mem_append_right _ (List.mem_singleton.2 rfl))).mr
                  · rcases hown5 bx hq with h | h
                    · exact HTn.out.1 h
                    · omega
                  · rw [List.length_append, HTn.out.2.1]
                    show ne + (if t < 2 then t else 2) + 1 = _
                    rw [if_pos t2]
                    by_cases h1 : t + 1 < 2
                    · rw [if_pos h1]; omega
                    · rw [if_neg h1, if_pos (by omega)]; omega
                clear hneA hP5 hv5 hr hp5 hf5 hrow5 hS hS1 hS2 hfz HU hbx5 hown5 eck2 hne2 HTn
                generalize W5.setCell ⟨p, 2, none⟩ v5 = W6 at *
                go_wp2
                exact ⟨⟨t + 1, by omega, by go_num, HW.out⟩, by simp [RowKit.intOf]; omega⟩
              · have t2' : ¬ (t : Int) < 2 := by omega
                by_cases t69 : t = 69
                · have t69' : ((t : Int) == 69) = true := by simp; omega
                  have HU : Hid (P1 s G w p c0 (.slice aa i ac) ks os0 i G3 W4.drew c2 es2 ∧ EOk W4.drew G3 ⟨v3, en + (t + 1), em⟩ ∧ Blk W4.drew bx 89 #[v3, .int .u8 (em : Int)]) := by
                    have hd : Stp s (fun _ => False) G3 W4 G3 W4.drew := Stp.drew HT.out.1.gv.st.gi
                    exact ⟨HT.out.1.step hd fun _ h => h, ⟨hem, by show en + (t + 1) ≤ _; omega, HT.out.2.1.stp hd⟩, HT.out.2.2.1.stp hd nhH id⟩
                  have HTn : Hid (c2.k.ownBlock ≠ some bx ∧ es2.length = ne + (if t < 2 then t else 2) ∧ NB es2 n0 nA) := HT.out.2.2.2
                  have hneA : nA ≤ es2.length := by rw [HTn.out.2.1, HNE.out.2]; omega
                  clear HT 
                  go_upto_region 20 with fail
                  obtain ⟨ck2, cc2, eck2, _⟩ := HU.out.1.gv.hs.row.form
                  have hlen : es2.length + 1 ≤ 4000000000000 := by rw [HTn.out.2.1]; split <;> omega
                  obtain ⟨v5, W5, hr, hp5, hf5, hrow5, hP5, ⟨a5, c5, hv5⟩, hown5⟩ := HU.out.1.pushR HU.out.2.1 hlen 49
                  rw [eck2] at hr
                  obtain ⟨ne2, hne2⟩ : ∃ ne2, ne2 = es2.length := ⟨_, rfl⟩
                  rw [← hne2] at hr eck2 hv5
                  refine wp_region_late (fun w' => w'.cell? ⟨p, 2, none⟩ = some (.slice ck2 ne2 cc2) ∧ w'.rangeAt bx 0 (#[v3, .int .u8 (em : Int)] : Array Value).toList) 10 (by kernel_rfl) ?_
                  intro hCl
                  generalize W4.drew = Z at *
                  change wpAnyL _ _ _ _ _ _ 11 _ _ _
                  have hS : Z.cell? ⟨p, 2, none⟩ = some (.slice ck2 ne2 cc2) ∧ Z.rangeAt bx 0 (#[v3, .int .u8 (em : Int)] : Array Value).toList := ⟨by rw [← eck2]; exact HU.out.1.gv.blk.cell 2, fun z u hu => by rw [Nat.zero_add, HU.out.2.2.cell]; simpa using hu⟩
                  have hS1 : (Z.alloc (.cells #[v3, .int .u8 (em : Int)] 89)).cell? ⟨p, 2, none⟩ = some (.slice ck2 ne2 cc2) ∧ (Z.alloc (.cells #[v3, .int .u8 (em : Int)] 89)).rangeAt bx 0 (#[v3, .int .u8 (em : Int)] : Array Value).toList := ⟨by rw [← eck2]; exact (HU.out.1.gv.blk.alloc _).cell 2, fun z u hu => by rw [Nat.zero_add, (HU.out.2.2.alloc _).cell]; simpa using hu⟩
                  have hbx5 : Blk W5 bx 89 #[v3, .int .u8 (em : Int)] := HU.out.2.2.fr hf5 HTn.out.1
                  have hS2 : W5.cell? ⟨p, 2, none⟩ = some (.slice ck2 ne2 cc2) ∧ W5.rangeAt bx 0 (#[v3, .int .u8 (em : Int)] : Array Value).toList := ⟨by rw [← eck2]; exact hp5.cell 2, fun z u hu => by rw [Nat.zero_add, hbx5.cell]; simpa using hu⟩
                  have hfz : W5.frozen? ⟨p, 2, none⟩ = false := hp5.frozen 2
                  have hbz : bx < Z.heap.size := HU.out.2.2.lt
                  refine takeL (i := 0) (v := .pointer (some ⟨p, 0, none⟩)) 10 (some 100) rfl rfl (by kernel_rfl) (by kernel_rfl) (by kernel_rfl) (by kernel_rfl) hCl (fun _ _ _ h => h) (Or.inl ⟨by kernel_rfl, fun w' hSw => by kernel_rfl⟩) hS ?_
                  clear hCl
                  intro hCl
                  simp only [Act.put, List.setIfInBounds_toArray, List.set_cons_zero, List.set_cons_succ]
                  refine takeL (i := 1) (v := .pointer (some ⟨p, 0, none⟩)) 10 (some 101) rfl rfl (by kernel_rfl) (by kernel_rfl) (by kernel_rfl) (by kernel_rfl) hCl (fun _ _ _ h => h) (Or.inl ⟨by kernel_rfl, fun w' hSw => by kernel_rfl⟩) hS ?_
                  clear hCl
                  intro hCl
                  simp only [Act.put, List.setIfInBounds_toArray, List.set_cons_zero, List.set_cons_succ]
                  refine takeL (i := 2) (v := .pointer (some ⟨p, 0, none⟩)) 10 (some 102) rfl rfl (by kernel_rfl) (by kernel_rfl) (by kernel_rfl) (by kernel_rfl) hCl (fun _ _ _ h => h) (Or.inl ⟨by kernel_rfl, fun w' hSw => by kernel_rfl⟩) hS ?_
                  clear hCl
                  intro hCl
                  simp only [Act.put, List.setIfInBounds_toArray, List.set_cons_zero, List.set_cons_succ]
                  refine takeL (i := 3) (v := .pointer (some ⟨p, 2, none⟩)) 10 (some 103) rfl rfl (by kernel_rfl) (by kernel_rfl) (by kernel_rfl) (by kernel_rfl) hCl (fun _ _ _ h => h) (Or.inl ⟨by kernel_rfl, fun w' hSw => by kernel_rfl⟩) hS ?_
                  clear hCl
                  intro hCl
                  simp only [Act.put, List.setIfInBounds_toArray, List.set_cons_zero, List.set_cons_succ]
                  refine takeL (i := 4) (v := .slice ck2 ne2 cc2) 10 (some 104) rfl rfl (by kernel_rfl) (by kernel_rfl) (by kernel_rfl) (by kernel_rfl) hCl (fun _ _ _ h => h) (Or.inl ⟨by kernel_rfl, fun w' hSw => by exact ldS_run (.inl rfl) (.tmp 103) rfl (by kernel_rfl) hSw.1⟩) hS ?_
                  clear hCl
                  intro hCl
                  simp only [Act.put, List.setIfInBounds_toArray, List.set_cons_zero, List.set_cons_succ]
                  refine takeL (i := 5) (v := .agg #[v3, .int .u8 (em : Int)]) 10 (some 105) rfl rfl (by kernel_rfl) (by kernel_rfl) (by kernel_rfl) (by kernel_rfl) hCl (fun _ _ _ h => h) (Or.inl ⟨by kernel_rfl, fun w' hSw => by exact ldA_run hSw.2 Try.underlying89 rfl infoHs (.tmp 10) rfl (by kernel_rfl)⟩) hS ?_
                  clear hCl
                  intro hCl
                  simp only [Act.put, List.setIfInBounds_toArray, List.set_cons_zero, List.set_cons_succ]
                  refine oneL (i := 6) rfl (by kernel_rfl) hCl (by kernel_rfl) (fun K1 hK1 => ?_)
                  refine valR (d := some 106) rfl (.slice (some ⟨Z.heap.size, 0, none⟩) 1 1) (w' := Z.alloc (.cells #[v3, .int .u8 (em : Int)] 89)) (buildH1_run ⟨_, _, _, hv3⟩ (.tmp 105) rfl (by kernel_rfl) _) ?_
                  refine hK1.out _ _ (fun _ => hS1) ?_
                  clear hK1 hCl
                  intro hCl
                  simp only [Act.put, List.setIfInBounds_toArray, List.set_cons_zero, List.set_cons_succ]
                  refine oneL (i := 7) rfl (by kernel_rfl) hCl (by kernel_rfl) (fun K1 hK1 => ?_)
                  refine valR (d := some 107) rfl v5 (w' := W5) (exec_append (v1 := .slice ck2 ne2 cc2) (v2 := .slice (some ⟨Z.heap.size, 0, none⟩) 1 1) (.tmp 104) (.tmp 106) rfl (by kernel_rfl) (by kernel_rfl) hr) ?_
                  refine hK1.out _ _ (fun _ => hS2) ?_
                  clear hK1 hCl
                  intro hCl
                  simp only [Act.put, List.setIfInBounds_toArray, List.set_cons_zero, List.set_cons_succ]
                  refine takeL (i := 8) (v := .pointer (some ⟨p, 0, none⟩)) 10 (some 108) rfl rfl (by kernel_rfl) (by kernel_rfl) (by kernel_rfl) (by kernel_rfl) hCl (fun _ _ _ h => h) (Or.inl ⟨by kernel_rfl, fun w' hSw => by kernel_rfl⟩) hS2 ?_
                  clear hCl
                  intro hCl
                  simp only [Act.put, List.setIfInBounds_toArray, List.set_cons_zero, List.set_cons_succ]
                  refine takeL (i := 9) (v := .pointer (some ⟨p, 2, none⟩)) 10 (some 109) rfl rfl (by kernel_rfl) (by kernel_rfl) (by kernel_rfl) (by kernel_rfl) hCl (fun _ _ _ h => h) (Or.inl ⟨by kernel_rfl, fun w' hSw => by kernel_rfl⟩) hS2 ?_
                  clear hCl
                  intro hCl
                  simp only [Act.put, List.setIfInBounds_toArray, List.set_cons_zero, List.set_cons_succ]
                  refine oneL (i := 10) rfl (by kernel_rfl) hCl (by kernel_rfl) (fun K1 hK1 => ?_)
                  refine skipR (d := none) rfl (w' := W5.setCell ⟨p, 2, none⟩ v5) (stS_run (.inl rfl) ⟨_, _, _, hv5⟩ ⟨_, _, _, rfl⟩ (.tmp 109) (.tmp 107) rfl (by kernel_rfl) (by kernel_rfl) hS2.1 hfz) ?_
                  refine hK1.out _ _ (fun h => absurd rfl h) ?_
                  clear hK1 hCl
                  intro hCl
                  simp only [Act.put, List.setIfInBounds_toArray, List.set_cons_zero, List.set_cons_succ]
                  refine doneL (by kernel_rfl) ?_
                  clear hCl
                  have HW : Hid (∃ G' c' es' v', P1 s G w p c0 (.slice aa i ac) ks os0 i G' (W5.setCell ⟨p, 2, none⟩ v5) c' es' ∧ MkA (W5.setCell ⟨p, 2, none⟩ v5) G' 5 1 em v' (en + (t + 1)) ∧ Blk (W5.setCell ⟨p, 2, none⟩ v5) bx 89 #[v', .int .u8 (em : Int)] ∧ c'.k.ownBlock ≠ some bx ∧ es'.length = ne + (if t + 1 < 2 then t + 1 else if t + 1 < 70 then 2 else 3) ∧ NB es' n0 nA) := by
                    have hf : Fr W5 (W5.setCell ⟨p, 2, none⟩ v5) (fun q => q = p) := Fr.setCell W5 ⟨p, 2, none⟩ v5 (fun q => q = p) rfl
                    have hpb : ¬ bx = p := fun e => by subst e; exact Blk.neT hp5 hbx5 (by decide)
                    refine ⟨G3, _, _, v3, hP5, ?_, hbx5.fr hf hpb, fun hq => ?_, ?_, HTn.out.2.2.app hneA _⟩
                    · exact (hP5.gv.hs.ok ⟨v3, en + (t + 1), em⟩ (List.mem_append_right _ (List.mem_singleton.2 rfl))).mr
                    · rcases hown5 bx hq with h | h
                      · exact HTn.out.1 h
                      · omega
                    · rw [List.length_append, HTn.out.2.1]
                      show ne + (if t < 2 then t else 2) + 1 = _
                      rw [if_neg t2, if_neg (by omega), if_neg (by omega)]
                  clear hneA hP5 hv5 hr hp5 hf5 hrow5 hS hS1 hS2 hfz HU hbx5 hown5 eck2 hne2 HTn
                  generalize W5.setCell ⟨p, 2, none⟩ v5 = W6 at *
                  go_wp2
                  exact ⟨⟨t + 1, by omega, by go_num, HW.out⟩, by simp [RowKit.intOf]; omega⟩
                · have t69' : ((t : Int) == 69) = false := by simp; omega
                  go_wp2
                  exact ⟨⟨t + 1, by omega, by go_num, G3, c2, es2, v3, HT.out.1, HT.out.2.1, HT.out.2.2.1, HT.out.2.2.2.1, by rw [HT.out.2.2.2.2.1, if_neg t2, if_neg (by omega), if_pos (by omega)], HT.out.2.2.2.2.2⟩, by simp [RowKit.intOf]; omega⟩
            · obtain rfl : t = 70 := by omega
              have HX : Hid (∃ G' c es, P1 s G w p c0 (.slice aa i ac) ks os0 i G' wr c es ∧ es.length = nA + 3 * (j + 1 - n0) ∧ NB es n0 nA) := by
                obtain ⟨G2, c2, es2, v2, h2, _, _, _, hes2, hnb⟩ := HT.out
                refine ⟨G2, c2, es2, h2, ?_, hnb⟩
                rw [hes2, HNE.out.2]
                show nA + 3 * (j - n0) + 3 = _
                omega
              clear HT HJ ht70
              go_wp2
              exact ⟨⟨j + 1, by omega, by omega, by go_num, HX.out⟩, by simp [RowKit.intOf]; omega⟩
        · obtain rfl : j = nA := by omega
          obtain ⟨G1, c, es, h1, hes, _⟩ := HS.out
          obtain ⟨mO, hmO⟩ : ∃ mO, mO = os0.length := ⟨_, rfl⟩
          obtain ⟨G2, h2, h3⟩ := h1.list HKF.out mO
          rw [← HN.out] at h3
          obtain ⟨ok, oc, eok, _⟩ := h2.os.row.form
          rw [← hmO] at eok
          have q4 : wr.cell? ⟨p, 4, none⟩ = some (.slice ok mO oc) := by rw [← eok]; exact h2.blk.cell 4
          have hmOb : mO ≤ 1000000000000 := by have := H4.out.2; omega
          have hw1 : IntKind.i64.wrap (mO : Int) = (mO : Int) := by rw [IntKind.wrap_i64]; omega
          have HF : Hid (mO = os0.length ∧ mO % 4 = 0) := ⟨hmO, by rw [hmO]; exact H4.out.1⟩
          have HE2 : Hid (es.length = n0 + 4 * i) := by
            have e1 := HA.out
            show es.length = _
            rw [hes]; omega
          have H3 : Hid (GV s G w p c0 G2 wr c es os0 ∧ OR wr G2 (.slice aa i ac) i 0 mO) := ⟨h2, h3⟩
          clear h1 h2 h3 hes eok HS hlt hmO H4
          go_upto_region 23 with fail
          clear q4
          go_loopw [13] (fun x13 wr => ∃ j : Nat, j ≤ i ∧ x13 = .int .i64 (j : Int) ∧ Hid (∃ G', GV s G w p c0 G' wr c es os0 ∧ OR wr G' (.slice aa i ac) i j mO)) (fun x13 _ => i - (RowKit.intOf x13).toNat)
          case atStart => exact ⟨0, Nat.zero_le _, rfl, G2, H3.out⟩
          case round =>
            obtain ⟨j, hj, rfl, HS⟩ := hrel
            clear H3
            by_cases hlt : j < i
            · have hlt' : (j : Int) < (i : Int) := by omega
              obtain ⟨G3, h3, h4⟩ := HS.out
              obtain ⟨ag, ao, ac', ea⟩ : ∃ ag ao ac', Value.slice aa i ac = .slice (some ⟨ag, ao, none⟩) i ac' := by
                obtain ⟨xs, r, _⟩ := h4
                obtain ⟨ag, ao, ac', cur, ea, _⟩ := r.more (by omega)
                exact ⟨ag, ao, ac', ea⟩
              injection ea with ea1 _ ea2
              subst ea1 ea2
              have h5 := h4.two h3.st.gi
              have hst := Stp.two (s := s) h3.st.gi mO
              obtain ⟨⟨xa, xn, xc, cx⟩, fx⟩ := h5.cell hlt
              obtain ⟨acu, hacu⟩ := h5.blk
              have hcm : Cm (pnt G3 wr.heap.size (3, mO)) 35 mO (.slice (some ⟨wr.heap.size, 0, none⟩) 2 2) := .inr (.inr ⟨rfl, _, pnt_at _ _ _, rfl⟩)
              have hag : pnt G3 wr.heap.size (3, mO) ag = (2, mO) := by
                obtain ⟨xs, r, hq, _⟩ := h5
                exact hq ag rfl
              have hset : Stp s (fun _ => False) (pnt G3 wr.heap.size (3, mO)) (wr.alloc (.cells (twoB mO) 5)) (pnt G3 wr.heap.size (3, mO)) ((wr.alloc (.cells (twoB mO) 5)).setCell ⟨ag, ao + j, none⟩ (.slice (some ⟨wr.heap.size, 0, none⟩) 2 2)) := Stp.set hst.gi hag hacu hcm
              have HQ : Hid (GV s G w p c0 (pnt G3 wr.heap.size (3, mO)) ((wr.alloc (.cells (twoB mO) 5)).setCell ⟨ag, ao + j, none⟩ (.slice (some ⟨wr.heap.size, 0, none⟩) 2 2)) c es os0 ∧ OR ((wr.alloc (.cells (twoB mO) 5)).setCell ⟨ag, ao + j, none⟩ (.slice (some ⟨wr.heap.size, 0, none⟩) 2 2)) (pnt G3 wr.heap.size (3, mO)) (.slice (some ⟨ag, ao, none⟩) i ac) i (j + 1) mO) := ⟨(h3.step hst).step hset, h5.set hlt hcm ⟨_, _, _, rfl⟩⟩
              clear h3 h4 h5 hst hcm hag hset hacu HS
              go_upto_region 25 with fail
              refine wp_region_lit ?_
              refine wpList_runTo rfl (some 121) rfl (.slice (some ⟨ag, ao, none⟩) i ac) wr (by kernel_rfl) ?_
              simp only [Act.put, List.setIfInBounds_toArray, List.set_cons_zero, List.set_cons_succ]
              refine wpList_runTo rfl (some 122) rfl (.int .i64 (j : Int)) wr (by kernel_rfl) ?_
              simp only [Act.put, List.setIfInBounds_toArray, List.set_cons_zero, List.set_cons_succ]
              refine wpList_runTo rfl (some 123) rfl (.int .i64 (mO : Int)) wr (by kernel_rfl) ?_
              simp only [Act.put, List.setIfInBounds_toArray, List.set_cons_zero, List.set_cons_succ]
              refine wpList_runTo rfl (some 124) rfl (.int .u8 ((mO % 256 : Nat) : Int)) wr (by exact cvB_run (.tmp 123) rfl (by kernel_rfl) _) ?_
              simp only [Act.put, List.setIfInBounds_toArray, List.set_cons_zero, List.set_cons_succ]
              refine wpList_runTo rfl (some 125) rfl (.int .i64 (mO : Int)) wr (by kernel_rfl) ?_
              simp only [Act.put, List.setIfInBounds_toArray, List.set_cons_zero, List.set_cons_succ]
              refine wpList_runTo rfl (some 126) rfl (.int .i64 ((mO / 256 : Nat) : Int)) wr (by exact quo256_run (.tmp 125) rfl (by kernel_rfl) (by omega) _) ?_
              simp only [Act.put, List.setIfInBounds_toArray, List.set_cons_zero, List.set_cons_succ]
              refine wpList_runTo rfl (some 127) rfl (.int .u8 ((mO / 256 % 256 : Nat) : Int)) wr (by exact cvB_run (.tmp 126) rfl (by kernel_rfl) _) ?_
              simp only [Act.put, List.setIfInBounds_toArray, List.set_cons_zero, List.set_cons_succ]
              refine wpList_runTo rfl (some 128) rfl (.slice (some ⟨wr.heap.size, 0, none⟩) 2 2) (wr.alloc (.cells (twoB mO) 5)) (by exact buildB2_run (.tmp 124) (.tmp 127) rfl (by kernel_rfl) (by kernel_rfl) _) ?_
              simp only [Act.put, List.setIfInBounds_toArray, List.set_cons_zero, List.set_cons_succ]
              refine wpList_runTo rfl (some 129) rfl (.pointer (some ⟨ag, ao + j, none⟩)) (wr.alloc (.cells (twoB mO) 5)) (by exact ixV_run (n := i) (c := ac) (.tmp 121) (.tmp 122) rfl (by kernel_rfl) (by kernel_rfl) hlt _) ?_
              simp only [Act.put, List.setIfInBounds_toArray, List.set_cons_zero, List.set_cons_succ]
              refine wpList_skipW rfl none rfl (w' := (wr.alloc (.cells (twoB mO) 5)).setCell ⟨ag, ao + j, none⟩ (.slice (some ⟨wr.heap.size, 0, none⟩) 2 2)) (stS_run (.inr (.inr (.inl rfl))) ⟨_, _, _, rfl⟩ ⟨_, _, _, rfl⟩ (.tmp 129) (.tmp 128) rfl (by kernel_rfl) (by kernel_rfl) cx fx) ?_
              refine wpList_nil ?_
              clear cx fx
              generalize pnt G3 wr.heap.size (3, mO) = G4 at *
              generalize hwW : (wr.alloc (.cells (twoB mO) 5)).setCell ⟨ag, ao + j, none⟩ (.slice (some ⟨wr.heap.size, 0, none⟩) 2 2) = W4 at *
              clear hwW
              go_wp2
              exact ⟨⟨j + 1, by omega, by go_num, G4, HQ.out⟩, by simp [RowKit.intOf]; omega⟩
            · obtain rfl : j = i := by omega
              obtain ⟨G3, h3, h4⟩ := HS.out
              have hmk := h4.done
              clear HS hlt h4
              obtain ⟨ih, hih, hh0, hh1, hh2⟩ := info_parts info29
              have hmx : 140737488355328 ≤ maxLen := by decide
              obtain ⟨ok, oc, eok, _⟩ := h3.os.row.form
              have h3p := h3.blk
              have h3r := h3.os.row
              obtain ⟨v2, w2, hr, hp2, hf2, hps, a2, c2, hv2⟩ := push_any (c := 4) h3p h3r (by decide) 51 51 ih (.slice none 0 0) 24 Try.underlying51 hih hh0 hh1 hh2 rfl [.slice aa j ac] rfl (fun u hu => by
                have e : u = .slice aa j ac := by simpa using hu
                subst e; rfl) (by rw [← HF.out.1]; omega) (by rw [← HF.out.1]; omega)
              have h5 := h3.pushO (x := (.slice aa j ac, j)) (by rw [← HF.out.1, show mO - mO % 4 = mO by have := HF.out.2; omega]; exact hmk) hps
              have hm5 := (h5.os.ok os0.length (.slice aa j ac, j) (by simp))
              rw [← HF.out.1, show mO - mO % 4 = mO by have := HF.out.2; omega] at hm5
              rw [eok, ← HF.out.1] at hr
              rw [← HF.out.1] at eok
              have q4 : wr.cell? ⟨p, 4, none⟩ = some (.slice ok mO oc) := by rw [← eok]; exact h3p.cell 4
              have q42 : w2.cell? ⟨p, 4, none⟩ = some (.slice ok mO oc) := by rw [← eok]; exact hp2.cell 4
              have qf2 : w2.frozen? ⟨p, 4, none⟩ = false := hp2.frozen 4
              have H5 : Hid (∃ G' c os, GV s G w p c0 G' (w2.setCell ⟨p, 4, none⟩ v2) c es os ∧ MkA (w2.setCell ⟨p, 4, none⟩ v2) G' 35 1 mO (.slice aa j ac) j ∧ os.length = mO + 1) := ⟨_, _, _, h5, hm5, by rw [List.length_append, ← HF.out.1]; rfl⟩
              clear h3 hmk h3p h3r hp2 hf2 hps h5 hm5 eok
              go_upto_region 26 with fail
              rename_i K hK
              refine wp_region_lit ?_
              refine wpList_runTo rfl (some 130) rfl (.pointer (some ⟨p, 0, none⟩)) wr (by kernel_rfl) ?_
              simp only [Act.put, List.setIfInBounds_toArray, List.set_cons_zero, List.set_cons_succ]
              refine wpList_runTo rfl (some 131) rfl (.pointer (some ⟨p, 0, none⟩)) wr (by kernel_rfl) ?_
              simp only [Act.put, List.setIfInBounds_toArray, List.set_cons_zero, List.set_cons_succ]
              refine wpList_runTo rfl (some 132) rfl (.pointer (some ⟨p, 0, none⟩)) wr (by kernel_rfl) ?_
              simp only [Act.put, List.setIfInBounds_toArray, List.set_cons_zero, List.set_cons_succ]
              refine wpList_runTo rfl (some 133) rfl (.pointer (some ⟨p, 4, none⟩)) wr (by kernel_rfl) ?_
              simp only [Act.put, List.setIfInBounds_toArray, List.set_cons_zero, List.set_cons_succ]
              refine wpList_runTo rfl (some 134) rfl (.slice ok mO oc) wr (by exact ldS_run (.inr (.inr (.inr (.inr (.inl rfl))))) (.tmp 133) rfl (by kernel_rfl) q4) ?_
              simp only [Act.put, List.setIfInBounds_toArray, List.set_cons_zero, List.set_cons_succ]
              refine wpList_runTo rfl (some 135) rfl (.slice aa j ac) wr (by kernel_rfl) ?_
              simp only [Act.put, List.setIfInBounds_toArray, List.set_cons_zero, List.set_cons_succ]
              refine wpList_runTo rfl (some 136) rfl (.slice (some ⟨wr.heap.size, 0, none⟩) 1 1) (wr.alloc (.cells #[.slice aa j ac] 32)) (by exact buildO1_run (.inl ⟨rfl, rfl⟩) ⟨_, _, _, rfl⟩ (.tmp 135) rfl (by kernel_rfl) _) ?_
              simp only [Act.put, List.setIfInBounds_toArray, List.set_cons_zero, List.set_cons_succ]
              refine wpList_runTo rfl (some 137) rfl (v2) w2 (by exact exec_append (v1 := .slice ok mO oc) (v2 := .slice (some ⟨wr.heap.size, 0, none⟩) 1 1) (.tmp 134) (.tmp 136) rfl (by kernel_rfl) (by kernel_rfl) hr) ?_
              simp only [Act.put, List.setIfInBounds_toArray, List.set_cons_zero, List.set_cons_succ]
              refine wpList_runTo rfl (some 138) rfl (.pointer (some ⟨p, 0, none⟩)) w2 (by kernel_rfl) ?_
              simp only [Act.put, List.setIfInBounds_toArray, List.set_cons_zero, List.set_cons_succ]
              refine wpList_runTo rfl (some 139) rfl (.pointer (some ⟨p, 4, none⟩)) w2 (by kernel_rfl) ?_
              simp only [Act.put, List.setIfInBounds_toArray, List.set_cons_zero, List.set_cons_succ]
              refine wpList_skipW rfl none rfl (w' := w2.setCell ⟨p, 4, none⟩ v2) (stS_run (.inr (.inr (.inr (.inr (.inl rfl))))) ⟨_, _, _, hv2⟩ ⟨_, _, _, rfl⟩ (.tmp 139) (.tmp 137) rfl (by kernel_rfl) (by kernel_rfl) q42 qf2) ?_
              refine wpList_nil ?_
              refine hK _ _ ?_
              clear hK q4 q42 qf2 hr hv2
              generalize w2.setCell ⟨p, 4, none⟩ v2 = W3 at *
              obtain ⟨jn, hjn⟩ : ∃ jn, jn = j := ⟨_, rfl⟩
              go_upto_region 28 with fail
              go_loopw [1, 14] (fun x1 x14 wr => ∃ (t : Nat) (xa : Option Addr) (xn xc : Nat), t ≤ 3 ∧ x14 = .int .i64 (t : Int) ∧ x1 = .slice xa xn xc ∧ xn = j + t ∧ Hid (∃ G' c os, GV s G w p c0 G' wr c es os ∧ MkA wr G' 35 1 mO (.slice xa xn xc) xn ∧ os.length = mO + 1 + t)) (fun _ x14 _ => 3 - (RowKit.intOf x14).toNat)
              case atStart => exact ⟨0, aa, j, ac, by omega, rfl, rfl, rfl, H5.out⟩
              case round =>
                obtain ⟨t, xa, xn, xc, ht, rfl, rfl, hxn, HT⟩ := hrel
                clear H5 hjn
                by_cases ht3 : t < 3
                · have ht' : (t : Int) < 3 := by omega
                  obtain ⟨G5, c5, os5, h5, hm5, hos5⟩ := HT.out
                  have hxb : xn ≤ 2000000000000 := by omega
                  have HXN : Hid (xn = j + t) := hxn
                  clear HT hxn
                  have hst := Stp.two (s := s) h5.st.gi mO
                  have hcm : Cm (pnt G5 wr.heap.size (3, mO)) 35 mO (.slice (some ⟨wr.heap.size, 0, none⟩) 2 2) := .inr (.inr ⟨rfl, _, pnt_at _ _ _, rfl⟩)
                  have hst2 : Stp s (fun _ => False) (pnt G5 wr.heap.size (3, mO)) (wr.alloc (.cells (twoB mO) 5)) (pnt G5 wr.heap.size (3, mO)) ((wr.alloc (.cells (twoB mO) 5)).alloc (.cells #[.slice (some ⟨wr.heap.size, 0, none⟩) 2 2] 35)) := Stp.alloc hst.gi _
                  obtain ⟨ib, hib, hb0, hb1, hb2⟩ := info_parts infoB0
                  obtain ⟨v3, W3, G6, hr, hm6, hst6, _⟩ := MkA.app (s := s) ((hm5.stp hst).stp hst2) hst2.gi (.inr (.inr rfl)) 32 32 ib (.slice none 0 0) 24 Try.underlying32 hib hb0 hb1 hb2 rfl ⟨(wr.alloc (.cells (twoB mO) 5)).heap.size, 0, none⟩ 1 1 [.slice (some ⟨wr.heap.size, 0, none⟩) 2 2] rfl (fun z u hu => by
                    rw [Addr.add_mid, Nat.zero_add, cell_of_row _ _ _ _ _ _ (heap_alloc_new (wr.alloc (.cells (twoB mO) 5)) _)]
                    simpa using hu) (fun u hu => by
                    have e : u = .slice (some ⟨wr.heap.size, 0, none⟩) 2 2 := by simpa using hu
                    subst e
                    exact hcm) (by decide) (by omega) (by omega)
                  have h6 := ((h5.step hst).step hst2).step hst6
                  obtain ⟨ya, yc, hv3, _⟩ := hm6.form
                  subst hv3
                  clear h5 hm5 hst hcm hst2 hst6
                  obtain ⟨ih, hih, hh0, hh1, hh2⟩ := info_parts info29
                  obtain ⟨ok, oc, eok, _⟩ := h6.os.row.form
                  have h6p := h6.blk
                  have h6r := h6.os.row
                  obtain ⟨v2, w2, hr2, hp2, hf2, hps, a2, c2, hv2⟩ := push_any (c := 4) h6p h6r (by decide) 51 51 ih (.slice none 0 0) 24 Try.underlying51 hih hh0 hh1 hh2 rfl [.slice ya (xn + 1) yc] rfl (fun u hu => by
                    have e : u = .slice ya (xn + 1) yc := by simpa using hu
                    subst e; rfl) (by rw [hos5]; omega) (by rw [hos5]; omega)
                  have h7 := h6.pushO (x := (.slice ya (xn + 1) yc, xn + 1)) (by rw [hos5, show mO + 1 + t - (mO + 1 + t) % 4 = mO by have := HF.out.2; omega]; exact hm6) hps
                  have hm7 := (h7.os.ok os5.length (.slice ya (xn + 1) yc, xn + 1) (by simp))
                  rw [hos5, show mO + 1 + t - (mO + 1 + t) % 4 = mO by have := HF.out.2; omega] at hm7
                  obtain ⟨n5, hn5⟩ : ∃ n5, n5 = os5.length := ⟨_, rfl⟩
                  rw [eok, ← hn5] at hr2
                  rw [← hn5] at eok
                  have q4 : W3.cell? ⟨p, 4, none⟩ = some (.slice ok n5 oc) := by rw [← eok]; exact h6p.cell 4
                  have q42 : w2.cell? ⟨p, 4, none⟩ = some (.slice ok n5 oc) := by rw [← eok]; exact hp2.cell 4
                  have qf2 : w2.frozen? ⟨p, 4, none⟩ = false := hp2.frozen 4
                  have H7 : Hid (∃ G' c os, GV s G w p c0 G' (w2.setCell ⟨p, 4, none⟩ v2) c es os ∧ MkA (w2.setCell ⟨p, 4, none⟩ v2) G' 35 1 mO (.slice ya (xn + 1) yc) (xn + 1) ∧ os.length = mO + 1 + (t + 1)) := ⟨_, _, _, h7, hm7, by rw [List.length_append, hos5]; rfl⟩
                  clear h6 hm6 h6p h6r hp2 hf2 hps h7 hm7 eok hn5 hos5
                  go_upto_region 30 with fail
                  rename_i K hK
                  refine wp_region_lit ?_
                  refine wpList_runTo rfl (some 144) rfl (.slice xa xn xc) wr (by kernel_rfl) ?_
                  simp only [Act.put, List.setIfInBounds_toArray, List.set_cons_zero, List.set_cons_succ]
                  refine wpList_runTo rfl (some 145) rfl (.int .i64 (mO : Int)) wr (by kernel_rfl) ?_
                  simp only [Act.put, List.setIfInBounds_toArray, List.set_cons_zero, List.set_cons_succ]
                  refine wpList_runTo rfl (some 146) rfl (.int .u8 ((mO % 256 : Nat) : Int)) wr (by exact cvB_run (.tmp 145) rfl (by kernel_rfl) _) ?_
                  simp only [Act.put, List.setIfInBounds_toArray, List.set_cons_zero, List.set_cons_succ]
                  refine wpList_runTo rfl (some 147) rfl (.int .i64 (mO : Int)) wr (by kernel_rfl) ?_
                  simp only [Act.put, List.setIfInBounds_toArray, List.set_cons_zero, List.set_cons_succ]
                  refine wpList_runTo rfl (some 148) rfl (.int .i64 ((mO / 256 : Nat) : Int)) wr (by exact quo256_run (.tmp 147) rfl (by kernel_rfl) (by omega) _) ?_
                  simp only [Act.put, List.setIfInBounds_toArray, List.set_cons_zero, List.set_cons_succ]
                  refine wpList_runTo rfl (some 149) rfl (.int .u8 ((mO / 256 % 256 : Nat) : Int)) wr (by exact cvB_run (.tmp 148) rfl (by kernel_rfl) _) ?_
                  simp only [Act.put, List.setIfInBounds_toArray, List.set_cons_zero, List.set_cons_succ]
                  refine wpList_runTo rfl (some 150) rfl (.slice (some ⟨wr.heap.size, 0, none⟩) 2 2) (wr.alloc (.cells (twoB mO) 5)) (by exact buildB2_run (.tmp 146) (.tmp 149) rfl (by kernel_rfl) (by kernel_rfl) _) ?_
                  simp only [Act.put, List.setIfInBounds_toArray, List.set_cons_zero, List.set_cons_succ]
                  refine wpList_runTo rfl (some 151) rfl (.slice (some ⟨(wr.alloc (.cells (twoB mO) 5)).heap.size, 0, none⟩) 1 1) ((wr.alloc (.cells (twoB mO) 5)).alloc (.cells #[.slice (some ⟨wr.heap.size, 0, none⟩) 2 2] 35)) (by exact build1_run ⟨_, _, _, rfl⟩ (.tmp 150) rfl (by kernel_rfl) _) ?_
                  simp only [Act.put, List.setIfInBounds_toArray, List.set_cons_zero, List.set_cons_succ]
                  refine wpList_runTo rfl (some 152) rfl (.slice ya (xn + 1) yc) W3 (by exact exec_append (v1 := .slice xa xn xc) (v2 := .slice (some ⟨(wr.alloc (.cells (twoB mO) 5)).heap.size, 0, none⟩) 1 1) (.tmp 144) (.tmp 151) rfl (by kernel_rfl) (by kernel_rfl) hr) ?_
                  simp only [Act.put, List.setIfInBounds_toArray, List.set_cons_zero, List.set_cons_succ]
                  refine wpList_runTo rfl (some 1) rfl (.slice ya (xn + 1) yc) W3 (by kernel_rfl) ?_
                  simp only [Act.put, List.setIfInBounds_toArray, List.set_cons_zero, List.set_cons_succ]
                  refine wpList_nil ?_
                  refine hK _ _ ?_
                  clear hK hr
                  go_upto_region 31 with fail
                  refine wp_region_lit ?_
                  refine wpList_runTo rfl (some 153) rfl (.pointer (some ⟨p, 0, none⟩)) W3 (by kernel_rfl) ?_
                  simp only [Act.put, List.setIfInBounds_toArray, List.set_cons_zero, List.set_cons_succ]
                  refine wpList_runTo rfl (some 154) rfl (.pointer (some ⟨p, 0, none⟩)) W3 (by kernel_rfl) ?_
                  simp only [Act.put, List.setIfInBounds_toArray, List.set_cons_zero, List.set_cons_succ]
                  refine wpList_runTo rfl (some 155) rfl (.pointer (some ⟨p, 0, none⟩)) W3 (by kernel_rfl) ?_
                  simp only [Act.put, List.setIfInBounds_toArray, List.set_cons_zero, List.set_cons_succ]
                  refine wpList_runTo rfl (some 156) rfl (.pointer (some ⟨p, 4, none⟩)) W3 (by kernel_rfl) ?_
                  simp only [Act.put, List.setIfInBounds_toArray, List.set_cons_zero, List.set_cons_succ]
                  refine wpList_runTo rfl (some 157) rfl (.slice ok n5 oc) W3 (by exact ldS_run (.inr (.inr (.inr (.inr (.inl rfl))))) (.tmp 156) rfl (by kernel_rfl) q4) ?_
                  simp only [Act.put, List.setIfInBounds_toArray, List.set_cons_zero, List.set_cons_succ]
                  refine wpList_runTo rfl (some 158) rfl (.slice ya (xn + 1) yc) W3 (by kernel_rfl) ?_
                  simp only [Act.put, List.setIfInBounds_toArray, List.set_cons_zero, List.set_cons_succ]
                  refine wpList_runTo rfl (some 159) rfl (.slice (some ⟨W3.heap.size, 0, none⟩) 1 1) (W3.alloc (.cells #[.slice ya (xn + 1) yc] 32)) (by exact buildO1_run (.inl ⟨rfl, rfl⟩) ⟨_, _, _, rfl⟩ (.tmp 158) rfl (by kernel_rfl) _) ?_
                  simp only [Act.put, List.setIfInBounds_toArray, List.set_cons_zero, List.set_cons_succ]
                  refine wpList_runTo rfl (some 160) rfl (v2) w2 (by exact exec_append (v1 := .slice ok n5 oc) (v2 := .slice (some ⟨W3.heap.size, 0, none⟩) 1 1) (.tmp 157) (.tmp 159) rfl (by kernel_rfl) (by kernel_rfl) hr2) ?_
                  simp only [Act.put, List.setIfInBounds_toArray, List.set_cons_zero, List.set_cons_succ]
                  refine wpList_runTo rfl (some 161) rfl (.pointer (some ⟨p, 0, none⟩)) w2 (by kernel_rfl) ?_
                  simp only [Act.put, List.setIfInBounds_toArray, List.set_cons_zero, List.set_cons_succ]
                  refine wpList_runTo rfl (some 162) rfl (.pointer (some ⟨p, 4, none⟩)) w2 (by kernel_rfl) ?_
                  simp only [Act.put, List.setIfInBounds_toArray, List.set_cons_zero, List.set_cons_succ]
                  refine wpList_skipW rfl none rfl (w' := w2.setCell ⟨p, 4, none⟩ v2) (stS_run (.inr (.inr (.inr (.inr (.inl rfl))))) ⟨_, _, _, hv2⟩ ⟨_, _, _, rfl⟩ (.tmp 162) (.tmp 160) rfl (by kernel_rfl) (by kernel_rfl) q42 qf2) ?_
                  refine wpList_nil ?_
                  clear q4 q42 qf2 hr2 hv2
                  generalize w2.setCell ⟨p, 4, none⟩ v2 = W5 at *
                  go_wp2
                  exact ⟨⟨t + 1, ya, xn + 1, yc, by omega, by go_num, rfl, by rw [HXN.out]; omega, H7.out⟩, by simp [RowKit.intOf]; omega⟩
                · obtain rfl : t = 3 := by omega
                  go_wp2
                  go_end0
                  obtain ⟨G5, c5, os5, h5, _, hos5⟩ := HT.out
                  exact ⟨rfl, G5, c5, es, os5, h5, HE2.out, by rw [hos5, HF.out.1]⟩
end Go.Proofs.Ytdncemecnbglaaa
