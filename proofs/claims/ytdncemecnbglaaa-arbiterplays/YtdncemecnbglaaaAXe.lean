import Derived.Test.YtdncemecnbglaaaA32

namespace Go.Proofs.Ytdncemecnbglaaa
set_option linter.unusedVariables false
set_option linter.unusedSimpArgs false
open Go.RowKit Go.Great Go.Maps

theorem infoS9 : (Try.prog.info? 9).map (fun i => (i.zero, i.size, i.bytes)) = some (some (.string ByteArray.empty), 1, 16) := by kernel_rfl
theorem buildS1_run {op : Oper} {a : Act} {b : ByteArray} (x : Operand) (ho : op.op = .buildSlice 52 1 #[(0, x)]) (hx : a.eval x = .string b) (w : World) : (execOp a.eval op).run Try.prog w = .ok (.value (.slice (some ⟨w.heap.size, 0, none⟩) 1 1)) (w.alloc (.cells #[.string b] 9)) := by
  unfold execOp
  simp only [ho, List.map_toArray, List.map_cons, List.map_nil, hx]
  kernel_rfl
/-- The strings that are wanted, so far. -/
structure WSt (w wr : World) (v : Value) (ks : List Kp) : Prop where
  row : RowAt wr 9 1 v ks.length (sV ks)
  low : ∀ q, v.ownBlock = some q → w.heap.size ≤ q
  bel : Below w.heap.size w wr
theorem WSt.app {w wr : World} {v : Value} {ks : List Kp} (h : WSt w wr v ks) (k : Kp) (hn : ks.length ≤ 1000000000000) (ty : TypeId) : ∃ v' w', (Builtin.append_ #[52, 52] ty #[v, .slice (some ⟨wr.heap.size, 0, none⟩) 1 1]).run Try.prog (wr.alloc (.cells #[.string (ofN k.l)] 9)) = .ok v' w' ∧ WSt w w' v' (ks ++ [k]) := by
  obtain ⟨i0, hi, hz0, hz1, hz2⟩ := info_parts infoS9
  have hmx : 140737488355328 ≤ maxLen := by decide
  obtain ⟨v', w', k1, k2, k3, k4⟩ := run_append_row (P := Try.prog) (wr.alloc (.cells #[.string (ofN k.l)] 9)) 52 ty 9 i0 (.string ByteArray.empty) 1 16 Try.underlying52 hi hz0 hz1 hz2 rfl v ks.length (sV ks) (h.row.fr (Fr.alloc wr _ (fun _ => False)) fun _ _ => id) ⟨wr.heap.size, 0, none⟩ 1 1 [.string (ofN k.l)] rfl (fun j u hu => by
    rw [Addr.add_mid, Nat.zero_add, cell_of_row _ _ _ _ _ _ (heap_alloc_new wr _)]
    simpa using hu) (fun x hx => by
    have e : x = .string (ofN k.l) := by simpa using hx
    subst e; rfl) (.inl (by decide)) (by omega) (by omega)
  have hb : Below w.heap.size w (wr.alloc (.cells #[.string (ofN k.l)] 9)) := h.bel.alloc h.bel.size _
  refine ⟨v', w', k1, ⟨by rw [List.length_append, sV, List.map_append]; exact k2, fun q hq => ?_, ⟨k3.os.trans hb.os, k3.tape.trans hb.tape, k3.output.trans hb.output, Nat.le_trans hb.size k3.size, fun q hq => (k3.block q (Nat.lt_of_lt_of_le hq hb.size) fun e => by have := h.low q e; omega).trans (hb.block q hq)⟩⟩⟩
  rcases k4 with k4 | ⟨k4, _⟩
  · exact h.low q (k4 ▸ hq)
  · rw [k4] at hq
    injection hq with hq
    subst hq
    exact hb.size
theorem sV_same {ks qs : List Kp} (h : ks.map (·.l) = qs.map (·.l)) : sV ks = sV qs := by
  have e : ∀ l : List Kp, sV l = (l.map (·.l)).map fun x => .string (ofN x) := fun l => by rw [List.map_map]; rfl
  rw [e, e, h]
/-- What comes leaves. -/
structure CV (s : Nat) (G : Gh) (w : World) (p : Nat) (c0 : PC) (av : Value) (out : List Kp) (G' : Gh) (w' : World) (c : PC) (es : List En) (os : List (Value × Nat)) : Prop where
  st : Stp s (gx p c0) G w G' w'
  blk : Blk w' p 54 c.cs
  hs : Hs w' G' c.k es
  os : Ls 32 35 1 w' G' c.o os
  row : RowAt w' 35 1 av out.length (out.map (·.v))
  pk : ∀ k ∈ out, PkAt w' k
  srow : RowAt w' 9 1 c.s out.length (sV out)
  same : c = { c0 with k := c.k, o := c.o, w := av, s := c.s }
  ko : ∀ q, c.k.ownBlock = some q → c0.k.ownBlock = some q ∨ w.heap.size ≤ q
  oo : ∀ q, c.o.ownBlock = some q → c0.o.ownBlock = some q ∨ w.heap.size ≤ q
  so : ∀ q, c.s.ownBlock = some q → w.heap.size ≤ q
theorem nh9 : ¬ hotT 9 := by unfold hotT; decide
/-- given, behind which an answer stands as it did. -/
theorem GV.keep {s : Nat} {G G4 : Gh} {W3 W4 : World} {p : Nat} {c0 c : PC} {es es0 : List En} {os os0 : List (Value × Nat)} {av sv : Value} {out : List Kp} (h : GV s G W3 p c0 G4 W4 c es os) (hs : s < 1000) (hb3 : Blk W3 p 54 c0.cs) (hh3 : Hs W3 G c0.k es0) (ho3 : Ls 32 35 1 W3 G c0.o os0)
    (ha : RowAt W3 35 1 av out.length (out.map (·.v))) (hac : ∀ q, av.ownBlock = some q → G q ≠ (1, s) ∧ (G q).1 ≠ 2) (hp : ∀ k ∈ out, PkAt W3 k) (hpc : ∀ k ∈ out, ∀ q, k.v.ownBlock = some q → G q ≠ (1, s) ∧ (G q).1 ≠ 2) (hsv : RowAt W3 9 1 sv out.length (sV out)) :
    RowAt W4 35 1 av out.length (out.map (·.v)) ∧ (∀ k ∈ out, PkAt W4 k) ∧ RowAt W4 9 1 sv out.length (sV out) := by
  have key : ∀ q, q < W3.heap.size → G q ≠ (1, s) ∧ (G q).1 ≠ 2 → ∀ m, G4 q ≠ (2, m) := fun q hq hn m e => by
    rcases h.st.col q hq with e2 | ⟨e2, e3⟩
    · rw [e2] at e; rw [e] at hn; simp at hn
    · refine hn.1 ?_
      rcases e3 with e3 | ⟨e3, _⟩
      · exact Prod.ext e2 e3
      · omega
  refine ⟨ha.stpC h.st (.inr (.inr rfl)) fun q hq => key q (ha.lt hq).1 (hac q hq), fun k hk => (hp k hk).stp h.st fun q hq => key q ((hp k hk).1.lt hq).1 (hpc k hk q hq), hsv.stpO h.st nh9 fun q hq e => ?_⟩
  rcases e with rfl | e | e
  · exact hsv.ne_type hb3 (by decide) hq
  · obtain ⟨_, cur, hc⟩ := hh3.row.lt e
    exact hsv.ne_type hc (by decide) hq
  · obtain ⟨_, cur, hc⟩ := ho3.row.lt e
    exact hsv.ne_type hc (by decide) hq
theorem GV.fin {s : Nat} {G G4 : Gh} {w W3 W4 : World} {p : Nat} {c0 c : PC} {es : List En} {os : List (Value × Nat)} {av sv : Value} {out : List Kp} (h0 : Stp s (fun _ => False) G w G W3) (hx : ∀ q cur T, gx p c0 q → w.heap[q]? = some (.cells cur T (0, 0)) → ¬ hotT T) (h : GV s G W3 p c0 G4 W4 c es os)
    (ha : RowAt W4 35 1 av out.length (out.map (·.v))) (hp : ∀ k ∈ out, PkAt W4 k) (hsv : RowAt W4 9 1 sv out.length (sV out)) (hso : ∀ q, sv.ownBlock = some q → w.heap.size ≤ q) :
    CV s G w p c0 av out G4 ((W4.setCell ⟨p, 5, none⟩ av).setCell ⟨p, 6, none⟩ sv) { c with w := av, s := sv } es os := by
  have hf : Fr W4 ((W4.setCell ⟨p, 5, none⟩ av).setCell ⟨p, 6, none⟩ sv) (fun q => q = p) := (Fr.setCell W4 ⟨p, 5, none⟩ av (fun q => q = p) rfl).trans (Fr.setCell _ ⟨p, 6, none⟩ sv (fun q => q = p) rfl) fun q _ e => e.elim id id
  have hst : Stp s (fun q => q = p) G4 W4 G4 ((W4.setCell ⟨p, 5, none⟩ av).setCell ⟨p, 6, none⟩ sv) := Stp.of_fr h.st.gi hf fun q cur T hq hc => by subst hq; exact h.blk.nh nhP hc
  have h1 : Stp s (gx p c0) G w G4 W4 := (h0.mono (ex := gx p c0) (fun _ _ e => e.elim) hx).trans h.st fun _ _ e => e
  refine ⟨h1.trans hst fun q _ e => .inl e, (h.blk.set 5 av).set 6 sv, h.hs.stp hst fun q hq e => by subst e; exact h.hs.row.ne_type h.blk (by decide) hq, h.os.stp nhO hst fun q hq e => by subst e; exact h.os.row.ne_type h.blk (by decide) hq, ha.fr hf fun q hq e => by subst e; exact ha.ne_type h.blk (by decide) hq, fun k hk => (hp k hk).fr hf fun q hq e => by subst e; exact (hp k hk).1.ne_type h.blk (by decide) hq, hsv.fr hf fun q hq e => by subst e; exact hsv.ne_type h.blk (by decide) hq, by rw [h.same], fun q hq => ?_, fun q hq => ?_, hso⟩
  · exact (h.ko q hq).imp id fun e => Nat.le_trans h0.size e
  · exact (h.oo q hq).imp id fun e => Nat.le_trans h0.size e
end Go.Proofs.Ytdncemecnbglaaa

namespace Go.Proofs.Ytdncemecnbglaaa
set_option linter.unusedVariables false
set_option linter.unusedSimpArgs false
open Go.RowKit Go.Great Go.Maps

/-- What comes is handed. -/
structure CIn (s : Nat) (G : Gh) (w : World) (p : Nat) (c0 : PC) (es0 : List En) (os0 : List (Value × Nat)) (ws : List Kp) (av bv : Value) (out out2 : List Kp) : Prop where
  gi : Gi G w
  hs : s < 1000
  hb : Blk w p 54 c0.cs
  hh : Hs w G c0.k es0
  ho : Ls 32 35 1 w G c0.o os0
  hw : Wt s G w c0.w ws
  hsr : RowAt w 9 1 c0.s ws.length (sV ws)
  ha : RowAt w 35 1 av out.length (out.map (·.v))
  hac : ∀ q, av.ownBlock = some q → G q ≠ (1, s) ∧ (G q).1 ≠ 2
  hap : ∀ k ∈ out, PkAt w k
  hapc : ∀ k ∈ out, ∀ q, k.v.ownBlock = some q → G q ≠ (1, s) ∧ (G q).1 ≠ 2
  hbr : RowAt w 35 1 bv out2.length (out2.map (·.v))
  hbp : ∀ k ∈ out2, PkAt w k
  hl : out.map (·.l) = out2.map (·.l)
  h4 : os0.length % 4 = 0
  hE : es0.length + 4 * ws.length ≤ 1000000000000
  hO : os0.length + 4 ≤ 1000000000000
  hL : ∀ k ∈ ws, k.l.length ≤ 140737488351232
  hn : out.length ≤ 1000000000000
theorem CIn.below {s : Nat} {G : Gh} {w w' : World} {p : Nat} {c0 : PC} {es0 : List En} {os0 : List (Value × Nat)} {ws : List Kp} {av bv : Value} {out out2 : List Kp} (h : CIn s G w p c0 es0 os0 ws av bv out out2) (hb : Below w.heap.size w w') : CIn s G w' p c0 es0 os0 ws av bv out out2 := by
  have hst : Stp s (fun _ => False) G w G w' := Stp.below h.gi hb
  have hf : Fr w w' (fun _ => False) := Fr.of_below hb _
  exact ⟨hst.gi, h.hs, h.hb.fr hf id, h.hh.stp hst fun _ _ => id, h.ho.stp nhO hst fun _ _ => id, ⟨h.hw.row.fr hf fun _ _ => id, h.hw.col, fun k hk => (h.hw.pk k hk).fr hf fun _ _ => id, h.hw.pc, h.hw.dis⟩, h.hsr.fr hf fun _ _ => id, h.ha.fr hf fun _ _ => id, h.hac, fun k hk => (h.hap k hk).fr hf fun _ _ => id, h.hapc, h.hbr.fr hf fun _ _ => id, fun k hk => (h.hbp k hk).fr hf fun _ _ => id, h.hl, h.h4, h.hE, h.hO, h.hL, h.hn⟩
set_option maxRecDepth 100000 in
set_option maxHeartbeats 4000000 in
theorem comes_any {s : Nat} {G : Gh} {w : World} {p : Nat} {c0 : PC} {es0 : List En} {os0 : List (Value × Nat)} {ws : List Kp} {av bv : Value} {out out2 : List Kp} (hI : CIn s G w p c0 es0 os0 ws av bv out out2) :
    Calls Try.prog 30 #[.pointer (some ⟨p, 0, none⟩), av, bv] w fun e w' => e = .returned (.bool true) ∧ Hid (∃ G' c es os, CV s G w p c0 av out G' w' c es os ∧ es.length = es0.length + 4 * ws.length ∧ os.length = os0.length + 4) := by
  obtain ⟨aa, ac, hav, _⟩ := hI.ha.form
  obtain ⟨ba, bc, hbv, _⟩ := hI.hbr.form
  obtain ⟨n, hn⟩ : ∃ n, n = out2.length := ⟨_, rfl⟩
  have hlen : out.length = out2.length := by have := congrArg List.length hI.hl; simpa using this
  have hnb : n ≤ 1000000000000 := by rw [hn, ← hlen]; exact hI.hn
  rw [hlen, ← hn] at hav
  rw [← hn] at hbv
  have HN : Hid (n = out2.length ∧ n = out.length) := ⟨hn, hn.trans hlen.symm⟩
  have HI : Hid (CIn s G w p c0 es0 os0 ws av bv out out2) := hI
  clear hI hlen hn
  subst hav hbv
  go_enter Try.func30, Try.ntmps30
  go_upto_region 3 with fail
  go_loopw [7, 8] (fun x7 x8 wr => ∃ (i : Nat) (xa : Option Addr) (xc : Nat), i ≤ n ∧ x8 = .int .i64 (i : Int) ∧ x7 = .slice xa i xc ∧ Hid (WSt w wr (.slice xa i xc) (out2.take i))) (fun _ x8 _ => n - (RowKit.intOf x8).toNat)
  case atStart => exact ⟨0, none, 0, Nat.zero_le _, rfl, rfl, RowAt.none0 _ _ _, (fun q hq => by cases hq), Below.refl _ _⟩
  case round =>
    obtain ⟨i, xa, xc, hi, rfl, rfl, HS⟩ := hrel
    by_cases hlt : i < n
    · have hlt' : (i : Int) < (n : Int) := by omega
      obtain ⟨k, hk⟩ : ∃ k, out2[i]? = some k := ⟨_, List.getElem?_eq_getElem (by rw [← HN.out.1]; exact hlt)⟩
      obtain ⟨bg, bo, bc', bcur, eb, _⟩ := HI.out.hbr.more (by rw [← HN.out.1]; omega)
      injection eb with eb1 eb3 eb2
      clear eb3
      subst eb1 eb2
      have hf := Fr.of_below HS.out.bel (fun _ => False)
      have q1 : wr.cell? ⟨bg, bo + i, none⟩ = some k.v := hf.cell (HI.out.hbr.cell (congrArg (fun z => Value.slice (some ⟨bg, bo, none⟩) z bc) HN.out.1) (by rw [List.getElem?_map, hk]; rfl)) id
      have hby : By wr k.v k.l := (HI.out.hbp k (List.mem_of_getElem? hk)).by'.below HS.out.bel
      have htl : (out2.take i).length = i := by rw [List.length_take, ← HN.out.1]; omega
      obtain ⟨v', w', hr, hst⟩ := HS.out.app k (by rw [htl]; omega) 52
      have htk : out2.take i ++ [k] = out2.take (i + 1) := by
        rw [List.take_add_one, hk]; rfl
      rw [htk] at hst
      obtain ⟨va, vc, hvf, _⟩ := hst.row.form
      have htl2 : (out2.take (i + 1)).length = i + 1 := by rw [List.length_take, ← HN.out.1]; omega
      rw [htl2] at hvf
      subst hvf
      have HW : Hid (WSt w w' (.slice va (i + 1) vc) (out2.take (i + 1))) := hst
      clear HS hk hf htk htl htl2 hst
      obtain ⟨ka, kn, kc, hkv⟩ : ∃ ka kn kc, k.v = .slice ka kn kc := by
        obtain ⟨ka, kc, e, _⟩ := hby.form
        exact ⟨ka, _, kc, e⟩
      go_upto_region 5 with fail
      refine wp_region_lit ?_
      refine wpList_runTo rfl (some 18) rfl (.slice xa i xc) wr (by kernel_rfl) ?_
      simp only [Act.put, List.setIfInBounds_toArray, List.set_cons_zero, List.set_cons_succ]
      refine wpList_runTo rfl (some 19) rfl (.slice (some ⟨bg, bo, none⟩) n bc) wr (by kernel_rfl) ?_
      simp only [Act.put, List.setIfInBounds_toArray, List.set_cons_zero, List.set_cons_succ]
      refine wpList_runTo rfl (some 20) rfl (.int .i64 (i : Int)) wr (by kernel_rfl) ?_
      simp only [Act.put, List.setIfInBounds_toArray, List.set_cons_zero, List.set_cons_succ]
      refine wpList_runTo rfl (some 21) rfl (.pointer (some ⟨bg, bo + i, none⟩)) wr (by exact ixV_run (n := n) (c := bc) (.tmp 19) (.tmp 20) rfl (by kernel_rfl) (by kernel_rfl) hlt _) ?_
      simp only [Act.put, List.setIfInBounds_toArray, List.set_cons_zero, List.set_cons_succ]
      refine wpList_runTo rfl (some 22) rfl (k.v) wr (by exact ldS_run (.inr (.inr (.inl rfl))) (.tmp 21) rfl (by kernel_rfl) q1) ?_
      simp only [Act.put, List.setIfInBounds_toArray, List.set_cons_zero, List.set_cons_succ]
      refine wpList_runTo rfl (some 23) rfl (.string (ofN k.l)) wr (by exact conv_run (.tmp 22) rfl (by kernel_rfl) hby) ?_
      simp only [Act.put, List.setIfInBounds_toArray, List.set_cons_zero, List.set_cons_succ]
      refine wpList_runTo rfl (some 24) rfl (.slice (some ⟨wr.heap.size, 0, none⟩) 1 1) (wr.alloc (.cells #[.string (ofN k.l)] 9)) (by exact buildS1_run (.tmp 23) rfl (by kernel_rfl) _) ?_
      simp only [Act.put, List.setIfInBounds_toArray, List.set_cons_zero, List.set_cons_succ]
      refine wpList_runTo rfl (some 25) rfl (.slice va (i + 1) vc) w' (by exact exec_append (v1 := .slice xa i xc) (v2 := .slice (some ⟨wr.heap.size, 0, none⟩) 1 1) (.tmp 18) (.tmp 24) rfl (by kernel_rfl) (by kernel_rfl) hr) ?_
      simp only [Act.put, List.setIfInBounds_toArray, List.set_cons_zero, List.set_cons_succ]
      refine wpList_runTo rfl (some 7) rfl (.slice va (i + 1) vc) w' (by kernel_rfl) ?_
      simp only [Act.put, List.setIfInBounds_toArray, List.set_cons_zero, List.set_cons_succ]
      refine wpList_nil ?_
      clear q1 hby hr hkv
      generalize ofN k.l = B at *
      generalize k.v = kv at *
      go_wp2
      exact ⟨⟨i + 1, va, vc, by omega, by go_num, rfl, HW.out⟩, by simp [RowKit.intOf]; omega⟩
    · obtain rfl : i = n := by omega
      clear hlt
      have H1 : Hid (CIn s G wr p c0 es0 os0 ws (.slice aa i ac) (.slice ba i bc) out out2 ∧ RowAt wr 9 1 (.slice xa i xc) out.length (sV out) ∧ (∀ q, (Value.slice xa i xc).ownBlock = some q → w.heap.size ≤ q) ∧ Below w.heap.size w wr) := by
        have h1 := HS.out.row
        rw [List.take_of_length_le (by rw [← HN.out.1]; exact Nat.le_refl _), ← HN.out.1] at h1
        rw [← sV_same HI.out.hl] at h1
        refine ⟨HI.out.below HS.out.bel, by rw [← HN.out.2]; exact h1, HS.out.low, HS.out.bel⟩
      clear HS
      go_upto_region 6 with fail
      have hsm := samePackets_any H1.out.1.ha (fun k hk => (H1.out.1.hap k hk).by') H1.out.2.1 H1.out.1.hn
      rename_i K hK
      refine wp_region_lit ?_
      refine wpList_runTo rfl (some 26) rfl (.slice aa i ac) wr (by kernel_rfl) ?_
      simp only [Act.put, List.setIfInBounds_toArray, List.set_cons_zero, List.set_cons_succ]
      refine wpList_runTo rfl (some 27) rfl (.slice xa i xc) wr (by kernel_rfl) ?_
      simp only [Act.put, List.setIfInBounds_toArray, List.set_cons_zero, List.set_cons_succ]
      refine wpList_callW rfl (some 28) rfl 41 #[.slice aa i ac, .slice xa i xc] (by kernel_rfl) hsm ?_
      clear hsm
      rintro e W2 ⟨rfl, hx⟩
      refine ⟨_, rfl, ?_⟩
      simp only [Act.put, List.setIfInBounds_toArray, List.set_cons_zero, List.set_cons_succ]
      refine wpList_runTo rfl (some 9) rfl (.bool true) W2 (by kernel_rfl) ?_
      simp only [Act.put, List.setIfInBounds_toArray, List.set_cons_zero, List.set_cons_succ]
      refine wpList_nil ?_
      refine hK _ _ ?_
      clear hK
      have H2 : Hid (CIn s G W2.drew p c0 es0 os0 ws (.slice aa i ac) (.slice ba i bc) out out2 ∧ RowAt W2.drew 9 1 (.slice xa i xc) out.length (sV out) ∧ (∀ q, (Value.slice xa i xc).ownBlock = some q → w.heap.size ≤ q) ∧ Below w.heap.size w W2.drew) := by
        have hb2 : Below wr.heap.size wr W2.drew := ⟨hx.out.os, hx.out.tape, hx.out.output, hx.out.size, hx.out.block⟩
        exact ⟨H1.out.1.below hb2, H1.out.2.1.fr (Fr.of_below hb2 (fun _ => False)) fun _ _ => id, H1.out.2.2.1, below_step H1.out.2.2.2 hb2⟩
      clear H1 hx
      go_upto_region 7 with fail
      rename_i K hK
      obtain ⟨wa, wc, hwf, _⟩ := H2.out.1.hw.row.form
      obtain ⟨sa, sc, hsf, _⟩ := H2.out.1.hsr.form
      obtain ⟨nw, hnw⟩ : ∃ nw, nw = ws.length := ⟨_, rfl⟩
      rw [← hnw] at hwf hsf
      refine wp_region_held (S := fun w' => w'.cell? ⟨p, 5, none⟩ = some (.slice wa nw wc) ∧ w'.cell? ⟨p, 6, none⟩ = some (.slice sa nw sc)) (by kernel_rfl) ?_
      change wpAnyH _ _ _ _ _ _ _ _ (World.drew _)
      generalize W2.drew = Z at *
      have hS : Z.cell? ⟨p, 5, none⟩ = some (.slice wa nw wc) ∧ Z.cell? ⟨p, 6, none⟩ = some (.slice sa nw sc) := ⟨by rw [← hwf]; exact H2.out.1.hb.cell 5, by rw [← hsf]; exact H2.out.1.hb.cell 6⟩
      refine takeR (i := 0) (v := .pointer (some ⟨p, 0, none⟩)) (some 29) rfl rfl (by kernel_rfl) (by kernel_rfl) (by kernel_rfl) (fun _ _ _ h => h) (Or.inl ⟨by kernel_rfl, fun w' hSw => by kernel_rfl⟩) hS ?_
      simp only [Act.put, List.setIfInBounds_toArray, List.set_cons_zero, List.set_cons_succ]
      refine takeR (i := 1) (v := .pointer (some ⟨p, 0, none⟩)) (some 30) rfl rfl (by kernel_rfl) (by kernel_rfl) (by kernel_rfl) (fun _ _ _ h => h) (Or.inl ⟨by kernel_rfl, fun w' hSw => by kernel_rfl⟩) hS ?_
      simp only [Act.put, List.setIfInBounds_toArray, List.set_cons_zero, List.set_cons_succ]
      refine takeR (i := 2) (v := .pointer (some ⟨p, 5, none⟩)) (some 31) rfl rfl (by kernel_rfl) (by kernel_rfl) (by kernel_rfl) (fun _ _ _ h => h) (Or.inl ⟨by kernel_rfl, fun w' hSw => by kernel_rfl⟩) hS ?_
      simp only [Act.put, List.setIfInBounds_toArray, List.set_cons_zero, List.set_cons_succ]
      refine takeR (i := 3) (v := .slice wa nw wc) (some 32) rfl rfl (by kernel_rfl) (by kernel_rfl) (by kernel_rfl) (fun _ _ _ h => h) (Or.inl ⟨by kernel_rfl, fun w' hSw => by exact ldS_run (.inr (.inl rfl)) (.tmp 31) rfl (by kernel_rfl) hSw.1⟩) hS ?_
      simp only [Act.put, List.setIfInBounds_toArray, List.set_cons_zero, List.set_cons_succ]
      refine takeR (i := 4) (v := .pointer (some ⟨p, 0, none⟩)) (some 33) rfl rfl (by kernel_rfl) (by kernel_rfl) (by kernel_rfl) (fun _ _ _ h => h) (Or.inl ⟨by kernel_rfl, fun w' hSw => by kernel_rfl⟩) hS ?_
      simp only [Act.put, List.setIfInBounds_toArray, List.set_cons_zero, List.set_cons_succ]
      refine takeR (i := 5) (v := .pointer (some ⟨p, 0, none⟩)) (some 34) rfl rfl (by kernel_rfl) (by kernel_rfl) (by kernel_rfl) (fun _ _ _ h => h) (Or.inl ⟨by kernel_rfl, fun w' hSw => by kernel_rfl⟩) hS ?_
      simp only [Act.put, List.setIfInBounds_toArray, List.set_cons_zero, List.set_cons_succ]
      refine takeR (i := 6) (v := .pointer (some ⟨p, 6, none⟩)) (some 35) rfl rfl (by kernel_rfl) (by kernel_rfl) (by kernel_rfl) (fun _ _ _ h => h) (Or.inl ⟨by kernel_rfl, fun w' hSw => by kernel_rfl⟩) hS ?_
      simp only [Act.put, List.setIfInBounds_toArray, List.set_cons_zero, List.set_cons_succ]
      refine takeR (i := 7) (v := .slice sa nw sc) (some 36) rfl rfl (by kernel_rfl) (by kernel_rfl) (by kernel_rfl) (fun _ _ _ h => h) (Or.inl ⟨by kernel_rfl, fun w' hSw => by exact ldS_run (.inr (.inr (.inr (.inr (.inr (.inl rfl)))))) (.tmp 35) rfl (by kernel_rfl) hSw.2⟩) hS ?_
      simp only [Act.put, List.setIfInBounds_toArray, List.set_cons_zero, List.set_cons_succ]
      have hsm := samePackets_any H2.out.1.hw.row (fun k hk => (H2.out.1.hw.pk k hk).by') H2.out.1.hsr (by have := H2.out.1.hE; omega)
      rw [hwf, hsf] at hsm
      refine wpAnyH_ready (rs := [8]) (by kernel_rfl) (by simp) ?_
      refine AllReadyH.cons rfl (fun K1 hK1 => ?_) AllReadyH.nil
      rw [if_pos (by kernel_rfl)]
      refine callR (d := some 37) rfl 41 #[.slice wa nw wc, .slice sa nw sc] (by kernel_rfl) hsm ?_
      clear hsm
      rintro e W3 ⟨rfl, hx⟩
      refine ⟨_, rfl, ?_⟩
      have H3 : Hid (CIn s G W3 p c0 es0 os0 ws (.slice aa i ac) (.slice ba i bc) out out2 ∧ RowAt W3 9 1 (.slice xa i xc) out.length (sV out) ∧ (∀ q, (Value.slice xa i xc).ownBlock = some q → w.heap.size ≤ q) ∧ Below w.heap.size w W3) :=
        ⟨H2.out.1.below hx.out, H2.out.2.1.fr (Fr.of_below hx.out (fun _ => False)) fun _ _ => id, H2.out.2.2.1, below_step H2.out.2.2.2 hx.out⟩
      clear H2 hx hS
      have hS : W3.cell? ⟨p, 5, none⟩ = some (.slice wa nw wc) ∧ W3.cell? ⟨p, 6, none⟩ = some (.slice sa nw sc) := ⟨by rw [← hwf]; exact H3.out.1.hb.cell 5, by rw [← hsf]; exact H3.out.1.hb.cell 6⟩
      refine hK1.out _ _ hS (fun _ => ?_)
      clear hK1
      simp only [Act.put, List.setIfInBounds_toArray, List.set_cons_zero, List.set_cons_succ]
      refine takeR (i := 9) (v := .bool true) (some 10) rfl rfl (by kernel_rfl) (by kernel_rfl) (by kernel_rfl) (fun _ _ _ h => h) (Or.inl ⟨by kernel_rfl, fun w' hSw => by kernel_rfl⟩) hS ?_
      simp only [Act.put, List.setIfInBounds_toArray, List.set_cons_zero, List.set_cons_succ]
      refine wpAnyH_done (by kernel_rfl) ?_ _
      refine hK _ _ ?_
      clear hK hS
      have q5 : W3.cell? ⟨p, 5, none⟩ = some (.slice wa nw wc) := by rw [← hwf]; exact H3.out.1.hb.cell 5
      have hgv := given_any H3.out.1.gi H3.out.1.hb H3.out.1.hh H3.out.1.ho H3.out.1.hw H3.out.1.h4 H3.out.1.hE H3.out.1.hO H3.out.1.hL
      rw [hwf] at hgv
      go_upto_region 8 with fail
      rename_i K hK
      refine wp_region_lit ?_
      refine wpList_runTo rfl (some 38) rfl (.pointer (some ⟨p, 0, none⟩)) W3 (by kernel_rfl) ?_
      simp only [Act.put, List.setIfInBounds_toArray, List.set_cons_zero, List.set_cons_succ]
      refine wpList_runTo rfl (some 39) rfl (.pointer (some ⟨p, 0, none⟩)) W3 (by kernel_rfl) ?_
      simp only [Act.put, List.setIfInBounds_toArray, List.set_cons_zero, List.set_cons_succ]
      refine wpList_runTo rfl (some 40) rfl (.pointer (some ⟨p, 0, none⟩)) W3 (by kernel_rfl) ?_
      simp only [Act.put, List.setIfInBounds_toArray, List.set_cons_zero, List.set_cons_succ]
      refine wpList_runTo rfl (some 41) rfl (.pointer (some ⟨p, 5, none⟩)) W3 (by kernel_rfl) ?_
      simp only [Act.put, List.setIfInBounds_toArray, List.set_cons_zero, List.set_cons_succ]
      refine wpList_runTo rfl (some 42) rfl (.slice wa nw wc) W3 (by exact ldS_run (.inr (.inl rfl)) (.tmp 41) rfl (by kernel_rfl) q5) ?_
      simp only [Act.put, List.setIfInBounds_toArray, List.set_cons_zero, List.set_cons_succ]
      refine wpList_callW rfl (some 43) rfl 42 #[.pointer (some ⟨p, 0, none⟩), .slice wa nw wc] (by kernel_rfl) hgv ?_
      clear hgv q5
      rintro e W4 ⟨rfl, hx⟩
      refine ⟨_, rfl, ?_⟩
      simp only [Act.put, List.setIfInBounds_toArray, List.set_cons_zero, List.set_cons_succ]
      refine wpList_nil ?_
      refine hK _ _ ?_
      clear hK
      obtain ⟨G4, c4, es4, os4, hg4, he4, ho4⟩ := hx.out
      have h0 : Stp s (fun _ => False) G w G W3 := Stp.below HI.out.gi H3.out.2.2.2
      have H4 : Hid (GV s G W3 p c0 G4 W4 c4 es4 os4 ∧ es4.length = es0.length + 4 * ws.length ∧ os4.length = os0.length + 4) := ⟨hg4, he4, ho4⟩
      clear hx hg4 he4 ho4
      have H5 : Hid (RowAt W4 35 1 (.slice aa i ac) out.length (out.map (·.v)) ∧ (∀ k ∈ out, PkAt W4 k) ∧ RowAt W4 9 1 (.slice xa i xc) out.length (sV out)) := H4.out.1.keep HI.out.hs H3.out.1.hb H3.out.1.hh H3.out.1.ho H3.out.1.ha H3.out.1.hac H3.out.1.hap H3.out.1.hapc H3.out.2.1
      go_upto_region 9 with fail
      have hsm := samePackets_any H5.out.1 (fun k hk => (H5.out.2.1 k hk).by') H5.out.2.2 HI.out.hn
      rename_i K hK
      refine wp_region_lit ?_
      refine wpList_runTo rfl (some 44) rfl (.slice aa i ac) W4 (by kernel_rfl) ?_
      simp only [Act.put, List.setIfInBounds_toArray, List.set_cons_zero, List.set_cons_succ]
      refine wpList_runTo rfl (some 45) rfl (.slice xa i xc) W4 (by kernel_rfl) ?_
      simp only [Act.put, List.setIfInBounds_toArray, List.set_cons_zero, List.set_cons_succ]
      refine wpList_callW rfl (some 46) rfl 41 #[.slice aa i ac, .slice xa i xc] (by kernel_rfl) hsm ?_
      clear hsm
      rintro e W5 ⟨rfl, hx⟩
      refine ⟨_, rfl, ?_⟩
      simp only [Act.put, List.setIfInBounds_toArray, List.set_cons_zero, List.set_cons_succ]
      refine wpList_runTo rfl (some 11) rfl (.bool true) W5 (by kernel_rfl) ?_
      simp only [Act.put, List.setIfInBounds_toArray, List.set_cons_zero, List.set_cons_succ]
      refine wpList_nil ?_
      refine hK _ _ ?_
      clear hK
      have hst5 : Stp s (fun _ => False) G4 W4 G4 W5 := Stp.below H4.out.1.st.gi hx.out
      have hg5 := H4.out.1.step hst5
      have hf5 : Fr W4 W5 (fun _ => False) := Fr.of_below hx.out _
      have H6 : Hid (∃ G' c es os, CV s G w p c0 (.slice aa i ac) out G' ((W5.setCell ⟨p, 5, none⟩ (.slice aa i ac)).setCell ⟨p, 6, none⟩ (.slice xa i xc)) c es os ∧ es.length = es0.length + 4 * ws.length ∧ os.length = os0.length + 4) := ⟨G4, _, es4, os4, GV.fin h0 (fun q cur T hq hc => by
        rcases hq with rfl | hq | hq
        · exact HI.out.hb.nh nhP hc
        · exact HI.out.hh.row.nh nhH hq hc
        · exact HI.out.ho.row.nh nhO hq hc) hg5 (H5.out.1.fr hf5 fun _ _ => id) (fun k hk => (H5.out.2.1 k hk).fr hf5 fun _ _ => id) (H5.out.2.2.fr hf5 fun _ _ => id) H3.out.2.2.1, H4.out.2⟩
      obtain ⟨v5, hv5⟩ : ∃ v5, v5 = c4.w := ⟨_, rfl⟩
      have e5 : c4.w = .slice wa nw wc := by rw [H4.out.1.same]; exact hwf
      have e6 : c4.s = .slice sa nw sc := by rw [H4.out.1.same]; exact hsf
      have q5 : W5.cell? ⟨p, 5, none⟩ = some (.slice wa nw wc) := by rw [← e5]; exact hg5.blk.cell 5
      have hb6 := hg5.blk.set 5 (.slice aa i ac)
      have q6 : (W5.setCell ⟨p, 5, none⟩ (.slice aa i ac)).cell? ⟨p, 6, none⟩ = some (.slice sa nw sc) := by rw [← e6]; exact hb6.cell 6
      have f5 : W5.frozen? ⟨p, 5, none⟩ = false := hg5.blk.frozen 5
      have f6 : (W5.setCell ⟨p, 5, none⟩ (.slice aa i ac)).frozen? ⟨p, 6, none⟩ = false := hb6.frozen 6
      clear hst5 hg5 hf5 H5 H4 h0 H3 hv5 e5 e6 hb6 hx hwf hsf hnw HI
      go_upto_region 10 with fail
      rename_i K hK
      refine wp_region_lit ?_
      refine wpList_runTo rfl (some 47) rfl (.pointer (some ⟨p, 0, none⟩)) W5 (by kernel_rfl) ?_
      simp only [Act.put, List.setIfInBounds_toArray, List.set_cons_zero, List.set_cons_succ]
      refine wpList_runTo rfl (some 48) rfl (.slice aa i ac) W5 (by kernel_rfl) ?_
      simp only [Act.put, List.setIfInBounds_toArray, List.set_cons_zero, List.set_cons_succ]
      refine wpList_runTo rfl (some 49) rfl (.pointer (some ⟨p, 0, none⟩)) W5 (by kernel_rfl) ?_
      simp only [Act.put, List.setIfInBounds_toArray, List.set_cons_zero, List.set_cons_succ]
      refine wpList_runTo rfl (some 50) rfl (.pointer (some ⟨p, 5, none⟩)) W5 (by kernel_rfl) ?_
      simp only [Act.put, List.setIfInBounds_toArray, List.set_cons_zero, List.set_cons_succ]
      refine wpList_skipW rfl none rfl (w' := W5.setCell ⟨p, 5, none⟩ (.slice aa i ac)) (stS_run (.inr (.inl rfl)) ⟨_, _, _, rfl⟩ ⟨_, _, _, rfl⟩ (.tmp 50) (.tmp 48) rfl (by kernel_rfl) (by kernel_rfl) q5 f5) ?_
      refine wpList_nil ?_
      refine hK _ _ ?_
      clear hK q5 f5
      generalize W5.setCell ⟨p, 5, none⟩ (.slice aa i ac) = W6 at *
      go_upto_region 11 with fail
      rename_i K hK
      refine wp_region_lit ?_
      refine wpList_runTo rfl (some 51) rfl (.pointer (some ⟨p, 0, none⟩)) W6 (by kernel_rfl) ?_
      simp only [Act.put, List.setIfInBounds_toArray, List.set_cons_zero, List.set_cons_succ]
      refine wpList_runTo rfl (some 52) rfl (.slice xa i xc) W6 (by kernel_rfl) ?_
      simp only [Act.put, List.setIfInBounds_toArray, List.set_cons_zero, List.set_cons_succ]
      refine wpList_runTo rfl (some 53) rfl (.pointer (some ⟨p, 0, none⟩)) W6 (by kernel_rfl) ?_
      simp only [Act.put, List.setIfInBounds_toArray, List.set_cons_zero, List.set_cons_succ]
      refine wpList_runTo rfl (some 54) rfl (.pointer (some ⟨p, 6, none⟩)) W6 (by kernel_rfl) ?_
      simp only [Act.put, List.setIfInBounds_toArray, List.set_cons_zero, List.set_cons_succ]
      refine wpList_skipW rfl none rfl (w' := W6.setCell ⟨p, 6, none⟩ (.slice xa i xc)) (stS_run (.inr (.inr (.inr (.inr (.inr (.inl rfl)))))) ⟨_, _, _, rfl⟩ ⟨_, _, _, rfl⟩ (.tmp 54) (.tmp 52) rfl (by kernel_rfl) (by kernel_rfl) q6 f6) ?_
      refine wpList_nil ?_
      refine hK _ _ ?_
      clear hK q6 f6
      generalize W6.setCell ⟨p, 6, none⟩ (.slice xa i xc) = W7 at *
      go_wp2
      go_ret
      exact ⟨rfl, H6.out⟩
end Go.Proofs.Ytdncemecnbglaaa
