/-
  arbiter: take, Hear.
-/
import Derived.Test.YtdncemecnbglaaaA3
namespace Go.Proofs.Ytdncemecnbglaaa
set_option linter.unusedVariables false
set_option linter.unusedSimpArgs false
open Go.RowKit Go.Great Go.Maps

theorem mu_run {op : Oper} {a : Act} {w w' : World} {T : TypeId} {m k v : Value} (x y z : Operand) (ho : op.op = .mapUpdate T x y z) (hx : a.eval x = m) (hy : a.eval y = k) (hz : a.eval z = v) (hr : (Instr.mapUpdate T m k v).run Try.prog w = .ok () w') : (execOp a.eval op).run Try.prog w = .ok .skip w' := by
  unfold execOp
  simp only [ho, hx, hy, hz, Sem.run_bind, hr, Result.andThen_ok]
  rfl
theorem eqN_run {op : Oper} {a : Act} {p q : Nat} {r : Bool} (x y : Operand) (ho : op.op = .binOp .eql 3 x y 3) (hx : a.eval x = .int .i64 (p : Int)) (hy : a.eval y = .int .i64 (q : Int)) (hr : (p == q) = r) (w : World) : (execOp a.eval op).run Try.prog w = .ok (.value (.bool r)) w := by
  have h1 : ((p : Int) == (q : Int)) = r := by
    rw [← hr]
    by_cases h : p = q
    · subst h; simp
    · have : (p : Int) ≠ (q : Int) := by omega
      rw [beq_false_of_ne this, beq_false_of_ne h]
  unfold execOp
  simp only [ho, hx, hy]
  go_simp
/-- What take, and Hear with it, leave. -/
structure TkO (w w' : World) (g b : Nat) (v : Value) (out : List Kp) (a' : Ab) : Prop where
  ab : AbAt w' g b a'
  row : RowAt w' 35 1 v out.length (out.map (·.v))
  low : ∀ q, v.ownBlock = some q → w.heap.size ≤ q
  pk : ∀ k ∈ out, PkAt w' k
  fr : Fr w w' (fun x => x = g ∨ x = b)
theorem TkO.nil {w w' : World} {g b : Nat} {a' : Ab} (h : AbAt w' g b a') (hf : Fr w w' (fun x => x = g ∨ x = b)) : TkO w w' g b (.slice none 0 0) [] a' := ⟨h, RowAt.none0 _ _ _, fun q hq => (by cases hq), fun k hk => (by cases hk), hf⟩
theorem TkO.since {w0 w w' : World} {g b : Nat} {v : Value} {out : List Kp} {a' : Ab} (h : TkO w w' g b v out a') (hf : Fr w0 w (fun x => x = g ∨ x = b)) : TkO w0 w' g b v out a' := ⟨h.ab, h.row, fun q hq => Nat.le_trans hf.size (h.low q hq), h.pk, hf.trans h.fr fun x _ q => q.elim id id⟩
/-- What is taken: the packet k, and what can be given then. -/
def TkR (a : Ab) (k : Kp) (out : List Kp) (a' : Ab) : Prop := GivR (k :: a.ks) a.nx out a'.ks a'.nx ∧ a' = { a with nx := a'.nx, ks := a'.ks, si := if k.n = a.nx ∨ a.ks = [] then a.la else a.si }
set_option maxRecDepth 100000 in
set_option maxHeartbeats 1000000 in
theorem take_any {w : World} {g b : Nat} {a : Ab} (h : AbAt w g b a) (n : Nat) {v : Value} {l : List Nat} (hv : By w v l) (h0 : l ≠ []) (hl : l.length ≤ 140737488351232) (hn : fnd a.ks n = none) (hn1 : n ≤ 999999999) (hnx : a.nx ≤ n) (hgt : ∀ k ∈ a.ks, a.nx < k.n) (hlen : a.ks.length + 1 ≤ a.cn 1 + a.cn 5) : Calls Try.prog 22 #[.pointer (some ⟨g, 0, none⟩), .int .i64 (n : Int), v] w fun e w' => ∃ v', e = .returned v' ∧ Hid (∃ k out a', k.n = n ∧ k.l = l ∧ (∀ q, k.v.ownBlock = some q → w.heap.size ≤ q) ∧ TkO w w' g b v' out a' ∧ TkR a k out a') := by
  have HA : Hid (AbAt w g b a ∧ By w v l ∧ l ≠ [] ∧ l.length ≤ 140737488351232 ∧ fnd a.ks n = none ∧ n ≤ 999999999 ∧ a.nx ≤ n ∧ (∀ k ∈ a.ks, a.nx < k.n) ∧ a.ks.length + 1 ≤ a.cn 1 + a.cn 5) := ⟨h, hv, h0, hl, hn, hn1, hnx, hgt, hlen⟩
  clear h hv h0 hl hn hn1 hnx hgt hlen
  go_enter Try.func22, Try.ntmps22
  go_upto_region 1 with fail
  have hbd : Below w.heap.size w w.drew := ⟨rfl, rfl, rfl, Nat.le_refl _, fun _ _ => rfl⟩
  have HD : Hid (AbAt w.drew g b a ∧ By w.drew v l ∧ Below w.heap.size w w.drew) := ⟨HA.out.1.below hbd, HA.out.2.1.below hbd, hbd⟩
  clear hbd
  rename_i K hK
  refine wp_region_held (S := fun w' => Blk w' g 67 (a.cs b)) (by kernel_rfl) ?_
  change wpAnyH _ _ _ _ _ _ _ _ (World.drew _)
  generalize w.drew = WD at *
  have hS := HD.out.1.blk
  refine takeR (i := 0) (v := .pointer (some ⟨g, 0, none⟩)) (some 7) rfl rfl (by kernel_rfl) (by kernel_rfl) (by kernel_rfl) (fun _ _ _ h => h) (Or.inl ⟨by kernel_rfl, fun w' hSw => by kernel_rfl⟩) hS ?_
  simp only [Act.put, List.setIfInBounds_toArray, List.set_cons_zero, List.set_cons_succ]
  refine takeR (i := 1) (v := .pointer (some ⟨g, 0, none⟩)) (some 8) rfl rfl (by kernel_rfl) (by kernel_rfl) (by kernel_rfl) (fun _ _ _ h => h) (Or.inl ⟨by kernel_rfl, fun w' hSw => by kernel_rfl⟩) hS ?_
  simp only [Act.put, List.setIfInBounds_toArray, List.set_cons_zero, List.set_cons_succ]
  refine takeR (i := 2) (v := .pointer (some ⟨g, 3, none⟩)) (some 9) rfl rfl (by kernel_rfl) (by kernel_rfl) (by kernel_rfl) (fun _ _ _ h => h) (Or.inl ⟨by kernel_rfl, fun w' hSw => by kernel_rfl⟩) hS ?_
  simp only [Act.put, List.setIfInBounds_toArray, List.set_cons_zero, List.set_cons_succ]
  refine takeR (i := 3) (v := .map (some b)) (some 10) rfl rfl (by kernel_rfl) (by kernel_rfl) (by kernel_rfl) (fun _ _ _ h => h) (Or.inl ⟨by kernel_rfl, fun w' hSw => by exact ldM_run (.tmp 9) rfl (by kernel_rfl) (hSw.cell 3)⟩) hS ?_
  simp only [Act.put, List.setIfInBounds_toArray, List.set_cons_zero, List.set_cons_succ]
  refine takeR (i := 4) (v := .int .i64 (n : Int)) (some 11) rfl rfl (by kernel_rfl) (by kernel_rfl) (by kernel_rfl) (fun _ _ _ h => h) (Or.inl ⟨by kernel_rfl, fun w' hSw => by kernel_rfl⟩) hS ?_
  simp only [Act.put, List.setIfInBounds_toArray, List.set_cons_zero, List.set_cons_succ]
  refine takeR (i := 5) (v := v) (some 12) rfl rfl (by kernel_rfl) (by kernel_rfl) (by kernel_rfl) (fun _ _ _ h => h) (Or.inl ⟨by kernel_rfl, fun w' hSw => by kernel_rfl⟩) hS ?_
  simp only [Act.put, List.setIfInBounds_toArray, List.set_cons_zero, List.set_cons_succ]
  have hcl := Clone_any HD.out.2.1 HA.out.2.2.1 HA.out.2.2.2.1
  refine wpAnyH_ready (rs := [6]) (by kernel_rfl) (by simp) ?_
  refine AllReadyH.cons rfl (fun K1 hK1 => ?_) AllReadyH.nil
  rw [if_pos (by kernel_rfl)]
  refine callR (d := some 13) rfl 36 #[v] (by kernel_rfl) hcl ?_
  clear hcl
  rintro e W1 ⟨vc, rfl, hx⟩
  refine ⟨_, rfl, ?_⟩
  have HE : Hid (AbAt W1 g b a ∧ RowB WD W1 vc l) := ⟨HD.out.1.below hx.out.bel, hx.out⟩
  have hS1 := HE.out.1.blk
  refine hK1.out _ _ hS1 (fun _ => ?_)
  clear hK1 hx hS
  simp only [Act.put, List.setIfInBounds_toArray, List.set_cons_zero, List.set_cons_succ]
  obtain ⟨k, hkd⟩ : ∃ k : Kp, k = ⟨n, vc, l⟩ := ⟨_, rfl⟩
  have HK : Hid (k.n = n ∧ k.l = l ∧ k.v = vc ∧ (∀ q, k.v.ownBlock = some q → w.heap.size ≤ q)) := by subst hkd; exact ⟨rfl, rfl, rfl, fun q hq => Nat.le_trans HD.out.2.2.size (HE.out.2.low q hq)⟩
  clear hkd
  have hbd := HA.out.1.bd
  obtain ⟨W2, hmu, hab, hfm⟩ := HE.out.1.ins k ⟨by rw [HK.out.2.2.1, HK.out.2.1]; exact HE.out.2.row, by rw [HK.out.2.1]; exact HE.out.2.bb, by rw [HK.out.2.1]; exact HA.out.2.2.1⟩ (by rw [HK.out.1]; exact HA.out.2.2.2.2.1) ⟨hbd.w1, hbd.w2, hbd.p0, hbd.p1, hbd.nx, hbd.s0, hbd.s1, hbd.l0, hbd.l1, fun q hq => by
    rcases List.mem_cons.1 hq with rfl | hq
    · rw [HK.out.1]; exact HA.out.2.2.2.2.2.1
    · exact hbd.kn q hq, hbd.cn, HA.out.2.2.2.2.2.2.2.2⟩
  rw [HK.out.1, HK.out.2.2.1] at hmu
  refine wpAnyH_ready (rs := [7]) (by kernel_rfl) (by simp) ?_
  refine AllReadyH.cons rfl (fun K1 hK1 => ?_) AllReadyH.nil
  rw [if_pos (by kernel_rfl)]
  refine skipR (d := none) rfl (w' := W2) (mu_run (.tmp 10) (.tmp 11) (.tmp 13) rfl (by kernel_rfl) (by kernel_rfl) (by kernel_rfl) hmu) ?_
  refine hK1.out _ _ hab.blk (fun _ => ?_)
  clear hK1 hmu hS1 hbd
  simp only [Act.put, List.setIfInBounds_toArray, List.set_cons_zero, List.set_cons_succ]
  refine wpAnyH_done (by kernel_rfl) ?_ _
  refine hK _ _ ?_
  clear hK
  have HF : Hid (AbAt W2 g b { a with ks := k :: a.ks } ∧ Fr w W2 (fun x => x = g ∨ x = b)) := ⟨hab, (Fr.of_below (below_step HD.out.2.2 HE.out.2.bel) (fun _ => False)).trans hfm fun x _ q => q.elim False.elim .inr⟩
  clear hab hfm HD HE
  have c2 : W2.cell? ⟨g, 2, none⟩ = some (.int .i64 (a.nx : Int)) := HF.out.1.blk.cell 2
  obtain ⟨X, hX⟩ : ∃ X, X = a.nx := ⟨_, rfl⟩
  rw [← hX] at c2
  obtain ⟨r, hr⟩ : ∃ r : Bool, (n == X) = r := ⟨_, rfl⟩
  go_upto_region 2 with fail
  rename_i K hK
  refine wp_region_lit ?_
  refine wpList_runTo rfl (some 14) rfl (.int .i64 (n : Int)) W2 (by kernel_rfl) ?_
  simp only [Act.put, List.setIfInBounds_toArray, List.set_cons_zero, List.set_cons_succ]
  refine wpList_runTo rfl (some 15) rfl (.pointer (some ⟨g, 0, none⟩)) W2 (by kernel_rfl) ?_
  simp only [Act.put, List.setIfInBounds_toArray, List.set_cons_zero, List.set_cons_succ]
  refine wpList_runTo rfl (some 16) rfl (.pointer (some ⟨g, 0, none⟩)) W2 (by kernel_rfl) ?_
  simp only [Act.put, List.setIfInBounds_toArray, List.set_cons_zero, List.set_cons_succ]
  refine wpList_runTo rfl (some 17) rfl (.pointer (some ⟨g, 2, none⟩)) W2 (by kernel_rfl) ?_
  simp only [Act.put, List.setIfInBounds_toArray, List.set_cons_zero, List.set_cons_succ]
  refine wpList_runTo rfl (some 18) rfl (.int .i64 (X : Int)) W2 (by exact ldN_run (.inr rfl) (.tmp 17) rfl (by kernel_rfl) (c2)) ?_
  simp only [Act.put, List.setIfInBounds_toArray, List.set_cons_zero, List.set_cons_succ]
  refine wpList_runTo rfl (some 19) rfl (.bool r) W2 (by exact eqN_run (p := n) (q := X) (.tmp 14) (.tmp 18) rfl (by kernel_rfl) (by kernel_rfl) hr _) ?_
  simp only [Act.put, List.setIfInBounds_toArray, List.set_cons_zero, List.set_cons_succ]
  refine wpList_nil ?_
  refine hK _ _ ?_
  clear hK
  clear c2
  cases r
  case true =>
    have hnX : n = a.nx := by rw [← hX]; simpa using hr
    have HN : Hid (n = a.nx) := hnX
    clear hr hnX
    have hgv := give_any HF.out.1 (fun q hq => by
      show a.nx ≤ q.n
      rcases List.mem_cons.1 hq with rfl | hq
      · rw [HK.out.1]; exact HA.out.2.2.2.2.2.2.1
      · exact Nat.le_of_lt (HA.out.2.2.2.2.2.2.2.1 q hq))
    go_upto_region 3 with fail
    rename_i K hK
    refine wp_region_lit ?_
    refine wpList_runTo rfl (some 20) rfl (.pointer (some ⟨g, 0, none⟩)) W2 (by kernel_rfl) ?_
    simp only [Act.put, List.setIfInBounds_toArray, List.set_cons_zero, List.set_cons_succ]
    refine wpList_callW rfl (some 21) rfl 27 #[.pointer (some ⟨g, 0, none⟩)] (by kernel_rfl) hgv ?_
    clear hgv
    rintro e W3 ⟨v3, rfl, hx⟩
    refine ⟨_, rfl, ?_⟩
    simp only [Act.put, List.setIfInBounds_toArray, List.set_cons_zero, List.set_cons_succ]
    refine wpList_runTo rfl (some 6) rfl (v3) W3 (by kernel_rfl) ?_
    simp only [Act.put, List.setIfInBounds_toArray, List.set_cons_zero, List.set_cons_succ]
    refine wpList_nil ?_
    refine hK _ _ ?_
    clear hK
    have HZ : Hid (∃ k out a', k.n = n ∧ k.l = l ∧ (∀ q, k.v.ownBlock = some q → w.heap.size ≤ q) ∧ TkO w W3 g b v3 out a' ∧ TkR a k out a') := by
      obtain ⟨out, a', h1, h2⟩ := hx.out
      refine ⟨k, out, a', HK.out.1, HK.out.2.1, HK.out.2.2.2, TkO.since ⟨h1.ab, h1.row, h1.low, h1.pk, h1.fr⟩ HF.out.2, h1.giv, ?_⟩
      rw [if_pos (Or.inl (HK.out.1.trans HN.out))]
      exact h2
    clear hx HF
    go_wp2
    go_ret
    exact ⟨v3, rfl, HZ.out⟩
  case false =>
    have hnX : n ≠ a.nx := by rw [← hX]; simpa using hr
    have HN : Hid (n ≠ a.nx) := hnX
    clear hr hnX hX
    have c3 : W2.cell? ⟨g, 3, none⟩ = some (.map (some b)) := HF.out.1.blk.cell 3
    have hln := fun ty => HF.out.1.map.len Try.underlying65 ty
    have e0 : (kL (k :: a.ks)).length = a.ks.length + 1 := by unfold kL; rw [List.length_map]; rfl
    dsimp only at hln
    rw [e0] at hln
    clear e0
    have HGV : Hid (GivR (k :: a.ks) a.nx [] (k :: a.ks) a.nx) := by
      have hx : ∀ q ∈ k :: a.ks, a.nx < q.n := fun q hq => by
        rcases List.mem_cons.1 hq with rfl | hq
        · rw [HK.out.1]; have := HA.out.2.2.2.2.2.2.1; have := HN.out; omega
        · exact HA.out.2.2.2.2.2.2.2.1 q hq
      exact ⟨rfl, fun j q hj => (by simp at hj), (List.filter_eq_self.2 fun q hq => by have := hx q hq; simp; omega).symm, fun q hq => by have := hx q hq; omega⟩
    obtain ⟨NN, hNN⟩ : ∃ NN, NN = a.ks.length + 1 := ⟨_, rfl⟩
    rw [← hNN] at hln
    obtain ⟨r, hr⟩ : ∃ r : Bool, (NN == 1) = r := ⟨_, rfl⟩
    go_upto_region 4 with fail
    rename_i K hK
    refine wp_region_lit ?_
    refine wpList_runTo rfl (some 22) rfl (.pointer (some ⟨g, 0, none⟩)) W2 (by kernel_rfl) ?_
    simp only [Act.put, List.setIfInBounds_toArray, List.set_cons_zero, List.set_cons_succ]
    refine wpList_runTo rfl (some 23) rfl (.pointer (some ⟨g, 0, none⟩)) W2 (by kernel_rfl) ?_
    simp only [Act.put, List.setIfInBounds_toArray, List.set_cons_zero, List.set_cons_succ]
    refine wpList_runTo rfl (some 24) rfl (.pointer (some ⟨g, 3, none⟩)) W2 (by kernel_rfl) ?_
    simp only [Act.put, List.setIfInBounds_toArray, List.set_cons_zero, List.set_cons_succ]
    refine wpList_runTo rfl (some 25) rfl (.map (some b)) W2 (by exact ldM_run (.tmp 24) rfl (by kernel_rfl) (c3)) ?_
    simp only [Act.put, List.setIfInBounds_toArray, List.set_cons_zero, List.set_cons_succ]
    refine wpList_runTo rfl (some 26) rfl (.int .i64 (NN : Int)) W2 (by exact ln_run (.tmp 25) rfl (by kernel_rfl) (hln _)) ?_
    simp only [Act.put, List.setIfInBounds_toArray, List.set_cons_zero, List.set_cons_succ]
    refine wpList_runTo rfl (some 27) rfl (.bool r) W2 (by exact eqN_run (p := NN) (q := 1) (.tmp 26) (.const (.int .i64 1)) rfl (by kernel_rfl) rfl hr _) ?_
    simp only [Act.put, List.setIfInBounds_toArray, List.set_cons_zero, List.set_cons_succ]
    refine wpList_nil ?_
    refine hK _ _ ?_
    clear hK
    clear hln c3
    cases r
    case false =>
      have hks : a.ks ≠ [] := fun e => by rw [hNN, e] at hr; simp at hr
      have HZ : Hid (∃ k out a', k.n = n ∧ k.l = l ∧ (∀ q, k.v.ownBlock = some q → w.heap.size ≤ q) ∧ TkO w W2 g b (.slice none 0 0) out a' ∧ TkR a k out a') := ⟨k, [], _, HK.out.1, HK.out.2.1, HK.out.2.2.2, TkO.nil HF.out.1 HF.out.2, HGV.out, by rw [if_neg (fun e => e.elim (fun e => HN.out (HK.out.1.symm.trans e)) hks)]⟩
      clear hr hNN hks HF HGV
      go_wp2
      go_ret
      exact ⟨_, rfl, HZ.out⟩
    case true =>
      have hks : a.ks = [] := by
        have : NN = 1 := by simpa using hr
        exact List.eq_nil_of_length_eq_zero (by omega)
      have HKS : Hid (a.ks = []) := hks
      clear hr hNN hks
      have c5 : W2.cell? ⟨g, 5, none⟩ = some (.int .i64 a.la) := HF.out.1.blk.cell 5
      have c4 : W2.cell? ⟨g, 4, none⟩ = some (.int .i64 a.si) := HF.out.1.blk.cell 4
      have f4 : W2.frozen? ⟨g, 4, none⟩ = false := HF.out.1.blk.frozen 4
      have HZ : Hid (∃ k out a', k.n = n ∧ k.l = l ∧ (∀ q, k.v.ownBlock = some q → w.heap.size ≤ q) ∧ TkO w (W2.setCell ⟨g, 4, none⟩ (.int .i64 a.la)) g b (.slice none 0 0) out a' ∧ TkR a k out a') := by
        have hbd := HF.out.1.bd
        refine ⟨k, [], { a with ks := k :: a.ks, si := a.la }, HK.out.1, HK.out.2.1, HK.out.2.2.2, TkO.nil (HF.out.1.put _ 4 _ rfl rfl ⟨hbd.w1, hbd.w2, hbd.p0, hbd.p1, hbd.nx, hbd.l0, hbd.l1, hbd.l0, hbd.l1, hbd.kn, hbd.cn, hbd.len⟩) (HF.out.2.trans (Fr.setCell W2 ⟨g, 4, none⟩ _ (fun x => x = g) rfl) fun x _ q => q.elim id .inl), HGV.out, ?_⟩
        rw [if_pos (Or.inr HKS.out)]
      clear HF HGV HKS
      go_upto_region 5 with fail
      rename_i K hK
      refine wp_region_lit ?_
      refine wpList_runTo rfl (some 28) rfl (.pointer (some ⟨g, 0, none⟩)) W2 (by kernel_rfl) ?_
      simp only [Act.put, List.setIfInBounds_toArray, List.set_cons_zero, List.set_cons_succ]
      refine wpList_runTo rfl (some 29) rfl (.pointer (some ⟨g, 0, none⟩)) W2 (by kernel_rfl) ?_
      simp only [Act.put, List.setIfInBounds_toArray, List.set_cons_zero, List.set_cons_succ]
      refine wpList_runTo rfl (some 30) rfl (.pointer (some ⟨g, 0, none⟩)) W2 (by kernel_rfl) ?_
      simp only [Act.put, List.setIfInBounds_toArray, List.set_cons_zero, List.set_cons_succ]
      refine wpList_runTo rfl (some 31) rfl (.pointer (some ⟨g, 5, none⟩)) W2 (by kernel_rfl) ?_
      simp only [Act.put, List.setIfInBounds_toArray, List.set_cons_zero, List.set_cons_succ]
      refine wpList_runTo rfl (some 32) rfl (.int .i64 a.la) W2 (by exact ldN_run (.inl rfl) (.tmp 31) rfl (by kernel_rfl) (c5)) ?_
      simp only [Act.put, List.setIfInBounds_toArray, List.set_cons_zero, List.set_cons_succ]
      refine wpList_runTo rfl (some 33) rfl (.pointer (some ⟨g, 0, none⟩)) W2 (by kernel_rfl) ?_
      simp only [Act.put, List.setIfInBounds_toArray, List.set_cons_zero, List.set_cons_succ]
      refine wpList_runTo rfl (some 34) rfl (.pointer (some ⟨g, 4, none⟩)) W2 (by kernel_rfl) ?_
      simp only [Act.put, List.setIfInBounds_toArray, List.set_cons_zero, List.set_cons_succ]
      refine wpList_skipW rfl none rfl (w' := W2.setCell ⟨g, 4, none⟩ (.int .i64 a.la)) (stN_run (.inl rfl) (.tmp 34) (.tmp 32) rfl (by kernel_rfl) (by kernel_rfl) c4 f4) ?_
      simp only [Act.put, List.setIfInBounds_toArray, List.set_cons_zero, List.set_cons_succ]
      refine wpList_nil ?_
      refine hK _ _ ?_
      clear hK
      generalize W2.setCell ⟨g, 4, none⟩ (.int .i64 a.la) = W5 at *
      clear c4 c5 f4
      go_wp2
      go_ret
      exact ⟨_, rfl, HZ.out⟩
end Go.Proofs.Ytdncemecnbglaaa
