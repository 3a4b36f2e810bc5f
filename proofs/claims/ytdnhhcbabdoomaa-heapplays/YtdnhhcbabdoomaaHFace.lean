/-
  heap: has, cutLast, New, Len, Peek, Value.
-/
import Derived.Test.YtdnhhcbabdoomaaHSetl
import Derived.Test.YtdnhhcbabdoomaaHCount
import Derived.Laws.ResultCell
import Derived.LaidEqlPtr
namespace Go.Proofs.Ytdnhhcbabdoomaa
set_option linter.unusedVariables false
set_option linter.unusedSimpArgs false
open Go.RowKit Go.Great

theorem results_cr2 {P : Program} {fn : Func} {p u : Tmp} {ty : TypeId} (h : fn.results = #[.cell p ty, .tmp u]) (tmps : Array Value) (w : World) (g : Nat) (t : TypeId) (cs : Array Value) (fr : Nat × Nat) (d : TypeDesc)
    (hp : tmps.getD p undef = .pointer (some ⟨g, 0, none⟩)) (hg : w.heap[g]? = some (.cells cs t fr))
    (hu : P.underlying ty = some d) (hd : (match d with | .struct _ | .array _ _ => true | _ => false) = true) (hi : (P.info? ty).map (·.size) = some cs.size) :
    (results fn tmps).run P w = .ok (.tuple #[.agg cs, tmps.getD u undef]) w := by
  rw [results_cell_tmp h, hp]
  simp [asAddr, run_loadVar_row w g t ty cs fr d hg hu hd hi, Result.andThen]
theorem infoI : ∃ i, Try.prog.info? 100 = some i ∧ i.size ≠ 0 := by
  have h : (Try.prog.info? 100).map (fun i => i.size) = some 4 := by kernel_rfl
  obtain ⟨i, hi, he⟩ := Option.map_eq_some_iff.1 h
  exact ⟨i, hi, by rw [he]; decide⟩
theorem ptr_same (p : Nat) (w : World) : (binOp .eql 27 (ptr p) (ptr p)).run Try.prog w = .ok (.bool true) w := by
  obtain ⟨i, hi, _⟩ := infoI
  exact run_eql_ptr_same w _ Try.underlying27 hi
theorem ptr_other {p q : Nat} {w : World} {c d : Array Value} (hp : Blk w p 100 c) (hq : Blk w q 100 d) (hne : p ≠ q) : (binOp .eql 27 (ptr p) (ptr q)).run Try.prog w = .ok (.bool false) w := by
  obtain ⟨i, hi, hz⟩ := infoI
  exact run_eql_ptr_other w Try.underlying27 hi hz (fun e => hne (by injection e)) hp hq
theorem ptr_same' (p : Nat) (w : World) : (binOp .neq 27 (ptr p) (ptr p)).run Try.prog w = .ok (.bool false) w := by
  have h := ptr_same p w
  simp only [binOp] at h ⊢
  generalize Op.equal 27 (ptr p) (ptr p) = E at *
  simp only [Sem.run_bind] at h ⊢
  cases hr : Sem.run Try.prog E w <;> simp_all
theorem ptr_other' {p q : Nat} {w : World} {c d : Array Value} (hp : Blk w p 100 c) (hq : Blk w q 100 d) (hne : p ≠ q) : (binOp .neq 27 (ptr p) (ptr q)).run Try.prog w = .ok (.bool true) w := by
  have h := ptr_other hp hq hne
  simp only [binOp] at h ⊢
  generalize Op.equal 27 (ptr p) (ptr q) = E at *
  simp only [Sem.run_bind] at h ⊢
  cases hr : Sem.run Try.prog E w <;> simp_all
section
variable {A : Ask} {w w' : World} {h : Nat} {v : Value} {t : List (It Th)} {N c : Nat}
set_option maxRecDepth 100000 in
set_option maxHeartbeats 2000000 in
theorem has_yes (H : HpM A w h v t N c) (hA : A.Ok) {k : Nat} {it : It Th} (hk : t[k]? = some it) :
    Calls Try.prog 50 #[ptr h, ptr it.p] w fun e w' => e = .returned (.bool true) ∧ HpM A w' h v t N c ∧ Fr w w' (fun _ => False) := by
  obtain ⟨a0, a1, a2, a3⟩ := H.at hk
  obtain ⟨d0, d1, d2⟩ := H.hd
  have HS : Hid (HpM A w h v t N c ∧ A.Ok) := ⟨H, hA⟩
  have hkl := get_lt hk
  obtain ⟨g, off, cap, hv, h1, h2, h3, h4, h5⟩ := H.slice (by omega)
  subst hv
  have hc := h4 _ it hk
  have hlt : (k : Int) < (t.length : Int) := by omega
  have hd1 : decide ((k : Int) < (t.length : Int)) = true := by simpa using hkl
  have hpq := ptr_same it.p
  clear a0 a1 a2 d0 d2 H hA hk h1 h2 h3 h4 h5 hkl
  go_enter Try.func50, Try.ntmps50
  go_upto_region 1 with fail
  go_quiet (fail)
  go_wp2
  go_ret
  exact ⟨rfl, HS.out.1.drewN HS.out.2 _, (Fr.refl _ _).drewN _⟩
set_option maxRecDepth 100000 in
set_option maxHeartbeats 2000000 in
theorem has_nil (H : HpM A w h v t N c) (hA : A.Ok) :
    Calls Try.prog 50 #[ptr h, .pointer none] w fun e w' => e = .returned (.bool false) ∧ HpM A w' h v t N c ∧ Fr w w' (fun _ => False) := by
  have HS : Hid (HpM A w h v t N c ∧ A.Ok) := ⟨H, hA⟩
  clear H hA
  go_enter Try.func50, Try.ntmps50
  go_upto_region 1 with fail
  go_quiet (fail)
  go_wp2
  go_ret
  exact ⟨rfl, HS.out.1.drewN HS.out.2 _, (Fr.refl _ _).drewN _⟩
set_option maxRecDepth 100000 in
set_option maxHeartbeats 2000000 in
theorem has_no (H : HpM A w h v t N c) (hA : A.Ok) {k : Nat} {it : It Th} (hb : Blk w it.p 100 (icl it k)) (hn : ∀ a, a ∈ t → a.p ≠ it.p) :
    Calls Try.prog 50 #[ptr h, ptr it.p] w fun e w' => e = .returned (.bool false) ∧ HpM A w' h v t N c ∧ Fr w w' (fun _ => False) := by
  have a3 : w.cell? ⟨it.p, 3, none⟩ = some (.int .i64 (k : Int)) := hb.cell 3
  obtain ⟨d0, d1, d2⟩ := H.hd
  have HS : Hid (HpM A w h v t N c ∧ A.Ok) := ⟨H, hA⟩
  by_cases hkl : k < t.length
  · obtain ⟨g, off, cap, hv, h1, h2, h3, h4, h5⟩ := H.slice (by omega)
    subst hv
    obtain ⟨b, hbk⟩ := get_some t hkl
    have hc := h4 _ b hbk
    have hne := hn b (List.mem_of_getElem? hbk)
    have hlt : (k : Int) < (t.length : Int) := by omega
    have hd1 : decide ((k : Int) < (t.length : Int)) = true := by simpa using hkl
    have hpq : ∀ n, (binOp .eql 27 (ptr b.p) (ptr it.p)).run Try.prog (w.drewN n) = .ok (.bool false) (w.drewN n) := fun n => ptr_other (w := w.drewN n) (H.its k b hbk) hb hne
    clear d0 d2 H hA h1 h2 h3 h4 h5 hkl hb hn hbk
    go_enter Try.func50, Try.ntmps50
    go_upto_region 1 with fail
    go_quiet (fail)
    go_wp2
    go_ret
    exact ⟨rfl, HS.out.1.drewN HS.out.2 _, (Fr.refl _ _).drewN _⟩
  · obtain ⟨ao, cap, hvf, hcap⟩ := H.form
    subst hvf
    have hlt : ¬ (k : Int) < (t.length : Int) := by omega
    have hd1 : decide ((k : Int) < (t.length : Int)) = false := by simpa using hkl
    clear d0 d2 H hA hkl hb hn hcap
    go_enter Try.func50, Try.ntmps50
    go_upto_region 1 with fail
    go_quiet (fail)
    go_wp2
    go_ret
    exact ⟨rfl, HS.out.1.drewN HS.out.2 _, (Fr.refl _ _).drewN _⟩
/-- The last one is cut off. -/
theorem HpM.cut (H : HpM A w h v t N c) (hA : A.Ok) {n : Nat} (hn : t.length = n + 1) {g off cap : Nat} (hv : v = .slice (some ⟨g, off, none⟩) t.length cap) :
    HpM A ((w.setCell ⟨g, off + n, none⟩ (.pointer none)).setCell ⟨h, 1, none⟩ (.slice (some ⟨g, off, none⟩) n cap)) h (.slice (some ⟨g, off, none⟩) n cap) t.dropLast N c ∧
    Fr w ((w.setCell ⟨g, off + n, none⟩ (.pointer none)).setCell ⟨h, 1, none⟩ (.slice (some ⟨g, off, none⟩) n cap)) (fun b => b = h ∨ b = g) := by
  obtain ⟨g', off', cap', hv', h1, h2, h3, h4, h5⟩ := H.slice (by omega)
  rw [hv] at hv'
  injection hv' with e1 _ e2
  injection e1 with e1
  injection e1 with e1 e3 _
  subst e1 e2 e3
  have f1 : Fr w (w.setCell ⟨g, off + n, none⟩ (.pointer none)) (fun q => q = g) := Fr.setCell _ _ _ _ rfl
  have f2 : Fr (w.setCell ⟨g, off + n, none⟩ (.pointer none)) ((w.setCell ⟨g, off + n, none⟩ (.pointer none)).setCell ⟨h, 1, none⟩ (.slice (some ⟨g, off, none⟩) n cap)) (fun q => q = h) := Fr.setCell _ _ _ _ rfl
  have F : Fr w ((w.setCell ⟨g, off + n, none⟩ (.pointer none)).setCell ⟨h, 1, none⟩ (.slice (some ⟨g, off, none⟩) n cap)) (fun b => b = h ∨ b = g) := f1.trans f2 fun _ _ q => by rcases q with q | q; exact .inr q; exact .inl q
  have hrow : RowAt w 27 1 (.slice (some ⟨g, off, none⟩) t.length cap) t.length (t.map fun it => ptr it.p) := hv ▸ H.row
  have r1 := hrow.set (j := n) (by rw [List.length_map]; omega) (.pointer none)
  have r2 := r1.fr f2 (fun q hq e => h2 (e ▸ (own_slice rfl hq)))
  have hmem : ∀ it, it ∈ t.dropLast → it ∈ t := fun it hq => List.dropLast_subset _ hq
  have own : ∀ b, ownH h (.slice (some ⟨g, off, none⟩) n cap) t.dropLast b → ownH h v t b := fun b hb => by
    rcases hb with q | q | ⟨it, q1, q2⟩
    · exact .inl q
    · rw [hv]; exact .inr (.inl q)
    · exact .inr (.inr ⟨it, hmem it q1, q2⟩)
  refine ⟨⟨(H.blk.fr f1 (fun e => h2 e.symm)).set 1 _, ?_, fun k it hk => ?_, H.ne.sublist (List.dropLast_sublist _), hA.keep H.st F fun b q => ?_, fun b hb => H.ap b (own b hb), by rw [List.length_dropLast]; have := H.le; omega⟩, F⟩
  · have hl : t.dropLast.length = n := by rw [List.length_dropLast]; omega
    rw [hl]
    obtain ⟨g2, off2, cap2, cur, hv2, hg, hcap, hmax, hcs, htake⟩ := r2.more (by omega)
    injection hv2 with e1 _ e2
    injection e1 with e1
    injection e1 with e1 e3 _
    subst e1 e2 e3
    refine ⟨by rw [List.length_map, hl]; omega, .inr ⟨g, off, cap, cur, rfl, hg, by omega, hmax, hcs, ?_⟩⟩
    have : (cur.toList.drop off).take (n * 1) = ((cur.toList.drop off).take (t.length * 1)).take n := by rw [List.take_take, Nat.mul_one, Nat.mul_one, Nat.min_eq_left (by omega)]
    rw [this, htake, List.take_set_of_le (by omega), List.dropLast_eq_take, hn, Nat.add_sub_cancel, List.map_take]
  · rw [List.getElem?_dropLast] at hk
    split at hk
    · have hm := h3 it (List.mem_of_getElem? hk)
      exact (H.its k it hk).fr F (fun q => by rcases q with q | q; exact hm.2 q; exact hm.1 q)
    · cases hk
  · rcases q with q | q
    · exact H.ap b (.inl q)
    · exact H.ap b (.inr (.inl (by rw [hv, q]; rfl)))
set_option maxRecDepth 100000 in
set_option maxHeartbeats 2000000 in
theorem cutLast_any (H : HpM A w h v t N c) (hA : A.Ok) {n : Nat} (hn : t.length = n + 1) {last : It Th} (hl : t[n]? = some last) {g off cap : Nat} (hv : v = .slice (some ⟨g, off, none⟩) t.length cap) :
    Calls Try.prog 51 #[ptr h] w fun e w' => e = .returned (ptr last.p) ∧ HpM A w' h (.slice (some ⟨g, off, none⟩) n cap) t.dropLast N c ∧ Fr w w' (fun b => b = h ∨ b = g) := by
  have HC : Hid _ := H.cut hA hn hv
  obtain ⟨g', off', cap', hv', h1, h2, h3, h4, h5⟩ := H.slice (by omega)
  obtain ⟨d0, d1, d2⟩ := H.hd
  have hlen := H.le
  have fh := H.blk.frozen 1
  subst hv
  injection hv' with e1 _ e2
  injection e1 with e1
  injection e1 with e1 e3 _
  subst e1 e2 e3
  have hc := h4 _ last hl
  have fg := h5 (off + n)
  rw [hn] at d1
  have hw : IntKind.i64.wrap (((n + 1 : Nat) : Int) - 1) = (n : Int) := by rw [IntKind.wrap_i64]; omega
  have hlt : (n : Int) < ((n + 1 : Nat) : Int) := by omega
  have hcap : n ≤ cap := by omega
  have hnb : (n : Int) < 9223372036854775808 := by omega
  have hwn : wrap64 (n : Int) = (n : Int) := by unfold wrap64; omega
  have hci : (n : Int) ≤ (cap : Int) := by omega
  clear H hA hl h1 h3 h4 h5 d0 d2 hlen hn
  go_enter Try.func51, Try.ntmps51
  go_wp2
  go_ret
  exact ⟨rfl, HC.out⟩
end
end Go.Proofs.Ytdnhhcbabdoomaa
