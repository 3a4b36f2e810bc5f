/-
  ledger: a trade is kept; a new ledger.
-/
import Derived.Test.YtidhahooebepfaaJLate
namespace Go.Proofs.Ytidhahooebepfaa
set_option linter.unusedVariables false
set_option linter.unusedSimpArgs false
open Go.RowKit Go.Great Go.Maps

theorem exec_append {op : Oper} {a : Act} {w w' : World} {v v1 v2 : Value} {t : TypeId} (x y : Operand) (ho : op.op = .call { callee := .builtin .append, args := #[x, y], argTypes := #[t, t] }) (hx : a.eval x = v1) (hy : a.eval y = v2) (hr : (Builtin.append_ #[t, t] op.type #[v1, v2]).run Try.prog w = .ok v w') : (execOp a.eval op).run Try.prog w = .ok (.value v) w' := by
  unfold execOp
  simp only [ho, resolve, invoke, builtin, Sem.run_bind, Sem.run_pure, Result.andThen_ok, List.map_toArray, List.map_cons, List.map_nil, hx, hy, hr]
theorem infoR : (Try.prog.info? 69).map (fun i => (i.zero, i.size, i.bytes)) = some (some (.agg #[.string ⟨#[]⟩, .string ⟨#[]⟩, .string ⟨#[]⟩, .int .i64 0, .int .i64 0, .int .i64 0, .int .i64 0]), 7, 80) := by kernel_rfl
theorem info4 : (Try.prog.info? 4).map (fun i => (i.zero, i.size, i.bytes)) = some (some (.bool false), 1, 1) := by kernel_rfl
/-- A block that is newer than all of its own is none of them. -/
theorem LgAt.ne_blk2 {w : World} {G : Lg} (h : LgAt w G) {b n : Nat} {T : TypeId} {cs : Array Value} (hb : Blk w b T cs) (hn : ∀ x, G.own x → x < n) (hbn : n ≤ b := by omega) : ¬ G.own b := fun ho => by
  have := hn b ho; omega
def Lg.keptT (G : Lg) (t : Tr) (tv : Value) : Lg := { G with tv := tv, ts := G.ts ++ [t] }
def Lg.keptB (G : Lg) (b : Bool) (bv : Value) : Lg := { G with bv := bv, bs := G.bs ++ [b] }
section
variable {w w1 : World} {G : Lg}
theorem LgAt.keptT (h : LgAt w G) {t : Tr} {tv : Value} (hf : Fr w w1 (fun b => G.tv.ownBlock = some b)) (hr : RowAt w1 69 7 tv (G.ts.length + 1) (flatL Tr.cl G.ts ++ t.cl)) (hz : t.sz) (hnew : tv.ownBlock = G.tv.ownBlock ∨ ∃ n, tv.ownBlock = some n ∧ w.heap.size ≤ n) :
    LgAt (w1.setCell ⟨G.g, 3, none⟩ tv) (G.keptT t tv) ∧ Fr w (w1.setCell ⟨G.g, 3, none⟩ tv) G.own ∧ ∀ b, (G.keptT t tv).own b → G.own b ∨ w.heap.size ≤ b := by
  have hg : Blk w1 G.g 67 G.cs := h.blk.fr hf fun e => h.trs.ne_type h.blk (by decide) e
  have ha : MapL Try.prog w1 75 G.ma (G.A.map Bk.ent) := h.all.fr hf fun e => (h.ne_tv e).2.1 rfl
  have ht : MapL Try.prog w1 75 G.mt (G.T.map Bk.ent) := h.tod.fr hf fun e => (h.ne_tv e).2.2.1 rfl
  have ho : MapL Try.prog w1 9 G.mo (G.O.map To.ent) := h.tot.fr hf fun e => (h.ne_tv e).2.2.2.1 rfl
  have hb : RowAt w1 4 1 G.bv G.bs.length (flatL booC G.bs) := h.brs.fr hf fun b hb e => (h.ne_bv hb).2.2.2.2 e
  have hs := Fr.setCell w1 ⟨G.g, 3, none⟩ tv (fun b => b = G.g) rfl
  refine ⟨⟨hg.set 3 tv, ha.other (ha.ne_blk hg) 3 tv, ht.other (ht.ne_blk hg) 3 tv, ho.other (ho.ne_blk hg) 3 tv, h.ne1, h.ne2, h.ne3, ?_, hb.fr hs fun b hb' e => ?_, h.szA, h.szT, h.szO, fun x hx => ?_⟩, ?_, fun b hb => ?_⟩
  · have h1 := hr.fr hs fun b hb' e => by subst e; exact hr.ne_type hg (by decide) hb'
    have e1 : (G.ts ++ [t]).length = G.ts.length + 1 := by simp
    show RowAt _ _ 7 tv (G.ts ++ [t]).length (flatL Tr.cl (G.ts ++ [t]))
    rw [e1, flatL_app, flatL_one]
    exact h1
  · subst e; exact hb.ne_type hg (by decide) hb'
  · rcases List.mem_append.1 hx with hx | hx
    · exact h.szR x hx
    · rw [List.mem_singleton.1 hx]; exact hz
  · exact hf.trans hs fun i _ q => by
      rcases q with q | q
      · exact .inr (.inr (.inr (.inr (.inl q))))
      · exact .inl q
  · rcases hb with e | e | e | e | e | e
    · exact .inl (.inl e)
    · exact .inl (.inr (.inl e))
    · exact .inl (.inr (.inr (.inl e)))
    · exact .inl (.inr (.inr (.inr (.inl e))))
    · rcases hnew with h1 | ⟨n, h1, h2⟩
      · exact .inl (.inr (.inr (.inr (.inr (.inl (h1 ▸ e))))))
      · have e' : tv.ownBlock = some b := e
        rw [h1] at e'
        injection e' with e'
        exact .inr (e' ▸ h2)
    · exact .inl (.inr (.inr (.inr (.inr (.inr e)))))
theorem LgAt.keptB (h : LgAt w G) {x : Bool} {bv : Value} (hf : Fr w w1 (fun b => G.bv.ownBlock = some b)) (hr : RowAt w1 4 1 bv (G.bs.length + 1) (flatL booC G.bs ++ booC x)) (hnew : bv.ownBlock = G.bv.ownBlock ∨ ∃ n, bv.ownBlock = some n ∧ w.heap.size ≤ n) :
    LgAt (w1.setCell ⟨G.g, 4, none⟩ bv) (G.keptB x bv) ∧ Fr w (w1.setCell ⟨G.g, 4, none⟩ bv) G.own ∧ ∀ b, (G.keptB x bv).own b → G.own b ∨ w.heap.size ≤ b := by
  have hg : Blk w1 G.g 67 G.cs := h.blk.fr hf fun e => h.brs.ne_type h.blk (by decide) e
  have ha : MapL Try.prog w1 75 G.ma (G.A.map Bk.ent) := h.all.fr hf fun e => (h.ne_bv e).2.1 rfl
  have ht : MapL Try.prog w1 75 G.mt (G.T.map Bk.ent) := h.tod.fr hf fun e => (h.ne_bv e).2.2.1 rfl
  have ho : MapL Try.prog w1 9 G.mo (G.O.map To.ent) := h.tot.fr hf fun e => (h.ne_bv e).2.2.2.1 rfl
  have hb : RowAt w1 69 7 G.tv G.ts.length (flatL Tr.cl G.ts) := h.trs.fr hf fun b hb e => (h.ne_tv hb).2.2.2.2 e
  have hs := Fr.setCell w1 ⟨G.g, 4, none⟩ bv (fun b => b = G.g) rfl
  refine ⟨⟨hg.set 4 bv, ha.other (ha.ne_blk hg) 4 bv, ht.other (ht.ne_blk hg) 4 bv, ho.other (ho.ne_blk hg) 4 bv, h.ne1, h.ne2, h.ne3, hb.fr hs fun b hb' e => ?_, ?_, h.szA, h.szT, h.szO, h.szR⟩, ?_, fun b hb => ?_⟩
  · subst e; exact hb.ne_type hg (by decide) hb'
  · have h1 := hr.fr hs fun b hb' e => by subst e; exact hr.ne_type hg (by decide) hb'
    have e1 : (G.bs ++ [x]).length = G.bs.length + 1 := by simp
    show RowAt _ _ 1 bv (G.bs ++ [x]).length (flatL booC (G.bs ++ [x]))
    rw [e1, flatL_app, flatL_one]
    exact h1
  · exact hf.trans hs fun i _ q => by
      rcases q with q | q
      · exact .inr (.inr (.inr (.inr (.inr q))))
      · exact .inl q
  · rcases hb with e | e | e | e | e | e
    · exact .inl (.inl e)
    · exact .inl (.inr (.inl e))
    · exact .inl (.inr (.inr (.inl e)))
    · exact .inl (.inr (.inr (.inr (.inl e))))
    · exact .inl (.inr (.inr (.inr (.inr (.inl e)))))
    · rcases hnew with h1 | ⟨n, h1, h2⟩
      · exact .inl (.inr (.inr (.inr (.inr (.inr (h1 ▸ e))))))
      · have e' : bv.ownBlock = some b := e
        rw [h1] at e'
        injection e' with e'
        exact .inr (e' ▸ h2)
end
/-- An empty one. -/
structure Nw (w w' : World) (G : Lg) : Prop where
  at' : LgAt w' G
  A : G.A = []
  T : G.T = []
  O : G.O = []
  ts : G.ts = []
  bs : G.bs = []
  bel : Below w.heap.size w w'
  low : ∀ b, G.own b → w.heap.size ≤ b
set_option maxRecDepth 100000 in
set_option maxHeartbeats 1000000 in
theorem New_any (w : World) : Calls Try.prog 9 #[] w fun e w' => ∃ G : Lg, e = .returned (.pointer (some ⟨G.g, 0, none⟩)) ∧ Hid (Nw w w' G) := by
  have hm1 : ∀ W : World, (Instr.makeMap 63 none).run Try.prog W = .ok (.map (some W.heap.size)) (W.alloc (.map #[] 0)) := fun W => by kernel_rfl
  have hm2 : ∀ W : World, (Instr.makeMap 64 none).run Try.prog W = .ok (.map (some W.heap.size)) (W.alloc (.map #[] 0)) := fun W => by kernel_rfl
  have HF : Hid (Nw w ((((w.alloc (.map #[] 0)).alloc (.map #[] 0)).alloc (.map #[] 0)).alloc (.cells #[.map (some w.heap.size), .map (some (w.heap.size + 1)), .map (some (w.heap.size + 1 + 1)), .slice none 0 0, .slice none 0 0] 67)) ⟨w.heap.size + 1 + 1 + 1, w.heap.size, w.heap.size + 1, w.heap.size + 1 + 1, [], [], [], .slice none 0 0, [], .slice none 0 0, []⟩) := by
    have b1 : Below w.heap.size w (w.alloc (.map #[] 0)) := (Below.refl _ w).alloc (Nat.le_refl _) _
    have b2 := b1.alloc b1.size (.map #[] 0)
    have b3 := b2.alloc b2.size (.map #[] 0)
    have b4 := b3.alloc b3.size (.cells #[.map (some w.heap.size), .map (some (w.heap.size + 1)), .map (some (w.heap.size + 1 + 1)), .slice none 0 0, .slice none 0 0] 67)
    refine ⟨⟨Blk.new' _ _ _ (by simp), (((MapL.made _ w _).alloc _).alloc _).alloc _, ?_, ?_, by show w.heap.size ≠ w.heap.size + 1; omega, by show w.heap.size ≠ w.heap.size + 1 + 1; omega, by show w.heap.size + 1 ≠ w.heap.size + 1 + 1; omega, RowAt.none0 _ _ _, RowAt.none0 _ _ _, fun b hb => (List.not_mem_nil hb).elim, fun b hb => (List.not_mem_nil hb).elim, fun b hb => (List.not_mem_nil hb).elim, fun b hb => (List.not_mem_nil hb).elim⟩, rfl, rfl, rfl, rfl, rfl, b4, fun b hb => ?_⟩
    · have := ((MapL.made Try.prog (w.alloc (.map #[] 0)) 75).alloc (.map #[] 0)).alloc (.cells #[.map (some w.heap.size), .map (some (w.heap.size + 1)), .map (some (w.heap.size + 1 + 1)), .slice none 0 0, .slice none 0 0] 67)
      rw [show (w.alloc (.map #[] 0)).heap.size = w.heap.size + 1 by simp] at this
      exact this
    · have := (MapL.made Try.prog ((w.alloc (.map #[] 0)).alloc (.map #[] 0)) 9).alloc (.cells #[.map (some w.heap.size), .map (some (w.heap.size + 1)), .map (some (w.heap.size + 1 + 1)), .slice none 0 0, .slice none 0 0] 67)
      rw [show ((w.alloc (.map #[] 0)).alloc (.map #[] 0)).heap.size = w.heap.size + 1 + 1 by simp] at this
      exact this
    · rcases hb with e | e | e | e | e | e
      · simp only at e; omega
      · simp only at e; omega
      · simp only at e; omega
      · simp only at e; omega
      · cases e
      · cases e
  go_enter Try.func9, Try.ntmps9
  go_wp2
  go_ret
  exact ⟨_, rfl, HF⟩
end Go.Proofs.Ytidhahooebepfaa
