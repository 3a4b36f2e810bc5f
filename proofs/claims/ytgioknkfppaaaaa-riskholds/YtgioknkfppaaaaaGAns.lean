/-
  risk: the law's answer of a step.
-/
import Derived.Test.YtgioknkfppaaaaaGKill
import Derived.Test.YtgioknkfppaaaaaGOpenB
namespace Go.Proofs.Ytgioknkfppaaaaa
set_option linter.unusedVariables false
set_option linter.unusedSimpArgs false
open Go.RowKit Go.Great Go.Maps

/-- A step. -/
structure Opp where
  k : Int
  h : Int
  A : Lim
  o : Ord
  mrk : Int
  now : Int
  q : Int
  ac : ByteArray
  sy : ByteArray
  on : Bool
def Opp.cs (p : Opp) : Array Value := #[.int .i64 p.k, .int .i64 p.h, .string p.A.nm, .int .i64 p.A.od, .int .i64 p.A.op, .int .i64 p.A.po, .int .i64 p.A.bu, .int .i64 p.A.pe, .int .i64 p.o.id, .string p.o.nm, .string p.o.ac, .string p.o.sy, .int .i64 p.o.sd, .int .i64 p.o.ty, .int .i64 p.o.lf, .int .i64 p.o.pr, .int .i64 p.o.sp, .int .i64 p.o.q, .int .i64 p.o.sh, .int .i64 p.o.dn, .int .i64 p.o.le, .int .i64 p.o.un, .int .i64 p.o.ow, .int .i64 p.mrk, .int .i64 p.now, .int .i64 p.q, .string p.ac, .string p.sy, .bool p.on]
structure Opp.ok (p : Opp) : Prop where
  oac : p.o.ac.size ≤ maxLen
  osy : p.o.sy.size ≤ maxLen
  ac : p.ac.size ≤ maxLen
  sy : p.sy.size ≤ maxLen
  id : -9223372036854775808 ≤ p.o.id ∧ p.o.id ≤ 9223372036854775807
def anT (G : Gd) (p : Opp) : Int × Int × Int :=
  if p.k = 2 then (ckE G p.o p.mrk p.now, 0, 0) else if p.k = 3 then (opE G p.o p.mrk, 0, 0) else if p.k = 4 then (if (G.at p.o.id).isSome then 0 else 121, 0, 0)
  else if p.k = 5 then (trE G p.ac p.q, 0, 0) else if p.k = 6 then (klE G p.ac, 0, 0) else if p.k = 7 then ((lkT G p.ac p.sy).2.2, (lkT G p.ac p.sy).1, (lkT G p.ac p.sy).2.1) else (0, 0, 0)
def anG (G : Gd) (p : Opp) : Gd :=
  if p.k = 2 then ckG G p.o p.mrk p.now else if p.k = 3 then { G with O := opO G p.o p.mrk } else if p.k = 4 then { G with O := if (G.at p.o.id).isSome then doO G.O p.o.id else G.O }
  else if p.k = 5 then trG G p.ac p.sy p.q else if p.k = 6 then klG G p.ac p.on else G
theorem own_O (G : Gd) (O' : List Oo) (b : Nat) : Gd.own { G with O := O' } b ↔ G.own b := Iff.rfl
/-- Blocks of the law's own: none of the guard's. -/
theorem GdAt.ne_blk {w : World} {G : Gd} (h : GdAt w G) {g : Nat} {T : TypeId} {cs : Array Value} (hb : Blk w g T cs) (h1 : T ≠ 63) (h2 : T ≠ 72) : ¬ G.own g := fun ho => by
  rcases ho with rfl | rfl | rfl | ⟨x, hx, rfl | rfl⟩
  · exact Blk.ne_type hb h.blk h1 rfl
  · exact h.accs.ne_blk hb rfl
  · exact h.opens.ne_blk hb rfl
  · exact Blk.ne_type hb (h.acc x hx).blk h2 rfl
  · exact (h.acc x hx).mp.ne_blk hb rfl
set_option maxRecDepth 100000 in
set_option maxHeartbeats 8000000 in
theorem answer_any (G : Gd) (p : Opp) (w : World) (h : GdAt w G) (hp : p.ok) (hl : G.O.length < maxLen) (hpos : ∀ a ∈ G.A, a.pos.length < maxLen) :
    Calls Try.prog 16 #[.pointer (some ⟨G.g, 0, none⟩), .agg p.cs] w fun e w' => e = .returned (.agg #[.int .i64 (anT G p).1, .int .i64 (anT G p).2.1, .int .i64 (anT G p).2.2]) ∧ GdAt w' (anG G p) ∧ Fr w w' G.own ∧ ∀ b, (anG G p).own b ↔ G.own b := by
  have HPC : Hid (p.cs = #[.int .i64 p.k, .int .i64 p.h, .string p.A.nm, .int .i64 p.A.od, .int .i64 p.A.op, .int .i64 p.A.po, .int .i64 p.A.bu, .int .i64 p.A.pe, .int .i64 p.o.id, .string p.o.nm, .string p.o.ac, .string p.o.sy, .int .i64 p.o.sd, .int .i64 p.o.ty, .int .i64 p.o.lf, .int .i64 p.o.pr, .int .i64 p.o.sp, .int .i64 p.o.q, .int .i64 p.o.sh, .int .i64 p.o.dn, .int .i64 p.o.le, .int .i64 p.o.un, .int .i64 p.o.ow, .int .i64 p.mrk, .int .i64 p.now, .int .i64 p.q, .string p.ac, .string p.sy, .bool p.on]) := rfl
  have HOC : Hid (p.o.cs = #[.int .i64 p.o.id, .string p.o.nm, .string p.o.ac, .string p.o.sy, .int .i64 p.o.sd, .int .i64 p.o.ty, .int .i64 p.o.lf, .int .i64 p.o.pr, .int .i64 p.o.sp, .int .i64 p.o.q, .int .i64 p.o.sh, .int .i64 p.o.dn, .int .i64 p.o.le, .int .i64 p.o.un, .int .i64 p.o.ow]) := rfl
  have HG : Hid (∀ c d e : Array Value, GdAt (((w.alloc (.cells c 50)).alloc (.cells d 52)).alloc (.cells e 52)) G ∧ Below w.heap.size w (((w.alloc (.cells c 50)).alloc (.cells d 52)).alloc (.cells e 52)) ∧ Blk (((w.alloc (.cells c 50)).alloc (.cells d 52)).alloc (.cells e 52)) w.heap.size 50 c ∧ Blk (((w.alloc (.cells c 50)).alloc (.cells d 52)).alloc (.cells e 52)) (w.heap.size + 1) 52 d ∧ Blk (((w.alloc (.cells c 50)).alloc (.cells d 52)).alloc (.cells e 52)) (w.heap.size + 2) 52 e) := fun c d e => by
    have hb : Below w.heap.size w (((w.alloc (.cells c 50)).alloc (.cells d 52)).alloc (.cells e 52)) := ((((Below.refl _ w).alloc (Nat.le_refl _) _).alloc (by simp) _).alloc (by simp; omega) _)
    exact ⟨h.below hb, hb, ((Blk.new w 50 c).alloc _).alloc _, (Blk.new' _ _ _ (by simp)).alloc _, Blk.new' _ _ _ (by simp)⟩
  have HT : Hid (anT G p = anT G p) := rfl
  have HPo : Hid (p.ok ∧ G.O.length < maxLen ∧ ∀ a ∈ G.A, a.pos.length < maxLen) := ⟨hp, hl, hpos⟩
  clear hp hl hpos h
  rw [HPC.out]
  have HAT : Hid (anT G p = if p.k = 2 then (ckE G p.o p.mrk p.now, 0, 0) else if p.k = 3 then (opE G p.o p.mrk, 0, 0) else if p.k = 4 then (if (G.at p.o.id).isSome then 0 else 121, 0, 0) else if p.k = 5 then (trE G p.ac p.q, 0, 0) else if p.k = 6 then (klE G p.ac, 0, 0) else if p.k = 7 then ((lkT G p.ac p.sy).2.2, (lkT G p.ac p.sy).1, (lkT G p.ac p.sy).2.1) else (0, 0, 0)) := rfl
  have HAG : Hid (anG G p = if p.k = 2 then ckG G p.o p.mrk p.now else if p.k = 3 then { G with O := opO G p.o p.mrk } else if p.k = 4 then { G with O := if (G.at p.o.id).isSome then doO G.O p.o.id else G.O } else if p.k = 5 then trG G p.ac p.sy p.q else if p.k = 6 then klG G p.ac p.on else G) := rfl
  generalize anT G p = AT at *
  generalize anG G p = AG at *
  go_enter Try.func16, Try.ntmps16
  go_upto_region 2 with fail
  have HG2 := HG.out #[.int .i64 p.k, .int .i64 p.h, .string p.A.nm, .int .i64 p.A.od, .int .i64 p.A.op, .int .i64 p.A.po, .int .i64 p.A.bu, .int .i64 p.A.pe, .int .i64 p.o.id, .string p.o.nm, .string p.o.ac, .string p.o.sy, .int .i64 p.o.sd, .int .i64 p.o.ty, .int .i64 p.o.lf, .int .i64 p.o.pr, .int .i64 p.o.sp, .int .i64 p.o.q, .int .i64 p.o.sh, .int .i64 p.o.dn, .int .i64 p.o.le, .int .i64 p.o.un, .int .i64 p.o.ow, .int .i64 p.mrk, .int .i64 p.now, .int .i64 p.q, .string p.ac, .string p.sy, .bool p.on] #[.int .i64 0, .int .i64 0, .int .i64 0] #[.int .i64 0, .int .i64 0, .int .i64 0]
  clear HG
  generalize (((w.alloc (.cells #[.int .i64 p.k, .int .i64 p.h, .string p.A.nm, .int .i64 p.A.od, .int .i64 p.A.op, .int .i64 p.A.po, .int .i64 p.A.bu, .int .i64 p.A.pe, .int .i64 p.o.id, .string p.o.nm, .string p.o.ac, .string p.o.sy, .int .i64 p.o.sd, .int .i64 p.o.ty, .int .i64 p.o.lf, .int .i64 p.o.pr, .int .i64 p.o.sp, .int .i64 p.o.q, .int .i64 p.o.sh, .int .i64 p.o.dn, .int .i64 p.o.le, .int .i64 p.o.un, .int .i64 p.o.ow, .int .i64 p.mrk, .int .i64 p.now, .int .i64 p.q, .string p.ac, .string p.sy, .bool p.on] 50)).alloc (.cells #[.int .i64 0, .int .i64 0, .int .i64 0] 52)).alloc (.cells #[.int .i64 0, .int .i64 0, .int .i64 0] 52)) = W at *
  have HGW : Hid (GdAt W G ∧ Below w.heap.size w W ∧ Blk W w.heap.size 50 #[.int .i64 p.k, .int .i64 p.h, .string p.A.nm, .int .i64 p.A.od, .int .i64 p.A.op, .int .i64 p.A.po, .int .i64 p.A.bu, .int .i64 p.A.pe, .int .i64 p.o.id, .string p.o.nm, .string p.o.ac, .string p.o.sy, .int .i64 p.o.sd, .int .i64 p.o.ty, .int .i64 p.o.lf, .int .i64 p.o.pr, .int .i64 p.o.sp, .int .i64 p.o.q, .int .i64 p.o.sh, .int .i64 p.o.dn, .int .i64 p.o.le, .int .i64 p.o.un, .int .i64 p.o.ow, .int .i64 p.mrk, .int .i64 p.now, .int .i64 p.q, .string p.ac, .string p.sy, .bool p.on] ∧ Blk W (w.heap.size + 1) 52 #[.int .i64 0, .int .i64 0, .int .i64 0] ∧ Blk W (w.heap.size + 2) 52 #[.int .i64 0, .int .i64 0, .int .i64 0]) := HG2
  clear HG2
  have HCE : Hid (∀ w' : World, Blk w' w.heap.size 50 #[.int .i64 p.k, .int .i64 p.h, .string p.A.nm, .int .i64 p.A.od, .int .i64 p.A.op, .int .i64 p.A.po, .int .i64 p.A.bu, .int .i64 p.A.pe, .int .i64 p.o.id, .string p.o.nm, .string p.o.ac, .string p.o.sy, .int .i64 p.o.sd, .int .i64 p.o.ty, .int .i64 p.o.lf, .int .i64 p.o.pr, .int .i64 p.o.sp, .int .i64 p.o.q, .int .i64 p.o.sh, .int .i64 p.o.dn, .int .i64 p.o.le, .int .i64 p.o.un, .int .i64 p.o.ow, .int .i64 p.mrk, .int .i64 p.now, .int .i64 p.q, .string p.ac, .string p.sy, .bool p.on] → w'.cell? ⟨w.heap.size, 0, none⟩ = some (.int .i64 p.k) ∧ w'.cell? ⟨w.heap.size, 1, none⟩ = some (.int .i64 p.h) ∧ w'.cell? ⟨w.heap.size, 2, none⟩ = some (.string p.A.nm) ∧ w'.cell? ⟨w.heap.size, 3, none⟩ = some (.int .i64 p.A.od) ∧ w'.cell? ⟨w.heap.size, 4, none⟩ = some (.int .i64 p.A.op) ∧ w'.cell? ⟨w.heap.size, 5, none⟩ = some (.int .i64 p.A.po) ∧ w'.cell? ⟨w.heap.size, 6, none⟩ = some (.int .i64 p.A.bu) ∧ w'.cell? ⟨w.heap.size, 7, none⟩ = some (.int .i64 p.A.pe) ∧ w'.cell? ⟨w.heap.size, 8, none⟩ = some (.int .i64 p.o.id) ∧ w'.cell? ⟨w.heap.size, 9, none⟩ = some (.string p.o.nm) ∧ w'.cell? ⟨w.heap.size, 10, none⟩ = some (.string p.o.ac) ∧ w'.cell? ⟨w.heap.size, 11, none⟩ = some (.string p.o.sy) ∧ w'.cell? ⟨w.heap.size, 12, none⟩ = some (.int .i64 p.o.sd) ∧ w'.cell? ⟨w.heap.size, 13, none⟩ = some (.int .i64 p.o.ty) ∧ w'.cell? ⟨w.heap.size, 14, none⟩ = some (.int .i64 p.o.lf) ∧ w'.cell? ⟨w.heap.size, 15, none⟩ = some (.int .i64 p.o.pr) ∧ w'.cell? ⟨w.heap.size, 16, none⟩ = some (.int .i64 p.o.sp) ∧ w'.cell? ⟨w.heap.size, 17, none⟩ = some (.int .i64 p.o.q) ∧ w'.cell? ⟨w.heap.size, 18, none⟩ = some (.int .i64 p.o.sh) ∧ w'.cell? ⟨w.heap.size, 19, none⟩ = some (.int .i64 p.o.dn) ∧ w'.cell? ⟨w.heap.size, 20, none⟩ = some (.int .i64 p.o.le) ∧ w'.cell? ⟨w.heap.size, 21, none⟩ = some (.int .i64 p.o.un) ∧ w'.cell? ⟨w.heap.size, 22, none⟩ = some (.int .i64 p.o.ow) ∧ w'.cell? ⟨w.heap.size, 23, none⟩ = some (.int .i64 p.mrk) ∧ w'.cell? ⟨w.heap.size, 24, none⟩ = some (.int .i64 p.now) ∧ w'.cell? ⟨w.heap.size, 25, none⟩ = some (.int .i64 p.q) ∧ w'.cell? ⟨w.heap.size, 26, none⟩ = some (.string p.ac) ∧ w'.cell? ⟨w.heap.size, 27, none⟩ = some (.string p.sy) ∧ w'.cell? ⟨w.heap.size, 28, none⟩ = some (.bool p.on)) := fun w' b => ⟨b.cell 0, b.cell 1, b.cell 2, b.cell 3, b.cell 4, b.cell 5, b.cell 6, b.cell 7, b.cell 8, b.cell 9, b.cell 10, b.cell 11, b.cell 12, b.cell 13, b.cell 14, b.cell 15, b.cell 16, b.cell 17, b.cell 18, b.cell 19, b.cell 20, b.cell 21, b.cell 22, b.cell 23, b.cell 24, b.cell 25, b.cell 26, b.cell 27, b.cell 28⟩
  obtain ⟨c0, c1, c2, c3, c4, c5, c6, c7, c8, c9, c10, c11, c12, c13, c14, c15, c16, c17, c18, c19, c20, c21, c22, c23, c24, c25, c26, c27, c28⟩ := HCE.out W HGW.out.2.2.1
  have HF : Hid (∀ W', Fr W W' G.own → Blk W' w.heap.size 50 #[.int .i64 p.k, .int .i64 p.h, .string p.A.nm, .int .i64 p.A.od, .int .i64 p.A.op, .int .i64 p.A.po, .int .i64 p.A.bu, .int .i64 p.A.pe, .int .i64 p.o.id, .string p.o.nm, .string p.o.ac, .string p.o.sy, .int .i64 p.o.sd, .int .i64 p.o.ty, .int .i64 p.o.lf, .int .i64 p.o.pr, .int .i64 p.o.sp, .int .i64 p.o.q, .int .i64 p.o.sh, .int .i64 p.o.dn, .int .i64 p.o.le, .int .i64 p.o.un, .int .i64 p.o.ow, .int .i64 p.mrk, .int .i64 p.now, .int .i64 p.q, .string p.ac, .string p.sy, .bool p.on] ∧ Blk W' (w.heap.size + 1) 52 #[.int .i64 0, .int .i64 0, .int .i64 0] ∧ Blk W' (w.heap.size + 2) 52 #[.int .i64 0, .int .i64 0, .int .i64 0]) := fun W' hf => ⟨HGW.out.2.2.1.fr hf (HGW.out.1.ne_blk HGW.out.2.2.1 (by decide) (by decide)), HGW.out.2.2.2.1.fr hf (HGW.out.1.ne_blk HGW.out.2.2.2.1 (by decide) (by decide)), HGW.out.2.2.2.2.fr hf (HGW.out.1.ne_blk HGW.out.2.2.2.2 (by decide) (by decide))⟩
  by_cases hk2 : p.k = 2
  · rw [if_pos hk2] at HAT HAG
    have hk' : (p.k == 2) = true := by rw [beq_iff_eq]; exact hk2
    have hc := Check_any G p.o p.mrk p.now W HGW.out.1 HPo.out.1.oac HPo.out.1.osy
    rw [HOC.out] at hc
    clear hk2
    generalize ckE G p.o p.mrk p.now = RE at *
    go_wp2_with (go_at_call 10; fail)
    refine hc.mono ?_
    rintro e W1 ⟨rfl, g1, f1, o1⟩
    rw [← HAG.out] at g1 o1
    have HB := HF.out W1 f1
    have HX : Hid (GdAt W1 AG ∧ Fr W W1 G.own ∧ ∀ b, AG.own b ↔ G.own b) := ⟨g1, f1, o1⟩
    clear g1 f1 o1 hc c0 c1 c2 c3 c4 c5 c6 c7 c8 c9 c10 c11 c12 c13 c14 c15 c16 c17 c18 c19 c20 c21 c22 c23 c24 c25 c26 c27 c28
    have HBk : Hid (Blk W1 (w.heap.size + 1) 52 #[.int .i64 0, .int .i64 0, .int .i64 0] ∧ Blk W1 (w.heap.size + 2) 52 #[.int .i64 0, .int .i64 0, .int .i64 0]) := HB.2
    have x0 := HB.2.2.cell 0
    have x1 := HB.2.2.cell 1
    have x2 := HB.2.2.cell 2
    have y0 := HB.2.2.frozen 0
    have y1 := HB.2.2.frozen 1
    have y2 := HB.2.2.frozen 2
    have z0 := HB.2.1.cell 0
    have z1 := HB.2.1.cell 1
    have z2 := HB.2.1.cell 2
    have v0 := HB.2.1.frozen 0
    have v1 := HB.2.1.frozen 1
    have v2 := HB.2.1.frozen 2
    simp only [List.getElem?_toArray, List.getElem?_cons_succ, List.getElem?_cons_zero] at x0 x1 x2 z0 z1 z2
    clear HB
    go_wp2
    have s0 := (Fr.setCell W1 ⟨w.heap.size + 1 + 1, 0, none⟩ (.int .i64 RE) (fun b => b = w.heap.size + 1 ∨ b = w.heap.size + 1 + 1) (.inr rfl))
    have s1 := s0.trans (Fr.setCell _ ⟨w.heap.size + 1, 0, none⟩ (.int .i64 RE) (fun b => b = w.heap.size + 1 ∨ b = w.heap.size + 1 + 1) (.inl rfl)) (e3 := (fun b => b = w.heap.size + 1 ∨ b = w.heap.size + 1 + 1)) (fun _ _ h => h.elim (fun z => z) (fun z => z))
    have s2 := s1.trans (Fr.setCell _ ⟨w.heap.size + 1, 1, none⟩ (.int .i64 0) (fun b => b = w.heap.size + 1 ∨ b = w.heap.size + 1 + 1) (.inl rfl)) (e3 := (fun b => b = w.heap.size + 1 ∨ b = w.heap.size + 1 + 1)) (fun _ _ h => h.elim (fun z => z) (fun z => z))
    have s3 := s2.trans (Fr.setCell _ ⟨w.heap.size + 1, 2, none⟩ (.int .i64 0) (fun b => b = w.heap.size + 1 ∨ b = w.heap.size + 1 + 1) (.inl rfl)) (e3 := (fun b => b = w.heap.size + 1 ∨ b = w.heap.size + 1 + 1)) (fun _ _ h => h.elim (fun z => z) (fun z => z))
    have hbk := ((((HBk.out.1.other (h := w.heap.size + 1 + 1) (by omega) 0 (.int .i64 RE)).set 0 (.int .i64 RE)).set 1 (.int .i64 0)).set 2 (.int .i64 0))
    refine bodyPost_ret (results_cell_row (fn := Try.f16) (p := 4) (ty := 52) rfl _ _ (w.heap.size + 1) 52 #[.int .i64 RE, .int .i64 0, .int .i64 0] (0, 0) _ (by rfl) hbk Try.underlying52 rfl (by kernel_rfl)) rfl ?_
    have nr := HX.out.1.ne_blk HBk.out.1 (by decide) (by decide)
    have nt := HX.out.1.ne_blk HBk.out.2 (by decide) (by decide)
    refine ⟨by rw [HAT.out], HX.out.1.fr s3 (fun b hb e => by rcases e with rfl | rfl; exact nr hb; exact nt hb), ?_, HX.out.2.2⟩
    exact ((Fr.of_below HGW.out.2.1 (fun _ => False)).trans HX.out.2.1 (e3 := G.own) (fun _ _ h => h.elim False.elim (fun z => z))).trans s3 fun i hi h => h.elim (fun z => z) (fun e => by omega)
  by_cases hk3 : p.k = 3
  · rw [if_neg hk2] at HAT HAG
    rw [if_pos hk3] at HAT HAG
    have n2 : (p.k == 2) = false := by rw [beq_eq_false_iff_ne]; omega
    have hk' : (p.k == 3) = true := by rw [beq_iff_eq]; exact hk3
    have hc := Open_any G p.o p.mrk W HGW.out.1 HPo.out.1.oac HPo.out.1.id.2 HPo.out.2.1
    rw [HOC.out] at hc
    clear hk2 hk3
    generalize opE G p.o p.mrk = RE at *
    go_wp2_with (go_at_call 12; fail)
    refine hc.mono ?_
    rintro e W1 ⟨rfl, g1, f1⟩
    have o1 : ∀ b, AG.own b ↔ G.own b := fun b => by rw [HAG.out]; exact own_O G _ b
    rw [← HAG.out] at g1
    have HB := HF.out W1 f1
    have HX : Hid (GdAt W1 AG ∧ Fr W W1 G.own ∧ ∀ b, AG.own b ↔ G.own b) := ⟨g1, f1, o1⟩
    clear g1 f1 o1 hc c0 c1 c2 c3 c4 c5 c6 c7 c8 c9 c10 c11 c12 c13 c14 c15 c16 c17 c18 c19 c20 c21 c22 c23 c24 c25 c26 c27 c28
    have HBk : Hid (Blk W1 (w.heap.size + 1) 52 #[.int .i64 0, .int .i64 0, .int .i64 0] ∧ Blk W1 (w.heap.size + 2) 52 #[.int .i64 0, .int .i64 0, .int .i64 0]) := HB.2
    have x0 := HB.2.2.cell 0
    have x1 := HB.2.2.cell 1
    have x2 := HB.2.2.cell 2
    have y0 := HB.2.2.frozen 0
    have y1 := HB.2.2.frozen 1
    have y2 := HB.2.2.frozen 2
    have z0 := HB.2.1.cell 0
    have z1 := HB.2.1.cell 1
    have z2 := HB.2.1.cell 2
    have v0 := HB.2.1.frozen 0
    have v1 := HB.2.1.frozen 1
    have v2 := HB.2.1.frozen 2
    simp only [List.getElem?_toArray, List.getElem?_cons_succ, List.getElem?_cons_zero] at x0 x1 x2 z0 z1 z2
    clear HB
    go_wp2
    have s0 := (Fr.setCell W1 ⟨w.heap.size + 1 + 1, 0, none⟩ (.int .i64 RE) (fun b => b = w.heap.size + 1 ∨ b = w.heap.size + 1 + 1) (.inr rfl))
    have s1 := s0.trans (Fr.setCell _ ⟨w.heap.size + 1, 0, none⟩ (.int .i64 RE) (fun b => b = w.heap.size + 1 ∨ b = w.heap.size + 1 + 1) (.inl rfl)) (e3 := (fun b => b = w.heap.size + 1 ∨ b = w.heap.size + 1 + 1)) (fun _ _ h => h.elim (fun z => z) (fun z => z))
    have s2 := s1.trans (Fr.setCell _ ⟨w.heap.size + 1, 1, none⟩ (.int .i64 0) (fun b => b = w.heap.size + 1 ∨ b = w.heap.size + 1 + 1) (.inl rfl)) (e3 := (fun b => b = w.heap.size + 1 ∨ b = w.heap.size + 1 + 1)) (fun _ _ h => h.elim (fun z => z) (fun z => z))
    have s3 := s2.trans (Fr.setCell _ ⟨w.heap.size + 1, 2, none⟩ (.int .i64 0) (fun b => b = w.heap.size + 1 ∨ b = w.heap.size + 1 + 1) (.inl rfl)) (e3 := (fun b => b = w.heap.size + 1 ∨ b = w.heap.size + 1 + 1)) (fun _ _ h => h.elim (fun z => z) (fun z => z))
    have hbk := ((((HBk.out.1.other (h := w.heap.size + 1 + 1) (by omega) 0 (.int .i64 RE)).set 0 (.int .i64 RE)).set 1 (.int .i64 0)).set 2 (.int .i64 0))
    refine bodyPost_ret (results_cell_row (fn := Try.f16) (p := 4) (ty := 52) rfl _ _ (w.heap.size + 1) 52 #[.int .i64 RE, .int .i64 0, .int .i64 0] (0, 0) _ (by rfl) hbk Try.underlying52 rfl (by kernel_rfl)) rfl ?_
    have nr := HX.out.1.ne_blk HBk.out.1 (by decide) (by decide)
    have nt := HX.out.1.ne_blk HBk.out.2 (by decide) (by decide)
    refine ⟨by rw [HAT.out], HX.out.1.fr s3 (fun b hb e => by rcases e with rfl | rfl; exact nr hb; exact nt hb), ?_, HX.out.2.2⟩
    exact ((Fr.of_below HGW.out.2.1 (fun _ => False)).trans HX.out.2.1 (e3 := G.own) (fun _ _ h => h.elim False.elim (fun z => z))).trans s3 fun i hi h => h.elim (fun z => z) (fun e => by omega)
  by_cases hk4 : p.k = 4
  · rw [if_neg hk2] at HAT HAG
    rw [if_neg hk3] at HAT HAG
    rw [if_pos hk4] at HAT HAG
    have n2 : (p.k == 2) = false := by rw [beq_eq_false_iff_ne]; omega
    have n3 : (p.k == 3) = false := by rw [beq_eq_false_iff_ne]; omega
    have hk' : (p.k == 4) = true := by rw [beq_iff_eq]; exact hk4
    have hc := Done_any G p.o.id W HGW.out.1 HPo.out.1.id
    clear hk2 hk3 hk4
    generalize (if (G.at p.o.id).isSome = true then (0 : Int) else 121) = RE at *
    go_wp2_with (go_at_call 14; fail)
    refine hc.mono ?_
    rintro e W1 ⟨rfl, g1, f1⟩
    have o1 : ∀ b, AG.own b ↔ G.own b := fun b => by rw [HAG.out]; exact own_O G _ b
    rw [← HAG.out] at g1
    have HB := HF.out W1 f1
    have HX : Hid (GdAt W1 AG ∧ Fr W W1 G.own ∧ ∀ b, AG.own b ↔ G.own b) := ⟨g1, f1, o1⟩
    clear g1 f1 o1 hc c0 c1 c2 c3 c4 c5 c6 c7 c8 c9 c10 c11 c12 c13 c14 c15 c16 c17 c18 c19 c20 c21 c22 c23 c24 c25 c26 c27 c28
    have HBk : Hid (Blk W1 (w.heap.size + 1) 52 #[.int .i64 0, .int .i64 0, .int .i64 0] ∧ Blk W1 (w.heap.size + 2) 52 #[.int .i64 0, .int .i64 0, .int .i64 0]) := HB.2
    have x0 := HB.2.2.cell 0
    have x1 := HB.2.2.cell 1
    have x2 := HB.2.2.cell 2
    have y0 := HB.2.2.frozen 0
    have y1 := HB.2.2.frozen 1
    have y2 := HB.2.2.frozen 2
    have z0 := HB.2.1.cell 0
    have z1 := HB.2.1.cell 1
    have z2 := HB.2.1.cell 2
    have v0 := HB.2.1.frozen 0
    have v1 := HB.2.1.frozen 1
    have v2 := HB.2.1.frozen 2
    simp only [List.getElem?_toArray, List.getElem?_cons_succ, List.getElem?_cons_zero] at x0 x1 x2 z0 z1 z2
    clear HB
    go_wp2
    have s0 := (Fr.setCell W1 ⟨w.heap.size + 1 + 1, 0, none⟩ (.int .i64 RE) (fun b => b = w.heap.size + 1 ∨ b = w.heap.size + 1 + 1) (.inr rfl))
    have s1 := s0.trans (Fr.setCell _ ⟨w.heap.size + 1, 0, none⟩ (.int .i64 RE) (fun b => b = w.heap.size + 1 ∨ b = w.heap.size + 1 + 1) (.inl rfl)) (e3 := (fun b => b = w.heap.size + 1 ∨ b = w.heap.size + 1 + 1)) (fun _ _ h => h.elim (fun z => z) (fun z => z))
    have s2 := s1.trans (Fr.setCell _ ⟨w.heap.size + 1, 1, none⟩ (.int .i64 0) (fun b => b = w.heap.size + 1 ∨ b = w.heap.size + 1 + 1) (.inl rfl)) (e3 := (fun b => b = w.heap.size + 1 ∨ b = w.heap.size + 1 + 1)) (fun _ _ h => h.elim (fun z => z) (fun z => z))
    have s3 := s2.trans (Fr.setCell _ ⟨w.heap.size + 1, 2, none⟩ (.int .i64 0) (fun b => b = w.heap.size + 1 ∨ b = w.heap.size + 1 + 1) (.inl rfl)) (e3 := (fun b => b = w.heap.size + 1 ∨ b = w.heap.size + 1 + 1)) (fun _ _ h => h.elim (fun z => z) (fun z => z))
    have hbk := ((((HBk.out.1.other (h := w.heap.size + 1 + 1) (by omega) 0 (.int .i64 RE)).set 0 (.int .i64 RE)).set 1 (.int .i64 0)).set 2 (.int .i64 0))
    refine bodyPost_ret (results_cell_row (fn := Try.f16) (p := 4) (ty := 52) rfl _ _ (w.heap.size + 1) 52 #[.int .i64 RE, .int .i64 0, .int .i64 0] (0, 0) _ (by rfl) hbk Try.underlying52 rfl (by kernel_rfl)) rfl ?_
    have nr := HX.out.1.ne_blk HBk.out.1 (by decide) (by decide)
    have nt := HX.out.1.ne_blk HBk.out.2 (by decide) (by decide)
    refine ⟨by rw [HAT.out], HX.out.1.fr s3 (fun b hb e => by rcases e with rfl | rfl; exact nr hb; exact nt hb), ?_, HX.out.2.2⟩
    exact ((Fr.of_below HGW.out.2.1 (fun _ => False)).trans HX.out.2.1 (e3 := G.own) (fun _ _ h => h.elim False.elim (fun z => z))).trans s3 fun i hi h => h.elim (fun z => z) (fun e => by omega)
  by_cases hk5 : p.k = 5
  · rw [if_neg hk2] at HAT HAG
    rw [if_neg hk3] at HAT HAG
    rw [if_neg hk4] at HAT HAG
    rw [if_pos hk5] at HAT HAG
    have n2 : (p.k == 2) = false := by rw [beq_eq_false_iff_ne]; omega
    have n3 : (p.k == 3) = false := by rw [beq_eq_false_iff_ne]; omega
    have n4 : (p.k == 4) = false := by rw [beq_eq_false_iff_ne]; omega
    have hk' : (p.k == 5) = true := by rw [beq_iff_eq]; exact hk5
    have hc := Trade_any G p.ac p.sy p.q W HGW.out.1 HPo.out.1.ac HPo.out.1.sy HPo.out.2.2
    clear hk2 hk3 hk4 hk5
    generalize trE G p.ac p.q = RE at *
    go_wp2_with (go_at_call 13; fail)
    refine hc.mono ?_
    rintro e W1 ⟨rfl, g1, f1, o1⟩
    rw [← HAG.out] at g1 o1
    have HB := HF.out W1 f1
    have HX : Hid (GdAt W1 AG ∧ Fr W W1 G.own ∧ ∀ b, AG.own b ↔ G.own b) := ⟨g1, f1, o1⟩
    clear g1 f1 o1 hc c0 c1 c2 c3 c4 c5 c6 c7 c8 c9 c10 c11 c12 c13 c14 c15 c16 c17 c18 c19 c20 c21 c22 c23 c24 c25 c26 c27 c28
    have HBk : Hid (Blk W1 (w.heap.size + 1) 52 #[.int .i64 0, .int .i64 0, .int .i64 0] ∧ Blk W1 (w.heap.size + 2) 52 #[.int .i64 0, .int .i64 0, .int .i64 0]) := HB.2
    have x0 := HB.2.2.cell 0
    have x1 := HB.2.2.cell 1
    have x2 := HB.2.2.cell 2
    have y0 := HB.2.2.frozen 0
    have y1 := HB.2.2.frozen 1
    have y2 := HB.2.2.frozen 2
    have z0 := HB.2.1.cell 0
    have z1 := HB.2.1.cell 1
    have z2 := HB.2.1.cell 2
    have v0 := HB.2.1.frozen 0
    have v1 := HB.2.1.frozen 1
    have v2 := HB.2.1.frozen 2
    simp only [List.getElem?_toArray, List.getElem?_cons_succ, List.getElem?_cons_zero] at x0 x1 x2 z0 z1 z2
    clear HB
    go_wp2
    have s0 := (Fr.setCell W1 ⟨w.heap.size + 1 + 1, 0, none⟩ (.int .i64 RE) (fun b => b = w.heap.size + 1 ∨ b = w.heap.size + 1 + 1) (.inr rfl))
    have s1 := s0.trans (Fr.setCell _ ⟨w.heap.size + 1, 0, none⟩ (.int .i64 RE) (fun b => b = w.heap.size + 1 ∨ b = w.heap.size + 1 + 1) (.inl rfl)) (e3 := (fun b => b = w.heap.size + 1 ∨ b = w.heap.size + 1 + 1)) (fun _ _ h => h.elim (fun z => z) (fun z => z))
    have s2 := s1.trans (Fr.setCell _ ⟨w.heap.size + 1, 1, none⟩ (.int .i64 0) (fun b => b = w.heap.size + 1 ∨ b = w.heap.size + 1 + 1) (.inl rfl)) (e3 := (fun b => b = w.heap.size + 1 ∨ b = w.heap.size + 1 + 1)) (fun _ _ h => h.elim (fun z => z) (fun z => z))
    have s3 := s2.trans (Fr.setCell _ ⟨w.heap.size + 1, 2, none⟩ (.int .i64 0) (fun b => b = w.heap.size + 1 ∨ b = w.heap.size + 1 + 1) (.inl rfl)) (e3 := (fun b => b = w.heap.size + 1 ∨ b = w.heap.size + 1 + 1)) (fun _ _ h => h.elim (fun z => z) (fun z => z))
    have hbk := ((((HBk.out.1.other (h := w.heap.size + 1 + 1) (by omega) 0 (.int .i64 RE)).set 0 (.int .i64 RE)).set 1 (.int .i64 0)).set 2 (.int .i64 0))
    refine bodyPost_ret (results_cell_row (fn := Try.f16) (p := 4) (ty := 52) rfl _ _ (w.heap.size + 1) 52 #[.int .i64 RE, .int .i64 0, .int .i64 0] (0, 0) _ (by rfl) hbk Try.underlying52 rfl (by kernel_rfl)) rfl ?_
    have nr := HX.out.1.ne_blk HBk.out.1 (by decide) (by decide)
    have nt := HX.out.1.ne_blk HBk.out.2 (by decide) (by decide)
    refine ⟨by rw [HAT.out], HX.out.1.fr s3 (fun b hb e => by rcases e with rfl | rfl; exact nr hb; exact nt hb), ?_, HX.out.2.2⟩
    exact ((Fr.of_below HGW.out.2.1 (fun _ => False)).trans HX.out.2.1 (e3 := G.own) (fun _ _ h => h.elim False.elim (fun z => z))).trans s3 fun i hi h => h.elim (fun z => z) (fun e => by omega)
  by_cases hk6 : p.k = 6
  · rw [if_neg hk2] at HAT HAG
    rw [if_neg hk3] at HAT HAG
    rw [if_neg hk4] at HAT HAG
    rw [if_neg hk5] at HAT HAG
    rw [if_pos hk6] at HAT HAG
    have n2 : (p.k == 2) = false := by rw [beq_eq_false_iff_ne]; omega
    have n3 : (p.k == 3) = false := by rw [beq_eq_false_iff_ne]; omega
    have n4 : (p.k == 4) = false := by rw [beq_eq_false_iff_ne]; omega
    have n5 : (p.k == 5) = false := by rw [beq_eq_false_iff_ne]; omega
    have hk' : (p.k == 6) = true := by rw [beq_iff_eq]; exact hk6
    have hc := Kill_any G p.ac p.on W HGW.out.1 HPo.out.1.ac
    clear hk2 hk3 hk4 hk5 hk6
    generalize klE G p.ac = RE at *
    go_wp2_with (go_at_call 28; fail)
    refine hc.mono ?_
    rintro e W1 ⟨rfl, g1, f1, o1⟩
    rw [← HAG.out] at g1 o1
    have HB := HF.out W1 f1
    have HX : Hid (GdAt W1 AG ∧ Fr W W1 G.own ∧ ∀ b, AG.own b ↔ G.own b) := ⟨g1, f1, o1⟩
    clear g1 f1 o1 hc c0 c1 c2 c3 c4 c5 c6 c7 c8 c9 c10 c11 c12 c13 c14 c15 c16 c17 c18 c19 c20 c21 c22 c23 c24 c25 c26 c27 c28
    have HBk : Hid (Blk W1 (w.heap.size + 1) 52 #[.int .i64 0, .int .i64 0, .int .i64 0] ∧ Blk W1 (w.heap.size + 2) 52 #[.int .i64 0, .int .i64 0, .int .i64 0]) := HB.2
    have x0 := HB.2.2.cell 0
    have x1 := HB.2.2.cell 1
    have x2 := HB.2.2.cell 2
    have y0 := HB.2.2.frozen 0
    have y1 := HB.2.2.frozen 1
    have y2 := HB.2.2.frozen 2
    have z0 := HB.2.1.cell 0
    have z1 := HB.2.1.cell 1
    have z2 := HB.2.1.cell 2
    have v0 := HB.2.1.frozen 0
    have v1 := HB.2.1.frozen 1
    have v2 := HB.2.1.frozen 2
    simp only [List.getElem?_toArray, List.getElem?_cons_succ, List.getElem?_cons_zero] at x0 x1 x2 z0 z1 z2
    clear HB
    go_wp2
    have s0 := (Fr.setCell W1 ⟨w.heap.size + 1 + 1, 0, none⟩ (.int .i64 RE) (fun b => b = w.heap.size + 1 ∨ b = w.heap.size + 1 + 1) (.inr rfl))
    have s1 := s0.trans (Fr.setCell _ ⟨w.heap.size + 1, 0, none⟩ (.int .i64 RE) (fun b => b = w.heap.size + 1 ∨ b = w.heap.size + 1 + 1) (.inl rfl)) (e3 := (fun b => b = w.heap.size + 1 ∨ b = w.heap.size + 1 + 1)) (fun _ _ h => h.elim (fun z => z) (fun z => z))
    have s2 := s1.trans (Fr.setCell _ ⟨w.heap.size + 1, 1, none⟩ (.int .i64 0) (fun b => b = w.heap.size + 1 ∨ b = w.heap.size + 1 + 1) (.inl rfl)) (e3 := (fun b => b = w.heap.size + 1 ∨ b = w.heap.size + 1 + 1)) (fun _ _ h => h.elim (fun z => z) (fun z => z))
    have s3 := s2.trans (Fr.setCell _ ⟨w.heap.size + 1, 2, none⟩ (.int .i64 0) (fun b => b = w.heap.size + 1 ∨ b = w.heap.size + 1 + 1) (.inl rfl)) (e3 := (fun b => b = w.heap.size + 1 ∨ b = w.heap.size + 1 + 1)) (fun _ _ h => h.elim (fun z => z) (fun z => z))
    have hbk := ((((HBk.out.1.other (h := w.heap.size + 1 + 1) (by omega) 0 (.int .i64 RE)).set 0 (.int .i64 RE)).set 1 (.int .i64 0)).set 2 (.int .i64 0))
    refine bodyPost_ret (results_cell_row (fn := Try.f16) (p := 4) (ty := 52) rfl _ _ (w.heap.size + 1) 52 #[.int .i64 RE, .int .i64 0, .int .i64 0] (0, 0) _ (by rfl) hbk Try.underlying52 rfl (by kernel_rfl)) rfl ?_
    have nr := HX.out.1.ne_blk HBk.out.1 (by decide) (by decide)
    have nt := HX.out.1.ne_blk HBk.out.2 (by decide) (by decide)
    refine ⟨by rw [HAT.out], HX.out.1.fr s3 (fun b hb e => by rcases e with rfl | rfl; exact nr hb; exact nt hb), ?_, HX.out.2.2⟩
    exact ((Fr.of_below HGW.out.2.1 (fun _ => False)).trans HX.out.2.1 (e3 := G.own) (fun _ _ h => h.elim False.elim (fun z => z))).trans s3 fun i hi h => h.elim (fun z => z) (fun e => by omega)
  by_cases hk7 : p.k = 7
  · rw [if_neg hk2] at HAT HAG
    rw [if_neg hk3] at HAT HAG
    rw [if_neg hk4] at HAT HAG
    rw [if_neg hk5] at HAT HAG
    rw [if_neg hk6] at HAT HAG
    rw [if_pos hk7] at HAT
    have n2 : (p.k == 2) = false := by rw [beq_eq_false_iff_ne]; omega
    have n3 : (p.k == 3) = false := by rw [beq_eq_false_iff_ne]; omega
    have n4 : (p.k == 4) = false := by rw [beq_eq_false_iff_ne]; omega
    have n5 : (p.k == 5) = false := by rw [beq_eq_false_iff_ne]; omega
    have n6 : (p.k == 6) = false := by rw [beq_eq_false_iff_ne]; omega
    have hk' : (p.k == 7) = true := by rw [beq_iff_eq]; exact hk7
    have hc := Look_any G p.ac p.sy W HGW.out.1 HPo.out.1.ac HPo.out.1.sy
    clear hk2 hk3 hk4 hk5 hk6 hk7
    generalize lkT G p.ac p.sy = LT at *
    obtain ⟨L1, L2, L3⟩ := LT
    simp only at hc HAT
    go_wp2_with (go_at_call 15; fail)
    refine hc.mono ?_
    rintro e W1 ⟨rfl, b1⟩
    have g1 : GdAt W1 AG := by rw [HAG.out]; exact HGW.out.1.below b1
    have f1 : Fr W W1 G.own := Fr.of_below b1 _
    have o1 : ∀ b, AG.own b ↔ G.own b := fun b => by rw [HAG.out]
    have HB := HF.out W1 f1
    have HX : Hid (GdAt W1 AG ∧ Fr W W1 G.own ∧ ∀ b, AG.own b ↔ G.own b) := ⟨g1, f1, o1⟩
    clear g1 f1 o1 hc c0 c1 c2 c3 c4 c5 c6 c7 c8 c9 c10 c11 c12 c13 c14 c15 c16 c17 c18 c19 c20 c21 c22 c23 c24 c25 c26 c27 c28
    have HBk : Hid (Blk W1 (w.heap.size + 1) 52 #[.int .i64 0, .int .i64 0, .int .i64 0] ∧ Blk W1 (w.heap.size + 2) 52 #[.int .i64 0, .int .i64 0, .int .i64 0]) := HB.2
    have x0 := HB.2.2.cell 0
    have x1 := HB.2.2.cell 1
    have x2 := HB.2.2.cell 2
    have y0 := HB.2.2.frozen 0
    have y1 := HB.2.2.frozen 1
    have y2 := HB.2.2.frozen 2
    have z0 := HB.2.1.cell 0
    have z1 := HB.2.1.cell 1
    have z2 := HB.2.1.cell 2
    have v0 := HB.2.1.frozen 0
    have v1 := HB.2.1.frozen 1
    have v2 := HB.2.1.frozen 2
    simp only [List.getElem?_toArray, List.getElem?_cons_succ, List.getElem?_cons_zero] at x0 x1 x2 z0 z1 z2
    clear HB
    go_wp2
    have s0 := (Fr.setCell W1 ⟨w.heap.size + 1 + 1, 1, none⟩ (.int .i64 L1) (fun b => b = w.heap.size + 1 ∨ b = w.heap.size + 1 + 1) (.inr rfl))
    have s1 := s0.trans (Fr.setCell _ ⟨w.heap.size + 1 + 1, 2, none⟩ (.int .i64 L2) (fun b => b = w.heap.size + 1 ∨ b = w.heap.size + 1 + 1) (.inr rfl)) (e3 := (fun b => b = w.heap.size + 1 ∨ b = w.heap.size + 1 + 1)) (fun _ _ h => h.elim (fun z => z) (fun z => z))
    have s2 := s1.trans (Fr.setCell _ ⟨w.heap.size + 1 + 1, 0, none⟩ (.int .i64 L3) (fun b => b = w.heap.size + 1 ∨ b = w.heap.size + 1 + 1) (.inr rfl)) (e3 := (fun b => b = w.heap.size + 1 ∨ b = w.heap.size + 1 + 1)) (fun _ _ h => h.elim (fun z => z) (fun z => z))
    have s3 := s2.trans (Fr.setCell _ ⟨w.heap.size + 1, 0, none⟩ (.int .i64 L3) (fun b => b = w.heap.size + 1 ∨ b = w.heap.size + 1 + 1) (.inl rfl)) (e3 := (fun b => b = w.heap.size + 1 ∨ b = w.heap.size + 1 + 1)) (fun _ _ h => h.elim (fun z => z) (fun z => z))
    have s4 := s3.trans (Fr.setCell _ ⟨w.heap.size + 1, 1, none⟩ (.int .i64 L1) (fun b => b = w.heap.size + 1 ∨ b = w.heap.size + 1 + 1) (.inl rfl)) (e3 := (fun b => b = w.heap.size + 1 ∨ b = w.heap.size + 1 + 1)) (fun _ _ h => h.elim (fun z => z) (fun z => z))
    have s5 := s4.trans (Fr.setCell _ ⟨w.heap.size + 1, 2, none⟩ (.int .i64 L2) (fun b => b = w.heap.size + 1 ∨ b = w.heap.size + 1 + 1) (.inl rfl)) (e3 := (fun b => b = w.heap.size + 1 ∨ b = w.heap.size + 1 + 1)) (fun _ _ h => h.elim (fun z => z) (fun z => z))
    have hbk := ((((((HBk.out.1.other (h := w.heap.size + 1 + 1) (by omega) 1 (.int .i64 L1)).other (h := w.heap.size + 1 + 1) (by omega) 2 (.int .i64 L2)).other (h := w.heap.size + 1 + 1) (by omega) 0 (.int .i64 L3)).set 0 (.int .i64 L3)).set 1 (.int .i64 L1)).set 2 (.int .i64 L2))
    refine bodyPost_ret (results_cell_row (fn := Try.f16) (p := 4) (ty := 52) rfl _ _ (w.heap.size + 1) 52 #[.int .i64 L3, .int .i64 L1, .int .i64 L2] (0, 0) _ (by rfl) hbk Try.underlying52 rfl (by kernel_rfl)) rfl ?_
    have nr := HX.out.1.ne_blk HBk.out.1 (by decide) (by decide)
    have nt := HX.out.1.ne_blk HBk.out.2 (by decide) (by decide)
    refine ⟨by rw [HAT.out], HX.out.1.fr s5 (fun b hb e => by rcases e with rfl | rfl; exact nr hb; exact nt hb), ?_, HX.out.2.2⟩
    exact ((Fr.of_below HGW.out.2.1 (fun _ => False)).trans HX.out.2.1 (e3 := G.own) (fun _ _ h => h.elim False.elim (fun z => z))).trans s5 fun i hi h => h.elim (fun z => z) (fun e => by omega)
  rw [if_neg hk2] at HAT HAG
  rw [if_neg hk3] at HAT HAG
  rw [if_neg hk4] at HAT HAG
  rw [if_neg hk5] at HAT HAG
  rw [if_neg hk6] at HAT HAG
  rw [if_neg hk7] at HAT
  have n2 : (p.k == 2) = false := by rw [beq_eq_false_iff_ne]; omega
  have n3 : (p.k == 3) = false := by rw [beq_eq_false_iff_ne]; omega
  have n4 : (p.k == 4) = false := by rw [beq_eq_false_iff_ne]; omega
  have n5 : (p.k == 5) = false := by rw [beq_eq_false_iff_ne]; omega
  have n6 : (p.k == 6) = false := by rw [beq_eq_false_iff_ne]; omega
  have n7 : (p.k == 7) = false := by rw [beq_eq_false_iff_ne]; omega
  clear hk2 hk3 hk4 hk5 hk6 hk7
  have HX : Hid (GdAt W AG ∧ Fr W W G.own ∧ ∀ b, AG.own b ↔ G.own b) := by rw [HAG.out]; exact ⟨HGW.out.1, Fr.refl _ _, fun _ => Iff.rfl⟩
  have HBk : Hid (Blk W (w.heap.size + 1) 52 #[.int .i64 0, .int .i64 0, .int .i64 0] ∧ Blk W (w.heap.size + 2) 52 #[.int .i64 0, .int .i64 0, .int .i64 0]) := HGW.out.2.2.2
  have HB := HBk.out
  have x0 := HB.2.cell 0
  have x1 := HB.2.cell 1
  have x2 := HB.2.cell 2
  have z0 := HB.1.cell 0
  have z1 := HB.1.cell 1
  have z2 := HB.1.cell 2
  have v0 := HB.1.frozen 0
  have v1 := HB.1.frozen 1
  have v2 := HB.1.frozen 2
  simp only [List.getElem?_toArray, List.getElem?_cons_succ, List.getElem?_cons_zero] at x0 x1 x2 z0 z1 z2
  clear HB
  go_wp2
  have s0 := (Fr.setCell W ⟨w.heap.size + 1, 0, none⟩ (.int .i64 0) (fun b => b = w.heap.size + 1 ∨ b = w.heap.size + 1 + 1) (.inl rfl))
  have s1 := s0.trans (Fr.setCell _ ⟨w.heap.size + 1, 1, none⟩ (.int .i64 0) (fun b => b = w.heap.size + 1 ∨ b = w.heap.size + 1 + 1) (.inl rfl)) (e3 := (fun b => b = w.heap.size + 1 ∨ b = w.heap.size + 1 + 1)) (fun _ _ h => h.elim (fun z => z) (fun z => z))
  have s2 := s1.trans (Fr.setCell _ ⟨w.heap.size + 1, 2, none⟩ (.int .i64 0) (fun b => b = w.heap.size + 1 ∨ b = w.heap.size + 1 + 1) (.inl rfl)) (e3 := (fun b => b = w.heap.size + 1 ∨ b = w.heap.size + 1 + 1)) (fun _ _ h => h.elim (fun z => z) (fun z => z))
  have hbk := (((HBk.out.1.set 0 (.int .i64 0)).set 1 (.int .i64 0)).set 2 (.int .i64 0))
  refine bodyPost_ret (results_cell_row (fn := Try.f16) (p := 4) (ty := 52) rfl _ _ (w.heap.size + 1) 52 #[.int .i64 0, .int .i64 0, .int .i64 0] (0, 0) _ (by rfl) hbk Try.underlying52 rfl (by kernel_rfl)) rfl ?_
  have nr := HX.out.1.ne_blk HBk.out.1 (by decide) (by decide)
  have nt := HX.out.1.ne_blk HBk.out.2 (by decide) (by decide)
  refine ⟨by rw [HAT.out], HX.out.1.fr s2 (fun b hb e => by rcases e with rfl | rfl; exact nr hb; exact nt hb), ?_, HX.out.2.2⟩
  exact ((Fr.of_below HGW.out.2.1 (fun _ => False)).trans HX.out.2.1 (e3 := G.own) (fun _ _ h => h.elim False.elim (fun z => z))).trans s2 fun i hi h => h.elim (fun z => z) (fun e => by omega)
end Go.Proofs.Ytgioknkfppaaaaa
