/-
  risk: a guard in memory.
-/
import Derived.Test.YtgioknkfppaaaaaGLeaf
namespace Go.Proofs.Ytgioknkfppaaaaa
set_option linter.unusedVariables false
set_option linter.unusedSimpArgs false
open Go.RowKit Go.Great Go.Maps

theorem law3 : Keyed Try.prog 3 := int_keyed Try.underlying3
theorem law9 : Keyed Try.prog 9 := string_keyed Try.underlying9
theorem zero2 (w : World) : (zeroValue 2).run Try.prog w = .ok (.int .i64 0) w := by kernel_rfl
theorem zeroP (w : World) : (zeroValue 65).run Try.prog w = .ok (.pointer none) w := by kernel_rfl
theorem zeroO (w : World) : (zeroValue 77).run Try.prog w = .ok (.agg #[.string ⟨#[]⟩, .string ⟨#[]⟩, .int .i64 0, .int .i64 0, .int .i64 0]) w := by kernel_rfl
/-- A guard: its blocks, its accounts, what is open. -/
structure Gd where
  g : Nat
  ma : Nat
  mo : Nat
  A : List Ac
  O : List Oo
structure AcAt (w : World) (a : Ac) : Prop where
  blk : Blk w a.blk 72 a.cs
  mp : MapL Try.prog w 9 a.mp (a.pos.map posE)
  ok : a.ok
structure GdAt (w : World) (G : Gd) : Prop where
  blk : Blk w G.g 63 #[.map (some G.ma), .map (some G.mo)]
  accs : MapL Try.prog w 9 G.ma (G.A.map Ac.ent)
  opens : MapL Try.prog w 3 G.mo (G.O.map Oo.ent)
  acc : ∀ a ∈ G.A, AcAt w a
  ook : ∀ o ∈ G.O, o.ok
  ne : G.ma ≠ G.mo
  mps : ∀ a ∈ G.A, a.mp ≠ G.ma ∧ a.mp ≠ G.mo
  apart : G.A.Pairwise fun a b => a.blk ≠ b.blk ∧ a.mp ≠ b.mp
def Gd.own (G : Gd) (b : Nat) : Prop := b = G.g ∨ b = G.ma ∨ b = G.mo ∨ ∃ a ∈ G.A, b = a.blk ∨ b = a.mp
theorem Blk.ne_type {w : World} {g h : Nat} {T T' : TypeId} {cs cs' : Array Value} (a : Blk w g T cs) (b : Blk w h T' cs') (hne : T ≠ T') : g ≠ h := fun e => by
  subst e
  unfold Blk at a b
  rw [a] at b
  injection b with b
  injection b with _ b _
  exact hne b
theorem Blk.fr {w w' : World} {g : Nat} {T : TypeId} {cs : Array Value} {ex : Nat → Prop} (b : Blk w g T cs) (hf : Fr w w' ex) (hn : ¬ ex g) : Blk w' g T cs := (hf.block g b.lt hn).trans b
theorem AcAt.fr {w w' : World} {a : Ac} {ex : Nat → Prop} (h : AcAt w a) (hf : Fr w w' ex) (h1 : ¬ ex a.blk) (h2 : ¬ ex a.mp) : AcAt w' a := ⟨h.blk.fr hf h1, h.mp.fr hf h2, h.ok⟩
theorem GdAt.lt {w : World} {G : Gd} (h : GdAt w G) {b : Nat} (hb : G.own b) : b < w.heap.size := by
  rcases hb with rfl | rfl | rfl | ⟨a, ha, rfl | rfl⟩
  · exact h.blk.lt
  · exact h.accs.lt
  · exact h.opens.lt
  · exact (h.acc a ha).blk.lt
  · exact (h.acc a ha).mp.lt
theorem GdAt.fr {w w' : World} {G : Gd} {ex : Nat → Prop} (h : GdAt w G) (hf : Fr w w' ex) (hn : ∀ b, G.own b → ¬ ex b) : GdAt w' G :=
  ⟨h.blk.fr hf (hn _ (.inl rfl)), h.accs.fr hf (hn _ (.inr (.inl rfl))), h.opens.fr hf (hn _ (.inr (.inr (.inl rfl)))), fun a ha => (h.acc a ha).fr hf (hn _ (.inr (.inr (.inr ⟨a, ha, .inl rfl⟩)))) (hn _ (.inr (.inr (.inr ⟨a, ha, .inr rfl⟩)))), h.ook, h.ne, h.mps, h.apart⟩
theorem GdAt.below {w w' : World} {G : Gd} (h : GdAt w G) (hb : Below w.heap.size w w') : GdAt w' G := h.fr (Fr.of_below hb (fun _ => False)) fun _ _ => id
/-- One account is another one now. -/
def setA (A : List Ac) (a' : Ac) : List Ac := A.map fun x => if x.blk = a'.blk then a' else x
theorem mem_apart : ∀ {A : List Ac}, A.Pairwise (fun a b => a.blk ≠ b.blk ∧ a.mp ≠ b.mp) → ∀ {a b : Ac}, a ∈ A → b ∈ A → a.blk = b.blk ∨ a.mp = b.mp → a = b
  | [], _, _, _, h, _, _ => by simp at h
  | x :: r, hp, a, b, ha, hb, he => by
    obtain ⟨h1, h2⟩ := List.pairwise_cons.1 hp
    rcases List.mem_cons.1 ha with rfl | ha' <;> rcases List.mem_cons.1 hb with rfl | hb'
    · rfl
    · rcases he with he | he
      · exact absurd he (h1 _ hb').1
      · exact absurd he (h1 _ hb').2
    · rcases he with he | he
      · exact absurd he.symm (h1 _ ha').1
      · exact absurd he.symm (h1 _ ha').2
    · exact mem_apart h2 ha' hb' he
theorem mem_setA {A : List Ac} {a' x : Ac} (h : x ∈ setA A a') : x = a' ∨ x ∈ A ∧ x.blk ≠ a'.blk := by
  obtain ⟨y, hy, e⟩ := List.mem_map.1 h
  split at e
  · exact .inl e.symm
  · subst e; rename_i hn; exact .inr ⟨hy, hn⟩
theorem GdAt.upd {w w' : World} {G : Gd} {a a' : Ac} (h : GdAt w G) (ha : a ∈ G.A) (hb : a'.blk = a.blk) (hnm : a'.nm = a.nm) (hmp : a'.mp = a.mp) (hf : Fr w w' (fun b => b = a.blk ∨ b = a.mp)) (h' : AcAt w' a') :
    GdAt w' { G with A := setA G.A a' } ∧ Fr w w' G.own ∧ ∀ b, Gd.own { G with A := setA G.A a' } b ↔ G.own b := by
  have hin : ∀ x ∈ G.A, x.blk = a'.blk → x = a := fun x hx e => mem_apart h.apart hx ha (.inl (e.trans hb))
  have e1 : (setA G.A a').map Ac.ent = G.A.map Ac.ent := by
    unfold setA
    rw [List.map_map]
    refine List.map_congr_left fun x hx => ?_
    simp only [Function.comp]
    split
    · rename_i he
      rw [hin x hx he]
      unfold Ac.ent
      rw [hnm, hb]
    · rfl
  have hba := (h.acc a ha).blk
  have hma := (h.acc a ha).mp
  have n1 : ∀ b, b = G.g ∨ b = G.ma ∨ b = G.mo → ¬ (b = a.blk ∨ b = a.mp) := by
    rintro b hb0 (rfl | rfl)
    · rcases hb0 with e | e | e
      · exact Blk.ne_type hba h.blk (by decide) e
      · exact h.accs.ne_blk hba e.symm
      · exact h.opens.ne_blk hba e.symm
    · rcases hb0 with e | e | e
      · exact hma.ne_blk h.blk e
      · exact (h.mps a ha).1 e
      · exact (h.mps a ha).2 e
  refine ⟨⟨h.blk.fr hf (n1 _ (.inl rfl)), ?_, h.opens.fr hf (n1 _ (.inr (.inr rfl))), ?_, h.ook, h.ne, ?_, ?_⟩, hf.mono fun b _ hb0 => ?_, fun b => ?_⟩
  · show MapL _ _ _ _ ((setA G.A a').map Ac.ent)
    rw [e1]
    exact h.accs.fr hf (n1 _ (.inr (.inl rfl)))
  · intro x hx
    rcases mem_setA hx with rfl | ⟨hx', hn⟩
    · exact h'
    · have hne : x ≠ a := fun e => hn (by rw [e, hb])
      have hb1 : x.blk ≠ a.blk := fun e => hne (mem_apart h.apart hx' ha (.inl e))
      have hb2 : x.mp ≠ a.mp := fun e => hne (mem_apart h.apart hx' ha (.inr e))
      refine (h.acc x hx').fr hf ?_ ?_
      · rintro (e | e)
        · exact hb1 e
        · exact hma.ne_blk (h.acc x hx').blk e.symm
      · rintro (e | e)
        · exact (h.acc x hx').mp.ne_blk hba e
        · exact hb2 e
  · intro x hx
    rcases mem_setA hx with rfl | ⟨hx', hn⟩
    · rw [hmp]; exact h.mps a ha
    · exact h.mps x hx'
  · show (setA G.A a').Pairwise _
    unfold setA
    rw [List.pairwise_map]
    refine h.apart.imp_of_mem fun {x y} hx hy hxy => ?_
    split <;> split
    · rename_i p q; exact absurd (p.trans q.symm) hxy.1
    · rename_i p q; rw [hin x hx p] at hxy; rw [hb, hmp]; exact hxy
    · rename_i p q; rw [hin y hy q] at hxy; rw [hb, hmp]; exact hxy
    · exact hxy
  · exact .inr (.inr (.inr ⟨a, ha, hb0⟩))
  · unfold Gd.own
    simp only
    refine or_congr_right (or_congr_right (or_congr_right ⟨?_, ?_⟩))
    · rintro ⟨x, hx, e⟩
      rcases mem_setA hx with rfl | ⟨hx', _⟩
      · exact ⟨a, ha, by rw [hb, hmp] at e; exact e⟩
      · exact ⟨x, hx', e⟩
    · rintro ⟨x, hx, e⟩
      by_cases hx' : x.blk = a'.blk
      · refine ⟨a', List.mem_map.2 ⟨x, hx, if_pos hx'⟩, ?_⟩
        rw [hin x hx hx'] at e
        rw [hb, hmp]; exact e
      · exact ⟨x, List.mem_map.2 ⟨x, hx, if_neg hx'⟩, e⟩
/-- What is open is otherwise now. -/
theorem GdAt.opened {w w' : World} {G : Gd} {O' : List Oo} (h : GdAt w G) (hf : Fr w w' (fun x => x = G.mo)) (hm : MapL Try.prog w' 3 G.mo (O'.map Oo.ent)) (hk : ∀ o ∈ O', o.ok) : GdAt w' { G with O := O' } :=
  ⟨h.blk.fr hf (fun e => h.opens.ne_blk h.blk e.symm), h.accs.fr hf h.ne, hm, fun a ha => (h.acc a ha).fr hf (fun e => h.opens.ne_blk (h.acc a ha).blk e.symm) (h.mps a ha).2, hk, h.ne, h.mps, h.apart⟩
set_option maxRecDepth 100000 in
set_option maxHeartbeats 1000000 in
theorem takes_any (a : Ac) (now : Int) (w : World) (h : AcAt w a) (n0 : 0 ≤ now) (n1 : now ≤ 253402300799999) :
    Calls Try.prog 23 #[.pointer (some ⟨a.blk, 0, none⟩), .int .i64 now] w fun e w' => e = .returned (.bool (tkB a now)) ∧ AcAt w' { a with due := tkD a now } ∧ Fr w w' (fun b => b = a.blk) := by
  have HD : Hid (0 ≤ tkD a now ∧ tkD a now ≤ 300000000000000) := tkD_bd h.ok n0 n1
  have HB : Hid (tkB a now = ((a.bu == 0 || a.pe == 0) || !decide (now + (a.bu - 1) * a.pe < a.due))) := rfl
  have HT : Hid (tkD a now = if a.bu = 0 ∨ a.pe = 0 ∨ now + (a.bu - 1) * a.pe < a.due then a.due else max a.due now + a.pe) := rfl
  generalize tkB a now = R at *
  generalize tkD a now = D at *
  obtain ⟨hb, hm, ok⟩ := h
  have hbu := ok.bu
  have hpe := ok.pe
  have hdu := ok.due
  have HM : Hid (MapL Try.prog w 9 a.mp (a.pos.map posE)) := hm
  have HK : Hid (a.ok) := ok
  have HN : Hid (a.mp ≠ a.blk) := hm.ne_blk hb
  have HBl : Hid (Blk w a.blk 72 a.cs) := hb
  have c4 := hb.cell 4
  have c5 := hb.cell 5
  have c7 := hb.cell 7
  have f7 := hb.frozen 7
  have hmul : (a.bu - 1) * a.pe ≤ 999 * 86400000 ∧ -86400000 ≤ (a.bu - 1) * a.pe := by
    refine ⟨Int.mul_le_mul (by omega) hpe.2 hpe.1 (by omega), ?_⟩
    by_cases h0 : a.bu = 0
    · rw [h0]; omega
    · have := Int.mul_nonneg (show 0 ≤ a.bu - 1 by omega) hpe.1; omega
  obtain ⟨nm, od, op, po, bu, pe, st, due, pos, blk, mp⟩ := a
  simp only [Ac.cs, List.getElem?_toArray, List.getElem?_cons_succ, List.getElem?_cons_zero] at *
  clear hb hm ok
  by_cases h1 : bu = 0
  · subst h1
    have hR : R = true := by rw [HB.out]; rfl
    have hD : D = due := by rw [HT.out, if_pos (.inl rfl)]
    clear HB HT
    subst hR hD
    go_enter Try.func23, Try.ntmps23
    go_upto_region 1 with fail
    go_quiet (fail)
    go_wp2
    go_ret
    exact ⟨rfl, ⟨HBl.out, HM.out, HK.out⟩, (Fr.refl _ _).drewN _⟩
  have h1' : (bu == 0) = false := by rw [beq_eq_false_iff_ne]; exact h1
  by_cases h2 : pe = 0
  · subst h2
    have hR : R = true := by rw [HB.out, h1']; rfl
    have hD : D = due := by rw [HT.out, if_pos (.inr (.inl rfl))]
    clear HB HT
    subst hR hD
    go_enter Try.func23, Try.ntmps23
    go_upto_region 1 with fail
    go_quiet (fail)
    go_wp2
    go_ret
    exact ⟨rfl, ⟨HBl.out, HM.out, HK.out⟩, (Fr.refl _ _).drewN _⟩
  have h2' : (pe == 0) = false := by rw [beq_eq_false_iff_ne]; exact h2
  by_cases h3 : now + (bu - 1) * pe < due
  · have hR : R = false := by rw [HB.out, h1', h2', decide_eq_true h3]; rfl
    have hD : D = due := by rw [HT.out, if_pos (.inr (.inr h3))]
    clear HB HT
    subst hR hD
    go_enter Try.func23, Try.ntmps23
    go_upto_region 1 with fail
    go_quiet (fail)
    go_wp2
    go_ret
    exact ⟨rfl, ⟨HBl.out, HM.out, HK.out⟩, (Fr.refl _ _).drewN _⟩
  · have hR : R = true := by rw [HB.out, h1', h2', decide_eq_false h3]; rfl
    have hD : D = max due now + pe := by rw [HT.out, if_neg (by omega)]
    clear HB HT
    subst hR
    have HD2 : Hid (D = max due now + pe) := hD
    clear hD
    go_enter Try.func23, Try.ntmps23
    go_upto_region 1 with fail
    go_quiet (fail)
    go_wp2
    go_ret
    refine ⟨rfl, ⟨?_, ?_, ?_⟩, ?_⟩
    · have := Blk.set (w := w.drewN nq) (show Blk (w.drewN nq) blk 72 _ from HBl.out) 7 (.int .i64 (max due now + pe))
      rw [← HD2.out] at this ⊢
      exact this
    · exact MapL.other (w := w.drewN nq) (show MapL Try.prog (w.drewN nq) 9 mp _ from HM.out.keep rfl) HN.out 7 _
    · exact ⟨HK.out.nm, HK.out.od, HK.out.op, HK.out.po, HK.out.bu, HK.out.pe, HD.out, HK.out.pos⟩
    · exact ((Fr.refl w (fun b => b = blk)).drewN nq).trans (Fr.setCell _ ⟨blk, 7, none⟩ _ (fun b => b = blk) rfl) fun i _ h => by rcases h with h | h <;> exact h
theorem getD_pos (a : Ac) (sy : ByteArray) : (atL (a.pos.map posE) (sK sy)).getD (.int .i64 0) = .int .i64 (posI a sy) := by
  rw [atL_pos]
  unfold posI
  cases a.pos.find? (fun p => p.1.toList == sy.toList) <;> rfl
/-- A position behind a trade. -/
def mvL (a : Ac) (sy : ByteArray) (q : Int) : List (ByteArray × Int) := if clI (posI a sy + q) = 0 then a.pos.filter (fun p => !(p.1.toList == sy.toList)) else (sy, clI (posI a sy + q)) :: a.pos.filter (fun p => !(p.1.toList == sy.toList))
set_option maxRecDepth 100000 in
set_option maxHeartbeats 1000000 in
theorem move_any (a : Ac) (sy : ByteArray) (q : Int) (w : World) (h : AcAt w a) (hs : sy.size ≤ maxLen) (hl : a.pos.length < maxLen) (q0 : -1000000 ≤ q) (q1 : q ≤ 1000000) :
    Calls Try.prog 26 #[.pointer (some ⟨a.blk, 0, none⟩), .string sy, .int .i64 q] w fun e w' => e = .returned (.tuple #[]) ∧ AcAt w' { a with pos := mvL a sy q } ∧ Fr w w' (fun b => b = a.mp) := by
  have HP := posI_bd h.ok sy
  have hkey : keyOf Try.prog 9 (.string sy) = some (sK sy) := keyS Try.underlying9 hs
  have hlk := (h.mp.look law9 Try.underlying70 (zero2 w) hkey).2
  rw [getD_pos] at hlk
  have hsum := fun w => sum_any (posI a sy) q w (by omega) (by omega) (by omega) (by omega)
  have c8 := h.blk.cell 8
  have HL : Hid (mvL a sy q = if clI (posI a sy + q) = 0 then a.pos.filter (fun p => !(p.1.toList == sy.toList)) else (sy, clI (posI a sy + q)) :: a.pos.filter (fun p => !(p.1.toList == sy.toList))) := rfl
  have HC : Hid (-1000000000000000000 ≤ clI (posI a sy + q) ∧ clI (posI a sy + q) ≤ 1000000000000000000) := clI_bd _
  have HA : Hid (AcAt w a) := h
  have HN : Hid (a.mp ≠ a.blk) := h.mp.ne_blk h.blk
  have HS : Hid (sy.size ≤ maxLen) := hs
  have hmp := h.mp
  have HM : Hid (MapL Try.prog w 9 a.mp (a.pos.map posE) ∧ (a.pos.map posE).length < maxLen) := ⟨h.mp, by rw [List.length_map]; exact hl⟩
  clear hmp h hs hl HP q0 q1
  generalize posI a sy = p0 at *
  generalize clI (p0 + q) = p1 at *
  generalize mvL a sy q = L at *
  simp only [Ac.cs, List.getElem?_toArray, List.getElem?_cons_succ, List.getElem?_cons_zero] at c8
  generalize hblk : a.blk = blk at *
  generalize hmpe : a.mp = mp at *
  have HE : Hid (a.blk = blk ∧ a.mp = mp) := ⟨hblk, hmpe⟩
  clear hblk hmpe
  have ok' : ∀ (l : List (ByteArray × Int)), (∀ p ∈ l, p.1.size ≤ maxLen ∧ -1000000000000000000 ≤ p.2 ∧ p.2 ≤ 1000000000000000000) → Ac.ok { a with pos := l } := fun l hl => ⟨HA.out.ok.nm, HA.out.ok.od, HA.out.ok.op, HA.out.ok.po, HA.out.ok.bu, HA.out.ok.pe, HA.out.ok.due, hl⟩
  have HO : Hid (∀ (l : List (ByteArray × Int)), (∀ p ∈ l, p.1.size ≤ maxLen ∧ -1000000000000000000 ≤ p.2 ∧ p.2 ≤ 1000000000000000000) → Ac.ok { a with pos := l }) := ok'
  clear ok'
  by_cases h0 : p1 = 0
  · subst h0
    rw [if_pos rfl] at HL
    go_enter Try.func26, Try.ntmps26
    go_wp2_with (go_at_call 41; fail)
    refine (hsum _).mono ?_
    rintro e w1 ⟨rfl, rfl⟩
    go_wp2_with (at_delete; refine wpL_delete _ rfl _ _ 70 9 rfl 2 law9 Try.underlying70 mp (a.pos.map posE) rfl HM.out.1 _ (sK sy) rfl hkey ?_; intro w2 hm2 hf2 hs2)
    refine ⟨by rfl, .tuple #[], results_none (by rfl) _ _ _, rfl, ?_, hf2⟩
    obtain ⟨rfl, rfl⟩ := HE.out
    rw [butL_pos, ← HL.out] at hm2
    refine ⟨HA.out.blk.fr hf2 (fun e => HN.out e.symm), hm2, HO.out L fun p hp => ?_⟩
    rw [HL.out] at hp
    exact HA.out.ok.pos p (List.mem_filter.1 hp).1
  · rw [if_neg h0] at HL
    have h0' : (p1 == 0) = false := by rw [beq_eq_false_iff_ne]; exact h0
    clear h0
    go_enter Try.func26, Try.ntmps26
    go_wp2_with (go_at_call 41; fail)
    refine (hsum _).mono ?_
    rintro e w1 ⟨rfl, rfl⟩
    go_wp2_with (at_mapUpdate; refine wpL_update _ rfl _ _ _ 70 rfl 9 2 law9 Try.underlying70 mp (a.pos.map posE) rfl HM.out.1 HM.out.2 _ (.int .i64 p1) (sK sy) rfl rfl hkey ?_; intro w2 hm2 hf2 hs2)
    refine ⟨by rfl, .tuple #[], results_none (by rfl) _ _ _, rfl, ?_, hf2⟩
    obtain ⟨rfl, rfl⟩ := HE.out
    rw [butL_pos, show (sK sy, Value.int .i64 p1) :: (a.pos.filter fun p => !(p.1.toList == sy.toList)).map posE = L.map posE by rw [HL.out]; rfl] at hm2
    refine ⟨HA.out.blk.fr hf2 (fun e => HN.out e.symm), hm2, HO.out L fun p hp => ?_⟩
    rw [HL.out] at hp
    rcases List.mem_cons.1 hp with rfl | hp
    · exact ⟨HS.out, HC.out⟩
    · exact HA.out.ok.pos p (List.mem_filter.1 hp).1
end Go.Proofs.Ytgioknkfppaaaaa
