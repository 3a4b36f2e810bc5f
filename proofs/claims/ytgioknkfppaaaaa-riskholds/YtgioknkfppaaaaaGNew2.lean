/-
  risk: New.
-/
import Derived.Test.YtgioknkfppaaaaaGNew
import Derived.Test.YtgioknkfppaaaaaGChk
namespace Go.Proofs.Ytgioknkfppaaaaa
set_option linter.unusedVariables false
set_option linter.unusedSimpArgs false
open Go.RowKit Go.Great Go.Maps

/-- What is handed in of an account. -/
structure Lim where
  nm : ByteArray
  od : Int
  op : Int
  po : Int
  bu : Int
  pe : Int
def Lim.cs (l : Lim) : Array Value := limV l.nm l.od l.op l.po l.bu l.pe
def Lim.ok (l : Lim) : Bool := isaB l.nm l.od l.op l.po l.bu l.pe
def Lim.ac (l : Lim) (b m : Nat) : Ac := ⟨l.nm, l.od, l.op, l.po, l.bu, l.pe, false, 0, [], b, m⟩
theorem Lim.small {l : Lim} (h : l.ok = true) : l.nm.size ≤ 12 := by
  unfold Lim.ok isaB at h
  simp only [Bool.and_eq_true] at h
  have h2 := h.2.1.1
  rw [isnB_eq] at h2
  simp only [Bool.and_eq_true, decide_eq_true_eq] at h2
  exact h2.1.2
theorem Lim.ac_ok {l : Lim} (h : l.ok = true) (b m : Nat) : (l.ac b m).ok := by
  have hs := Lim.small h
  unfold Lim.ok isaB at h
  simp only [Bool.and_eq_true, wiB_iff] at h
  obtain ⟨⟨⟨h1, h2⟩, h3⟩, ⟨_, h4⟩, h5⟩ := h
  exact ⟨by show l.nm.size ≤ maxLen; unfold maxLen; omega, h1, h2, h3, h4, h5, ⟨Int.le_refl _, by show (0 : Int) ≤ _; omega⟩, fun p hp => by cases hp⟩
set_option maxRecDepth 100000 in
set_option maxHeartbeats 1000000 in
theorem newAccount_any (l : Lim) (w : World) (hl : l.ok = true) :
    Calls Try.prog 20 #[.agg l.cs] w fun e w' => e = .returned (.pointer (some ⟨w.heap.size + 2, 0, none⟩)) ∧ AcAt w' (l.ac (w.heap.size + 2) (w.heap.size + 1)) ∧ Below w.heap.size w w' ∧ w'.heap.size = w.heap.size + 3 := by
  have hmm := @run_makeMap Try.prog
  have HOK : Hid ((l.ac (w.heap.size + 2) (w.heap.size + 1)).ok) := Lim.ac_ok hl _ _
  have HE : Hid (l.cs = #[.string l.nm, .int .i64 l.od, .int .i64 l.op, .int .i64 l.po, .int .i64 l.bu, .int .i64 l.pe]) := rfl
  rw [HE.out]
  go_enter Try.func20, Try.ntmps20
  go_wp2
  go_ret
  refine ⟨rfl, ⟨?_, ?_, HOK.out⟩, ((((Below.refl _ w).alloc (Nat.le_refl _) _).alloc (by simp) _).alloc (by simp; omega) _), by simp⟩
  · exact Blk.new' _ _ _ (by simp [Lim.ac])
  · refine MapL.alloc ?_ _
    have := MapL.made Try.prog (w.alloc (.cells #[.string l.nm, .int .i64 l.od, .int .i64 l.op, .int .i64 l.po, .int .i64 l.bu, .int .i64 l.pe] 30)) 9
    simpa [Lim.ac] using this
/-- Accounts in memory. -/
def LimsAt (w : World) (b off : Nat) (l : List Lim) : Prop := ∀ j x, l[j]? = some x → w.cell? ⟨b, off + j * 6, none⟩ = some (.string x.nm) ∧ w.cell? ⟨b, off + j * 6 + 1, none⟩ = some (.int .i64 x.od) ∧ w.cell? ⟨b, off + j * 6 + 2, none⟩ = some (.int .i64 x.op) ∧ w.cell? ⟨b, off + j * 6 + 3, none⟩ = some (.int .i64 x.po) ∧ w.cell? ⟨b, off + j * 6 + 4, none⟩ = some (.int .i64 x.bu) ∧ w.cell? ⟨b, off + j * 6 + 5, none⟩ = some (.int .i64 x.pe)
/-- The accounts of a guard that was made: as they were handed in, in blocks behind B. -/
structure Fresh (B : Nat) (l : List Lim) (G : Gd) : Prop where
  len : G.A.length = l.length
  ac : ∀ (j : Nat) (x : Lim), l[j]? = some x → ∃ b m, G.A[j]? = some (x.ac b m) ∧ B ≤ b ∧ B ≤ m
  o : G.O = []
  g : B ≤ G.g ∧ B ≤ G.ma ∧ B ≤ G.mo
theorem Fresh.own {B : Nat} {l : List Lim} {G : Gd} (h : Fresh B l G) {b : Nat} (hb : G.own b) : B ≤ b := by
  rcases hb with rfl | rfl | rfl | ⟨a, ha, hb⟩
  · exact h.g.1
  · exact h.g.2.1
  · exact h.g.2.2
  · obtain ⟨j, hj⟩ := List.mem_iff_getElem?.1 ha
    have hlt : j < l.length := by rw [← h.len]; exact (List.getElem?_eq_some_iff.1 hj).1
    obtain ⟨b1, m1, e, h1, h2⟩ := h.ac j l[j] (List.getElem?_eq_getElem hlt)
    rw [hj] at e
    injection e with e
    rcases hb with rfl | rfl
    · rw [e]; exact h1
    · rw [e]; exact h2
/-- One account more. -/
theorem GdAt.more {w w1 w' : World} {G : Gd} {a : Ac} (h : GdAt w G) (hb : Below w.heap.size w w1) (ha : AcAt w1 a) (h1 : w.heap.size ≤ a.blk) (h2 : w.heap.size ≤ a.mp) (hn : ∀ x ∈ G.A, (x.nm.toList == a.nm.toList) = false)
    (hf : Fr w1 w' (fun x => x = G.ma)) (hm : MapL Try.prog w' 9 G.ma ((sK a.nm, .pointer (some ⟨a.blk, 0, none⟩)) :: butL (G.A.map Ac.ent) (sK a.nm))) : GdAt w' { G with A := G.A ++ [a] } := by
  have g1 := h.below hb
  have hlt : ∀ b, G.own b → b < w.heap.size := fun b hb => h.lt hb
  have n1 : ∀ b, G.own b → b ≠ a.blk ∧ b ≠ a.mp := fun b hb => by have := hlt b hb; exact ⟨by omega, by omega⟩
  have nma : G.own G.ma := .inr (.inl rfl)
  have hbut : butL (G.A.map Ac.ent) (sK a.nm) = G.A.map Ac.ent := by
    unfold butL
    rw [List.filter_eq_self]
    intro p hp
    obtain ⟨x, hx, rfl⟩ := List.mem_map.1 hp
    rw [show (Ac.ent x).1 = sK x.nm from rfl, sameKey_sK, hn x hx]; rfl
  rw [hbut] at hm
  refine ⟨g1.blk.fr hf (fun e => g1.accs.ne_blk g1.blk e.symm), ?_, g1.opens.fr hf (fun e => h.ne e.symm), ?_, h.ook, h.ne, ?_, ?_⟩
  · refine hm.perm ?_
    show List.Perm (a.ent :: G.A.map Ac.ent) ((G.A ++ [a]).map Ac.ent)
    rw [List.map_append]
    exact List.perm_append_singleton _ _ |>.symm
  · intro x hx
    rcases List.mem_append.1 hx with hx | hx
    · exact (g1.acc x hx).fr hf (fun e => g1.accs.ne_blk (g1.acc x hx).blk e.symm) (h.mps x hx).1
    · rw [List.mem_singleton.1 hx]
      exact ha.fr hf (fun e => g1.accs.ne_blk ha.blk e.symm) (fun e => (n1 _ nma).2 e.symm)
  · intro x hx
    rcases List.mem_append.1 hx with hx | hx
    · exact h.mps x hx
    · rw [List.mem_singleton.1 hx]
      exact ⟨fun e => (n1 _ nma).2 e.symm, fun e => (n1 G.mo (.inr (.inr (.inl rfl)))).2 e.symm⟩
  · refine List.pairwise_append.2 ⟨h.apart, List.pairwise_singleton _ _, fun x hx y hy => ?_⟩
    rw [List.mem_singleton.1 hy]
    exact ⟨(n1 x.blk (.inr (.inr (.inr ⟨x, hx, .inl rfl⟩)))).1, (n1 x.mp (.inr (.inr (.inr ⟨x, hx, .inr rfl⟩)))).2⟩
/-- All may be, and no name stands twice. -/
structure LimsOk (l : List Lim) : Prop where
  n : l.length ≤ 16
  ok : ∀ x ∈ l, x.ok = true
  apart : l.Pairwise fun x y => (x.nm.toList == y.nm.toList) = false
set_option maxRecDepth 100000 in
set_option maxHeartbeats 2000000 in
theorem New_yes (b off cap : Nat) (l : List Lim) (w : World) (hl : LimsAt w b off l) (hk : LimsOk l) :
    Calls Try.prog 9 #[.slice (some ⟨b, off, none⟩) l.length cap] w fun e w' => ∃ G, e = .returned (.tuple #[.pointer (some ⟨G.g, 0, none⟩), .int .i64 0]) ∧ GdAt w' G ∧ Fresh w.heap.size l G ∧ Below w.heap.size w w' := by
  have hmm := @run_makeMap Try.prog
  have hn := hk.n
  have HL : Hid (LimsAt w b off l ∧ LimsOk l) := ⟨hl, hk⟩
  clear hl hk
  have hn' : ¬ (16 : Int) < (l.length : Int) := by omega
  have HG0 : Hid (GdAt (((w.alloc (.map #[] 0)).alloc (.map #[] 0)).alloc (.cells #[.map (some w.heap.size), .map (some (w.heap.size + 1))] 63)) ⟨w.heap.size + 1 + 1, w.heap.size, w.heap.size + 1, [], []⟩ ∧ Below w.heap.size w (((w.alloc (.map #[] 0)).alloc (.map #[] 0)).alloc (.cells #[.map (some w.heap.size), .map (some (w.heap.size + 1))] 63))) := by
    refine ⟨⟨Blk.new' _ _ _ (by simp), ((MapL.made Try.prog w 9).alloc _).alloc _, ?_, fun a ha => (List.not_mem_nil ha).elim, fun o ho => (List.not_mem_nil ho).elim, by simp, fun a ha => (List.not_mem_nil ha).elim, List.Pairwise.nil⟩, ((((Below.refl _ w).alloc (Nat.le_refl _) _).alloc (by simp) _).alloc (by simp; omega) _)⟩
    have := (MapL.made Try.prog (w.alloc (.map #[] 0)) 3).alloc (.cells #[.map (some w.heap.size), .map (some (w.heap.size + 1))] 63)
    simpa using this
  go_enter Try.func9, Try.ntmps9
  go_upto_region 4 with fail
  generalize (((w.alloc (.map #[] 0)).alloc (.map #[] 0)).alloc (.cells #[.map (some w.heap.size), .map (some (w.heap.size + 1))] 63)) = W at *
  go_wp2
  go_loopw [18] (fun i wr => ∃ (k : Nat) (A : List Ac), k ≤ l.length ∧ i = .int .i64 k ∧ Hid (GdAt wr ⟨w.heap.size + 1 + 1, w.heap.size, w.heap.size + 1, A, []⟩ ∧ Fresh w.heap.size (l.take k) ⟨w.heap.size + 1 + 1, w.heap.size, w.heap.size + 1, A, []⟩ ∧ Below w.heap.size w wr)) (fun i _ => l.length - (intOf i).toNat)
  case atStart => exact ⟨0, [], by omega, rfl, HG0.out.1, ⟨rfl, fun j x hj => by simp at hj, rfl, ⟨by show w.heap.size ≤ w.heap.size + 1 + 1; omega, Nat.le_refl _, Nat.le_succ _⟩⟩, HG0.out.2⟩
  case round =>
    obtain ⟨k, A, hk, rfl, HI⟩ := hrel
    by_cases hlt : k < l.length
    · have hlt' : (k : Int) < (l.length : Int) := by omega
      obtain ⟨x, hx⟩ : ∃ x, l[k]? = some x := ⟨l[k], List.getElem?_eq_getElem hlt⟩
      have hxm : x ∈ l := List.mem_of_getElem? hx
      have hok := HL.out.2.ok x hxm
      obtain ⟨q0, q1, q2, q3, q4, q5⟩ := HL.out.1 k x hx
      have hbl : b < w.heap.size := World.block_lt_of_cell? _ _ q0
      have m0 := HI.out.2.2.cell (p := ⟨b, off + k * 6, none⟩) hbl
      have m1 := HI.out.2.2.cell (p := ⟨b, off + k * 6 + 1, none⟩) hbl
      have m2 := HI.out.2.2.cell (p := ⟨b, off + k * 6 + 2, none⟩) hbl
      have m3 := HI.out.2.2.cell (p := ⟨b, off + k * 6 + 3, none⟩) hbl
      have m4 := HI.out.2.2.cell (p := ⟨b, off + k * 6 + 4, none⟩) hbl
      have m5 := HI.out.2.2.cell (p := ⟨b, off + k * 6 + 5, none⟩) hbl
      rw [q0] at m0; rw [q1] at m1; rw [q2] at m2; rw [q3] at m3; rw [q4] at m4; rw [q5] at m5
      have HX : Hid (x.ok = true ∧ l[k]? = some x ∧ x ∈ l) := ⟨hok, hx, hxm⟩
      have hsz : x.nm.size ≤ maxLen := by have := Lim.small hok; unfold maxLen; omega
      have HNO : Hid (∀ y ∈ A, (y.nm.toList == x.nm.toList) = false) := fun y hy => by
        obtain ⟨j, hj⟩ := List.mem_iff_getElem?.1 hy
        have hjl : j < (l.take k).length := by rw [← HI.out.2.1.len]; exact (List.getElem?_eq_some_iff.1 hj).1
        have hjk : j < k := by rw [List.length_take] at hjl; omega
        have hje : (l.take k)[j]? = some l[j] := by rw [List.getElem?_take_of_lt hjk]; exact List.getElem?_eq_getElem (by omega)
        obtain ⟨b1, m1, e, _⟩ := HI.out.2.1.ac j _ hje
        have e' : y = l[j].ac b1 m1 := by have := hj.symm.trans e; injection this
        rw [e']
        have hp := List.pairwise_iff_getElem.1 HL.out.2.apart j k (by omega) hlt hjk
        have hxe : l[k] = x := by have := (List.getElem?_eq_getElem hlt).symm.trans hx; injection this
        rw [hxe] at hp
        exact hp
      have HKA : Hid (∀ w, Calls Try.prog 19 #[.agg #[.string x.nm, .int .i64 x.od, .int .i64 x.op, .int .i64 x.po, .int .i64 x.bu, .int .i64 x.pe]] w fun e w' => e = .returned (.bool true) ∧ Below w.heap.size w w') := fun w => by
        have := isAccount_any x.nm x.od x.op x.po x.bu x.pe w
        rw [show isaB x.nm x.od x.op x.po x.bu x.pe = true from hok] at this
        exact this
      have HKN : Hid (∀ w, Calls Try.prog 20 #[.agg #[.string x.nm, .int .i64 x.od, .int .i64 x.op, .int .i64 x.po, .int .i64 x.bu, .int .i64 x.pe]] w fun e w' => e = .returned (.pointer (some ⟨w.heap.size + 2, 0, none⟩)) ∧ AcAt w' (x.ac (w.heap.size + 2) (w.heap.size + 1)) ∧ Below w.heap.size w w' ∧ w'.heap.size = w.heap.size + 3) := fun w => newAccount_any x w hok
      clear hok hx hxm q0 q1 q2 q3 q4 q5 hbl
      go_upto_region 7 with fail
      have HX1 : Hid (Below wr.heap.size wr (wr.alloc (.cells #[.string x.nm, .int .i64 x.od, .int .i64 x.op, .int .i64 x.po, .int .i64 x.bu, .int .i64 x.pe] 30)) ∧ Blk (wr.alloc (.cells #[.string x.nm, .int .i64 x.od, .int .i64 x.op, .int .i64 x.po, .int .i64 x.bu, .int .i64 x.pe] 30)) wr.heap.size 30 #[.string x.nm, .int .i64 x.od, .int .i64 x.op, .int .i64 x.po, .int .i64 x.bu, .int .i64 x.pe]) := ⟨(Below.refl _ wr).alloc (Nat.le_refl _) _, Blk.new _ _ _⟩
      clear m0 m1 m2 m3 m4 m5
      generalize (wr.alloc (.cells #[.string x.nm, .int .i64 x.od, .int .i64 x.op, .int .i64 x.po, .int .i64 x.bu, .int .i64 x.pe] 30)) = X1 at *
      have HS : Hid (∀ w', Below X1.heap.size X1 w' → w'.cell? ⟨w.heap.size + 1 + 1, 0, none⟩ = some (.map (some w.heap.size)) ∧ w'.cell? ⟨wr.heap.size, 0, none⟩ = some (.string x.nm) ∧ w'.cell? ⟨wr.heap.size, 1, none⟩ = some (.int .i64 x.od) ∧ w'.cell? ⟨wr.heap.size, 2, none⟩ = some (.int .i64 x.op) ∧ w'.cell? ⟨wr.heap.size, 3, none⟩ = some (.int .i64 x.po) ∧ w'.cell? ⟨wr.heap.size, 4, none⟩ = some (.int .i64 x.bu) ∧ w'.cell? ⟨wr.heap.size, 5, none⟩ = some (.int .i64 x.pe)) := fun w' hb => by
        have b1 := HX1.out.2.below hb HX1.out.2.lt
        have g1 := (HI.out.1.below (below_step HX1.out.1 hb)).blk
        exact ⟨g1.cell 0, b1.cell 0, b1.cell 1, b1.cell 2, b1.cell 3, b1.cell 4, b1.cell 5⟩
      obtain ⟨d0, e0, e1, e2, e3, e4, e5⟩ := HS.out X1 (Below.refl _ _)
      go_wp2_with (go_at_call 19; fail)
      refine (HKA.out _).mono ?_
      rintro e X2 ⟨rfl, hb2⟩
      clear d0 e0 e1 e2 e3 e4 e5
      have HB2 : Hid (Below X1.heap.size X1 X2) := hb2
      clear hb2
      obtain ⟨d0, e0, e1, e2, e3, e4, e5⟩ := HS.out X2 HB2.out
      have hlk : ∀ n, Sem.run Try.prog (Instr.lookup 60 (.map (some w.heap.size)) (.string x.nm) true) (X2.drewN n) = .ok (.tuple #[.pointer none, .bool false]) (X2.drewN n) := fun n => by
        have g2 := HI.out.1.below (below_step HX1.out.1 (below_drewN HB2.out n))
        refine look_none g2 hsz ?_
        unfold Gd.acc
        rw [List.find?_eq_none]
        intro y hy
        rw [HNO.out y hy]; simp
      go_upto_region 9 with fail
      go_quiet (fail)
      have HB3 : Hid (Below X1.heap.size X1 (X2.drewN nq)) := below_drewN HB2.out nq
      clear hlk d0 e0 e1 e2 e3 e4 e5 HB2
      generalize X2.drewN nq = X3 at *
      go_upto_region 12 with fail
      have hBx : Below X1.heap.size X1 X3.drew := ⟨HB3.out.os, HB3.out.tape, HB3.out.output, HB3.out.size, HB3.out.block⟩
      have HG3 : Hid (∀ w', Below X1.heap.size X1 w' → GdAt w' ⟨w.heap.size + 1 + 1, w.heap.size, w.heap.size + 1, A, []⟩) := fun w' hb => HI.out.1.below (below_step HX1.out.1 hb)
      have hAl : (A.map Ac.ent).length < maxLen := by
        have := HI.out.2.1.len
        rw [List.length_take] at this
        simp only at this
        rw [List.length_map]; unfold maxLen; omega
      have hkey : keyOf Try.prog 9 (.string x.nm) = some (sK x.nm) := keyS Try.underlying9 hsz
      have HS9 : Hid (∀ w8 w', Below X1.heap.size X1 w8 → Fr w8 w' (fun x => x = w.heap.size) → w'.cell? ⟨w.heap.size + 1 + 1, 0, none⟩ = some (.map (some w.heap.size)) ∧ w'.cell? ⟨wr.heap.size, 0, none⟩ = some (.string x.nm) ∧ w'.cell? ⟨wr.heap.size, 1, none⟩ = some (.int .i64 x.od) ∧ w'.cell? ⟨wr.heap.size, 2, none⟩ = some (.int .i64 x.op) ∧ w'.cell? ⟨wr.heap.size, 3, none⟩ = some (.int .i64 x.po) ∧ w'.cell? ⟨wr.heap.size, 4, none⟩ = some (.int .i64 x.bu) ∧ w'.cell? ⟨wr.heap.size, 5, none⟩ = some (.int .i64 x.pe)) := fun w8 w' hb hf => by
        have g8 := HG3.out w8 hb
        obtain ⟨d0, e0, e1, e2, e3, e4, e5⟩ := HS.out w8 hb
        have n1 : w.heap.size + 1 + 1 ≠ w.heap.size := by omega
        have n2 : wr.heap.size ≠ w.heap.size := fun e => by
          have := HX1.out.2.below hb HX1.out.2.lt
          exact g8.accs.ne_blk this e.symm
        exact ⟨hf.cell d0 n1, hf.cell e0 n2, hf.cell e1 n2, hf.cell e2 n2, hf.cell e3 n2, hf.cell e4 n2, hf.cell e5 n2⟩
      go_region_held (fun w' => w'.cell? ⟨w.heap.size + 1 + 1, 0, none⟩ = some (.map (some w.heap.size)) ∧ w'.cell? ⟨wr.heap.size, 0, none⟩ = some (.string x.nm) ∧ w'.cell? ⟨wr.heap.size, 1, none⟩ = some (.int .i64 x.od) ∧ w'.cell? ⟨wr.heap.size, 2, none⟩ = some (.int .i64 x.op) ∧ w'.cell? ⟨wr.heap.size, 3, none⟩ = some (.int .i64 x.po) ∧ w'.cell? ⟨wr.heap.size, 4, none⟩ = some (.int .i64 x.bu) ∧ w'.cell? ⟨wr.heap.size, 5, none⟩ = some (.int .i64 x.pe)) (first | exact hS9 | exact HS.out _ hB8 | exact HS.out _ hBx) (first | (go_at_call 20; refine (HKN.out _).mono ?_; rintro e w8 ⟨rfl, hA8, hb8, hz8⟩; have hB8 : Below X1.heap.size X1 w8 := below_step hBx hb8; obtain ⟨w9, hrun9, hm9, hf9, hz9⟩ := (HG3.out w8 hB8).accs.store law9 Try.underlying60 hAl (val := .pointer (some ⟨X3.heap.size + 2, 0, none⟩)) hkey; have hS9 := HS9.out w8 w9 hB8 hf9) | fail)
      have HN : Hid (GdAt w9 ⟨w.heap.size + 1 + 1, w.heap.size, w.heap.size + 1, A ++ [x.ac (X3.heap.size + 2) (X3.heap.size + 1)], []⟩ ∧ Fresh w.heap.size (l.take (k + 1)) ⟨w.heap.size + 1 + 1, w.heap.size, w.heap.size + 1, A ++ [x.ac (X3.heap.size + 2) (X3.heap.size + 1)], []⟩ ∧ Below w.heap.size w w9) := by
        have b1 : Below w.heap.size w X1 := below_step HI.out.2.2 HX1.out.1
        have b3 : Below w.heap.size w X3 := below_step b1 HB3.out
        have b8 : Below w.heap.size w w8 := below_step b1 hB8
        refine ⟨?_, ?_, ?_⟩
        · exact GdAt.more (w := X3) (w1 := w8) (G := ⟨w.heap.size + 1 + 1, w.heap.size, w.heap.size + 1, A, []⟩) (a := x.ac (X3.heap.size + 2) (X3.heap.size + 1)) (HG3.out X3 HB3.out) ⟨hb8.os, hb8.tape, hb8.output, hb8.size, hb8.block⟩ hA8 (by show X3.heap.size ≤ X3.heap.size + 2; omega) (by show X3.heap.size ≤ X3.heap.size + 1; omega) HNO.out hf9 hm9
        · have hf := HI.out.2.1
          have hln := hf.len
          have htk : l.take (k + 1) = l.take k ++ [x] := by rw [List.take_add_one, HX.out.2.1]; rfl
          rw [htk]
          refine ⟨by show (A ++ [_]).length = _; rw [List.length_append, List.length_append]; simp only at hln; rw [hln]; rfl, fun j y hy => ?_, rfl, hf.g⟩
          show ∃ b m, (A ++ [_])[j]? = _ ∧ _
          rw [List.getElem?_append] at hy ⊢
          simp only at hln
          rw [hln]
          split at hy
          · rename_i hjl
            rw [if_pos hjl]
            exact hf.ac j y hy
          · rename_i hjl
            rw [if_neg hjl]
            have h0 : j - (l.take k).length = 0 := by
              rcases Nat.eq_zero_or_pos (j - (l.take k).length) with h | h
              · exact h
              · rw [List.getElem?_eq_none (by show 1 ≤ _; exact h)] at hy; cases hy
            rw [h0] at hy ⊢
            have hy' : y = x := by simpa using hy.symm
            rw [hy']
            exact ⟨X3.heap.size + 2, X3.heap.size + 1, rfl, by have := b3.size; omega, by have := b3.size; omega⟩
        · exact ⟨hf9.os.trans b8.os, hf9.tape.trans b8.tape, hf9.output.trans b8.output, Nat.le_trans b8.size hf9.size, fun q hq => (hf9.block q (Nat.lt_of_lt_of_le hq b8.size) (by omega)).trans (b8.block q hq)⟩
      clear hm9 hf9 hB8 hb8 hrun9 hS9 hA8 hz8 hz9
      go_wp2
      exact ⟨⟨k + 1, _, by omega, by go_num, HN⟩, by simp [intOf]; omega⟩
    · obtain rfl : k = l.length := by omega
      have HE : Hid (l.take l.length = l) := List.take_length
      go_wp2
      go_ret2
      refine ⟨⟨w.heap.size + 1 + 1, w.heap.size, w.heap.size + 1, A, []⟩, rfl, HI.out.1, ?_, HI.out.2.2⟩
      have := HI.out.2.1
      rw [HE.out] at this
      exact this
end Go.Proofs.Ytgioknkfppaaaaa
