/-
  risk: shown.
-/
import Derived.Test.YtgioknkfppaaaaaGLaw0
namespace Go.Proofs.Ytgioknkfppaaaaa
set_option linter.unusedVariables false
set_option linter.unusedSimpArgs false
open Go.RowKit Go.Great Go.Maps

/-- New of one account that the caller has made. -/
theorem New_one (l : Lim) (hl : l.ok = true) (hnm : l.nm = sA) (w : World) (b : Nat) (cap : Nat) (hb : Blk w b 30 l.cs) :
    Calls Try.prog 9 #[.slice (some ⟨b, 0, none⟩) 1 cap] w fun e w' => ∃ g ma mo bb mm, e = .returned (.tuple #[.pointer (some ⟨g, 0, none⟩), .int .i64 0]) ∧ On w.heap.size w w' g ma mo (l.ac bb mm) [] := by
  have hL : LimsAt w b 0 [l] := fun j x hj => by
    have hj0 : j = 0 := by
      rcases Nat.eq_zero_or_pos j with h | h
      · exact h
      · rw [List.getElem?_eq_none (by show 1 ≤ j; exact h)] at hj; cases hj
    subst hj0
    have hx : x = l := by simpa using hj.symm
    subst hx
    exact ⟨hb.cell 0, hb.cell 1, hb.cell 2, hb.cell 3, hb.cell 4, hb.cell 5⟩
  refine (New_yes b 0 cap [l] w hL ⟨by show 1 ≤ 16; decide, fun x hx => by rw [List.mem_singleton.1 hx]; exact hl, List.pairwise_singleton _ _⟩).mono fun e w' ⟨G, h1, h2, h3, h4⟩ => ?_
  obtain ⟨bb, mm, e1, _⟩ := h3.ac 0 l rfl
  have e2 : G = oneG G.g G.ma G.mo (l.ac bb mm) [] := by
    have hlen := h3.len
    have ho := h3.o
    obtain ⟨g, ma, mo, A, O⟩ := G
    simp only at e1 hlen ho
    unfold oneG
    match A, hlen, e1 with
    | [x], _, e1 => simp at e1; rw [e1, ho]
  refine ⟨G.g, G.ma, G.mo, bb, mm, h1, ?_, ?_, h4, Nat.le_refl _, hnm, rfl⟩
  · rw [← e2]; exact h2
  · rw [← e2]; exact fun b hb => h3.own hb
def exL : Lim := ⟨sA, 1000, 0, 100, 0, 0⟩
theorem exL_ok : exL.ok = true := by decide
theorem tk0 (a : Ac) (now : Int) (h : a.bu = 0) : tkB a now = true ∧ tkD a now = a.due := by
  unfold tkB tkD
  rw [h]
  exact ⟨rfl, if_pos (.inl rfl)⟩
def AX (bb mm : Nat) : Ac := ⟨sA, 1000, 0, 100, 0, 0, false, 0, [(sX, 60)], bb, mm⟩
def OX : Oo := ⟨2, sA, sX, 1, 30, 30⟩
theorem ov_x : ovI [OX] sA 0 = 30 := by
  simp only [ovI, ovL, OX, List.filter_cons, List.filter_nil, str_self]
  rfl
theorem pos_x (bb mm : Nat) : posI (AX bb mm) sX = 60 := by
  simp only [posI, AX, List.find?_cons, str_self]
  rfl
theorem ev3_1_1_10 (bb mm : Nat) : (if tkB (AX bb mm) 0 = false then 151 else if abB (AX bb mm) [OX] (ordO 3 1 1 10) (valI (ordO 3 1 1 10) 0) = true then 150 else 0) = (0 : Int) := by
  simp only [abB, rcI, pos_x, rcL, OX, ordO, List.filter_cons, List.filter_nil, str_self]
  rfl
theorem ev3_1_1_11 (bb mm : Nat) : (if tkB (AX bb mm) 0 = false then 151 else if abB (AX bb mm) [OX] (ordO 3 1 1 11) (valI (ordO 3 1 1 11) 0) = true then 150 else 0) = (150 : Int) := by
  simp only [abB, rcI, pos_x, rcL, OX, ordO, List.filter_cons, List.filter_nil, str_self]
  rfl
theorem ev3_2_1_160 (bb mm : Nat) : (if tkB (AX bb mm) 0 = false then 151 else if abB (AX bb mm) [OX] (ordO 3 2 1 160) (valI (ordO 3 2 1 160) 0) = true then 150 else 0) = (0 : Int) := by
  simp only [abB, rcI, pos_x, rcL, OX, ordO, List.filter_cons, List.filter_nil, str_self]
  rfl
theorem ev3_2_1_161 (bb mm : Nat) : (if tkB (AX bb mm) 0 = false then 151 else if abB (AX bb mm) [OX] (ordO 3 2 1 161) (valI (ordO 3 2 1 161) 0) = true then 150 else 0) = (150 : Int) := by
  simp only [abB, rcI, pos_x, rcL, OX, ordO, List.filter_cons, List.filter_nil, str_self]
  rfl
set_option maxRecDepth 100000 in
set_option maxHeartbeats 1000000 in
theorem shown_any (w : World) : Calls Try.prog 7 #[] w fun e w' => e = .returned (.bool true) ∧ Below w.heap.size w w' := by
  have HN : Hid (∀ (c : Array Value), c = exL.cs → Calls Try.prog 9 #[.slice (some ⟨w.heap.size, 0, none⟩) 1 1] (w.alloc (.cells c 30)) fun e w' => ∃ g ma mo bb mm, e = .returned (.tuple #[.pointer (some ⟨g, 0, none⟩), .int .i64 0]) ∧ On w.heap.size w w' g ma mo (exL.ac bb mm) []) := fun c hc => by
    refine (New_one exL exL_ok rfl (w.alloc (.cells c 30)) w.heap.size 1 (by rw [hc]; exact Blk.new _ _ _)).mono fun e w' ⟨g, ma, mo, bb, mm, h1, h2⟩ => ⟨g, ma, mo, bb, mm, h1, h2.gd, ?_, ?_, Nat.le_refl _, h2.nm, h2.st⟩
    · intro b hb
      have := h2.low b hb
      simp at this
      omega
    · have hb0 : Below w.heap.size w (w.alloc (.cells c 30)) := (Below.refl _ w).alloc (Nat.le_refl _) _
      exact below_step hb0 h2.bel
  go_enter Try.func7, Try.ntmps7
  go_wp2_with (go_at_call 9; fail)
  refine (HN.out _ rfl).mono ?_
  rintro e W0 ⟨g, ma, mo, bb, mm, rfl, on0⟩
  have H0 : Hid (On w.heap.size w W0 g ma mo (exL.ac bb mm) []) := on0
  clear on0 HN
  go_wp2_with (go_at_call 11; fail)
  refine (order_any 1 1 101 10 _).mono ?_
  rintro e V0 ⟨rfl, hb⟩
  have K0 : Hid (On w.heap.size w V0 g ma mo (exL.ac bb mm) []) := H0.out.below hb
  clear hb H0
  have hck := Check_on K0.out 1 1 101 10 0 (by omega) (by omega) (by omega) (by omega)
  rw [show (if tkB (exL.ac bb mm) 0 = false then 151 else if abB (exL.ac bb mm) [] (ordO 1 1 101 10) (valI (ordO 1 1 101 10) 0) = true then 150 else 0) = (150 : Int) from by rfl] at hck
  go_wp2_with (go_at_call 10; fail)
  refine hck.mono ?_
  rintro e W1 ⟨rfl, on⟩
  have H1 : Hid (On w.heap.size w W1 g ma mo (exL.ac bb mm) []) := on
  clear on hck K0
  go_wp2_with (go_at_call 11; fail)
  refine (order_any 1 1 100 10 _).mono ?_
  rintro e V1 ⟨rfl, hb⟩
  have K1 : Hid (On w.heap.size w V1 g ma mo (exL.ac bb mm) []) := H1.out.below hb
  clear hb H1
  have hck := Check_on K1.out 1 1 100 10 0 (by omega) (by omega) (by omega) (by omega)
  rw [show (if tkB (exL.ac bb mm) 0 = false then 151 else if abB (exL.ac bb mm) [] (ordO 1 1 100 10) (valI (ordO 1 1 100 10) 0) = true then 150 else 0) = (0 : Int) from by rfl] at hck
  go_wp2_with (go_at_call 10; fail)
  refine hck.mono ?_
  rintro e W2 ⟨rfl, on⟩
  have H2 : Hid (On w.heap.size w W2 g ma mo (exL.ac bb mm) []) := on
  clear on hck K1
  have htr := Trade_on H2.out 60 (by decide) (by decide) (by show 0 < maxLen; decide)
  rw [show ({ (exL.ac bb mm) with pos := mvL (exL.ac bb mm) sX 60 } : Ac) = AX bb mm from by rfl] at htr
  go_wp2_with (go_at_call 13; fail)
  refine htr.mono ?_
  rintro e W3 ⟨rfl, on⟩
  have H3 : Hid (On w.heap.size w W3 g ma mo (AX bb mm) []) := on
  clear on htr H2
  go_wp2_with (go_at_call 11; fail)
  refine (order_any 2 1 1 30 _).mono ?_
  rintro e V3 ⟨rfl, hb⟩
  have K3 : Hid (On w.heap.size w V3 g ma mo (AX bb mm) []) := H3.out.below hb
  clear hb H3
  have hop := Open_on K3.out 2 1 1 30 (by omega) (by omega) (by omega) (by omega) (by omega) (fun x hx => by cases hx) (by decide)
  rw [show ((ordO 2 1 1 30).oo 0 :: doO [] 2) = [OX] from by rfl] at hop
  go_wp2_with (go_at_call 12; fail)
  refine hop.mono ?_
  rintro e W4 ⟨rfl, on⟩
  have H4 : Hid (On w.heap.size w W4 g ma mo (AX bb mm) [OX]) := on
  clear on hop K3
  go_wp2_with (go_at_call 11; fail)
  refine (order_any 3 1 1 10 _).mono ?_
  rintro e V4 ⟨rfl, hb⟩
  have K4 : Hid (On w.heap.size w V4 g ma mo (AX bb mm) [OX]) := H4.out.below hb
  clear hb H4
  have hck := Check_on K4.out 3 1 1 10 0 (by omega) (by omega) (by omega) (by omega)
  rw [show (if tkB (AX bb mm) 0 = false then 151 else if abB (AX bb mm) [OX] (ordO 3 1 1 10) (valI (ordO 3 1 1 10) 0) = true then 150 else 0) = (0 : Int) from ev3_1_1_10 bb mm] at hck
  go_wp2_with (go_at_call 10; fail)
  refine hck.mono ?_
  rintro e W5 ⟨rfl, on⟩
  have H5 : Hid (On w.heap.size w W5 g ma mo (AX bb mm) [OX]) := on
  clear on hck K4
  go_wp2_with (go_at_call 11; fail)
  refine (order_any 3 1 1 11 _).mono ?_
  rintro e V5 ⟨rfl, hb⟩
  have K5 : Hid (On w.heap.size w V5 g ma mo (AX bb mm) [OX]) := H5.out.below hb
  clear hb H5
  have hck := Check_on K5.out 3 1 1 11 0 (by omega) (by omega) (by omega) (by omega)
  rw [show (if tkB (AX bb mm) 0 = false then 151 else if abB (AX bb mm) [OX] (ordO 3 1 1 11) (valI (ordO 3 1 1 11) 0) = true then 150 else 0) = (150 : Int) from ev3_1_1_11 bb mm] at hck
  go_wp2_with (go_at_call 10; fail)
  refine hck.mono ?_
  rintro e W6 ⟨rfl, on⟩
  have H6 : Hid (On w.heap.size w W6 g ma mo (AX bb mm) [OX]) := on
  clear on hck K5
  go_wp2_with (go_at_call 11; fail)
  refine (order_any 3 2 1 160 _).mono ?_
  rintro e V6 ⟨rfl, hb⟩
  have K6 : Hid (On w.heap.size w V6 g ma mo (AX bb mm) [OX]) := H6.out.below hb
  clear hb H6
  have hck := Check_on K6.out 3 2 1 160 0 (by omega) (by omega) (by omega) (by omega)
  rw [show (if tkB (AX bb mm) 0 = false then 151 else if abB (AX bb mm) [OX] (ordO 3 2 1 160) (valI (ordO 3 2 1 160) 0) = true then 150 else 0) = (0 : Int) from ev3_2_1_160 bb mm] at hck
  go_wp2_with (go_at_call 10; fail)
  refine hck.mono ?_
  rintro e W7 ⟨rfl, on⟩
  have H7 : Hid (On w.heap.size w W7 g ma mo (AX bb mm) [OX]) := on
  clear on hck K6
  go_wp2_with (go_at_call 11; fail)
  refine (order_any 3 2 1 161 _).mono ?_
  rintro e V7 ⟨rfl, hb⟩
  have K7 : Hid (On w.heap.size w V7 g ma mo (AX bb mm) [OX]) := H7.out.below hb
  clear hb H7
  have hck := Check_on K7.out 3 2 1 161 0 (by omega) (by omega) (by omega) (by omega)
  rw [show (if tkB (AX bb mm) 0 = false then 151 else if abB (AX bb mm) [OX] (ordO 3 2 1 161) (valI (ordO 3 2 1 161) 0) = true then 150 else 0) = (150 : Int) from ev3_2_1_161 bb mm] at hck
  go_wp2_with (go_at_call 10; fail)
  refine hck.mono ?_
  rintro e W8 ⟨rfl, on⟩
  have H8 : Hid (On w.heap.size w W8 g ma mo (AX bb mm) [OX]) := on
  clear on hck K7
  have hlo := Look_on H8.out
  rw [show ovI [OX] sA 0 = 30 from ov_x, show posI (AX bb mm) sX = 60 from pos_x bb mm] at hlo
  go_wp2_with (go_at_call 15; fail)
  refine hlo.mono ?_
  rintro e W9 ⟨rfl, on⟩
  have HB : Hid (Below w.heap.size w W9) := on.bel
  clear on hlo H8
  go_wp2
  go_ret
  exact ⟨rfl, HB.out⟩
end Go.Proofs.Ytgioknkfppaaaaa
