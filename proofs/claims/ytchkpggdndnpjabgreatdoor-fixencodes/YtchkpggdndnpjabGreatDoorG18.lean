import Derived.Test.YtchkpggdndnpjabGreatDoorG17
import Derived.Deep.AppendLies
import Derived.Deep.OwnRows
import Derived.Test.YtchkpggdndnpjabGreatDoorProg
import Derived.Test.YtchkpggdndnpjabGreatDoorG00
import Derived.WalkLawsBesides
import Derived.Laws.BitsAllLaws
import Derived.Laws.BytesArg
import Derived.Laws.IdiomStrings

namespace Go.Proofs.YtchkpggdndnpjabGreatDoor
set_option linter.unusedVariables false
open Go.RowKit

theorem ownsRow_of_block {w w' : World} {base size n : Nat} {e : TypeId} {v : Value} {xs : List Value} (h : w.ownsRow base e size v n xs) (hk : ∀ g, v.ownBlock = some g → w'.heap[g]? = w.heap[g]?) : w'.ownsRow base e size v n xs := by
  obtain ⟨h1, h2⟩ := h
  refine ⟨h1, ?_⟩
  rcases h2 with h2 | ⟨g, cap, cur, rfl, r1, r2, r3⟩
  · exact .inl h2
  · exact .inr ⟨g, cap, cur, rfl, r1, (hk g rfl).trans r2, r3⟩
theorem ownsRow_mono {w : World} {base base' size n : Nat} {e : TypeId} {v : Value} {xs : List Value} (h : w.ownsRow base e size v n xs) (hb : base' ≤ base) : w.ownsRow base' e size v n xs := by
  obtain ⟨h1, h2⟩ := h
  refine ⟨h1, ?_⟩
  rcases h2 with h2 | ⟨g, cap, cur, rfl, r1, r2, r3⟩
  · exact .inl h2
  · exact .inr ⟨g, cap, cur, rfl, Nat.le_trans hb r1, r2, r3⟩
theorem ownsRow_below {w w' : World} {base size n : Nat} {e : TypeId} {v : Value} {xs : List Value} (h : w.ownsRow base e size v n xs) (hb : Below w.heap.size w w') : w'.ownsRow base e size v n xs :=
  ownsRow_of_block h fun g hg => hb.block g (h.lt g hg).2
theorem info_parts {T : TypeId} {z : Value} {s b : Nat} (h : (Tryz.prog.info? T).map (fun i => (i.zero, i.size, i.bytes)) = some (some z, s, b)) : ∃ i, Tryz.prog.info? T = some i ∧ i.zero = some z ∧ i.size = s ∧ i.bytes = b := by
  cases hq : Tryz.prog.info? T with
  | none => simp [hq] at h
  | some i => simp [hq] at h; exact ⟨i, rfl, h.1, h.2.1, h.2.2⟩
theorem infoF : (Tryz.prog.info? 52).map (fun i => (i.zero, i.size, i.bytes)) = some (some (.agg #[.int .i64 0, .string ⟨#[]⟩]), 2, 24) := by kernel_rfl
theorem info5 : (Tryz.prog.info? 5).map (fun i => (i.zero, i.size, i.bytes)) = some (some (.int .u8 0), 1, 1) := by kernel_rfl
/-- The cells of fields. -/
def fcs (fs : List Fld) : List Value := fs.flatMap fun f => [.int .i64 f.1, .string (bs f.2)]
theorem fcs_nil : fcs [] = [] := rfl
theorem fcs_app (a b : List Fld) : fcs (a ++ b) = fcs a ++ fcs b := by simp [fcs]
theorem fcs_length (fs : List Fld) : (fcs fs).length = fs.length * 2 := by
  induction fs with
  | nil => rfl
  | cons f fs ih => show (([_, _] : List Value) ++ fcs fs).length = _; simp [ih]; omega
theorem fcs_one (fs : List Fld) : ∀ u ∈ fcs fs, u.oneCell' = true := by
  intro u hu
  unfold fcs at hu
  simp only [List.mem_flatMap, List.mem_cons, List.not_mem_nil, or_false] at hu
  obtain ⟨f, _, rfl | rfl⟩ := hu <;> rfl
/-- A list of fields that the call has made. -/
def OwnF (w : World) (B : Nat) (v : Value) (fs : List Fld) : Prop := w.ownsRow B 52 2 v fs.length (fcs fs)
theorem OwnF.below {w w' : World} {B : Nat} {v : Value} {fs : List Fld} (h : OwnF w B v fs) (hb : Below w.heap.size w w') : OwnF w' B v fs := ownsRow_below h hb
theorem OwnF.mono {w : World} {B B' : Nat} {v : Value} {fs : List Fld} (h : OwnF w B v fs) (hb : B' ≤ B) : OwnF w B' v fs := ownsRow_mono h hb
theorem OwnF.nil (w : World) (B : Nat) : OwnF w B (.slice none 0 0) [] := World.ownsRow_nil w B _ 2
/-- Fields in memory: what may be read. -/
def SrcF (w : World) (v : Value) (fs : List Fld) : Prop := ∃ ao cap, v = .slice ao fs.length cap ∧ fs.length ≤ cap ∧ (fs = [] ∨ ∃ b off, ao = some ⟨b, off, none⟩ ∧ ∀ j f, fs[j]? = some f → w.cell? ⟨b, off + j * 2, none⟩ = some (.int .i64 f.1) ∧ w.cell? ⟨b, off + j * 2 + 1, none⟩ = some (.string (bs f.2)))
theorem fcs_at : ∀ (fs : List Fld) (j : Nat) (f : Fld), fs[j]? = some f → (fcs fs)[j * 2]? = some (.int .i64 f.1) ∧ (fcs fs)[j * 2 + 1]? = some (.string (bs f.2))
  | [], j, f, h => by simp at h
  | g :: fs, 0, f, h => by simp at h; subst h; exact ⟨rfl, rfl⟩
  | g :: fs, j + 1, f, h => by
    have := fcs_at fs j f (by simpa using h)
    show (([_, _] : List Value) ++ fcs fs)[(j + 1) * 2]? = _ ∧ (([_, _] : List Value) ++ fcs fs)[(j + 1) * 2 + 1]? = _
    rw [show (j + 1) * 2 = j * 2 + 2 by omega]
    simpa using this
theorem OwnF.src {w : World} {B : Nat} {v : Value} {fs : List Fld} (h : OwnF w B v fs) : SrcF w v fs := by
  obtain ⟨h1, h2⟩ := h
  rcases h2 with ⟨rfl, h0⟩ | ⟨g, cap, cur, rfl, r1, r2, r3, r4, r5, r6⟩
  · have : fs = [] := List.length_eq_zero_iff.1 h0
    subst this
    exact ⟨none, 0, rfl, Nat.le_refl _, .inl rfl⟩
  · refine ⟨_, cap, rfl, r3, .inr ⟨g, 0, rfl, fun j f hf => ?_⟩⟩
    have hj : j < fs.length := (List.getElem?_eq_some_iff.1 hf).1
    obtain ⟨e1, e2⟩ := fcs_at fs j f hf
    rw [← r6, List.getElem?_take] at e1 e2
    rw [if_pos (by omega)] at e1 e2
    rw [Nat.zero_add]
    constructor
    · rw [cell_of_row w g _ cur _ _ r2]; simpa using e1
    · rw [cell_of_row w g _ cur _ _ r2]; simpa using e2
theorem SrcF.below {w w' : World} {v : Value} {fs : List Fld} (h : SrcF w v fs) (hb : Below w.heap.size w w') : SrcF w' v fs := by
  obtain ⟨ao, cap, rfl, hc, h⟩ := h
  refine ⟨ao, cap, rfl, hc, ?_⟩
  rcases h with h | ⟨b, off, e, h⟩
  · exact .inl h
  · refine .inr ⟨b, off, e, fun j f hf => ?_⟩
    obtain ⟨h1, h2⟩ := h j f hf
    have hlt : b < w.heap.size := World.block_lt_of_cell? _ _ h1
    exact ⟨by rw [hb.cell (p := ⟨b, _, none⟩) hlt]; exact h1, by rw [hb.cell (p := ⟨b, _, none⟩) hlt]; exact h2⟩
end Go.Proofs.YtchkpggdndnpjabGreatDoor

namespace Go.Proofs.YtchkpggdndnpjabGreatDoor
set_option linter.unusedVariables false
open Go.RowKit

/-- Bytes that lie in a row. -/
def Row (w : World) (b off n : Nat) (d : Nat → Nat) : Prop := ∀ j, j < n → w.cell? ⟨b, off + j, none⟩ = some (.int .u8 (d j : Int)) ∧ d j < 256

/-- The sum of bytes, modulo 256: behind a sum s, of so many of a row; of rows. -/
def sumRow (s : Nat) (d : Nat → Nat) : Nat → Nat
  | 0 => s
  | k + 1 => (sumRow s d k + d k) % 256
theorem sumRow_lt {s : Nat} (h : s < 256) (d : Nat → Nat) (k : Nat) : sumRow s d k < 256 := by
  cases k with
  | zero => exact h
  | succ k => exact Nat.mod_lt _ (by decide)

/-- Lists of bytes in memory: the i-th slice leads to a row. -/
structure Rows2 (w : World) (b off n : Nat) (len : Nat → Nat) (d : Nat → Nat → Nat) : Prop where
  at_ : ∀ i, i < n → ∃ (a : Option Addr) (c : Nat), w.cell? ⟨b, off + i, none⟩ = some (.slice a (len i) c) ∧ len i ≤ maxLen ∧ (len i = 0 ∨ ∃ bb oo, a = some ⟨bb, oo, none⟩ ∧ Row w bb oo (len i) (d i))
def sumRows (len : Nat → Nat) (d : Nat → Nat → Nat) : Nat → Nat
  | 0 => 0
  | i + 1 => sumRow (sumRows len d i) (d i) (len i)
theorem sumRows_lt (len : Nat → Nat) (d : Nat → Nat → Nat) (i : Nat) : sumRows len d i < 256 := by
  induction i with
  | zero => show 0 < 256; decide
  | succ i ih => exact sumRow_lt ih _ _

set_option maxRecDepth 100000 in
set_option maxHeartbeats 400000 in
theorem Sum_any (b off n cap : Nat) (len : Nat → Nat) (d : Nat → Nat → Nat) (w : World) (hn : n ≤ maxLen) (hr : Rows2 w b off n len d) :
    Calls Tryz.prog 44 #[.slice (some ⟨b, off, none⟩) n cap] w fun e w' => e = .returned (.int .i64 (sumRows len d n : Int)) ∧ w' = w := by
  unfold maxLen at hn
  have HR : Hid (Rows2 w b off n len d) := hr
  clear hr
  go_enter Tryz.func44, Tryz.ntmps44
  go_wp2
  go_loop [3, 5, 7, 10] (fun s _ _ i => ∃ k : Nat, k ≤ n ∧ i = .int .i64 k ∧ s = .int .u8 (sumRows len d k : Int)) (fun _ _ _ i => n - (intOf i).toNat)
  case atStart => exact ⟨0, Nat.zero_le _, rfl, rfl⟩
  case round =>
    obtain ⟨k, hk, rfl, rfl⟩ := hrel
    by_cases hlt : k < n
    · obtain ⟨a, c, hc, hl, hrow⟩ := HR.out.at_ k hlt
      unfold maxLen at hl
      have HRow : Hid (len k = 0 ∨ ∃ bb oo, a = some ⟨bb, oo, none⟩ ∧ Row w bb oo (len k) (d k)) := hrow
      clear hrow
      have hlt' : (k : Int) < (n : Int) := by omega
      have HK : Hid (sumRows len d (k + 1) = sumRow (sumRows len d k) (d k) (len k)) := rfl
      have hs0 := sumRows_lt len d k
      go_wp2
      clear hc
      generalize sumRows len d k = s0 at *
      go_loop [3, 7, 16] (fun s _ i => ∃ m : Nat, m ≤ len k ∧ i = .int .i64 m ∧ s = .int .u8 (sumRow s0 (d k) m : Int)) (fun _ _ i => len k - (intOf i).toNat)
      case atStart => exact ⟨0, Nat.zero_le _, rfl, rfl⟩
      case round =>
        obtain ⟨m, hm, rfl, rfl⟩ := hrel
        by_cases hmm : m < len k
        · rcases HRow.out with h0 | ⟨bb, oo, ea, hrw⟩
          · omega
          · obtain ⟨hcm, hdm⟩ := hrw m hmm
            have hm' : (m : Int) < (len k : Int) := by omega
            have HZ : Hid (sumRow s0 (d k) (m + 1) = (sumRow s0 (d k) m + d k m) % 256) := rfl
            subst ea
            go_wp2
            go_round
            case rel => exact ⟨m + 1, by omega, by go_num, by rw [HZ.out]; rfl⟩
            case measure => simp [intOf]; omega
        · have em : m = len k := by omega
          subst em
          go_wp2
          go_round
          case rel => exact ⟨k + 1, by omega, by go_num, by rw [HK.out]⟩
          case measure => simp [intOf]; omega
    · have ek : k = n := by omega
      subst ek
      have hs0 := sumRows_lt len d k
      go_wp2
      go_ret
      exact ⟨rfl, rfl⟩

end Go.Proofs.YtchkpggdndnpjabGreatDoor

namespace Go.Proofs.YtchkpggdndnpjabGreatDoor
set_option linter.unusedVariables false
open Go.RowKit

/-- What Split tells. -/
def SplitRet (r : Except (Int × Nat) (List Fld)) (w : World) (x : Ending) (w' : World) : Prop :=
  Below w.heap.size w w' ∧ match r with
  | .ok fs => ∃ v, x = .returned (.tuple #[v, .nilIface]) ∧ OwnF w' w.heap.size v fs
  | .error (e, a) => ∃ g, w.heap.size ≤ g ∧ x = .returned (.tuple #[.slice none 0 0, .iface 62 (.pointer (some ⟨g, 0, none⟩))]) ∧ FaultAt w' g e a
theorem SplitRet.good {r : Except (Int × Nat) (List Fld)} {w w' : World} {x : Ending} {fs : List Fld} {v : Value} (h : r = .ok fs) (hb : Below w.heap.size w w') (hx : x = .returned (.tuple #[v, .nilIface])) (ho : OwnF w' w.heap.size v fs) : SplitRet r w x w' := by
  refine ⟨hb, ?_⟩; rw [h]; exact ⟨v, hx, ho⟩
theorem SplitRet.fail {r : Except (Int × Nat) (List Fld)} {w w' : World} {x : Ending} {e : Int} {a g : Nat} (h : r = .error (e, a)) (hb : Below w.heap.size w w') (hg : w.heap.size ≤ g) (hx : x = .returned (.tuple #[.slice none 0 0, .iface 62 (.pointer (some ⟨g, 0, none⟩))])) (hf : FaultAt w' g e a) : SplitRet r w x w' := by
  refine ⟨hb, ?_⟩; rw [h]; exact ⟨g, hg, hx, hf⟩
theorem rdF_bound (l : List UInt8) {f : Fld} {n : Nat} (h : rdF l = .ok (f, n)) : 1 ≤ n ∧ n ≤ l.length := by
  unfold rdF at h
  split at h
  · unfold rdV at h
    split at h
    · rename_i h1 h2
      injection h with h
      obtain ⟨_, h⟩ := Prod.mk.inj h
      have := (List.getElem?_eq_some_iff.1 h2.2).1
      simp at this
      omega
    · cases h
  · cases h
set_option maxRecDepth 100000 in
set_option maxHeartbeats 800000 in
theorem readFields_any (s : ByteArray) (b F : Nat) (w : World) (hs : s.size ≤ 1024) (hb : b ≤ s.size) (hF : s.size ≤ F) :
    Calls Tryz.prog 211 #[.string s, .int .i64 (b : Int)] w fun x w' => SplitRet (rdAll s.data.toList F b) w x w' := by
  obtain ⟨i0, hi, hz0, hz1, hz2⟩ := info_parts infoF
  have hR : Hid (s.size = s.data.toList.length ∧ ∀ k, rdAll s.data.toList 0 k = .ok []) := ⟨(size_data s).symm, fun k => rfl⟩
  generalize hRR : rdAll s.data.toList F b = R
  have HR : Hid (rdAll s.data.toList F b = R) := hRR
  clear hRR
  go_enter Tryz.func211, Tryz.ntmps211
  go_wp2
  go_loopw [1, 6, 7, 8, 9] (fun z l _ _ _ wr => ∃ (k : Nat) (fs : List Fld) (ao : Option Addr) (cv : Nat), k ≤ s.size ∧ b + fs.length ≤ k ∧ z = .int .i64 k ∧ l = .slice ao fs.length cv ∧ OwnF wr w.heap.size (.slice ao fs.length cv) fs ∧ Below w.heap.size w wr ∧ R = addFs fs (rdAll s.data.toList (F - fs.length) k)) (fun z _ _ _ _ _ => s.size - (intOf z).toNat)
  case atStart => exact ⟨b, [], none, 0, hb, Nat.le_refl _, rfl, rfl, OwnF.nil _ _, Below.refl _ _, HR.out.symm⟩
  case round =>
    obtain ⟨k, fs, ao, cv, hk, hl, rfl, rfl, ho, hbl, hr⟩ := hrel
    have HA : Hid (OwnF wr w.heap.size (.slice ao fs.length cv) fs ∧ Below w.heap.size w wr ∧ R = addFs fs (rdAll s.data.toList (F - fs.length) k)) := ⟨ho, hbl, hr⟩
    clear ho hbl hr
    by_cases hlt : k < s.size
    · have hlt' : (k : Int) < (s.size : Int) := by omega
      have h1 := readField_any s k wr hs hk
      have HL : Hid (∀ f n, rdF (s.data.toList.drop k) = .ok (f, n) → 1 ≤ n ∧ k + n ≤ s.size) := fun f n h => by
        have := rdF_bound _ h
        simp at this
        omega
      have HN : Hid (rdAll s.data.toList (F - fs.length) k = match rdF (s.data.toList.drop k) with | .ok (f, n) => addF f (rdAll s.data.toList (F - (fs.length + 1)) (k + n)) | .error (e, n) => .error (e, k + n)) := by
        show rdAll _ _ _ = _
        rw [show F - fs.length = (F - (fs.length + 1)) + 1 by omega]
        have hlt2 : k < s.data.toList.length := by rw [size_data]; exact hlt
        simp only [rdAll, hlt2, if_true]
        cases rdF (s.data.toList.drop k) <;> rfl
      generalize rdF (s.data.toList.drop k) = r at *
      cases r with
      | error y =>
        obtain ⟨e, n⟩ := y
        go_wp2_with (go_at_call 249; fail)
        refine h1.mono ?_
        rintro x w2 ⟨hb2, g, hg, rfl, hf⟩
        have HX : Hid (FaultAt w2 g e (k + n) ∧ Below w.heap.size w w2 ∧ w.heap.size ≤ g) := ⟨hf, HA.out.2.1.trans (hb2.mono HA.out.2.1.size), Nat.le_trans HA.out.2.1.size hg⟩
        clear hf hb2 hg h1
        go_wp2
        go_ret2
        refine .fail (e := e) (a := k + n) (g := g) ?_ ?_ HX.out.2.2 rfl ?_
        · rw [HA.out.2.2, HN.out, addFs_err]
        · exact HX.out.2.1.alloc HX.out.2.1.size _
        · exact HX.out.1.below ((Below.refl _ w2).alloc (Nat.le_refl _) _) HX.out.1.lt
      | ok y =>
        obtain ⟨f, n⟩ := y
        obtain ⟨hn1, hn2⟩ := HL.out f n rfl
        have hfl : fs.length ≤ 1024 := by omega
        go_wp2_with (go_at_call 249; fail)
        refine h1.mono ?_
        rintro x w2 ⟨hb2, rfl⟩
        obtain ⟨t, V⟩ := f
        have HX : Hid (Below w.heap.size w w2 ∧ OwnF w2 w.heap.size (.slice ao fs.length cv) fs) := ⟨HA.out.2.1.trans (hb2.mono HA.out.2.1.size), HA.out.1.below hb2⟩
        clear hb2 h1
        have hnew0 : ∀ j u, (fcs [(t, V)])[j]? = some u → ((w2.alloc (.cells #[.int .i64 t, .string (bs V)] 52)).alloc (.cells #[.int .i64 t, .string (bs V)] 52)).cell? ((⟨w2.heap.size + 1, 0, none⟩ : Addr).add j) = some u := by
          have h := World.news_of_block (heap_alloc_new (w2.alloc (.cells #[.int .i64 t, .string (bs V)] 52)) (.cells #[.int .i64 t, .string (bs V)] 52))
          simpa [fcs] using h
        have hnew : Hid (∀ j u, (fcs [(t, V)])[j]? = some u → ((w2.alloc (.cells #[.int .i64 t, .string (bs V)] 52)).alloc (.cells #[.int .i64 t, .string (bs V)] 52)).cell? ((⟨w2.heap.size + 1, 0, none⟩ : Addr).add j) = some u) := hnew0
        clear hnew0
        go_wp2_with (at_builtin; refine wpList_append_own _ rfl _ _ 32 rfl w.heap.size 52 i0 (.agg #[.int .i64 0, .string ⟨#[]⟩]) 2 24 Tryz.underlying32 hi hz0 hz1 hz2 rfl (by decide) _ fs.length (fcs fs) rfl ((HX.out.2.alloc _).alloc _) ⟨w2.heap.size + 1, 0, none⟩ 1 1 (fcs [(t, V)]) rfl rfl hnew.out (fcs_one _) (by unfold maxLen; omega) (by omega) (by have := HX.out.1.size; simp; omega) ?_; intro v' w3 hown' hgrow3 hnil3)
        have hb3 : Below w.heap.size w w3 := by
          refine Below.grown (w := (w2.alloc (.cells #[.int .i64 t, .string (bs V)] 52)).alloc (.cells #[.int .i64 t, .string (bs V)] 52)) ?_ hgrow3 ?_ (fun q hq => (HX.out.2.lt q hq).1)
          · exact (HX.out.1.alloc HX.out.1.size _).alloc (by have := HX.out.1.size; simp; omega) _
          · have := HX.out.1.size; simp; omega
        have ho3 : OwnF w3 w.heap.size v' (fs ++ [(t, V)]) := by
          unfold OwnF
          rw [fcs_app, List.length_append]
          exact hown'
        obtain ⟨g, c, rfl, _, _⟩ := hown'.form (by omega)
        have HY : Hid (Below w.heap.size w w3 ∧ OwnF w3 w.heap.size (.slice (some ⟨g, 0, none⟩) (fs.length + 1) c) (fs ++ [(t, V)])) := ⟨hb3, ho3⟩
        clear hb3 ho3 hown' hgrow3 hnil3 HX hnew
        go_wp2
        refine ⟨⟨k + n, fs ++ [(t, V)], some ⟨g, 0, none⟩, c, hn2, by simp; omega, by go_num, by simp, ?_, HY.out.1, ?_⟩, by simp [intOf]; omega⟩
        · have h := HY.out.2
          simpa using h
        · rw [HA.out.2.2, HN.out, addFs_snoc, List.length_append]
          rfl
    · have HN : Hid (rdAll s.data.toList (F - fs.length) k = .ok []) := by
        show rdAll _ _ _ = _
        cases hq : F - fs.length with
        | zero => rfl
        | succ m =>
          have hlt2 : ¬ k < s.data.toList.length := by rw [size_data]; exact hlt
          simp only [rdAll, hlt2, if_false]
      go_wp2
      go_ret2
      exact .good (by rw [HA.out.2.2, HN.out, addFs_ok, List.append_nil]) HA.out.2.1 rfl HA.out.1
end Go.Proofs.YtchkpggdndnpjabGreatDoor

namespace Go.Proofs.YtchkpggdndnpjabGreatDoor
set_option linter.unusedVariables false
open Go.RowKit

/-- Bytes in memory: what may be read. -/
def SrcB (w : World) (v : Value) (l : List UInt8) : Prop := ∃ ao cap, v = .slice ao l.length cap ∧ l.length ≤ cap ∧ (l = [] ∨ ∃ b off, ao = some ⟨b, off, none⟩ ∧ ∀ j c, l[j]? = some c → w.cell? ⟨b, off + j, none⟩ = some (.int .u8 (c.toNat : Int)))
theorem SrcB.below {w w' : World} {v : Value} {l : List UInt8} (h : SrcB w v l) (hb : Below w.heap.size w w') : SrcB w' v l := by
  obtain ⟨ao, cap, rfl, hc, h⟩ := h
  refine ⟨ao, cap, rfl, hc, ?_⟩
  rcases h with h | ⟨b, off, e, h⟩
  · exact .inl h
  · refine .inr ⟨b, off, e, fun j c hj => ?_⟩
    have h1 := h j c hj
    have hlt : b < w.heap.size := World.block_lt_of_cell? _ _ h1
    rw [hb.cell (p := ⟨b, _, none⟩) hlt]; exact h1
theorem addr_add (b off j : Nat) : (⟨b, off, none⟩ : Addr).add j = ⟨b, off + j, none⟩ := by unfold Addr.add; split <;> simp_all
theorem SrcB.conv {w : World} {v : Value} {l : List UInt8} (h : SrcB w v l) : (convert 25 9 v).run Tryz.prog w = .ok (.string (bs l)) w := by
  obtain ⟨ao, cap, rfl, hc, h⟩ := h
  rcases h with rfl | ⟨b, off, rfl, h⟩
  · cases ao with
    | none => exact run_convert_bytes_nil w 25 5 Tryz.underlying25 Tryz.underlying5 0 cap 9 Tryz.underlying9
    | some a => exact run_convert_bytes_back (P := Tryz.prog) w 25 9 5 a cap [] Tryz.underlying25 Tryz.underlying5 Tryz.underlying9 (fun j hj => by simp at hj)
  · exact run_convert_bytes_back (P := Tryz.prog) w 25 9 5 ⟨b, off, none⟩ cap l Tryz.underlying25 Tryz.underlying5 Tryz.underlying9 (fun j hj => by
      rw [addr_add]; exact h j l[j] (List.getElem?_eq_getElem hj))
/-- The sum that num.Sum tells. -/
def dOf (l : List UInt8) (j : Nat) : Nat := (l.getD j 0).toNat
theorem sumRow_list (l : List UInt8) : ∀ k, k ≤ l.length → sumRow 0 (dOf l) k = sumL (l.take k)
  | 0, _ => rfl
  | k + 1, h => by
    have e : l.take (k + 1) = l.take k ++ [l[k]] := List.take_succ_eq_append_getElem (by omega)
    rw [e, sumL_snoc, ← sumRow_list l k (by omega)]
    show (sumRow 0 (dOf l) k + dOf l k) % 256 = _
    rw [show dOf l k = l[k].toNat by unfold dOf; rw [List.getD_eq_getElem?_getD, List.getElem?_eq_getElem (by omega)]; rfl]
theorem Sum_one (B : Nat) (b off k cap : Nat) (l : List UInt8) (w : World) (hk : k ≤ l.length) (hl : l.length ≤ 1048576)
    (hB : w.cell? ⟨B, 0, none⟩ = some (.slice (some ⟨b, off, none⟩) k cap)) (h : ∀ j c, l[j]? = some c → w.cell? ⟨b, off + j, none⟩ = some (.int .u8 (c.toNat : Int))) :
    Calls Tryz.prog 44 #[.slice (some ⟨B, 0, none⟩) 1 1] w fun e w' => e = .returned (.int .i64 (sumL (l.take k) : Int)) ∧ w' = w := by
  have h1 := Sum_any B 0 1 1 (fun _ => k) (fun _ => dOf l) w (by decide) ⟨fun i hi => by
    obtain rfl : i = 0 := by omega
    refine ⟨some ⟨b, off, none⟩, cap, hB, by unfold maxLen; omega, .inr ⟨b, off, rfl, fun j hj => ⟨?_, ?_⟩⟩⟩
    · have := h j l[j] (List.getElem?_eq_getElem (by omega))
      rw [this]
      show _ = some (Value.int .u8 ((dOf l j : Nat) : Int))
      unfold dOf
      rw [List.getD_eq_getElem?_getD, List.getElem?_eq_getElem (by omega)]; rfl
    · unfold dOf; exact UInt8.toNat_lt _⟩
  have e : sumRows (fun _ => k) (fun _ => dOf l) 1 = sumL (l.take k) := by
    show sumRow 0 (dOf l) k = _
    exact sumRow_list l k hk
  rw [e] at h1
  exact h1
theorem body_len {l : List UInt8} {b : Nat} (h : bodyL l = .ok b) : b + 7 ≤ l.length := by
  unfold bodyL at h
  split at h
  · cases h
  · split at h
    · cases h
    · split at h
      · rename_i h1 h2 h3
        injection h with h
        have := (pu_bd ((l.drop 12).take (numEnd l 12 - 12)) 9999 (by decide)).1
        omega
      · cases h
theorem split_e1 {l : List UInt8} {x : Int × Nat} (h : ¬ 1024 < l.length) (hb : bodyL l = .error x) : splitL l = .error x := by unfold splitL; rw [if_neg h, hb]
theorem split_e2 {l : List UInt8} {b : Nat} {x : Int × Nat} (h : ¬ 1024 < l.length) (hb : bodyL l = .ok b) (hx : lastL l (l.length - 7) (sumL (l.take (l.length - 7))) = some x) : splitL l = .error x := by
  unfold splitL; rw [if_neg h, hb]; simp only [hx]
theorem split_e3 {l : List UInt8} {b : Nat} (h : ¬ 1024 < l.length) (hb : bodyL l = .ok b) (hx : lastL l (l.length - 7) (sumL (l.take (l.length - 7))) = none) : splitL l = rdAll (l.take (l.length - 7)) l.length b := by
  unfold splitL; rw [if_neg h, hb]; simp only [hx]
set_option maxRecDepth 100000 in
set_option maxHeartbeats 800000 in
theorem Split_any (v : Value) (l : List UInt8) (w : World) (hl : l.length ≤ 9223372036854775807) (hv : SrcB w v l) (hp : Pow w) :
    Calls Tryz.prog 61 #[v] w fun x w' => SplitRet (splitL l) w x w' := by
  have HV : Hid (SrcB w v l ∧ Pow w) := ⟨hv, hp⟩
  obtain ⟨ao, cap, rfl, hc, hcells⟩ := hv
  have HC : Hid (l = [] ∨ ∃ b off, ao = some ⟨b, off, none⟩ ∧ ∀ j c, l[j]? = some c → w.cell? ⟨b, off + j, none⟩ = some (.int .u8 (c.toNat : Int))) := hcells
  clear hcells hp
  by_cases hlong : 1024 < l.length
  · have hB : Hid (splitL l = .error (43, 1024)) := by show splitL _ = _; unfold splitL; rw [if_pos hlong]
    generalize splitL l = R at *
    have hlong' : (1024 : Int) < (l.length : Int) := by omega
    generalize l.length = n at *
    go_enter Tryz.func61, Tryz.ntmps61
    go_wp2_with (go_at_call 208; fail)
    refine (fault_any 43 _ 1024 rfl _).mono ?_
    rintro e w2 ⟨rfl, hf, hb⟩
    have HX : Hid (FaultAt w2 w.heap.size 43 1024 ∧ Below w.heap.size w w2) := ⟨hf, hb⟩
    clear hf hb
    go_wp2
    go_ret2
    exact .fail hB.out HX.out.2 (Nat.le_refl _) rfl HX.out.1
  · have hlong' : decide ((1024 : Int) < (l.length : Int)) = false := decide_eq_false (by omega)
    have hlong2 : decide (1024 < l.length) = false := decide_eq_false (by omega)
    have hcv := HV.out.1.conv
    have h1 := findBody_any (bs l) w (by rw [bs_size]; omega)
    rw [bs_list] at h1
    cases hb : bodyL l with
    | error x =>
      obtain ⟨e, a⟩ := x
      have HS : Hid (splitL l = .error (e, a)) := split_e1 hlong hb
      have HB : Hid (bodyL l = .error (e, a)) := hb
      clear hb
      generalize splitL l = R at *
      generalize bs l = S at *
      go_enter Tryz.func61, Tryz.ntmps61
      go_wp2_with (go_at_call 209; fail)
      refine h1.mono ?_
      intro x w1 hR1
      unfold BodyRet at hR1
      rw [HB.out] at hR1
      obtain ⟨hb1, g, hg, rfl, hf⟩ := hR1
      have HX : Hid (FaultAt w1 g e a ∧ Below w.heap.size w w1 ∧ w.heap.size ≤ g) := ⟨hf, hb1, hg⟩
      clear hf hb1 hg h1
      go_wp2
      go_ret2
      exact .fail HS.out HX.out.2.1 HX.out.2.2 rfl HX.out.1
    | ok b =>
      have hbl := body_len hb
      obtain ⟨m, hm⟩ : ∃ m, l.length = m + 7 := ⟨l.length - 7, by omega⟩
      have hm7 : l.length - 7 = m := by omega
      have HB : Hid (bodyL l = .ok b) := hb
      have HE2 : Hid (∀ x, lastL l m (sumL (l.take m)) = some x → splitL l = .error x) := fun x hx => split_e2 hlong hb (by rw [hm7]; exact hx)
      have HE3 : Hid (lastL l m (sumL (l.take m)) = none → splitL l = rdAll (l.take m) l.length b) := fun hx => by
        have := split_e3 hlong hb (by rw [hm7]; exact hx)
        rw [hm7] at this; exact this
      have h3 := fun w' hw' => checkLast_any (bs l) m (sumL (l.take m)) w' (by rw [bs_size]; omega) (by rw [bs_size]; omega) (sumL_lt _) hw'
      simp only [bs_list] at h3
      have h4 := fun w' => readFields_any ((bs l).extract 0 m) b l.length w' (by have := extract_le (bs l) 0 m; rw [bs_size] at this; omega) (by rw [Lib.size_eq, Lib.extract_data, bs_list]; simp; omega) (by have := extract_le (bs l) 0 m; rw [bs_size] at this; omega)
      simp only [Lib.extract_data, bs_list, List.drop_zero, Nat.sub_zero] at h4
      have HSZ : (bs l).size = m + 7 := by rw [bs_size]; exact hm
      rcases HC.out with h0 | ⟨B, off, rfl, hcell⟩
      · rw [h0] at hm; simp at hm
      have HCell : Hid (∀ j c, l[j]? = some c → w.cell? ⟨B, off + j, none⟩ = some (.int .u8 (c.toNat : Int))) := hcell
      have h2 := fun w' Bk hk hh => Sum_one Bk B off m cap l w' (by omega) (by omega) hk hh
      clear hb hcell HC hm7 hlong
      have HBL : Hid (l.length = m + 7) := hm
      rw [hm] at hlong' hlong2 hcv hc hl hbl
      simp only [hm]
      generalize splitL l = R at *
      have hsl : lastL l m (sumL (l.take m)) = lastL l m (sumL (l.take m)) := rfl
      generalize hL : lastL l m (sumL (l.take m)) = L at *
      have hsum := sumL_lt (l.take m)
      generalize sumL (l.take m) = sm at *
      generalize bs l = S at *
      have hc7 : (m : Int) ≤ (cap : Int) := by omega
      have hl7 : decide ((1024 : Int) < (m : Int) + 7) = false := decide_eq_false (by have := of_decide_eq_false hlong2; omega)
      clear hlong' hlong2
      clear hL hsl hm
      have HW : Hid (∀ w', Below w.heap.size w w' → Pow w') := fun w' hb => HV.out.2.below hb
      clear HV
      go_enter Tryz.func61, Tryz.ntmps61
      go_wp2_with (go_at_call 209; fail)
      refine h1.mono ?_
      intro x w1 hR1
      unfold BodyRet at hR1
      rw [HB.out] at hR1
      obtain ⟨hb1, rfl⟩ := hR1
      have HB1 : Hid (Below w.heap.size w w1) := hb1
      clear hb1 h1
      go_wp2_with (go_at_call 44; fail)
      have hba : Below w.heap.size w (w1.alloc (.cells #[.slice (some ⟨B, off, none⟩) m cap] 25)) := HB1.out.alloc HB1.out.size _
      refine (h2 (w1.alloc (.cells #[.slice (some ⟨B, off, none⟩) m cap] 25)) w1.heap.size (cell_of_row _ _ 0 _ _ _ (heap_alloc_new w1 _)) (fun j c hj => by
        have h := HCell.out j c hj
        rw [hba.cell (p := ⟨B, _, none⟩) (World.block_lt_of_cell? _ _ h)]; exact h)).mono ?_
      rintro e w2 ⟨rfl, rfl⟩
      have HB2 : Hid (Below w.heap.size w (w1.alloc (.cells #[.slice (some ⟨B, off, none⟩) m cap] 25))) := hba
      clear hba h2 HB1
      generalize w1.alloc (.cells #[.slice (some ⟨B, off, none⟩) m cap] 25) = w2 at *
      go_wp2_with (go_at_call 210; fail)
      refine (h3 w2 (HW.out _ HB2.out)).mono ?_
      intro x w3 hR3
      unfold LastRet at hR3
      cases L with
      | some y =>
        obtain ⟨e, a⟩ := y
        obtain ⟨hb3, g, hg, rfl, hf⟩ := hR3
        have HX : Hid (FaultAt w3 g e a ∧ Below w.heap.size w w3 ∧ w.heap.size ≤ g) := ⟨hf, HB2.out.trans (hb3.mono HB2.out.size), Nat.le_trans HB2.out.size hg⟩
        clear hf hb3 hg h3 h4
        go_wp2
        go_ret2
        exact .fail (HE2.out _ rfl) HX.out.2.1 HX.out.2.2 rfl HX.out.1
      | none =>
        obtain ⟨hb3, rfl⟩ := hR3
        have HB3 : Hid (Below w.heap.size w w3) := HB2.out.trans (hb3.mono HB2.out.size)
        have HE : Hid (R = rdAll (l.take m) l.length b) := HE3.out rfl
        clear hb3 HB2 h3 HE2 HE3
        go_wp2_with (go_at_call 211; fail)
        refine (h4 w3).mono ?_
        intro x w4 hR4
        unfold SplitRet at hR4
        rw [← HE.out] at hR4
        cases R with
        | ok fs =>
          obtain ⟨hb4, v, rfl, ho⟩ := hR4
          have HX : Hid (Below w.heap.size w w4 ∧ OwnF w4 w.heap.size v fs) := ⟨HB3.out.trans (hb4.mono HB3.out.size), ho.mono HB3.out.size⟩
          clear hb4 ho h4
          go_wp2
          go_ret2
          exact .good rfl HX.out.1 rfl HX.out.2
        | error y =>
          obtain ⟨e, a⟩ := y
          obtain ⟨hb4, g, hg, rfl, hf⟩ := hR4
          have HX : Hid (FaultAt w4 g e a ∧ Below w.heap.size w w4 ∧ w.heap.size ≤ g) := ⟨hf, HB3.out.trans (hb4.mono HB3.out.size), Nat.le_trans HB3.out.size hg⟩
          clear hf hb4 hg h4
          go_wp2
          go_ret2
          exact .fail rfl HX.out.2.1 HX.out.2.2 rfl HX.out.1
end Go.Proofs.YtchkpggdndnpjabGreatDoor
