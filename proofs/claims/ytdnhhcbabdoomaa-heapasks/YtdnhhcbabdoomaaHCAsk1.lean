/-
  HeapAsks: what is held while one goes through All; the loops' state.
-/
import Derived.Test.YtdnhhcbabdoomaaHCAsk0
import Derived.Deep.CutBlock
import Derived.Deep.RegionHeld
namespace Go.Proofs.Ytdnhhcbabdoomaa.C
set_option linter.unusedVariables false
set_option linter.unusedSimpArgs false
open Go.RowKit Go.Great Go.Shelf

attribute [local go_sem] Oper.semAt_some

/-- What the loops hold: the heap, its items, the tally, the result's cell. -/
def AB (w wr : World) (tb h rb : Nat) (vi : Value) (n K c l : Nat) : Prop := (∃ v L N P, AI w wr tb h vi n K c l v L N P) ∧ Blk wr rb 4 #[.bool false] ∧ w.heap.size ≤ rb ∧ c ≤ 200 * K
theorem AB.sm {w wr w' : World} {tb h rb : Nat} {vi : Value} {n K c l : Nat} (H : AB w wr tb h rb vi n K c l) (hf : Fr wr w' (fun _ => False)) : AB w w' tb h rb vi n K c l := by
  obtain ⟨⟨v, L, N, P, e⟩, h1, h2⟩ := H
  exact ⟨⟨v, L, N, P, e.sm hf⟩, h1.fr hf (fun q => q), h2⟩
theorem AB.ty {w wr : World} {tb h rb : Nat} {vi : Value} {n K c l : Nat} (H : AB w wr tb h rb vi n K c l) (hK : K ≤ 5000) : Blk wr tb 68 #[.int .i64 (c : Int)] := by
  obtain ⟨⟨v, L, N, P, e⟩, h1, h2, h3⟩ := H
  have := e.tally
  rw [show wrap64 (c : Int) = (c : Int) by unfold wrap64; omega] at this
  exact this
theorem AB.frw {w wr : World} {tb h rb : Nat} {vi : Value} {n K c l : Nat} (H : AB w wr tb h rb vi n K c l) : Fr w wr (fun b => w.heap.size ≤ b) := by
  obtain ⟨⟨v, L, N, P, e⟩, _⟩ := H
  exact e.fr
theorem AB.bd {w wr : World} {tb h rb : Nat} {vi : Value} {n K c l : Nat} (H : AB w wr tb h rb vi n K c l) : n ≤ K ∧ l ≤ K ∧ c ≤ 200 * K := by
  obtain ⟨⟨v, L, N, P, e⟩, _, _, h⟩ := H
  have := e.bd
  omega
theorem wrp (z : Int) : IntKind.i64.wrap z = wrap64 z := by first | rfl | (rw [IntKind.wrap_i64]; rfl) | (rw [IntKind.wrap_i64]; unfold wrap64; omega)
theorem infoPc : ∃ i, Try.prog.info? 70 = some i ∧ i.zero = some (.pointer none) ∧ i.size = 1 ∧ i.bytes = 8 := infoP
/-- The law's frame: what counts of it while one goes through All. -/
def FrA (lb gb xb : Nat) (y : Nat → Value) : Array Value := List.toArray (y 0 :: y 1 :: y 2 :: y 3 :: y 4 :: y 5 :: y 6 :: y 7 :: y 8 :: y 9 :: y 10 :: y 11 :: y 12 :: y 13 :: y 14 :: y 15 :: y 16 :: y 17 :: y 18 :: y 19 :: ptr lb :: ptr gb :: ptr xb :: y 23 :: y 24 :: y 25 :: y 26 :: y 27 :: y 28 :: y 29 :: y 30 :: y 31 :: y 32 :: y 33 :: y 34 :: y 35 :: y 36 :: y 37 :: y 38 :: y 39 :: y 40 :: y 41 :: y 42 :: y 43 :: y 44 :: y 45 :: y 46 :: y 47 :: y 48 :: y 49 :: y 50 :: y 51 :: y 52 :: y 53 :: y 54 :: y 55 :: y 56 :: y 57 :: y 58 :: y 59 :: y 60 :: y 61 :: y 62 :: y 63 :: y 64 :: y 65 :: y 66 :: y 67 :: y 68 :: y 69 :: y 70 :: y 71 :: y 72 :: y 73 :: y 74 :: y 75 :: y 76 :: y 77 :: y 78 :: y 79 :: y 80 :: y 81 :: y 82 :: y 83 :: y 84 :: y 85 :: y 86 :: y 87 :: y 88 :: y 89 :: y 90 :: y 91 :: y 92 :: y 93 :: y 94 :: y 95 :: y 96 :: y 97 :: y 98 :: y 99 :: y 100 :: y 101 :: y 102 :: y 103 :: y 104 :: y 105 :: y 106 :: y 107 :: y 108 :: y 109 :: y 110 :: y 111 :: y 112 :: y 113 :: y 114 :: y 115 :: y 116 :: y 117 :: y 118 :: y 119 :: y 120 :: y 121 :: y 122 :: y 123 :: y 124 :: y 125 :: y 126 :: y 127 :: y 128 :: y 129 :: y 130 :: y 131 :: y 132 :: y 133 :: y 134 :: y 135 :: y 136 :: y 137 :: y 138 :: y 139 :: y 140 :: y 141 :: y 142 :: y 143 :: y 144 :: y 145 :: y 146 :: y 147 :: y 148 :: y 149 :: y 150 :: y 151 :: y 152 :: y 153 :: y 154 :: y 155 :: y 156 :: y 157 :: y 158 :: y 159 :: y 160 :: y 161 :: y 162 :: y 163 :: y 164 :: y 165 :: y 166 :: y 167 :: y 168 :: y 169 :: y 170 :: y 171 :: y 172 :: y 173 :: y 174 :: y 175 :: y 176 :: y 177 :: y 178 :: y 179 :: y 180 :: y 181 :: y 182 :: y 183 :: y 184 :: y 185 :: y 186 :: y 187 :: y 188 :: y 189 :: y 190 :: y 191 :: y 192 :: y 193 :: y 194 :: y 195 :: y 196 :: y 197 :: y 198 :: y 199 :: y 200 :: y 201 :: y 202 :: y 203 :: y 204 :: y 205 :: y 206 :: y 207 :: y 208 :: y 209 :: y 210 :: y 211 :: y 212 :: y 213 :: y 214 :: y 215 :: y 216 :: y 217 :: y 218 :: y 219 :: y 220 :: y 221 :: y 222 :: y 223 :: y 224 :: y 225 :: y 226 :: y 227 :: y 228 :: y 229 :: y 230 :: y 231 :: y 232 :: y 233 :: y 234 :: y 235 :: y 236 :: y 237 :: y 238 :: y 239 :: y 240 :: y 241 :: y 242 :: y 243 :: y 244 :: y 245 :: y 246 :: y 247 :: y 248 :: y 249 :: y 250 :: [])
theorem FrA.ex {tm : Array Value} {lb gb xb : Nat} (e : tm = FrA lb gb xb (fun k => tm.getD k undef)) : ∃ z : Nat → Value, ({ tmps := tm, defers := [] } : Act) = { tmps := FrA lb gb xb z, defers := [] } :=
  ⟨_, congrArg (fun t => ({ tmps := t, defers := [] } : Act)) e⟩
/-- The last one that came. -/
def lastC (tb : Nat) (pre : List Th) : Array Value := match pre.getLast? with
  | none => #[.int .i64 0, .pointer none]
  | some y => #[.int .i64 y.k, ptr tb]
theorem lastC_snoc (tb : Nat) (pre : List Th) (x : Th) : lastC tb (pre ++ [x]) = #[.int .i64 x.k, ptr tb] := by unfold lastC; simp
/-- While one goes through All. -/
structure GI (wl W : World) (tb lb gb : Nat) (pre : List Th) (M : Nat → Prop) : Prop where
  fr : Fr wl W (fun b => b = tb ∨ b = lb ∨ b = gb ∨ wl.heap.size ≤ b)
  la : Blk W lb 65 (lastC tb pre)
  go : Blk W gb 3 #[.int .i64 (pre.length : Int)]
  m : ∀ b, M b ↔ b < wl.heap.size ∧ b ≠ tb
theorem GI.abid {wl : World} {tb lb gb : Nat} (h1 : lb < wl.heap.size ∧ lb ≠ tb) (h2 : gb < wl.heap.size ∧ gb ≠ tb) : Abid (fun pre W M => GI wl W tb lb gb pre M) := by
  refine ⟨?_, ?_⟩
  · rintro pre W W' M e H hf hn
    refine ⟨H.fr.trans hf fun b _ q => ?_, H.la.fr hf fun q => hn _ q ((H.m _).2 h1), H.go.fr hf fun q => hn _ q ((H.m _).2 h2), H.m⟩
    rcases q with q | q
    · exact q
    · have h3 := mt (H.m b).2 (hn b q)
      by_cases e : b = tb
      · exact .inl e
      · exact .inr (.inr (.inr (by omega)))
  · rintro pre W M b H hb
    have h3 := ((H.m b).1 hb).1
    have h4 := H.fr.size
    omega
theorem GI.step {wl W : World} {tb lb gb : Nat} {pre : List Th} {M : Nat → Prop} (H : GI wl W tb lb gb pre M) (h1 : lb < wl.heap.size ∧ lb ≠ tb) (h2 : gb < wl.heap.size ∧ gb ≠ tb) (x : Th) {z : Int} (hz : z = (((pre ++ [x]).length : Nat) : Int)) :
    ∃ M', GI wl (((W.setCell ⟨lb, 0, none⟩ (.int .i64 x.k)).setCell ⟨lb, 1, none⟩ (ptr tb)).setCell ⟨gb, 0, none⟩ (.int .i64 z)) tb lb gb (pre ++ [x]) M' ∧ Fr W (((W.setCell ⟨lb, 0, none⟩ (.int .i64 x.k)).setCell ⟨lb, 1, none⟩ (ptr tb)).setCell ⟨gb, 0, none⟩ (.int .i64 z)) M ∧ ∀ b, M' b → M b ∨ W.heap.size ≤ b := by
  subst hz
  have hne : gb ≠ lb := H.go.neT H.la (by decide)
  have F1 : Fr W (W.setCell ⟨lb, 0, none⟩ (.int .i64 x.k)) (fun b => b = lb) := Fr.setCell _ _ _ _ rfl
  have F2 : Fr (W.setCell ⟨lb, 0, none⟩ (.int .i64 x.k)) ((W.setCell ⟨lb, 0, none⟩ (.int .i64 x.k)).setCell ⟨lb, 1, none⟩ (ptr tb)) (fun b => b = lb) := Fr.setCell _ _ _ _ rfl
  have F3 : Fr ((W.setCell ⟨lb, 0, none⟩ (.int .i64 x.k)).setCell ⟨lb, 1, none⟩ (ptr tb)) (((W.setCell ⟨lb, 0, none⟩ (.int .i64 x.k)).setCell ⟨lb, 1, none⟩ (ptr tb)).setCell ⟨gb, 0, none⟩ (.int .i64 (((pre ++ [x]).length : Nat) : Int))) (fun b => b = gb) := Fr.setCell _ _ _ _ rfl
  have F12 := F1.trans F2 (e3 := fun b => b = lb) fun _ _ q => by rcases q with q | q <;> exact q
  have F : Fr W (((W.setCell ⟨lb, 0, none⟩ (.int .i64 x.k)).setCell ⟨lb, 1, none⟩ (ptr tb)).setCell ⟨gb, 0, none⟩ (.int .i64 (((pre ++ [x]).length : Nat) : Int))) (fun b => b = lb ∨ b = gb) := F12.trans F3 fun _ _ q => q
  refine ⟨M, ⟨H.fr.trans F fun b _ q => ?_, ?_, (H.go.fr F12 hne).set 0 _, H.m⟩, F.mono fun b _ q => ?_, fun b hb => .inl hb⟩
  · rcases q with q | q | q
    · exact q
    · exact .inr (.inl q)
    · exact .inr (.inr (.inl q))
  · rw [lastC_snoc]
    have h3 := (H.la.set 0 (.int .i64 x.k)).set 1 (ptr tb)
    have e : ((lastC tb pre).setIfInBounds 0 (.int .i64 x.k)).setIfInBounds 1 (ptr tb) = #[.int .i64 x.k, ptr tb] := by
      unfold lastC
      cases pre.getLast? <;> rfl
    rw [e] at h3
    exact h3.fr F3 (Ne.symm hne)
  · rcases q with q | q
    · rw [q]; exact (H.m _).2 h1
    · rw [q]; exact (H.m _).2 h2
theorem load_bool {g : Nat} {bv : Bool} {w : World} (hc : w.cell? ⟨g, 0, none⟩ = some (.bool bv)) : (loadVar 4 ⟨g, 0, none⟩).run Try.prog w = .ok (.bool bv) w := by go_simp
theorem results_bool {fn : Func} (h : fn.results = #[.cell 4 4]) (tmps : Array Value) (w : World) {g : Nat} {bv : Bool} (hp : tmps.getD 4 undef = .pointer (some ⟨g, 0, none⟩)) (hc : w.cell? ⟨g, 0, none⟩ = some (.bool bv)) : (results fn tmps).run Try.prog w = .ok (.bool bv) w := by
  have hp' : tmps[4]?.getD undef = .pointer (some ⟨g, 0, none⟩) := by simpa using hp
  simp [results, h, hp', asAddr, load_bool hc]
end Go.Proofs.Ytdnhhcbabdoomaa.C
