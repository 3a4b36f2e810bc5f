/-
  HeapPlays: where goes stands.
-/
import Derived.Test.YtdnhhcbabdoomaaHP6
namespace Go.Proofs.Ytdnhhcbabdoomaa
set_option linter.unusedVariables false
set_option linter.unusedSimpArgs false
open Go.RowKit Go.Great

theorem PW.ownT {w W : World} {wb : Nat} {S : St} {col : Nat → Nat} (H : PW w W wb S col) {b : Nat} {T : TypeId} {cs : Array Value} (hb : Blk W b T cs) (hT : freeT T) : ¬ owns wb S b := fun q => by
  obtain ⟨t1, t2, t3, t4, t5, t6, t7⟩ := hT
  rcases q with ⟨k, hk, q | q⟩ | q | q | q | ⟨e, he, q⟩
  · exact (H.hp k hk).other hb t1 t2 t3 q
  · exact (H.rh k hk).other hb t4 t5 t6 q
  · exact H.ri.ne_type hb (Ne.symm t2) q
  · exact H.rj.ne_type hb (Ne.symm t5) q
  · exact H.bw.neT hb (Ne.symm t7) q.symm
  · obtain ⟨j, hj⟩ := H.it e he
    exact hj.neT hb (Ne.symm t3) q
def Boxes (W : World) (wb b6 b8 b9 b10 b11 k : Nat) (nn ch : Int) (x : Th) : Prop := Blk W b6 83 #[ptr wb] ∧ Blk W b8 3 #[.int .i64 (k : Int)] ∧ Blk W b9 3 #[.int .i64 nn] ∧ Blk W b10 3 #[.int .i64 ch] ∧ Blk W b11 30 #[.int .i64 x.k, .int .i64 x.g]
/-- Where goes stands: i have come. -/
structure GO (w W Wl : World) (wb : Nat) (S0 : St) (b6 b8 b9 b10 b11 b13 b14 b15 k : Nat) (nn ch : Int) (x : Th) (wv : Value) (l : List Th) (S1 : St) (col1 : Nat → Nat) (W1 : World) (i c : Nat) : Prop where
  pw : PW w W1 wb S1 col1
  hh : S1.h = S0.h ∧ S1.r = S0.r
  ln : S1.C.length ≤ S0.C.length + c
  nw : ∀ b, owns wb S1 b → owns wb S0 b ∨ W.heap.size ≤ b
  fr : Fr W W1 (owns wb S0)
  bx : Boxes W1 wb b6 b8 b9 b10 b11 k nn ch x
  wa : Blk W1 b13 31 #[wv]
  wr : RowAt W1 30 2 wv l.length (flatL thw l)
  i14 : Blk W1 b14 3 #[.int .i64 (i : Int)]
  g15 : Blk W1 b15 4 #[.bool true]
  lt : b6 < Wl.heap.size ∧ b8 < Wl.heap.size ∧ b9 < Wl.heap.size ∧ b10 < Wl.heap.size ∧ b11 < Wl.heap.size ∧ b13 < Wl.heap.size ∧ b14 < Wl.heap.size ∧ b15 < Wl.heap.size ∧ ∀ g, wv.ownBlock = some g → g < Wl.heap.size
  lo : W.heap.size ≤ b14 ∧ W.heap.size ≤ b15 ∧ b8 < b14 ∧ b9 < b14 ∧ b10 < b14
  sz : Wl.heap.size ≤ W1.heap.size
  sw : W.heap.size ≤ Wl.heap.size
section
variable {w W Wl : World} {wb : Nat} {S0 : St} {b6 b8 b9 b10 b11 b13 b14 b15 k : Nat} {nn ch : Int} {x : Th} {wv : Value} {l : List Th} {S1 S2 : St} {col1 col2 : Nat → Nat} {W1 W2 : World} {i c i' c' : Nat}
theorem GO.upd (G : GO w W Wl wb S0 b6 b8 b9 b10 b11 b13 b14 b15 k nn ch x wv l S1 col1 W1 i c) {ex : Nat → Prop} (hf : Fr W1 W2 ex) (pw : PW w W2 wb S2 col2) (hh : S2.h = S1.h ∧ S2.r = S1.r) (ln : S2.C.length ≤ S0.C.length + c') (nw : ∀ b, owns wb S2 b → owns wb S1 b ∨ W1.heap.size ≤ b) (hfr : ∀ b, b < W.heap.size → ex b → owns wb S1 b)
    (hb : ∀ b T cs, Blk W1 b T cs → freeT T → b ≠ b14 → b ≠ b15 → b < Wl.heap.size → ¬ ex b) (h14 : Blk W2 b14 3 #[.int .i64 (i' : Int)]) (h15 : Blk W2 b15 4 #[.bool true]) : GO w W Wl wb S0 b6 b8 b9 b10 b11 b13 b14 b15 k nn ch x wv l S2 col2 W2 i' c' := by
  obtain ⟨l1, l2, l3, l4, l5, l6, l7, l8, l9⟩ := G.lt
  obtain ⟨o1, o2, o3, o4, o5⟩ := G.lo
  obtain ⟨x6, x8, x9, x10, x11⟩ := G.bx
  refine ⟨pw, ⟨hh.1.trans G.hh.1, hh.2.trans G.hh.2⟩, ln, fun b q => ?_, G.fr.trans hf fun b hb' q => ?_, ⟨x6.fr hf (hb _ _ _ x6 (by unfold freeT; decide) ?_ ?_ l1), x8.fr hf (hb _ _ _ x8 (by unfold freeT; decide) (by omega) ?_ l2), x9.fr hf (hb _ _ _ x9 (by unfold freeT; decide) (by omega) ?_ l3), x10.fr hf (hb _ _ _ x10 (by unfold freeT; decide) (by omega) ?_ l4), x11.fr hf (hb _ _ _ x11 (by unfold freeT; decide) ?_ ?_ l5)⟩, G.wa.fr hf (hb _ _ _ G.wa (by unfold freeT; decide) ?_ ?_ l6), G.wr.fr hf fun g hg => ?_, h14, h15, G.lt, G.lo, Nat.le_trans G.sz hf.size, G.sw⟩
  · rcases nw b q with r | r
    · exact G.nw b r
    · have := G.sz; have := G.sw; exact .inr (by omega)
  · rcases q with q | q
    · exact q
    · rcases G.nw b (hfr b hb' q) with r | r
      · exact r
      · omega
  · exact x6.neT G.i14 (by decide)
  · exact x6.neT G.g15 (by decide)
  · exact x8.neT G.g15 (by decide)
  · exact x9.neT G.g15 (by decide)
  · exact x10.neT G.g15 (by decide)
  · exact x11.neT G.i14 (by decide)
  · exact x11.neT G.g15 (by decide)
  · exact G.wa.neT G.i14 (by decide)
  · exact G.wa.neT G.g15 (by decide)
  · obtain ⟨_, cur, hc⟩ := G.wr.lt hg
    have hbk : Blk W1 g 30 cur := hc
    exact hb _ _ _ hbk (by unfold freeT; decide) (hbk.neT G.i14 (by decide)) (hbk.neT G.g15 (by decide)) (l9 g hg)
theorem GO.nx (G : GO w W Wl wb S0 b6 b8 b9 b10 b11 b13 b14 b15 k nn ch x wv l S1 col1 W1 i c) {n : Nat} (h : Nx w W1 W2 wb S1 col1 n) : ∃ S2 col2, GO w W Wl wb S0 b6 b8 b9 b10 b11 b13 b14 b15 k nn ch x wv l S2 col2 W2 i (c + n) ∧ (∀ b, owns wb S2 b → owns wb S1 b ∨ W1.heap.size ≤ b) ∧ Fr W1 W2 (owns wb S1) := by
  obtain ⟨S2, c2, h1, h2, h3, h4, h5, h6⟩ := h
  exact ⟨S2, c2, G.upd h6 h1 ⟨h2, h3⟩ (by have := G.ln; omega) h5 (fun _ _ q => q) (fun b T cs hb hT _ _ _ => G.pw.ownT hb hT) (G.i14.fr h6 (G.pw.ownT G.i14 (by unfold freeT; decide))) (G.g15.fr h6 (G.pw.ownT G.g15 (by unfold freeT; decide))), h5, h6⟩
theorem GO.sm (G : GO w W Wl wb S0 b6 b8 b9 b10 b11 b13 b14 b15 k nn ch x wv l S1 col1 W1 i c) (hf : Fr W1 W2 (fun _ => False)) : GO w W Wl wb S0 b6 b8 b9 b10 b11 b13 b14 b15 k nn ch x wv l S1 col1 W2 i c :=
  G.upd hf (G.pw.sm hf) ⟨rfl, rfl⟩ G.ln (fun _ q => .inl q) (fun _ _ q => q.elim) (fun _ _ _ _ _ _ _ _ q => q) (G.i14.fr hf fun q => q) (G.g15.fr hf fun q => q)
/-- A block of one's own beside all that is written. -/
theorem GO.off (G : GO w W Wl wb S0 b6 b8 b9 b10 b11 b13 b14 b15 k nn ch x wv l S1 col1 W1 i c) (hw : w.heap.size ≤ W.heap.size) {g : Nat} {T : TypeId} {cs : Array Value} (hf : Fr W1 W2 (fun b => b = g)) (hb : Blk W1 g T cs) (hT : freeT T) (hg : Wl.heap.size ≤ g) : GO w W Wl wb S0 b6 b8 b9 b10 b11 b13 b14 b15 k nn ch x wv l S1 col1 W2 i c :=
  G.upd hf (G.pw.frT hf hb hT (Nat.le_trans hw (Nat.le_trans G.sw hg))) ⟨rfl, rfl⟩ G.ln (fun _ q => .inl q) (fun b h q => by have := G.sw; omega) (fun b _ _ _ _ _ _ h q => by omega) (G.i14.fr hf fun q => by have := G.lt; omega) (G.g15.fr hf fun q => by have := G.lt; omega)
theorem GO.set14 (G : GO w W Wl wb S0 b6 b8 b9 b10 b11 b13 b14 b15 k nn ch x wv l S1 col1 W1 i c) (hw : w.heap.size ≤ W.heap.size) : GO w W Wl wb S0 b6 b8 b9 b10 b11 b13 b14 b15 k nn ch x wv l S1 col1 (W1.setCell ⟨b14, 0, none⟩ (.int .i64 ((i + 1 : Nat) : Int))) (i + 1) c := by
  have hf : Fr W1 (W1.setCell ⟨b14, 0, none⟩ (.int .i64 ((i + 1 : Nat) : Int))) (fun b => b = b14) := Fr.setCell _ ⟨b14, 0, none⟩ _ (fun b => b = b14) rfl
  exact G.upd hf (G.pw.frT hf G.i14 (by unfold freeT; decide) (by have := G.lo; omega)) ⟨rfl, rfl⟩ G.ln (fun _ q => .inl q) (fun b h q => by have := G.lo; omega) (fun b _ _ _ _ h _ _ q => h q) (G.i14.set 0 _) (G.g15.fr hf fun q => G.g15.neT G.i14 (by decide) q)
theorem GO.set15 (G : GO w W Wl wb S0 b6 b8 b9 b10 b11 b13 b14 b15 k nn ch x wv l S1 col1 W1 i c) (hw : w.heap.size ≤ W.heap.size) : GO w W Wl wb S0 b6 b8 b9 b10 b11 b13 b14 b15 k nn ch x wv l S1 col1 (W1.setCell ⟨b15, 0, none⟩ (.bool true)) i c := by
  have hf : Fr W1 (W1.setCell ⟨b15, 0, none⟩ (.bool true)) (fun b => b = b15) := Fr.setCell _ ⟨b15, 0, none⟩ _ (fun b => b = b15) rfl
  exact G.upd hf (G.pw.frT hf G.g15 (by unfold freeT; decide) (by have := G.lo; omega)) ⟨rfl, rfl⟩ G.ln (fun _ q => .inl q) (fun b h q => by have := G.lo; omega) (fun b _ _ _ _ _ h _ q => h q) (G.i14.fr hf fun q => G.i14.neT G.g15 (by decide) q) (G.g15.set 0 _)
/-- What others write leaves it as it is. -/
theorem GO.abid (G : GO w W Wl wb S0 b6 b8 b9 b10 b11 b13 b14 b15 k nn ch x wv l S1 col1 W1 i c) (hw : w.heap.size ≤ W.heap.size) {e : Nat → Prop} (hf : Fr W1 W2 e) (hn : ∀ b, e b → ¬ (b < Wl.heap.size ∨ owns wb S1 b)) : GO w W Wl wb S0 b6 b8 b9 b10 b11 b13 b14 b15 k nn ch x wv l S1 col1 W2 i c :=
  G.upd hf (G.pw.frO hf (fun b q r => hn b q (.inr r)) (fun b _ q => by have := G.sw; have := mt Or.inl (hn b q); omega)) ⟨rfl, rfl⟩ G.ln (fun _ q => .inl q) (fun b h q => absurd (.inl (by have := G.sw; omega)) (hn b q)) (fun b _ _ _ _ _ _ h q => hn b q (.inl h)) (G.i14.fr hf fun q => hn _ q (.inl G.lt.2.2.2.2.2.2.1)) (G.g15.fr hf fun q => hn _ q (.inl G.lt.2.2.2.2.2.2.2.1))
/-- A round: what it has written so far. -/
structure BD (Wl W1 W2 : World) (wb : Nat) (S1 S2 : St) : Prop where
  fr : Fr W1 W2 (fun b => b < Wl.heap.size ∨ owns wb S1 b)
  nw : ∀ b, owns wb S2 b → owns wb S1 b ∨ W1.heap.size ≤ b
theorem BD.step {W3 : World} {S3 : St} (B : BD Wl W1 W2 wb S1 S2) {ex : Nat → Prop} (hf : Fr W2 W3 ex) (hx : ∀ b, b < W1.heap.size → ex b → b < Wl.heap.size ∨ owns wb S2 b) (nw : ∀ b, owns wb S3 b → owns wb S2 b ∨ W2.heap.size ≤ b) : BD Wl W1 W3 wb S1 S3 := by
  refine ⟨B.fr.trans hf fun b hb q => ?_, fun b q => ?_⟩
  · rcases q with q | q
    · exact q
    · rcases hx b hb q with r | r
      · exact .inl r
      · rcases B.nw b r with s | s
        · exact .inr s
        · omega
  · rcases nw b q with r | r
    · exact B.nw b r
    · exact .inr (Nat.le_trans B.fr.size r)
end
end Go.Proofs.Ytdnhhcbabdoomaa
