/-
  risk: what one account does changes nothing for another one (plain).
-/
import Derived.Test.YtgioknkfppaaaaaGAns
namespace Go.Proofs.Ytgioknkfppaaaaa
set_option linter.unusedVariables false
set_option linter.unusedSimpArgs false

def sB : ByteArray := ⟨#[66]⟩
theorem neAB : (sA.toList == sB.toList) = false := by
  rw [ByteArray.toList_eq, ByteArray.toList_eq]; decide
theorem neBA : (sB.toList == sA.toList) = false := by
  rw [ByteArray.toList_eq, ByteArray.toList_eq]; decide
/-- Two accounts that differ in their blocks alone. -/
structure Alike (a b : Ac) : Prop where
  nm : a.nm = b.nm
  od : a.od = b.od
  op : a.op = b.op
  po : a.po = b.po
  bu : a.bu = b.bu
  pe : a.pe = b.pe
  st : a.st = b.st
  due : a.due = b.due
  pos : a.pos = b.pos
def fA (O : List Oo) : List Oo := O.filter fun x => x.ac.toList == sA.toList
/-- A guard of A and B beside one of A alone. -/
structure Rel (Gb Ga : Gd) (a b a' : Ac) (Ob Oa : List Oo) : Prop where
  gb : Gb.A = [a, b]
  ga : Ga.A = [a']
  ob : Gb.O = Ob
  oa : Ga.O = Oa
  na : a.nm = sA
  nb : b.nm = sB
  al : Alike a a'
  bk : a.blk ≠ b.blk
  perm : (fA Ob).Perm Oa
  ids : ∀ x ∈ Ob, (x.ac = sA ∧ x.id % 2 = 0) ∨ (x.ac = sB ∧ x.id % 2 = 1)
section
variable {Gb Ga : Gd} {a b a' : Ac} {Ob Oa : List Oo}
theorem Rel.accA (h : Rel Gb Ga a b a' Ob Oa) : Gb.acc sA = some a := by
  unfold Gd.acc; rw [h.gb, List.find?_cons, h.na, str_self]
theorem Rel.accB (h : Rel Gb Ga a b a' Ob Oa) : Gb.acc sB = some b := by
  unfold Gd.acc; rw [h.gb, List.find?_cons, h.na, neAB, List.find?_cons, h.nb, str_self]
theorem Rel.acca (h : Rel Gb Ga a b a' Ob Oa) : Ga.acc sA = some a' := by
  unfold Gd.acc; rw [h.ga, List.find?_cons, ← h.al.nm, h.na, str_self]
theorem Rel.setA1 (h : Rel Gb Ga a b a' Ob Oa) {x : Ac} (hx : x.blk = a.blk) : setA Gb.A x = [x, b] := by
  rw [h.gb]; unfold setA
  have : ¬ b.blk = x.blk := fun e => h.bk (e.trans hx).symm
  simp [hx.symm, this]
theorem Rel.setA2 (h : Rel Gb Ga a b a' Ob Oa) {x : Ac} (hx : x.blk = b.blk) : setA Gb.A x = [a, x] := by
  rw [h.gb]; unfold setA
  have : ¬ a.blk = x.blk := fun e => h.bk (e.trans hx)
  simp [hx.symm, this]
theorem Rel.seta (h : Rel Gb Ga a b a' Ob Oa) {x : Ac} (hx : x.blk = a'.blk) : setA Ga.A x = [x] := by
  rw [h.ga]; unfold setA; simp [hx.symm]
theorem Rel.inA (h : Rel Gb Ga a b a' Ob Oa) {x : Oo} (hx : x ∈ Ob) (he : x.id % 2 = 0) : x ∈ fA Ob ∧ x.ac = sA := by
  rcases h.ids x hx with ⟨h1, _⟩ | ⟨_, h2⟩
  · exact ⟨List.mem_filter.2 ⟨hx, by rw [h1, str_self]⟩, h1⟩
  · omega
theorem Rel.fAac (h : Rel Gb Ga a b a' Ob Oa) {x : Oo} (hx : x ∈ Oa) : x.ac = sA ∧ x.id % 2 = 0 ∧ x ∈ Ob := by
  have h1 := List.mem_filter.1 (h.perm.mem_iff.2 hx)
  have h2 := str_eq h1.2
  rcases h.ids x h1.1 with ⟨_, h3⟩ | ⟨h3, _⟩
  · exact ⟨h2, h3, h1.1⟩
  · rw [h2] at h3
    have := neAB
    rw [h3] at this
    rw [str_self] at this; cases this
theorem ovL_fA (O : List Oo) (but : Int) : ovL O sA but = (fA O).filter fun x => !(x.id == but) := by
  unfold ovL fA
  rw [List.filter_filter]
theorem Rel.allA (h : Rel Gb Ga a b a' Ob Oa) : fA Oa = Oa := by
  unfold fA
  rw [List.filter_eq_self]
  intro x hx
  rw [(h.fAac hx).1, str_self]
theorem Rel.ov (h : Rel Gb Ga a b a' Ob Oa) (but : Int) : ovI Gb.O sA but = ovI Ga.O sA but := by
  unfold ovI
  rw [h.ob, h.oa, ovL_fA, ovL_fA, h.allA, sumV_perm (h.perm.filter _)]
theorem rcL_fA (O : List Oo) (o : Ord) (ho : o.ac = sA) : rcL O o = (fA O).filter fun x => (!(x.id == o.id) && (x.sy.toList == o.sy.toList)) && x.sd == o.sd := by
  unfold rcL fA
  rw [List.filter_filter]
  refine List.filter_congr fun x _ => ?_
  rw [ho]
  cases (x.id == o.id) <;> cases (x.ac.toList == sA.toList) <;> cases (x.sy.toList == o.sy.toList) <;> cases (x.sd == o.sd) <;> rfl
theorem Rel.posI (h : Rel Gb Ga a b a' Ob Oa) (sy : ByteArray) : posI a sy = Go.Proofs.Ytgioknkfppaaaaa.posI a' sy := by
  unfold Go.Proofs.Ytgioknkfppaaaaa.posI; rw [h.al.pos]
theorem Rel.rc (h : Rel Gb Ga a b a' Ob Oa) (o : Ord) (ho : o.ac = sA) : rcI a Gb.O o = rcI a' Ga.O o := by
  unfold rcI
  rw [h.posI, h.ob, h.oa, rcL_fA _ _ ho, rcL_fA _ _ ho, h.allA, sumQ_perm (h.perm.filter _)]
theorem Rel.ab (h : Rel Gb Ga a b a' Ob Oa) (o : Ord) (v : Int) (ho : o.ac = sA) : abB a Gb.O o v = abB a' Ga.O o v := by
  unfold abB
  rw [h.rc o ho, ho, h.ov, h.al.od, h.al.op, h.al.po]
theorem Rel.at (h : Rel Gb Ga a b a' Ob Oa) (id : Int) (he : id % 2 = 0) : (Gb.at id).isSome = (Ga.at id).isSome := by
  unfold Gd.at
  rw [h.ob, h.oa, Bool.eq_iff_iff, List.find?_isSome, List.find?_isSome]
  constructor
  · rintro ⟨x, hx, e⟩
    have e' : x.id = id := by simpa using e
    exact ⟨x, h.perm.mem_iff.1 (h.inA hx (by rw [e']; exact he)).1, e⟩
  · rintro ⟨x, hx, e⟩
    exact ⟨x, (h.fAac hx).2.2, e⟩
theorem doO_fA (O : List Oo) (id : Int) : fA (doO O id) = doO (fA O) id := by
  unfold fA doO
  rw [List.filter_filter, List.filter_filter]
  exact List.filter_congr fun x _ => Bool.and_comm _ _
theorem mem_doO {O : List Oo} {id : Int} {x : Oo} (h : x ∈ doO O id) : x ∈ O := (List.mem_filter.1 h).1
/-- What both do with their own account. -/
theorem Rel.done (h : Rel Gb Ga a b a' Ob Oa) (id : Int) (he : id % 2 = 0) : Rel { Gb with O := doO Ob id } { Ga with O := doO Oa id } a b a' (doO Ob id) (doO Oa id) :=
  ⟨h.gb, h.ga, rfl, rfl, h.na, h.nb, h.al, h.bk, by rw [doO_fA]; exact h.perm.filter _, fun x hx => h.ids x (mem_doO hx)⟩
theorem Rel.opens (h : Rel Gb Ga a b a' Ob Oa) {x : Oo} (hx : x.ac = sA) (he : x.id % 2 = 0) : Rel { Gb with O := x :: doO Ob x.id } { Ga with O := x :: doO Oa x.id } a b a' (x :: doO Ob x.id) (x :: doO Oa x.id) := by
  refine ⟨h.gb, h.ga, rfl, rfl, h.na, h.nb, h.al, h.bk, ?_, fun y hy => ?_⟩
  · unfold fA
    rw [List.filter_cons, hx, str_self]
    simp only [if_true]
    refine List.Perm.cons _ ?_
    show (fA (doO Ob x.id)).Perm _
    rw [doO_fA]; exact h.perm.filter _
  · rcases List.mem_cons.1 hy with rfl | hy
    · exact .inl ⟨hx, he⟩
    · exact h.ids y (mem_doO hy)
/-- What B does. -/
theorem Rel.doneB (h : Rel Gb Ga a b a' Ob Oa) (id : Int) (he : id % 2 = 1) : Rel { Gb with O := doO Ob id } Ga a b a' (doO Ob id) Oa := by
  refine ⟨h.gb, h.ga, rfl, h.oa, h.na, h.nb, h.al, h.bk, ?_, fun x hx => h.ids x (mem_doO hx)⟩
  rw [doO_fA]
  refine List.Perm.trans ?_ h.perm
  unfold doO
  rw [List.filter_eq_self.2]
  intro x hx
  have : (x.id == id) = false := by
    rw [beq_eq_false_iff_ne]
    intro e
    have := (h.fAac (h.perm.mem_iff.1 hx)).2.1
    omega
  rw [this]; rfl
theorem Rel.opensB (h : Rel Gb Ga a b a' Ob Oa) {x : Oo} (hx : x.ac = sB) (he : x.id % 2 = 1) : Rel { Gb with O := x :: doO Ob x.id } Ga a b a' (x :: doO Ob x.id) Oa := by
  have h2 := h.doneB x.id he
  refine ⟨h.gb, h.ga, rfl, h.oa, h.na, h.nb, h.al, h.bk, ?_, fun y hy => ?_⟩
  · unfold fA
    rw [List.filter_cons, hx, neBA]
    exact h2.perm
  · rcases List.mem_cons.1 hy with rfl | hy
    · exact .inr ⟨hx, he⟩
    · exact h.ids y (mem_doO hy)
theorem Rel.accs (h : Rel Gb Ga a b a' Ob Oa) {x x' : Ac} (h1 : x.blk = a.blk) (h2 : x'.blk = a'.blk) (h3 : x.nm = sA) (h4 : Alike x x') : Rel { Gb with A := setA Gb.A x } { Ga with A := setA Ga.A x' } x b x' Ob Oa :=
  ⟨h.setA1 h1, h.seta h2, h.ob, h.oa, h3, h.nb, h4, by rw [h1]; exact h.bk, h.perm, h.ids⟩
theorem Rel.accsB (h : Rel Gb Ga a b a' Ob Oa) {x : Ac} (h1 : x.blk = b.blk) (h3 : x.nm = sB) : Rel { Gb with A := setA Gb.A x } Ga a x a' Ob Oa :=
  ⟨h.setA2 h1, h.ga, h.ob, h.oa, h.na, h3, h.al, by rw [h1]; exact h.bk, h.perm, h.ids⟩
end
/-- Some guards that stand so. -/
def RelX (Gb Ga : Gd) : Prop := ∃ a b a' Ob Oa, Rel Gb Ga a b a' Ob Oa
theorem opE_A {Gb Ga : Gd} {a b a' : Ac} {Ob Oa : List Oo} (h : Rel Gb Ga a b a' Ob Oa) (o : Ord) (mark : Int) (ho : o.ac = sA) (he : o.id % 2 = 0) : opE Gb o mark = (if isoB o mark = false ∨ o.id < 1 then 1 else 0) ∧ opE Ga o mark = (if isoB o mark = false ∨ o.id < 1 then 1 else 0) := by
  unfold opE
  rw [ho, h.accA, h.acca]
  simp only
  refine ⟨?_, ?_⟩
  · split
    · rfl
    · cases hg : Gb.at o.id with
      | none => rfl
      | some x =>
        simp only
        have hx := List.mem_of_find?_eq_some hg
        have hi : x.id = o.id := by simpa using List.find?_some hg
        rw [h.ob] at hx
        rw [(h.inA hx (by rw [hi]; exact he)).2, str_self]; rfl
  · split
    · rfl
    · cases hg : Ga.at o.id with
      | none => rfl
      | some x =>
        simp only
        have hx := List.mem_of_find?_eq_some hg
        rw [h.oa] at hx
        rw [(h.fAac hx).1, str_self]; rfl
theorem step_mine {Gb Ga : Gd} (h : RelX Gb Ga) (p : Opp) (h1 : p.o.ac = sA) (h2 : p.ac = sA) (he : p.o.id % 2 = 0) : anT Gb p = anT Ga p ∧ RelX (anG Gb p) (anG Ga p) := by
  obtain ⟨a, b, a', Ob, Oa, h⟩ := h
  unfold anT anG
  by_cases k2 : p.k = 2
  · rw [if_pos k2, if_pos k2, if_pos k2, if_pos k2]
    unfold ckE ckG
    rw [h1, h.accA, h.acca]
    simp only
    have e1 : tkB a p.now = tkB a' p.now := by unfold tkB; rw [h.al.bu, h.al.pe, h.al.due]
    have e2 : tkD a p.now = tkD a' p.now := by unfold tkD; rw [h.al.bu, h.al.pe, h.al.due]
    rw [h.ab p.o (valI p.o p.mrk) h1, e1, h.al.st]
    refine ⟨rfl, ?_⟩
    split
    · exact ⟨a, b, a', Ob, Oa, h⟩
    · split
      · exact ⟨a, b, a', Ob, Oa, h⟩
      · exact ⟨_, _, _, _, _, h.accs (x := { a with st := a'.st, due := tkD a p.now }) (x' := { a' with due := tkD a' p.now }) rfl rfl h.na ⟨h.al.nm, h.al.od, h.al.op, h.al.po, h.al.bu, h.al.pe, rfl, e2, h.al.pos⟩⟩
  rw [if_neg k2, if_neg k2, if_neg k2, if_neg k2]
  by_cases k3 : p.k = 3
  · rw [if_pos k3, if_pos k3, if_pos k3, if_pos k3]
    obtain ⟨e1, e2⟩ := opE_A h p.o p.mrk h1 he
    unfold opO
    by_cases hb : isoB p.o p.mrk = false ∨ p.o.id < 1
    · rw [if_pos hb] at e1 e2
      rw [e1, e2, if_neg (by decide), if_neg (by decide)]
      exact ⟨rfl, a, b, a', Ob, Oa, h⟩
    · rw [if_neg hb] at e1 e2
      rw [e1, e2, if_pos rfl, if_pos rfl, h.ob, h.oa]
      exact ⟨rfl, _, _, _, _, _, h.opens (x := p.o.oo p.mrk) h1 he⟩
  rw [if_neg k3, if_neg k3, if_neg k3, if_neg k3]
  by_cases k4 : p.k = 4
  · rw [if_pos k4, if_pos k4, if_pos k4, if_pos k4, h.at _ he]
    refine ⟨rfl, ?_⟩
    split
    · rw [h.ob, h.oa]
      exact ⟨_, _, _, _, _, h.done p.o.id he⟩
    · exact ⟨a, b, a', Ob, Oa, h⟩
  rw [if_neg k4, if_neg k4, if_neg k4, if_neg k4]
  by_cases k5 : p.k = 5
  · rw [if_pos k5, if_pos k5, if_pos k5, if_pos k5]
    unfold trE trG
    rw [h2, h.accA, h.acca]
    simp only
    refine ⟨by first | rfl | trivial, ?_⟩
    split
    · exact ⟨a, b, a', Ob, Oa, h⟩
    · have e : mvL a p.sy p.q = mvL a' p.sy p.q := by unfold mvL; rw [h.posI, h.al.pos]
      exact ⟨_, _, _, _, _, h.accs (x := { a with pos := mvL a p.sy p.q }) (x' := { a' with pos := mvL a' p.sy p.q }) rfl rfl h.na ⟨h.al.nm, h.al.od, h.al.op, h.al.po, h.al.bu, h.al.pe, h.al.st, h.al.due, e⟩⟩
  rw [if_neg k5, if_neg k5, if_neg k5, if_neg k5]
  by_cases k6 : p.k = 6
  · rw [if_pos k6, if_pos k6, if_pos k6, if_pos k6]
    unfold klE klG
    rw [h2, h.accA, h.acca]
    exact ⟨rfl, _, _, _, _, _, h.accs (x := { a with st := p.on }) (x' := { a' with st := p.on }) rfl rfl h.na ⟨h.al.nm, h.al.od, h.al.op, h.al.po, h.al.bu, h.al.pe, rfl, h.al.due, h.al.pos⟩⟩
  rw [if_neg k6, if_neg k6, if_neg k6, if_neg k6]
  refine ⟨?_, ⟨a, b, a', Ob, Oa, h⟩⟩
  split
  · unfold lkT
    rw [h2, h.accA, h.acca]
    simp only
    rw [h.ov, h.posI]
  · rfl
theorem step_other {Gb Ga : Gd} (h : RelX Gb Ga) (p : Opp) (h1 : p.o.ac = sB) (h2 : p.ac = sB) (he : p.o.id % 2 = 1) : RelX (anG Gb p) Ga := by
  obtain ⟨a, b, a', Ob, Oa, h⟩ := h
  have same : RelX Gb Ga := ⟨a, b, a', Ob, Oa, h⟩
  unfold anG
  by_cases k2 : p.k = 2
  · rw [if_pos k2]
    unfold ckG
    rw [h1, h.accB]
    simp only
    split
    · exact same
    · split
      · exact same
      · exact ⟨_, _, _, _, _, h.accsB (x := { b with due := tkD b p.now }) rfl h.nb⟩
  rw [if_neg k2]
  by_cases k3 : p.k = 3
  · rw [if_pos k3]
    unfold opO
    split
    · rw [h.ob]
      exact ⟨_, _, _, _, _, h.opensB (x := p.o.oo p.mrk) h1 he⟩
    · exact same
  rw [if_neg k3]
  by_cases k4 : p.k = 4
  · rw [if_pos k4]
    split
    · rw [h.ob]
      exact ⟨_, _, _, _, _, h.doneB p.o.id he⟩
    · exact same
  rw [if_neg k4]
  by_cases k5 : p.k = 5
  · rw [if_pos k5]
    unfold trG
    rw [h2, h.accB]
    simp only
    split
    · exact same
    · exact ⟨_, _, _, _, _, h.accsB (x := { b with pos := mvL b p.sy p.q }) rfl h.nb⟩
  rw [if_neg k5]
  by_cases k6 : p.k = 6
  · rw [if_pos k6]
    unfold klG
    rw [h2, h.accB]
    exact ⟨_, _, _, _, _, h.accsB (x := { b with st := p.on }) rfl h.nb⟩
  rw [if_neg k6]
  exact same
/-- How much a guard knows, at most. -/
def LenG (G : Gd) (n : Nat) : Prop := G.O.length ≤ n ∧ ∀ a ∈ G.A, a.pos.length ≤ n
theorem setA_len {A : List Ac} {x : Ac} {n : Nat} (h : ∀ a ∈ A, a.pos.length ≤ n) (hx : x.pos.length ≤ n) : ∀ a ∈ setA A x, a.pos.length ≤ n := fun a ha => by
  rcases mem_setA ha with rfl | ⟨h1, _⟩
  · exact hx
  · exact h a h1
theorem LenG.mono {G : Gd} {n m : Nat} (h : LenG G n) (hm : n ≤ m) : LenG G m := ⟨Nat.le_trans h.1 hm, fun a ha => Nat.le_trans (h.2 a ha) hm⟩
theorem LenG.step {G : Gd} {n : Nat} (h : LenG G n) (p : Opp) : LenG (anG G p) (n + 1) := by
  have same : LenG G (n + 1) := h.mono (Nat.le_succ _)
  have hd : ∀ id, (doO G.O id).length ≤ n := fun id => Nat.le_trans (List.length_filter_le _ _) h.1
  have hmv : ∀ a ∈ G.A, ∀ sy q, (mvL a sy q).length ≤ n + 1 := fun a ha sy q => by
    have := h.2 a ha
    have h1 : (a.pos.filter fun p => !(p.1.toList == sy.toList)).length ≤ n := Nat.le_trans (List.length_filter_le _ _) this
    unfold mvL
    split
    · omega
    · rw [List.length_cons]; omega
  unfold anG
  split
  · unfold ckG
    split
    · exact same
    · cases hn : G.acc p.o.ac with
      | none => exact same
      | some a =>
        simp only
        split
        · exact same
        · exact ⟨same.1, setA_len same.2 (same.2 a (Gd.acc_mem hn).1)⟩
  · split
    · refine ⟨?_, same.2⟩
      show (opO G p.o p.mrk).length ≤ n + 1
      unfold opO
      split
      · rw [List.length_cons]; have := hd p.o.id; omega
      · exact same.1
    · split
      · refine ⟨?_, same.2⟩
        show (if (G.at p.o.id).isSome = true then doO G.O p.o.id else G.O).length ≤ n + 1
        split
        · have := hd p.o.id; omega
        · exact same.1
      · split
        · unfold trG
          cases hn : G.acc p.ac with
          | none => exact same
          | some a =>
            simp only
            split
            · exact same
            · exact ⟨same.1, setA_len same.2 (hmv a (Gd.acc_mem hn).1 _ _)⟩
        · split
          · unfold klG
            cases hn : G.acc p.ac with
            | none => exact same
            | some a => exact ⟨same.1, setA_len same.2 (same.2 a (Gd.acc_mem hn).1)⟩
          · exact same
end Go.Proofs.Ytgioknkfppaaaaa
