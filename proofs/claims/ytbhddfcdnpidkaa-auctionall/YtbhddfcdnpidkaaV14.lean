/-
  A stable sort over rows of k cells: the whole of it.
-/
import Derived.Test.YtbhddfcdnpidkaaV13
import Derived.Test.YtbhddfcdnpidkaaU7
namespace Go.Proofs.Ytbhddfcdnpidkaa
set_option linter.unusedVariables false
set_option linter.unusedSimpArgs false
set_option linter.unusedSectionVars false
open Go.RowKit Go.Great Go.Shelf Go.Lib Go.Sort
variable {P : Program} {k : Nat} {α : Type} [Inhabited α]

set_option maxHeartbeats 16000000 in
set_option maxRecDepth 1000000 in
theorem stable_any (L : Ly P k) (enc : α → List Value) (cf : α → α → Int) (g : Nat) (cb : Array Value) (blk off cap : Nat) (d0 d : Array α) (w0 w : World)
    (eg : ∀ args w, (callFunc g args).run P w = .ok (.enter g args) w) (hcmp : CmpLays P g cb enc k cf blk off d0.size w0) (R : RowK enc k w0 blk off d0) (hO : SWO (ltOf cf)) (hs : d0.size = d.size) (S : SWK enc k w0 blk off d w) (hsz : d.size ≤ 1152921504606846976)
    (e69 : ∀ args w, (callFunc 69 args).run P w = .ok (.enter 69 args) w)
    (HI : ∀ (a b : Nat) (D : Array α) (w : World), d0.size = D.size → SWK enc k w0 blk off D w → a ≤ b → b ≤ D.size → D.size < 4611686018427387904 → Calls P 69 #[.slice (some ⟨blk, off, none⟩) D.size cap, .int .i64 a, .int .i64 b, .func (.func g) #[] cb] w fun e w' => e = .returned (.tuple #[]) ∧ SWK enc k w0 blk off (Sort.insertionSort (ltOf cf) D a b) w') :
    Calls P 59 #[.slice (some ⟨blk, off, none⟩) d.size cap, .int .i64 d.size, .func (.func g) #[] cb] w fun e w' => e = .returned (.tuple #[]) ∧ ∃ d', SWK enc k w0 blk off d' w' ∧ PermIn 0 d.size d d' ∧ SortedIn (ltOf cf) 0 d.size d' := by
  have mixed := L.mixed; have aE := L.aE; have zE := L.zE; have u58 := run_underlying L.t58; have t3 := L.t3; have a3 := L.a3; have z3 := L.z3; have v3 := L.v3; have t4 := L.t4; have a4 := L.a4; have z4 := L.z4; have v4 := L.v4; have t58 := L.t58; have a58 := L.a58; have z58 := L.z58; have v58 := L.v58; have t79 := L.t79; have a79 := L.a79; have z79 := L.z79; have v79 := L.v79; have t96 := L.t96; have a96 := L.a96; have z96 := L.z96; have v96 := L.v96
  have e70 : ∀ args w, (callFunc 70 args).run P w = .ok (.enter 70 args) w := enters_of L.f70 (by kernel_rfl) rfl
  have SM := fun (a m b : Nat) (D : Array α) (w : World) => symMerge_any L enc cf g cb blk off cap d0 w0 eg hcmp R (b - a + 1) a m b D w (Nat.lt_succ_self _)
  have HSM : Aside _ := SM
  have HIN : Aside _ := HI
  clear SM HI hcmp
  have ins := fun (D : Array α) (a b : Nat) (h1 : a ≤ b) (h2 : b ≤ D.size) => insertionSort_holds hO D a b h1 h2
  have HINS : Aside _ := ins
  clear ins
  have S0 : Aside (SWK enc k w0 blk off d w) := S
  clear S
  obtain ⟨n, hn⟩ : ∃ n, n = d.size := ⟨_, rfl⟩
  have HN : Hid (n = d.size) := hn
  have hn9 : n ≤ 1152921504606846976 := by omega
  have hnle : n ≤ d.size := by omega
  rw [← hn]
  rw [← hn] at hs hsz hnle
  clear hn
  have HU0 : Hid (Upto (ltOf cf) 20 n 0 0 d d) := Upto.start d
  go_enter L.f59, Try.ntmps59
  go_wp2
  go_loopg [7, 8] n (fun kx s7 s8 wr => ∃ (q a : Nat) (D : Array α), s7 = .int .i64 a ∧ s8 = .int .i64 ((a + 20 : Nat) : Int) ∧ a ≤ n ∧ n - a ≤ kx ∧ D.size = n ∧ Aside (SWK enc k w0 blk off D wr) ∧ Hid (Upto (ltOf cf) 20 n q a d D))
  case atStart => exact ⟨0, 0, d, rfl, rfl, Nat.zero_le _, by omega, HN.out.symm, S0, HU0⟩
  case round =>
    clear S0 HU0
    obtain ⟨q, a, D, rfl, rfl, han, hkx, hds, S1, HU⟩ := hrel
    have ra : IntKind.i64.wrap ((a : Int) + 20 + 20) = (a : Int) + 20 + 20 := by rw [IntKind.wrap_i64]; omega
    by_cases hb : a + 20 ≤ n
    · have hbz : (a : Int) + 20 ≤ (n : Int) := by omega
      have hc := HIN.out a (a + 20) D wr (by omega) S1.out (by omega) (by omega) (by omega)
      rw [hds, show ((a + 20 : Nat) : Int) = (a : Int) + 20 by omega] at hc
      have hi := HINS.out D a (a + 20) (by omega) (by omega)
      have HU2 : Hid (Upto (ltOf cf) 20 n (q + 1) (a + 20) d (Sort.insertionSort (ltOf cf) D a (a + 20)) ∧ (Sort.insertionSort (ltOf cf) D a (a + 20)).size = n) := ⟨HU.out.step (by have := HN.out; omega) hb hi.1 hi.2, hi.1.1.trans hds⟩
      clear HU hi S1
      generalize Sort.insertionSort (ltOf cf) D a (a + 20) = E at hc HU2
      go_wp2_with (go_at_fn 69; refine hc.mono ?_; clear hc; rintro e w1 ⟨rfl, S2⟩)
      have S3 : Aside (SWK enc k w0 blk off E w1) := S2
      clear S2
      go_wp2
      go_roundg (n - (a + 20))
      case measure => omega
      case rel => exact ⟨q + 1, a + 20, E, by first | rfl | go_num, by first | rfl | go_num, hb, Nat.le_refl _, HU2.out.2, S3, HU2.out.1⟩
    · have hbz : ¬ (a : Int) + 20 ≤ (n : Int) := by omega
      have hc := HIN.out a n D wr (by omega) S1.out (by omega) (by omega) (by omega)
      rw [hds] at hc
      have hi := HINS.out D a n (by omega) (by omega)
      have HA0 : Hid (PermIn 0 n d (Sort.insertionSort (ltOf cf) D a n) ∧ AllB (ltOf cf) 20 n (Sort.insertionSort (ltOf cf) D a n) ∧ (Sort.insertionSort (ltOf cf) D a n).size = n) := by
        have := HU.out.all (by have := HN.out; omega) (by omega) hi.1 hi.2
        exact ⟨this.1, this.2, hi.1.1.trans hds⟩
      clear HU hi S1
      generalize Sort.insertionSort (ltOf cf) D a n = E at hc HA0
      clear hds D
      go_wp2_with (go_at_fn 69; refine hc.mono ?_; clear hc; rintro e w1 ⟨rfl, S2⟩)
      have S3 : Aside (SWK enc k w0 blk off E w1) := S2
      clear S2
      go_wp2
      go_loopg [6] n (fun kx s6 wr => ∃ (bs : Nat) (D : Array α), s6 = .int .i64 bs ∧ 0 < bs ∧ bs ≤ 2 * n + 20 ∧ n - bs ≤ kx ∧ D.size = n ∧ Aside (SWK enc k w0 blk off D wr) ∧ Hid (PermIn 0 n d D ∧ AllB (ltOf cf) bs n D))
      case atStart => exact ⟨20, E, rfl, by omega, by omega, by omega, HA0.out.2.2, S3, HA0.out.1, HA0.out.2.1⟩
      case round => as_aux_lemma =>
        clear S3 HA0
        obtain ⟨bs, D, rfl, hb0, hb9, hkx2, hds, S4, HA⟩ := hrel
        have rb1 : IntKind.i64.wrap (2 * (bs : Int)) = 2 * (bs : Int) := by rw [IntKind.wrap_i64]; omega
        have rb2 : IntKind.i64.wrap ((bs : Int) * 2) = (bs : Int) * 2 := by rw [IntKind.wrap_i64]; omega
        by_cases hbn : bs < n
        · have hbnz : (bs : Int) < (n : Int) := by omega
          have HP0 : Hid (Pass (ltOf cf) bs n 0 0 d D) := Pass.start HA.out.1 HA.out.2
          clear HA
          go_wp2
          go_loopg [7, 8] n (fun ky s7 s8 wr => ∃ (q a : Nat) (D : Array α), s7 = .int .i64 a ∧ s8 = .int .i64 ((a : Int) + 2 * (bs : Int)) ∧ a ≤ n ∧ n - a ≤ ky ∧ D.size = n ∧ Aside (SWK enc k w0 blk off D wr) ∧ Hid (Pass (ltOf cf) bs n q a d D))
          case atStart => exact ⟨0, 0, D, rfl, by first | rfl | (congr 1; omega), Nat.zero_le _, by omega, hds, S4, HP0⟩
          case round => as_aux_lemma =>
            clear S4 HP0 hds D
            obtain ⟨q, a, D, rfl, rfl, han, hky, hds, S5, HP⟩ := hrel
            have ra1 : IntKind.i64.wrap ((a : Int) + (bs : Int)) = (a : Int) + (bs : Int) := by rw [IntKind.wrap_i64]; omega
            have ra2 : IntKind.i64.wrap ((a : Int) + 2 * (bs : Int) + 2 * (bs : Int)) = (a : Int) + 2 * (bs : Int) + 2 * (bs : Int) := by rw [IntKind.wrap_i64]; omega
            by_cases hb : a + 2 * bs ≤ n
            · have hbz : (a : Int) + 2 * (bs : Int) ≤ (n : Int) := by omega
              have hc := HSM.out a (a + bs) (a + 2 * bs) D wr (by omega) S5.out (by omega) (by omega) (by omega) (by omega)
              rw [hds, show ((a + bs : Nat) : Int) = (a : Int) + (bs : Int) by omega, show ((a + 2 * bs : Nat) : Int) = (a : Int) + 2 * (bs : Int) by omega] at hc
              go_wp2_with (go_at_fn 70; refine hc.mono ?_; clear hc; rintro e w2 ⟨rfl, E2, k1, k2⟩)
              have HP2 : Hid (Pass (ltOf cf) bs n (q + 1) (a + 2 * bs) d E2 ∧ E2.size = n) := ⟨HP.out.step hO (by have := HN.out; omega) hb k2, k2.perm.1.trans hds⟩
              have S6 : Aside (SWK enc k w0 blk off E2 w2) := k1
              clear k1 k2 HP S5
              go_wp2
              go_roundg (n - (a + 2 * bs))
              case measure => omega
              case rel => exact ⟨q + 1, a + 2 * bs, E2, by first | rfl | go_num | (congr 1; omega), by first | rfl | go_num | (congr 1; omega), hb, Nat.le_refl _, HP2.out.2, S6, HP2.out.1⟩
            · have hbz : ¬ (a : Int) + 2 * (bs : Int) ≤ (n : Int) := by omega
              by_cases hm : a + bs < n
              · have hmz : (a : Int) + (bs : Int) < (n : Int) := by omega
                have hc := HSM.out a (a + bs) n D wr (by omega) S5.out (by omega) (by omega) (by omega) (by omega)
                rw [hds, show ((a + bs : Nat) : Int) = (a : Int) + (bs : Int) by omega] at hc
                go_wp2_with (go_at_fn 70; refine hc.mono ?_; clear hc; rintro e w2 ⟨rfl, E2, k1, k2⟩)
                have HP2 : Hid ((PermIn 0 n d E2 ∧ AllB (ltOf cf) (2 * bs) n E2) ∧ E2.size = n) := ⟨HP.out.last hO (by have := HN.out; omega) (by omega) (by omega) k2, k2.perm.1.trans hds⟩
                have S6 : Aside (SWK enc k w0 blk off E2 w2) := k1
                clear k1 k2 HP S5
                go_wp2
                go_roundg (n - 2 * bs)
                case measure => omega
                case rel => exact ⟨2 * bs, E2, by first | rfl | go_num | (congr 1; omega), by omega, by omega, Nat.le_refl _, HP2.out.2, S6, HP2.out.1⟩
              · have hmz : ¬ (a : Int) + (bs : Int) < (n : Int) := by omega
                have HP2 : Hid (PermIn 0 n d D ∧ AllB (ltOf cf) (2 * bs) n D) := HP.out.end' (by have := HN.out; omega) (by omega) hb0
                clear HP
                go_wp2
                go_roundg (n - 2 * bs)
                case measure => omega
                case rel => exact ⟨2 * bs, D, by first | rfl | go_num | (congr 1; omega), by omega, by omega, Nat.le_refl _, hds, S5, HP2.out⟩
        · have hbnz : ¬ (bs : Int) < (n : Int) := by omega
          go_wp2
          go_end0
          exact ⟨rfl, D, S4.out, HA.out.1, HA.out.2.done (by omega)⟩
end Go.Proofs.Ytbhddfcdnpidkaa
