/-
  Proves: for every code: where an odd prime divides a number not, a root up to one power of it goes on to the next.
  Conditions: none beyond the given statement's own.
-/
import Derived.Test.YtamdjgcnjgiflaaRows
import Derived.Test.YtamdjgcnjgiflaaImpE
import Derived.Test.YtamdjgcnjgiflaaLawCls
import Derived.Test.YtamdjgcnjgiflaaArith
import Derived.Test.YtamdjgcnjgiflaaLists
import Derived.Test.YtamdjgcnjgiflaaSame
import Derived.Test.YtamdjgcnjgiflaaRowWord
import Derived.ProofKit
import Derived.OpenShut
import Derived.ShutString
import Derived.ChangeOld
namespace Go.Proofs.Ytamdjgcnjgiflaa.fnRootLift
open Go.ChangeShapes Go.WideShapes Go.ChangeAt Go.RowKit
open Go.ChangeMaps (open_string shut_string)
set_option linter.unusedVariables false
def liftOkB (n : Int) : Bool := [(3, 7), (5, 5), (7, 4), (11, 3), (13, 3)].all (fun (x : Nat × Nat) => (n % (x.1 : Int)).toNat == 0 || (!(resN (n % (x.1 : Int)).toNat x.1 == 1)) || (rootF (n % ((x.1 ^ x.2 : Nat) : Int)).toNat (x.1 ^ x.2)).isSome)
theorem liftOkB_all : drawnL.all liftOkB = true := by decide +kernel
theorem lift_on {n : Int} (h : locOk n) {P E L : Nat} (hP : (P, E) ∈ [(3, 7), (5, 5), (7, 4), (11, 3), (13, 3)]) (h2 : 2 ≤ P) (hn : ¬ P ∣ n.natAbs) (hr : resN (n % (P : Int)).toNat P = 1) (hL : L ≤ E) : ∃ y, rootF (n % ((P ^ L : Nat) : Int)).toNat (P ^ L) = some y := by
  have h1 := List.all_eq_true.1 liftOkB_all n (drawn_mem h)
  have h3 := List.all_eq_true.1 h1 (P, E) hP
  have h0 : ((n % (P : Int)).toNat == 0) = false := by
    rw [beq_eq_false_iff_ne]
    intro e
    exact emod_ndvd (by omega) hn (by rw [e]; exact Nat.dvd_zero P)
  simp only [h0, hr, Bool.false_or] at h3
  obtain ⟨x, hx⟩ := Option.isSome_iff_exists.1 (show (rootF (n % ((P ^ E : Nat) : Int)).toNat (P ^ E)).isSome = true by simpa using h3)
  exact root_divides (Nat.pow_pos (by omega)) (Nat.pow_dvd_pow P hL) (Nat.pow_pos (by omega)) hx

theorem rl_facts {n : Int} {P K X : Nat} (hd : locOk n) (hp : prOk (P : Int)) (hP : primeN P = true) (hodd : P ≠ 2) (hn : ¬ P ∣ n.natAbs) (hO : okN n = true) (h1 : 1 ≤ K) (h12 : K ≤ 12) (hle : P ^ K ≤ 5000) (h : rootF (n % ((P ^ K : Nat) : Int)).toNat (P ^ K) = some X) :
    lsV n (P : Int) = true ∧ ((5000 < P ^ (K + 1) ∧ ∃ y : Int, lrootV n (P : Int) ((K : Int) + 1) = .tuple #[.int .i64 y, .bool false]) ∨ (P ^ (K + 1) ≤ 5000 ∧ ∃ y : Nat, y < P ^ (K + 1) ∧ lrootV n (P : Int) ((K : Int) + 1) = .tuple #[.int .i64 (y : Int), .bool true] ∧ ((y : Int) * (y : Int) - n) % ((P ^ (K + 1) : Nat) : Int) = 0)) := by
  have hp2 := (primeN_bd hP).1
  have hp5 := (primeN_bd hP).2.1
  have h3 : 3 ≤ P := by omega
  have hn0 : n ≠ 0 := by rintro rfl; exact hn (Nat.dvd_zero P)
  have hq : plI (P : Int) = true := by unfold plI; rw [show primeI (P : Int) = true from hP, Bool.or_true]
  have hOb := okN_iff.1 hO
  obtain ⟨x, hx⟩ := root_divides (D := P) (by omega) (by obtain ⟨L, rfl⟩ : ∃ L, K = L + 1 := ⟨K - 1, by omega⟩
                                                         rw [Nat.pow_succ]; exact Nat.dvd_mul_left _ _) (Nat.pow_pos (by omega)) h
  have hx2 : x * x % P = (n % (P : Int)).toNat := (root_rest (by omega)).1 (rootF_spec (by omega) hx).2
  have hres : resN (n % (P : Int)).toNat P = 1 := by
    have hu := res_unit hP h3 (emod_ndvd (by omega) hn)
    have hm := resN_mul hP h3 x x
    rw [hx2] at hm
    have hpos : 0 ≤ resN (x % P) P * resN (x % P) P := by
      rcases Int.le_total 0 (resN (x % P) P) with h | h
      · exact Int.mul_nonneg h h
      · exact Int.mul_nonneg_of_nonpos_of_nonpos h h
    omega
  obtain ⟨uv, us⟩ := unit_self hP hn hn0
  refine ⟨?_, ?_⟩
  · unfold lsV sqAt
    rw [okAt_yes hOb.1 hOb.2 hn0 hq, cls_odd h3, uv, us, hres]
    rfl
  · have hpi : primeI (P : Int) = true := hP
    by_cases hbig : 5000 < P ^ (K + 1)
    · refine .inl ⟨hbig, 0, lrootV_no ?_⟩
      unfold lrootOk
      rw [Int.toNat_natCast, show ((K : Int) + 1).toNat = K + 1 by omega, decide_eq_false (by omega), Bool.and_false, Bool.and_false, Bool.and_false]
    · have hE : ∃ E, (P, E) ∈ [(3, 7), (5, 5), (7, 4), (11, 3), (13, 3)] ∧ K + 1 ≤ E := by
        have hmono : ∀ E, P ^ E > 5000 → K + 1 < E := fun E hE => by
          by_cases hc : K + 1 < E
          · exact hc
          · have := Nat.pow_le_pow_right (show 0 < P by omega) (show E ≤ K + 1 by omega)
            omega
        have hPs : P = 3 ∨ P = 5 ∨ P = 7 ∨ P = 11 ∨ P = 13 ∨ P = 97 := by
          have h9 : ¬ (P = 9) := by rintro rfl; revert hP; decide
          have h4 : ¬ (P = 4) := by rintro rfl; revert hP; decide
          unfold prOk at hp
          omega
        rcases hPs with rfl | rfl | rfl | rfl | rfl | rfl
        · exact ⟨7, by simp, by have := hmono 8 (by decide); omega⟩
        · exact ⟨5, by simp, by have := hmono 6 (by decide); omega⟩
        · exact ⟨4, by simp, by have := hmono 5 (by decide); omega⟩
        · exact ⟨3, by simp, by have := hmono 4 (by decide); omega⟩
        · exact ⟨3, by simp, by have := hmono 4 (by decide); omega⟩
        · have := hmono 2 (by decide); omega
      obtain ⟨E, hE1, hE2⟩ := hE
      obtain ⟨y, hy⟩ := lift_on hd hE1 hp2 hn hres hE2
      obtain ⟨y1, y2⟩ := rootF_spec (Nat.pow_pos (by omega)) hy
      refine .inr ⟨by omega, y, y1, ?_, y2⟩
      have hK12 : K + 1 ≤ 12 := by
        by_cases hc : K + 1 ≤ 12
        · exact hc
        · have h6 := Nat.pow_le_pow_right (show 0 < P by omega) (show 13 ≤ K + 1 by omega)
          have h7 := Nat.pow_le_pow_left h3 13
          have : (3 : Nat) ^ 13 = 1594323 := by decide
          omega
      have hO2 : lrootOk n (P : Int) ((K : Int) + 1) = true := by
        unfold lrootOk
        rw [hO, hpi, Int.toNat_natCast, show ((K : Int) + 1).toNat = K + 1 by omega, decide_eq_true (by omega)]
        have : inR ((K : Int) + 1) 1 12 = true := by unfold inR; rw [decide_eq_true (by omega), decide_eq_true (by omega)]; rfl
        rw [this]; rfl
      unfold lrootV
      rw [if_pos hO2, Int.toNat_natCast, show ((K : Int) + 1).toNat = K + 1 by omega, hy]
      rfl

set_option maxRecDepth 100000 in
set_option maxHeartbeats 2000000 in
theorem walk  (a0 : Option Addr) (len0 cap0 : Nat) (z0 : List Int) (w : World) (w0 : IsRow .u8 w a0 len0 cap0 z0) :
    Calls Try.prog 10 #[.slice a0 len0 cap0] w fun e w' => e = .returned (.bool true) ∧ Below w.heap.size w w' := by
  have HC := hid (codeIn_of w0)
  clear w0
  by_cases hl : (1048576 : Int) < (len0 : Int)
  · go_enter Try.func10, Try.ntmps10
    go_wp2
    go_ret
    exact ⟨rfl, Below.refl _ _⟩
  · go_enter Try.func10, Try.ntmps10
    go_wp2_with fail
    refine (drawLocalRoot_any _ len0 _ HC.out).mono ?_
    rintro e w1 ⟨n, p, k, rfl, ⟨hd, hpr, _, _⟩, hb⟩
    obtain ⟨x, b, hV⟩ := lrootV_form n p k
    have P0 := hid hV
    rcases lroot_split hV with rfl | ⟨P, K, X, rfl, rfl, rfl, rfl, hP, hP2, hP5, hn, hK1, hK12, hle, hr⟩
    · clear hV
      go_wp2_with fail
      refine (localRoot_any n p k _).mono ?_
      rw [P0.out]
      rintro e w' ⟨rfl, hb1⟩
      have hB1 := hb.trans (hb1.mono hb.size)
      go_wp2_with fail
      refine (localRootS_any n p k _).mono ?_
      rw [P0.out]
      rintro e w' ⟨rfl, hb2⟩
      have hB2 := hB1.trans (hb2.mono hB1.size)
      go_wp2
      go_ret
      exact ⟨rfl, hB2⟩
    · have hX0 : (0 : Int) ≤ (X : Int) := Int.natCast_nonneg _
      by_cases h2 : P = 2
      · have T2 : ((P : Int) == 2) = true := by rw [beq_iff_eq]; omega
        clear hV hr hn hP hle hpr hd h2
        go_wp2_with fail
        refine (localRoot_any n P K _).mono ?_
        rw [P0.out]
        rintro e w' ⟨rfl, hb1⟩
        have hB1 := hb.trans (hb1.mono hb.size)
        go_wp2_with fail
        refine (localRootS_any n P K _).mono ?_
        rw [P0.out]
        rintro e w' ⟨rfl, hb2⟩
        have HB2 := hid (hB1.trans (hb2.mono hB1.size))
        go_wp2
        go_ret
        exact ⟨rfl, HB2.out⟩
      · have T2 : ((P : Int) == 2) = false := by rw [beq_eq_false_iff_ne]; omega
        have Tm := tmod_eqz (L := n) (p := (P : Int)) (by omega)
        rw [Int.toNat_natCast] at Tm
        by_cases hdv : n.natAbs % P = 0
        · rw [decide_eq_true hdv] at Tm
          clear hV hr hn hP hle hpr hd h2 hdv
          go_wp2_with fail
          refine (localRoot_any n P K _).mono ?_
          rw [P0.out]
          rintro e w' ⟨rfl, hb1⟩
          have hB1 := hb.trans (hb1.mono hb.size)
          go_wp2_with fail
          refine (localRootS_any n P K _).mono ?_
          rw [P0.out]
          rintro e w' ⟨rfl, hb2⟩
          have HB2 := hid (hB1.trans (hb2.mono hB1.size))
          go_wp2
          go_ret
          exact ⟨rfl, HB2.out⟩
        · rw [decide_eq_false hdv] at Tm
          have hnb := okN_iff.1 hn
          have hn1 := hnb.1
          have hn2 := hnb.2
          obtain ⟨hls, hcase⟩ := rl_facts hd hpr hP h2 (fun hd => hdv (Nat.mod_eq_zero_of_dvd hd)) hn hK1 hK12 hle hr
          have HLS := hid hls
          have HCASE := hid hcase
          clear hV hr hn hP hle hpr hd h2 hdv hls hcase hnb
          go_wp2_with fail
          refine (localRoot_any n P K _).mono ?_
          rw [P0.out]
          rintro e w' ⟨rfl, hb1⟩
          have hB1 := hb.trans (hb1.mono hb.size)
          go_wp2_with fail
          refine (localRootS_any n P K _).mono ?_
          rw [P0.out]
          rintro e w' ⟨rfl, hb2⟩
          have HB2 := hid (hB1.trans (hb2.mono hB1.size))
          clear hb hb1 hb2 hB1
          rename World => w3
          go_wp2_with fail
          go_loopw [10, 11] (fun sm si wr => ∃ i A : Nat, si = .int .i64 i ∧ i ≤ K + 1 ∧ sm = .int .i64 A ∧ A ≤ 5001 ∧ Hid (A = min (P ^ i) 5001) ∧ wr = w3) (fun _ si _ => K + 1 - (intOf si).toNat)
          case atStart => exact ⟨0, 1, rfl, by omega, rfl, by omega, hid rfl, rfl⟩
          case round =>
            obtain ⟨i, A, rfl, hi, rfl, hA5, HA, rfl⟩ := hrel
            by_cases hlt : i < K + 1
            · have hst := cap_step (show 1 ≤ P by omega) HA.out
              obtain ⟨A2, hA2⟩ : ∃ A2, A2 = min (A * P) 5001 := ⟨_, rfl⟩
              rw [← hA2] at hst
              have hA25 : A2 ≤ 5001 := by omega
              have hAP := Nat.mul_le_mul hA5 hP5
              have eAP : (A : Int) * (P : Int) = ((A * P : Nat) : Int) := by push_cast; rfl
              have ap1 : 0 ≤ (A : Int) * (P : Int) := by rw [eAP]; omega
              have ap2 : (A : Int) * (P : Int) ≤ 25005000 := by rw [eAP]; omega
              have hmin : min ((A : Int) * (P : Int)) 5001 = (A2 : Int) := by rw [eAP]; omega
              have hi0 : (i : Int) ≤ (K : Int) := by omega
              have HST := hid hst
              clear hA2 hAP eAP hst
              go_wp2_with fail
              go_round
              case measure => simp only [intOf]; omega
              case rel => exact ⟨i + 1, A2, by go_num, by omega, by go_num, hA25, HST, by first | rfl | trivial⟩
            · obtain rfl : i = K + 1 := by omega
              clear hlt
              have hiK : ¬ (((K + 1 : Nat) : Int) ≤ (K : Int)) := by omega
              rcases HCASE.out with ⟨hbig, y, hy⟩ | ⟨hsm, y, hyl, hy, hrest⟩
              · have hAb : (5000 : Int) < (A : Int) := by have := HA.out; omega
                have HY := hid hy
                clear hbig hy
                go_wp2_with fail
                refine (localRoot_any n P _ _).mono ?_
                rw [HY.out]
                rintro e w' ⟨rfl, hb3⟩
                have HB3 := hid (HB2.out.trans (hb3.mono HB2.out.size))
                go_wp2_with fail
                refine (localSquare_any n P _).mono ?_
                rw [HLS.out]
                rintro e w' ⟨rfl, hb4⟩
                have HB4 := hid (HB3.out.trans (hb4.mono HB3.out.size))
                go_wp2
                go_ret
                exact ⟨rfl, HB4.out⟩
              · have hAe : A = P ^ (K + 1) := by have := HA.out; omega
                have hAb : ¬ ((5000 : Int) < (A : Int)) := by omega
                have hA1 : 1 ≤ A := by rw [hAe]; exact Nat.pow_pos (by omega)
                rw [← hAe] at hyl hrest
                have HY := hid hy
                have HREST := hid hrest
                have hyy := mul_bd (show y ≤ 5000 by omega) (show y ≤ 5000 by omega)
                have yy1 := hyy.1
                have yy2 := hyy.2
                clear hsm hy hrest hAe hyy
                go_wp2_with fail
                refine (localRoot_any n P _ _).mono ?_
                rw [HY.out]
                rintro e w' ⟨rfl, hb3⟩
                have HB3 := hid (HB2.out.trans (hb3.mono HB2.out.size))
                go_wp2_with fail
                refine (localSquare_any n P _).mono ?_
                rw [HLS.out]
                rintro e w' ⟨rfl, hb4⟩
                have HB4 := hid (HB3.out.trans (hb4.mono HB3.out.size))
                go_wp2_with (go_at_call 42; refine (restOf_any _ _ (by omega) (by omega) (by omega) (by omega) _).mono ?_; rw [HREST.out]; rintro e w' ⟨rfl, rfl⟩)
                go_ret
                exact ⟨rfl, HB4.out⟩
theorem own : ownKnob Try.prog.godebug = none := by kernel_rfl
theorem laidOut : laidOutB Try.prog = true := by kernel_rfl
set_option maxRecDepth 100000 in
theorem lifted (os : Os) (started : os.Started) (H : Type) (enc : TypeId × Value → H) :
    ReturnsInHanded {} Try.checked os 10 .any (Rows.fnRootLiftSpec.pre6 enc Try.prog Try.f10 Rows.fnRootLiftRow.domain false) (Rows.fnRootLiftSpec.post enc Try.prog Try.f10 false true false false) := by
  refine returnsInHanded_of_change (C := Try.checked) own started (by kernel_rfl) Try.func10
    (ChangeSpec.witness6 (enc := enc) (C := Try.checked) false ⟨#[], #[.slice none 0 0], []⟩ 8 (by kernel_rfl) (by kernel_rfl) (by kernel_rfl) (by kernel_rfl)) ?_
  intro W base args ds gs before hval0 hW hcnd _
  have hval : ∀ (j : Nat) t v, Try.f10.params[j]? = some t → args[j]? = some v → Value.okWide Try.prog W .any base t v := hval0
  have hW' := hW
  obtain ⟨p, q, hA0, hV, rfl, hfz, hnd⟩ := hW
  have hA : DataW.TrodAll enc Try.prog W 0 (fun _ => true) true Try.f10.params.toList args.toList ds p := hA0
  rw [Try.params10] at hA hval
  obtain ⟨v0, vs0, d0, ds0, p0, q0, hargs, rfl, rfl, h0, r0⟩ := trodAll_cons hA
  obtain ⟨rfl, rfl, rfl⟩ := trodAll_nil r0
  obtain rfl : args = #[v0] := by cases args; simp_all
  obtain ⟨rfl, rfl⟩ := trodVars_none hV
  obtain ⟨a0, len0, cap0, rfl⟩ := okWide_slice Try.underlying22 (hval 0 22 v0 rfl rfl)
  have k0 := h0
  have lt0 : ∀ x ∈ p0, x.block < W.heap.size := by obtain ⟨m, hm⟩ := k0; exact DataW.trod_lt m _ _ _ hm
  obtain ⟨z0, w0⟩ : ∃ zs, IsRow .u8 W a0 len0 cap0 zs := by
    obtain ⟨fuel, hf⟩ := h0
    rcases open_ints Try.underlying22 Try.underlying5 (by kernel_rfl) hf with ⟨hcs, _⟩ | ⟨x, l, c, zs, hcs, _, hl, hm, hz, _, hcell, hwz⟩
    · simp [Value.cells] at hcs
      obtain ⟨rfl, rfl, rfl⟩ := hcs
      exact ⟨[], .inl ⟨rfl, rfl, rfl, rfl⟩⟩
    · simp [Value.cells] at hcs
      obtain ⟨rfl, rfl, rfl⟩ := hcs
      exact ⟨zs, .inr ⟨_, rfl, hl, hm, by simpa using hz, hcell, hwz⟩⟩
  clear hA0 hval0
  refine (walk a0 len0 cap0 z0 W w0).mono fun e W' ⟨he, bel⟩ => ?_
  subst he
  exact ⟨_, rfl, _, _, _, [], _, [], hW', trodAll_mk1 (shut_bool Try.underlying4 _), (trodAll_cons_mk (Below.trod laidOut (by kernel_rfl) (of_decide_eq_true (by kernel_rfl)) k0 bel lt0) trodAll_mk0), rfl, bel.frame _, fun h => by cases h⟩
theorem over : Rows.fnRootLiftRow.holds Try.pinned (OpenSpec.ofChange Rows.fnRootLiftSpec) :=
  OpenClaim.holds_of_wide 10 Try.f10 rfl rfl rfl rfl rfl rfl rfl ⟨rfl, rfl, rfl, rfl, rfl⟩ rfl rfl rfl rfl rfl (by kernel_rfl) Try.func10 (by kernel_rfl)
    (of_decide_eq_true (by kernel_rfl)) (by unfold Func.isWrapper; first | (rw [if_pos (by decide +kernel)]; kernel_rfl) | (rw [if_neg (by decide +kernel)]; exact ⟨rfl, rfl⟩))
    (fun os started H enc _ => lifted os started H enc)
theorem proved : Rows.FnRootLiftSaid := over
end Go.Proofs.Ytamdjgcnjgiflaa.fnRootLift
