/-
  Proves: for every code: a lifted root is the least root up to the power, and there is one up to each lower power.
  Conditions: none beyond the given statement's own.
-/
import Derived.Test.YtamdjgcnjgiflaaRows
import Derived.Test.YtamdjgcnjgiflaaImpE
import Derived.Test.YtamdjgcnjgiflaaLawCls
import Derived.Test.YtamdjgcnjgiflaaArith
import Derived.Test.YtamdjgcnjgiflaaLists
import Derived.Test.YtamdjgcnjgiflaaSame
import Derived.Test.YtamdjgcnjgiflaaRowWord
import Derived.ProofKit
import Derived.OpenShut
import Derived.ShutString
import Derived.ChangeOld
namespace Go.Proofs.Ytamdjgcnjgiflaa.fnLocalRoot
open Go.ChangeShapes Go.WideShapes Go.ChangeAt Go.RowKit
open Go.ChangeMaps (open_string shut_string)
set_option linter.unusedVariables false
theorem lroot_less {n : Int} {P K X : Nat} (hP : primeN P = true) (hn : okN n = true) (h1 : 1 ≤ K) (h12 : K ≤ 12) (hle : P ^ K ≤ 5000) (h : rootF (n % ((P ^ K : Nat) : Int)).toNat (P ^ K) = some X) :
    ∃ (y : Int) (b : Bool), lrootV n (P : Int) ((K : Int) - 1) = .tuple #[.int .i64 y, .bool b] ∧ (K = 1 ∨ (K ≠ 1 ∧ b = true)) := by
  have hp2 := (primeN_bd hP).1
  by_cases hK : K = 1
  · obtain ⟨y, b, e⟩ := lrootV_form n (P : Int) ((K : Int) - 1)
    exact ⟨y, b, e, .inl hK⟩
  · obtain ⟨L, rfl⟩ : ∃ L, K = L + 1 := ⟨K - 1, by omega⟩
    have hle2 : P ^ L ≤ P ^ (L + 1) := Nat.pow_le_pow_right (by omega) (by omega)
    obtain ⟨y, hy⟩ := root_divides (n := n) (D := P ^ L) (M := P ^ (L + 1)) (Nat.pow_pos (by omega)) (by rw [Nat.pow_succ]; exact Nat.dvd_mul_right _ _) (Nat.pow_pos (by omega)) h
    refine ⟨(y : Int), true, ?_, .inr ⟨hK, rfl⟩⟩
    have ek : ((L + 1 : Nat) : Int) - 1 = (L : Int) := by omega
    have hO : lrootOk n (P : Int) (L : Int) = true := by
      unfold lrootOk
      rw [hn, show primeI (P : Int) = true from hP, Int.toNat_natCast, Int.toNat_natCast, decide_eq_true (by omega)]
      have : inR (L : Int) 1 12 = true := by unfold inR; rw [decide_eq_true (by omega), decide_eq_true (by omega)]; rfl
      rw [this]; rfl
    unfold lrootV
    rw [ek, if_pos hO, Int.toNat_natCast, Int.toNat_natCast, hy]
    rfl

set_option maxRecDepth 100000 in
set_option maxHeartbeats 2000000 in
theorem walk  (a0 : Option Addr) (len0 cap0 : Nat) (z0 : List Int) (w : World) (w0 : IsRow .u8 w a0 len0 cap0 z0) :
    Calls Try.prog 9 #[.slice a0 len0 cap0] w fun e w' => e = .returned (.bool true) ∧ Below w.heap.size w w' := by
  have HC := hid (codeIn_of w0)
  clear w0
  by_cases hl : (1048576 : Int) < (len0 : Int)
  · go_enter Try.func9, Try.ntmps9
    go_wp2
    go_ret
    exact ⟨rfl, Below.refl _ _⟩
  · go_enter Try.func9, Try.ntmps9
    go_wp2_with fail
    refine (drawLocalRoot_any _ len0 _ HC.out).mono ?_
    rintro e w1 ⟨n, p, k, rfl, _, hb⟩
    obtain ⟨x, b, hV⟩ := lrootV_form n p k
    have P0 := hid hV
    rcases lroot_split hV with rfl | ⟨P, K, X, rfl, rfl, rfl, rfl, hP, hP2, hP5, hn, hK1, hK12, hle, hr⟩
    · clear hV
      go_wp2_with fail
      refine (localRoot_any n p k _).mono ?_
      rw [P0.out]
      rintro e w' ⟨rfl, hb1⟩
      have hB1 := hb.trans (hb1.mono hb.size)
      go_wp2_with fail
      refine (localRootS_any n p k _).mono ?_
      rw [P0.out]
      rintro e w' ⟨rfl, hb2⟩
      have hB2 := hB1.trans (hb2.mono hB1.size)
      go_wp2
      go_ret
      exact ⟨rfl, hB2⟩
    · obtain ⟨y, b2, hs, hlast⟩ := lroot_less hP hn hK1 hK12 hle hr
      have HR : Hid (rootV n ((P ^ K : Nat) : Int) = .tuple #[.int .i64 (X : Int), .bool true]) := hid (by
        have hpos : 1 ≤ P ^ K := Nat.pow_pos (by omega)
        have : inR ((P ^ K : Nat) : Int) 1 5000 = true := by unfold inR; rw [decide_eq_true (by omega), decide_eq_true (by omega)]; rfl
        rw [rootV_yes (by rw [hn, this]; rfl), Int.toNat_natCast, hr]; rfl)
      have HS := hid hs
      have HLE := hid hle
      clear hV hr hs hn hP hle
      go_wp2_with fail
      refine (localRoot_any n P K _).mono ?_
      rw [P0.out]
      rintro e w' ⟨rfl, hb1⟩
      have hB1 := hb.trans (hb1.mono hb.size)
      go_wp2_with fail
      refine (localRootS_any n P K _).mono ?_
      rw [P0.out]
      rintro e w' ⟨rfl, hb2⟩
      have HB2 := hid (hB1.trans (hb2.mono hB1.size))
      clear hb hb1 hb2 hB1
      rename World => w3
      go_wp2_with fail
      go_loopw [10, 11] (fun sm si wr => ∃ i m : Nat, si = .int .i64 i ∧ i ≤ K ∧ sm = .int .i64 m ∧ Hid (m = P ^ i) ∧ wr = w3) (fun _ si _ => K - (intOf si).toNat)
      case atStart => exact ⟨0, 1, rfl, by omega, rfl, hid rfl, rfl⟩
      case round =>
        obtain ⟨i, m, rfl, hi, rfl, HM, rfl⟩ := hrel
        by_cases hlt : i < K
        · have hmP : m * P ≤ 5000 := by
            rw [HM.out, ← Nat.pow_succ]
            exact Nat.le_trans (Nat.pow_le_pow_right (by omega) hlt) HLE.out
          have e1 : (m : Int) * (P : Int) = ((m * P : Nat) : Int) := by push_cast; rfl
          have m1 : 0 ≤ (m : Int) * (P : Int) := by rw [e1]; omega
          have m2 : (m : Int) * (P : Int) ≤ 5000 := by rw [e1]; omega
          have hi0 : (i : Int) < (K : Int) := by omega
          clear e1 hmP
          go_wp2_with fail
          go_round
          case measure => simp only [intOf]; omega
          case rel => exact ⟨i + 1, m * P, by go_num, by omega, vI (by push_cast; go_num), hid (by rw [HM.out, Nat.pow_succ]), by first | rfl | trivial⟩
        · obtain rfl : i = K := by omega
          have HR2 : Hid (rootV n (m : Int) = .tuple #[.int .i64 (X : Int), .bool true]) := hid (by rw [HM.out]; exact HR.out)
          clear hlt
          rcases hlast with rfl | ⟨c1, rfl⟩
          · have HS1 : Hid (lrootV n (P : Int) 0 = .tuple #[.int .i64 y, .bool b2]) := hid HS.out
            go_wp2_with fail
            refine (rootMod_any n m _).mono ?_
            rw [HR2.out]
            rintro e w' ⟨rfl, rfl⟩
            go_wp2_with fail
            refine (localRoot_any n P _ _).mono ?_
            rw [HS1.out]
            rintro e w' ⟨rfl, hb3⟩
            go_wp2
            go_ret
            exact ⟨rfl, HB2.out.trans (hb3.mono HB2.out.size)⟩
          · have T1 : ((i : Int) == 1) = false := by rw [beq_eq_false_iff_ne]; omega
            go_wp2_with fail
            refine (rootMod_any n m _).mono ?_
            rw [HR2.out]
            rintro e w' ⟨rfl, rfl⟩
            go_wp2_with fail
            refine (localRoot_any n P _ _).mono ?_
            rw [HS.out]
            rintro e w' ⟨rfl, hb3⟩
            go_wp2
            go_ret
            exact ⟨rfl, HB2.out.trans (hb3.mono HB2.out.size)⟩
theorem own : ownKnob Try.prog.godebug = none := by kernel_rfl
theorem laidOut : laidOutB Try.prog = true := by kernel_rfl
set_option maxRecDepth 100000 in
theorem lifted (os : Os) (started : os.Started) (H : Type) (enc : TypeId × Value → H) :
    ReturnsInHanded {} Try.checked os 9 .any (Rows.fnLocalRootSpec.pre6 enc Try.prog Try.f9 Rows.fnLocalRootRow.domain false) (Rows.fnLocalRootSpec.post enc Try.prog Try.f9 false true false false) := by
  refine returnsInHanded_of_change (C := Try.checked) own started (by kernel_rfl) Try.func9
    (ChangeSpec.witness6 (enc := enc) (C := Try.checked) false ⟨#[], #[.slice none 0 0], []⟩ 8 (by kernel_rfl) (by kernel_rfl) (by kernel_rfl) (by kernel_rfl)) ?_
  intro W base args ds gs before hval0 hW hcnd _
  have hval : ∀ (j : Nat) t v, Try.f9.params[j]? = some t → args[j]? = some v → Value.okWide Try.prog W .any base t v := hval0
  have hW' := hW
  obtain ⟨p, q, hA0, hV, rfl, hfz, hnd⟩ := hW
  have hA : DataW.TrodAll enc Try.prog W 0 (fun _ => true) true Try.f9.params.toList args.toList ds p := hA0
  rw [Try.params9] at hA hval
  obtain ⟨v0, vs0, d0, ds0, p0, q0, hargs, rfl, rfl, h0, r0⟩ := trodAll_cons hA
  obtain ⟨rfl, rfl, rfl⟩ := trodAll_nil r0
  obtain rfl : args = #[v0] := by cases args; simp_all
  obtain ⟨rfl, rfl⟩ := trodVars_none hV
  obtain ⟨a0, len0, cap0, rfl⟩ := okWide_slice Try.underlying22 (hval 0 22 v0 rfl rfl)
  have k0 := h0
  have lt0 : ∀ x ∈ p0, x.block < W.heap.size := by obtain ⟨m, hm⟩ := k0; exact DataW.trod_lt m _ _ _ hm
  obtain ⟨z0, w0⟩ : ∃ zs, IsRow .u8 W a0 len0 cap0 zs := by
    obtain ⟨fuel, hf⟩ := h0
    rcases open_ints Try.underlying22 Try.underlying5 (by kernel_rfl) hf with ⟨hcs, _⟩ | ⟨x, l, c, zs, hcs, _, hl, hm, hz, _, hcell, hwz⟩
    · simp [Value.cells] at hcs
      obtain ⟨rfl, rfl, rfl⟩ := hcs
      exact ⟨[], .inl ⟨rfl, rfl, rfl, rfl⟩⟩
    · simp [Value.cells] at hcs
      obtain ⟨rfl, rfl, rfl⟩ := hcs
      exact ⟨zs, .inr ⟨_, rfl, hl, hm, by simpa using hz, hcell, hwz⟩⟩
  clear hA0 hval0
  refine (walk a0 len0 cap0 z0 W w0).mono fun e W' ⟨he, bel⟩ => ?_
  subst he
  exact ⟨_, rfl, _, _, _, [], _, [], hW', trodAll_mk1 (shut_bool Try.underlying4 _), (trodAll_cons_mk (Below.trod laidOut (by kernel_rfl) (of_decide_eq_true (by kernel_rfl)) k0 bel lt0) trodAll_mk0), rfl, bel.frame _, fun h => by cases h⟩
theorem over : Rows.fnLocalRootRow.holds Try.pinned (OpenSpec.ofChange Rows.fnLocalRootSpec) :=
  OpenClaim.holds_of_wide 9 Try.f9 rfl rfl rfl rfl rfl rfl rfl ⟨rfl, rfl, rfl, rfl, rfl⟩ rfl rfl rfl rfl rfl (by kernel_rfl) Try.func9 (by kernel_rfl)
    (of_decide_eq_true (by kernel_rfl)) (by unfold Func.isWrapper; first | (rw [if_pos (by decide +kernel)]; kernel_rfl) | (rw [if_neg (by decide +kernel)]; exact ⟨rfl, rfl⟩))
    (fun os started H enc _ => lifted os started H enc)
theorem proved : Rows.FnLocalRootSaid := over
end Go.Proofs.Ytamdjgcnjgiflaa.fnLocalRoot
