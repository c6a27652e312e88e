/-
  Proves: for every code: the least integer that is no residue is a prime, and all lesser ones are residues.
  Conditions: none beyond the given statement's own.
-/
import Derived.Test.YtehjiejijlboeaaRows
import Derived.Test.YtehjiejijlboeaaLawMath
import Derived.Test.YtehjiejijlboeaaDraws1
import Derived.Test.YtehjiejijlboeaaRowWord
import Derived.ProofKit
import Derived.OpenShut
import Derived.ShutString
import Derived.ChangeOld
namespace Go.Proofs.Ytehjiejijlboeaa.fnNonResidue
open Go.ChangeShapes Go.WideShapes Go.ChangeAt Go.RowKit
open Go.ChangeMaps (open_string shut_string)
set_option linter.unusedVariables false
def noneP (p : Nat) : Bool := decide (p < 3) || !primeN p || primeN (noneF p)
theorem noneP_all : (List.range 5001).all noneP = true := by decide +kernel
theorem none_prime {p : Nat} (h : primeN p = true) (h3 : 3 ≤ p) : primeN (noneF p) = true := by
  have hb := (primeN_bd h).2.1
  have := List.all_eq_true.1 noneP_all p (List.mem_range.2 (by omega))
  unfold noneP at this
  rw [decide_eq_false (by omega), h] at this
  simpa using this

set_option maxRecDepth 100000 in
set_option maxHeartbeats 2000000 in
theorem walk (a0 : Option Addr) (len0 cap0 : Nat) (z0 : List Int) (w : World) (w0 : IsRow .u8 w a0 len0 cap0 z0) :
    Calls Try.prog 14 #[.slice a0 len0 cap0] w fun e w' => e = .returned (.bool true) ∧ Below w.heap.size w w' := by
  have HC := hid (codeIn_of w0)
  clear w0
  by_cases hl : (1048576 : Int) < (len0 : Int)
  · go_enter Try.func14, Try.ntmps14
    go_wp2
    go_ret
    exact ⟨rfl, Below.refl _ _⟩
  · go_enter Try.func14, Try.ntmps14
    go_wp2_with fail
    refine (drawNonResidue_any _ len0 _ HC.out).mono ?_
    rintro e w1 ⟨p, rfl, ⟨p1, p2⟩, hb⟩
    cases hV : oddP p with
    | false =>
      have P := hid (nonV_no hV)
      clear hV
      go_wp2_with fail
      refine (nonResidue_any p _).mono ?_
      rw [P.out]
      rintro e w' ⟨rfl, hb1⟩
      go_wp2_with fail
      refine (nonResidueS_any p _).mono ?_
      rw [P.out]
      rintro e w' ⟨rfl, rfl⟩
      go_wp2
      go_ret
      exact ⟨rfl, hb.trans (hb1.mono hb.size)⟩
    | true =>
      have hp : 3 ≤ p ∧ p ≤ 5000 ∧ primeN p.toNat = true := by
        rcases oddP_cases p with ⟨a, b, _, h, _⟩ | ⟨_, h⟩ | ⟨_, _, h⟩
        · exact ⟨a, b, h⟩
        · rw [hV] at h; cases h
        · rw [hV] at h; cases h
      obtain ⟨q3, q5, hpN⟩ := hp
      obtain ⟨Q, rfl⟩ := Int.eq_ofNat_of_zero_le (show 0 ≤ p by omega)
      rw [Int.toNat_natCast] at hpN
      obtain ⟨s1, s2, s3, s4, s5⟩ := noneF_spec hpN (by omega)
      have hpr := none_prime hpN (by omega)
      obtain ⟨r, hr⟩ : ∃ r, r = noneF Q := ⟨_, rfl⟩
      rw [← hr] at s1 s2 s3 s4 s5 hpr
      have P : Hid (nonV (Q : Int) = .tuple #[.int .i64 r, .bool true]) := by
        show _ = _
        rw [nonV_yes hV, Int.toNat_natCast, ← hr]
      have hres : ∀ x : Nat, x < 64 → resV (x : Int) (Q : Int) = resN (x % Q) Q := fun x hx => by
        rw [resV_yes (okN_iff.2 ⟨by omega, by omega⟩) hV, Int.toNat_natCast, show ((x : Int) % (Q : Int)).toNat = x % Q by rw [← Int.natCast_emod, Int.toNat_natCast]]
      have HE : Hid (resV (r : Int) (Q : Int) = -1) := by show _ = _; rw [hres r s2]; exact s4
      have HI : Hid (primeI (r : Int) = true) := hid hpr
      have HL : Hid (∀ k : Nat, 1 ≤ k → k < r → resV (k : Int) (Q : Int) = 1) := by
        intro k k1 kr
        rw [hres k (by omega)]
        by_cases k2 : 2 ≤ k
        · exact s5 k k2 kr
        · obtain rfl : k = 1 := by omega
          have e : pw (1 % Q) ((Q - 1) / 2) Q = 1 := by
            unfold pw
            rw [Nat.mod_eq_of_lt (show 1 < Q by omega), Nat.one_pow]
            exact Nat.mod_eq_of_lt (by omega)
          unfold resN
          rw [e, if_neg (by omega)]; rfl
      clear hV hpN s4 s5 hpr hr hres
      go_wp2_with fail
      refine (nonResidue_any Q _).mono ?_
      rw [P.out]
      rintro e w' ⟨rfl, hb1⟩
      go_wp2_with fail
      refine (nonResidueS_any Q _).mono ?_
      rw [P.out]
      rintro e w' ⟨rfl, rfl⟩
      have hB := hb.trans (hb1.mono hb.size)
      go_wp2_with fail
      go_loopw [8] (fun k wr => ∃ K : Nat, k = .int .i64 K ∧ 1 ≤ K ∧ K ≤ r ∧ Below w.heap.size w wr) (fun k _ => r - (intOf k).toNat)
      case atStart => exact ⟨1, rfl, by omega, by omega, hB⟩
      case round =>
        obtain ⟨K, rfl, k1, kr, hBr⟩ := hrel
        by_cases hlt : K < r
        · have hk := hid (HL.out K k1 hlt)
          go_wp2_with fail
          refine (residueIs_any K Q _).mono ?_
          rw [hk.out]
          rintro e w' ⟨rfl, hb2⟩
          go_wp2
          go_roundw
          case rel => exact ⟨K + 1, by go_num, by omega, by omega, hBr.trans (hb2.mono hBr.size)⟩
          case measure => simp only [intOf]; omega
        · obtain rfl : K = r := by omega
          go_wp2_with fail
          refine (residueIs_any K Q _).mono ?_
          rw [HE.out]
          rintro e w' ⟨rfl, hb2⟩
          go_wp2_with fail
          refine (primeIs_any K _).mono ?_
          rw [HI.out]
          rintro e w' ⟨rfl, hb3⟩
          go_wp2
          go_ret
          exact ⟨retB (by simp), (hBr.trans (hb2.mono hBr.size)).trans (hb3.mono (Nat.le_trans hBr.size hb2.size))⟩
theorem own : ownKnob Try.prog.godebug = none := by kernel_rfl
theorem laidOut : laidOutB Try.prog = true := by kernel_rfl
set_option maxRecDepth 100000 in
theorem lifted (os : Os) (started : os.Started) (H : Type) (enc : TypeId × Value → H) :
    ReturnsInHanded {} Try.checked os 14 .any (Rows.fnNonResidueSpec.pre6 enc Try.prog Try.f14 Rows.fnNonResidueRow.domain false) (Rows.fnNonResidueSpec.post enc Try.prog Try.f14 false true false false) := by
  refine returnsInHanded_of_change (C := Try.checked) own started (by kernel_rfl) Try.func14
    (ChangeSpec.witness6 (enc := enc) (C := Try.checked) false ⟨#[], #[.slice none 0 0], []⟩ 8 (by kernel_rfl) (by kernel_rfl) (by kernel_rfl) (by kernel_rfl)) ?_
  intro W base args ds gs before hval0 hW hcnd _
  have hval : ∀ (j : Nat) t v, Try.f14.params[j]? = some t → args[j]? = some v → Value.okWide Try.prog W .any base t v := hval0
  have hW' := hW
  obtain ⟨p, q, hA0, hV, rfl, hfz, hnd⟩ := hW
  have hA : DataW.TrodAll enc Try.prog W 0 (fun _ => true) true Try.f14.params.toList args.toList ds p := hA0
  rw [Try.params14] at hA hval
  obtain ⟨v0, vs0, d0, ds0, p0, q0, hargs, rfl, rfl, h0, r0⟩ := trodAll_cons hA
  obtain ⟨rfl, rfl, rfl⟩ := trodAll_nil r0
  obtain rfl : args = #[v0] := by cases args; simp_all
  obtain ⟨rfl, rfl⟩ := trodVars_none hV
  obtain ⟨a0, len0, cap0, rfl⟩ := okWide_slice Try.underlying22 (hval 0 22 v0 rfl rfl)
  have k0 := h0
  have lt0 : ∀ x ∈ p0, x.block < W.heap.size := by obtain ⟨m, hm⟩ := k0; exact DataW.trod_lt m _ _ _ hm
  obtain ⟨z0, w0⟩ : ∃ zs, IsRow .u8 W a0 len0 cap0 zs := by
    obtain ⟨fuel, hf⟩ := h0
    rcases open_ints Try.underlying22 Try.underlying5 (by kernel_rfl) hf with ⟨hcs, _⟩ | ⟨x, l, c, zs, hcs, _, hl, hm, hz, _, hcell, hwz⟩
    · simp [Value.cells] at hcs
      obtain ⟨rfl, rfl, rfl⟩ := hcs
      exact ⟨[], .inl ⟨rfl, rfl, rfl, rfl⟩⟩
    · simp [Value.cells] at hcs
      obtain ⟨rfl, rfl, rfl⟩ := hcs
      exact ⟨zs, .inr ⟨_, rfl, hl, hm, by simpa using hz, hcell, hwz⟩⟩
  clear hA0 hval0
  refine (walk a0 len0 cap0 z0 W w0).mono fun e W' ⟨he, bel⟩ => ?_
  subst he
  exact ⟨_, rfl, _, _, _, [], _, [], hW', trodAll_mk1 (shut_bool Try.underlying4 _), (trodAll_cons_mk (Below.trod laidOut (by kernel_rfl) (of_decide_eq_true (by kernel_rfl)) k0 bel lt0) trodAll_mk0), rfl, bel.frame _, fun h => by cases h⟩
theorem over : Rows.fnNonResidueRow.holds Try.pinned (OpenSpec.ofChange Rows.fnNonResidueSpec) :=
  OpenClaim.holds_of_wide 14 Try.f14 rfl rfl rfl rfl rfl rfl rfl ⟨rfl, rfl, rfl, rfl, rfl⟩ rfl rfl rfl rfl rfl (by kernel_rfl) Try.func14 (by kernel_rfl)
    (of_decide_eq_true (by kernel_rfl)) (by unfold Func.isWrapper; first | (rw [if_pos (by decide +kernel)]; kernel_rfl) | (rw [if_neg (by decide +kernel)]; exact ⟨rfl, rfl⟩))
    (fun os started H enc _ => lifted os started H enc)
theorem proved : Rows.FnNonResidueSaid := over
end Go.Proofs.Ytehjiejijlboeaa.fnNonResidue
