/-
  Proves: for every code: valuations add up.
  Conditions: none beyond the given statement's own.
-/
import Derived.Test.YtehjiejijlboeaaRows
import Derived.Test.YtehjiejijlboeaaLawMath
import Derived.Test.YtehjiejijlboeaaDraws1
import Derived.Test.YtehjiejijlboeaaRowWord
import Derived.ProofKit
import Derived.OpenShut
import Derived.ShutString
import Derived.ChangeOld
namespace Go.Proofs.Ytehjiejijlboeaa.fnValuation
open Go.ChangeShapes Go.WideShapes Go.ChangeAt Go.RowKit
open Go.ChangeMaps (open_string shut_string)
set_option linter.unusedVariables false
theorem val_dvd_iff {n p : Nat} (h : primeN p = true) (hn : 0 < n) : 0 < val n p ↔ n % p = 0 := by
  constructor
  · intro hv
    by_cases hd : n % p = 0
    · exact hd
    · rw [val_stop hd] at hv; omega
  · intro hd
    rw [val_step (primeN_bd h).1 hn hd]; omega

set_option maxRecDepth 100000 in
set_option maxHeartbeats 2000000 in
theorem walk (a0 : Option Addr) (len0 cap0 : Nat) (z0 : List Int) (w : World) (w0 : IsRow .u8 w a0 len0 cap0 z0) :
    Calls Try.prog 5 #[.slice a0 len0 cap0] w fun e w' => e = .returned (.bool true) ∧ Below w.heap.size w w' := by
  have HC := hid (codeIn_of w0)
  clear w0
  by_cases hl : (1048576 : Int) < (len0 : Int)
  · go_enter Try.func5, Try.ntmps5
    go_wp2
    go_ret
    exact ⟨rfl, Below.refl _ _⟩
  · go_enter Try.func5, Try.ntmps5
    go_wp2_with fail
    refine (drawValuationOf_any _ len0 _ HC.out).mono ?_
    rintro e w1 ⟨n, p, rfl, ⟨hn, hp⟩, hb⟩
    have hn2 := numOk_small hn
    have hp2 := prOk_small hp
    have n1 := hn2.1
    have n2 := hn2.2
    have p1 := hp2.1
    have p2 := hp2.2
    clear hn hp hn2 hp2
    cases hV : (factB n && primeI p) with
    | false =>
      have P : Hid (valV n p = -1) := hid (valV_no (by rw [Bool.and_eq_false_iff] at hV; exact hV))
      clear hV
      go_wp2_with fail
      refine (valuationOf_any n p _).mono ?_
      rw [P.out]
      rintro e w' ⟨rfl, hb1⟩
      go_wp2_with fail
      refine (valuationOfS_any n p _).mono ?_
      rw [P.out]
      rintro e w' ⟨rfl, rfl⟩
      go_wp2
      go_ret
      exact ⟨rfl, hb.trans (hb1.mono hb.size)⟩
    | true =>
      rw [Bool.and_eq_true] at hV
      obtain ⟨hF, hP⟩ := hV
      have hpp := primeI_bd hP
      have hpN : primeN p.toNat = true := hP
      rcases factB_cases n with ⟨f1, f2, f0, _, _⟩ | ⟨_, h⟩ | ⟨_, _, h⟩
      · obtain ⟨v, hv⟩ : ∃ v, v = val n.natAbs p.toNat := ⟨_, rfl⟩
        have P : Hid (valV n p = (v : Nat)) := by show _ = _; rw [valV_yes hF hP, hv]
        have hvb : v ≤ 5000 := by rw [hv]; exact Nat.le_trans (val_le _ (by omega) _ _ (Nat.le_refl _)) (by omega)
        have hnp : (n * p).natAbs = n.natAbs * p.toNat := by rw [Int.natAbs_mul, show p.natAbs = p.toNat by omega]
        have M : Hid (valV (n * p) p = -1 ∨ valV (n * p) p = (v : Int) + 1) := by
          cases hf : factB (n * p) with
          | false => exact .inl (valV_no (.inl hf))
          | true =>
            right
            rw [valV_yes hf hP, hnp, val_mul hpN _ _ _ (Nat.le_refl _) (by omega) (by omega), val_self hpN, ← hv]
            push_cast; rfl
        have S : Hid (valV (n * n) p = -1 ∨ valV (n * n) p = 2 * (v : Int)) := by
          cases hf : factB (n * n) with
          | false => exact .inl (valV_no (.inl hf))
          | true =>
            right
            rw [valV_yes hf hP, Int.natAbs_mul, val_mul hpN _ _ _ (Nat.le_refl _) (by omega) (by omega), ← hv]
            push_cast; omega
        have hdv := val_dvd_iff hpN (show 0 < n.natAbs by omega)
        rw [← hv] at hdv
        have T := tmod_eqz (L := n) (p := p) (by omega)
        have b1 : -600000 ≤ n * p ∧ n * p ≤ 600000 := by
          have h1 : (n * p).natAbs ≤ 5001 * 100 := by rw [hnp]; exact Nat.mul_le_mul (by omega) (by omega)
          omega
        have b2 : 0 ≤ n * n ∧ n * n ≤ 30000000 := by
          have h1 : (n * n).natAbs ≤ 5001 * 5001 := by rw [Int.natAbs_mul]; exact Nat.mul_le_mul (by omega) (by omega)
          have h2 : 0 ≤ n * n := by
            rcases Int.le_total 0 n with h | h
            · exact Int.mul_nonneg h h
            · exact Int.mul_nonneg_of_nonpos_of_nonpos h h
          omega
        have b1a := b1.1
        have b1b := b1.2
        have b2a := b2.1
        have b2b := b2.2
        have Tv : ((v : Int) == -1) = false := by rw [beq_eq_false_iff_ne]; omega
        have Tv1 : ((v : Int) + 1 == -1) = false := by rw [beq_eq_false_iff_ne]; omega
        have Tv2 : (2 * (v : Int) == -1) = false := by rw [beq_eq_false_iff_ne]; omega
        have v0 : (0 : Int) ≤ (v : Int) := by omega
        obtain ⟨x, hx⟩ : ∃ x, x = valV (n * p) p := ⟨_, rfl⟩
        obtain ⟨y, hy⟩ : ∃ y, y = valV (n * n) p := ⟨_, rfl⟩
        have HX := hid hx
        have HY := hid hy
        have M2 := M.out
        have S2 := S.out
        rw [← hx] at M2
        rw [← hy] at S2
        clear hv hF hP hpN hnp b1 b2 f0 hx hy
        by_cases hv0 : 0 < v
        · rw [decide_eq_true (hdv.1 hv0)] at T
          have hv1 : (0 : Int) < (v : Int) := by omega
          clear hdv
          go_wp2_with fail
          refine (valuationOf_any n p _).mono ?_
          rw [P.out]
          rintro e w' ⟨rfl, hb1⟩
          go_wp2_with fail
          refine (valuationOfS_any n p _).mono ?_
          rw [P.out]
          rintro e w' ⟨rfl, rfl⟩
          go_wp2_with fail
          refine (valuationOf_any (n * p) p _).mono ?_
          rw [← HX.out]
          rintro e w' ⟨rfl, hb2⟩
          go_wp2_with fail
          refine (valuationOf_any (n * n) p _).mono ?_
          rw [← HY.out]
          rintro e w' ⟨rfl, hb3⟩
          have hB := (hb.trans (hb1.mono hb.size)).trans (hb2.mono (Nat.le_trans hb.size hb1.size)) |>.trans (hb3.mono (Nat.le_trans (Nat.le_trans hb.size hb1.size) hb2.size))
          rcases M2 with rfl | rfl <;> rcases S2 with rfl | rfl
          all_goals
            go_wp2
            go_ret
            exact ⟨retB (by simp), hB⟩
        · rw [decide_eq_false (fun h => hv0 (hdv.2 h))] at T
          have hv1 : ¬ (0 : Int) < (v : Int) := by omega
          clear hdv
          go_wp2_with fail
          refine (valuationOf_any n p _).mono ?_
          rw [P.out]
          rintro e w' ⟨rfl, hb1⟩
          go_wp2_with fail
          refine (valuationOfS_any n p _).mono ?_
          rw [P.out]
          rintro e w' ⟨rfl, rfl⟩
          go_wp2_with fail
          refine (valuationOf_any (n * p) p _).mono ?_
          rw [← HX.out]
          rintro e w' ⟨rfl, hb2⟩
          go_wp2_with fail
          refine (valuationOf_any (n * n) p _).mono ?_
          rw [← HY.out]
          rintro e w' ⟨rfl, hb3⟩
          have hB := (hb.trans (hb1.mono hb.size)).trans (hb2.mono (Nat.le_trans hb.size hb1.size)) |>.trans (hb3.mono (Nat.le_trans (Nat.le_trans hb.size hb1.size) hb2.size))
          rcases M2 with rfl | rfl <;> rcases S2 with rfl | rfl
          all_goals
            go_wp2
            go_ret
            exact ⟨retB (by simp), hB⟩
      · rw [hF] at h; cases h
      · rw [hF] at h; cases h
theorem own : ownKnob Try.prog.godebug = none := by kernel_rfl
theorem laidOut : laidOutB Try.prog = true := by kernel_rfl
set_option maxRecDepth 100000 in
theorem lifted (os : Os) (started : os.Started) (H : Type) (enc : TypeId × Value → H) :
    ReturnsInHanded {} Try.checked os 5 .any (Rows.fnValuationSpec.pre6 enc Try.prog Try.f5 Rows.fnValuationRow.domain false) (Rows.fnValuationSpec.post enc Try.prog Try.f5 false true false false) := by
  refine returnsInHanded_of_change (C := Try.checked) own started (by kernel_rfl) Try.func5
    (ChangeSpec.witness6 (enc := enc) (C := Try.checked) false ⟨#[], #[.slice none 0 0], []⟩ 8 (by kernel_rfl) (by kernel_rfl) (by kernel_rfl) (by kernel_rfl)) ?_
  intro W base args ds gs before hval0 hW hcnd _
  have hval : ∀ (j : Nat) t v, Try.f5.params[j]? = some t → args[j]? = some v → Value.okWide Try.prog W .any base t v := hval0
  have hW' := hW
  obtain ⟨p, q, hA0, hV, rfl, hfz, hnd⟩ := hW
  have hA : DataW.TrodAll enc Try.prog W 0 (fun _ => true) true Try.f5.params.toList args.toList ds p := hA0
  rw [Try.params5] at hA hval
  obtain ⟨v0, vs0, d0, ds0, p0, q0, hargs, rfl, rfl, h0, r0⟩ := trodAll_cons hA
  obtain ⟨rfl, rfl, rfl⟩ := trodAll_nil r0
  obtain rfl : args = #[v0] := by cases args; simp_all
  obtain ⟨rfl, rfl⟩ := trodVars_none hV
  obtain ⟨a0, len0, cap0, rfl⟩ := okWide_slice Try.underlying22 (hval 0 22 v0 rfl rfl)
  have k0 := h0
  have lt0 : ∀ x ∈ p0, x.block < W.heap.size := by obtain ⟨m, hm⟩ := k0; exact DataW.trod_lt m _ _ _ hm
  obtain ⟨z0, w0⟩ : ∃ zs, IsRow .u8 W a0 len0 cap0 zs := by
    obtain ⟨fuel, hf⟩ := h0
    rcases open_ints Try.underlying22 Try.underlying5 (by kernel_rfl) hf with ⟨hcs, _⟩ | ⟨x, l, c, zs, hcs, _, hl, hm, hz, _, hcell, hwz⟩
    · simp [Value.cells] at hcs
      obtain ⟨rfl, rfl, rfl⟩ := hcs
      exact ⟨[], .inl ⟨rfl, rfl, rfl, rfl⟩⟩
    · simp [Value.cells] at hcs
      obtain ⟨rfl, rfl, rfl⟩ := hcs
      exact ⟨zs, .inr ⟨_, rfl, hl, hm, by simpa using hz, hcell, hwz⟩⟩
  clear hA0 hval0
  refine (walk a0 len0 cap0 z0 W w0).mono fun e W' ⟨he, bel⟩ => ?_
  subst he
  exact ⟨_, rfl, _, _, _, [], _, [], hW', trodAll_mk1 (shut_bool Try.underlying4 _), (trodAll_cons_mk (Below.trod laidOut (by kernel_rfl) (of_decide_eq_true (by kernel_rfl)) k0 bel lt0) trodAll_mk0), rfl, bel.frame _, fun h => by cases h⟩
theorem over : Rows.fnValuationRow.holds Try.pinned (OpenSpec.ofChange Rows.fnValuationSpec) :=
  OpenClaim.holds_of_wide 5 Try.f5 rfl rfl rfl rfl rfl rfl rfl ⟨rfl, rfl, rfl, rfl, rfl⟩ rfl rfl rfl rfl rfl (by kernel_rfl) Try.func5 (by kernel_rfl)
    (of_decide_eq_true (by kernel_rfl)) (by unfold Func.isWrapper; first | (rw [if_pos (by decide +kernel)]; kernel_rfl) | (rw [if_neg (by decide +kernel)]; exact ⟨rfl, rfl⟩))
    (fun os started H enc _ => lifted os started H enc)
theorem proved : Rows.FnValuationSaid := over
end Go.Proofs.Ytehjiejijlboeaa.fnValuation
