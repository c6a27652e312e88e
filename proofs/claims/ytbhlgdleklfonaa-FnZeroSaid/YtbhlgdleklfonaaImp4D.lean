/-
  Contracts of the program's chapter 4: what the thirteen functions answer (those that build no list).
-/
import Derived.Test.YtbhlgdleklfonaaImp4C
import Derived.Test.YtbhlgdleklfonaaBun27
set_option linter.unusedVariables false
namespace Go.Proofs.Ytbhlgdleklfonaa
open Go.RowKit





set_option maxRecDepth 100000 in
set_option maxHeartbeats 1000000 in
theorem formVanishes_any (v : Value) (xs : List Int) (q : Int) (w : World) (h : Rd w v xs) (hl : xs.length ≤ 1048576) : Calls Try.prog 42 #[v, .int .i64 q] w fun e w' => e = .returned (.bool (fvanV xs q)) ∧ Below w.heap.size w w' := by
  have HH := hid h
  cases hf : fvB xs with
  | false =>
    have HF := hid hf
    have HR : Hid (fvanV xs q = false) := hid (by unfold fvanV; rw [hf]; rfl)
    clear hf h
    go_enter Try.func42, Try.ntmps42
    go_wp2_with fail
    refine (quadraticOf_no v xs _ HH.out HF.out).mono ?_
    rintro e w' ⟨rfl, rfl⟩
    go_wp2_with fail
    go_ret
    exact ⟨retB HR.out.symm, Below.refl _ _⟩
  | true =>
    have HF := hid hf
    have Q0 := hid (quad_new HH.out hf (Below.refl _ _))
    cases hq : plI q with
    | false =>
      have HQ := hid hq
      have HR : Hid (fvanV xs q = false) := hid (by unfold fvanV; rw [hf, hq]; rfl)
      clear hf h hq
      go_enter Try.func42, Try.ntmps42
      go_wp2_with fail
      refine (quadraticOf_yes v xs _ HH.out HF.out).mono ?_
      rintro e w' ⟨rfl, rfl⟩
      go_wp2_with fail
      refine (plValid_any q _).mono ?_
      rw [HQ.out]
      rintro e w' ⟨rfl, hb⟩
      have Q1 := hid (Q0.out.step hb)
      clear hb
      go_wp2_with fail
      go_ret
      exact ⟨retB HR.out.symm, Q1.out.bel⟩
    | true =>
      have HQ := hid hq
      have HR : Hid (fvanV xs q = vanB xs q) := hid (by unfold fvanV; rw [hf, hq]; rfl)
      clear hf h hq
      go_enter Try.func42, Try.ntmps42
      go_wp2_with fail
      refine (quadraticOf_yes v xs _ HH.out HF.out).mono ?_
      rintro e w' ⟨rfl, rfl⟩
      go_wp2_with fail
      refine (plValid_any q _).mono ?_
      rw [HQ.out]
      rintro e w' ⟨rfl, hb⟩
      have Q1 := hid (Q0.out.step hb)
      clear hb
      go_wp2_with fail
      refine (vanishesAt_any v xs q _ 0 w _ Q1.out HQ.out (by omega)).mono ?_
      rintro e w' ⟨rfl, hq2, hs2⟩
      have Q2 := hid hq2
      clear hq2 hs2
      go_wp2_with fail
      go_ret
      exact ⟨retB HR.out.symm, Q2.out.bel⟩

theorem vec6_of {ys : List Int} {m : Int} (h : inAll ys m = true) (hm : m ≤ 1000000) : Vec6 ys := fun v hv => by
  have := List.all_eq_true.1 h v hv
  unfold inR at this
  rw [Bool.and_eq_true, decide_eq_true_eq, decide_eq_true_eq] at this
  omega
set_option maxRecDepth 100000 in
set_option maxHeartbeats 2000000 in
theorem formValue_any (va vb : Value) (xs ys : List Int) (w : World) (hx : Rd w va xs) (hy : Rd w vb ys) (l1 : xs.length ≤ 1048576) (l2 : ys.length ≤ 1048576) : Calls Try.prog 48 #[va, vb] w fun e w' => e = .returned (fvalV xs ys) ∧ Below w.heap.size w w' := by
  have HX := hid hx
  have HY := hid hy
  obtain ⟨a, cap, rfl, _⟩ := hx.form
  obtain ⟨a', cap', rfl, _⟩ := hy.form
  have hno : vecB xs ys 1000 = false → fvalV xs ys = .tuple #[.int .i64 0, .bool false] := fun e => by unfold fvalV; rw [e]; rfl
  cases hf : fvB xs with
  | false =>
    have HF := hid hf
    have HR : Hid (fvalV xs ys = .tuple #[.int .i64 0, .bool false]) := hid (hno (by unfold vecB; rw [hf, Bool.false_and, Bool.and_false]))
    clear hf hno hx hy
    go_enter Try.func48, Try.ntmps48
    go_wp2_with fail
    refine (formValidP_any _ xs _ HX.out).mono ?_
    rw [HF.out]
    rintro e w' ⟨rfl, rfl⟩
    go_wp2_with fail
    go_ret2
    exact ⟨retV HR.out.symm, Below.refl _ _⟩
  | true =>
    have HF := hid hf
    cases hv : (inAll ys 1000 && decide ((ys.length : Int) = (xs.length : Int))) with
    | false =>
      have HV := hid hv
      have HR : Hid (fvalV xs ys = .tuple #[.int .i64 0, .bool false]) := hid (hno (by
        rw [vecB_in, hf, Bool.true_and]
        rw [← hv]
        congr 1
        rw [Bool.eq_iff_iff, beq_iff_eq, decide_eq_true_eq]
        omega))
      clear hf hno hx hy hv
      go_enter Try.func48, Try.ntmps48
      go_wp2_with fail
      refine (formValidP_any _ xs _ HX.out).mono ?_
      rw [HF.out]
      rintro e w' ⟨rfl, rfl⟩
      go_wp2_with (go_at_call 51; refine (vectorWithin_any _ ys _ _ (by omega) (by omega) _ HY.out).mono ?_; rw [HV.out]; rintro e w' ⟨rfl, rfl⟩)
      go_ret2
      exact ⟨retV HR.out.symm, Below.refl _ _⟩
    | true =>
      have HV := hid hv
      rw [Bool.and_eq_true, decide_eq_true_eq] at hv
      have hl : ys.length = xs.length := by omega
      have HL := hid hl
      have H6 := hid (vec6_of hv.1 (by omega))
      have HR : Hid (fvalV xs ys = .tuple #[.int .i64 (pairI xs ys ys xs.length), .bool true]) := hid (by
        unfold fvalV
        rw [vecB_in, hv.1, hf, hl, beq_self_eq_true, Bool.and_true, Bool.true_and, if_pos rfl, pair_self])
      clear hf hno hx hy hv hl
      go_enter Try.func48, Try.ntmps48
      go_wp2_with fail
      refine (formValidP_any _ xs _ HX.out).mono ?_
      rw [HF.out]
      rintro e w' ⟨rfl, rfl⟩
      go_wp2_with (first | (go_at_call 51; refine (vectorWithin_any _ ys _ _ (by omega) (by omega) _ HY.out).mono ?_; rw [HV.out]; rintro e w' ⟨rfl, rfl⟩) | (go_at_call 53; refine (pairAt_any _ _ _ xs ys ys _ HX.out HY.out HY.out HF.out H6.out H6.out HL.out HL.out).mono ?_; rintro e w' ⟨rfl, k, rfl⟩))
      go_ret2
      exact ⟨retV HR.out.symm, ⟨rfl, rfl, rfl, Nat.le_refl _, fun _ _ => rfl⟩⟩

end Go.Proofs.Ytbhlgdleklfonaa
