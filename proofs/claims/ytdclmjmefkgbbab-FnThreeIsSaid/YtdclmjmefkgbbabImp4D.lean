/-
  Contracts of the program's chapter 4: what the thirteen functions answer (those that build no list).
-/
import Derived.Test.YtdclmjmefkgbbabQImp4C
import Derived.Test.YtdclmjmefkgbbabQBun11
set_option linter.unusedVariables false
namespace Go.Proofs.Ytdclmjmefkgbbab
open Go.RowKit





set_option maxRecDepth 100000 in
set_option maxHeartbeats 1000000 in
theorem formVanishes_any (v : Value) (xs : List Int) (q : Int) (w : World) (h : Rd w v xs) (hl : xs.length ≤ 1048576) : Calls Try.prog 32 #[v, .int .i64 q] w fun e w' => e = .returned (.bool (fvanV xs q)) ∧ Below w.heap.size w w' := by
  have HH := hid h
  cases hf : fvB xs with
  | false =>
    have HF := hid hf
    have HR : Hid (fvanV xs q = false) := hid (by unfold fvanV; rw [hf]; rfl)
    clear hf h
    go_enter Try.func32, Try.ntmps32
    go_wp2_with fail
    refine (quadraticOf_no v xs _ HH.out HF.out).mono ?_
    rintro e w' ⟨rfl, rfl⟩
    go_wp2_with fail
    go_ret
    exact ⟨retB HR.out.symm, Below.refl _ _⟩
  | true =>
    have HF := hid hf
    have Q0 := hid (quad_new HH.out hf (Below.refl _ _))
    cases hq : plI q with
    | false =>
      have HQ := hid hq
      have HR : Hid (fvanV xs q = false) := hid (by unfold fvanV; rw [hf, hq]; rfl)
      clear hf h hq
      go_enter Try.func32, Try.ntmps32
      go_wp2_with fail
      refine (quadraticOf_yes v xs _ HH.out HF.out).mono ?_
      rintro e w' ⟨rfl, rfl⟩
      go_wp2_with fail
      refine (plValid_any q _).mono ?_
      rw [HQ.out]
      rintro e w' ⟨rfl, hb⟩
      have Q1 := hid (Q0.out.step hb)
      clear hb
      go_wp2_with fail
      go_ret
      exact ⟨retB HR.out.symm, Q1.out.bel⟩
    | true =>
      have HQ := hid hq
      have HR : Hid (fvanV xs q = vanB xs q) := hid (by unfold fvanV; rw [hf, hq]; rfl)
      clear hf h hq
      go_enter Try.func32, Try.ntmps32
      go_wp2_with fail
      refine (quadraticOf_yes v xs _ HH.out HF.out).mono ?_
      rintro e w' ⟨rfl, rfl⟩
      go_wp2_with fail
      refine (plValid_any q _).mono ?_
      rw [HQ.out]
      rintro e w' ⟨rfl, hb⟩
      have Q1 := hid (Q0.out.step hb)
      clear hb
      go_wp2_with fail
      refine (vanishesAt_any v xs q _ 0 w _ Q1.out HQ.out (by omega)).mono ?_
      rintro e w' ⟨rfl, hq2, hs2⟩
      have Q2 := hid hq2
      clear hq2 hs2
      go_wp2_with fail
      go_ret
      exact ⟨retB HR.out.symm, Q2.out.bel⟩


end Go.Proofs.Ytdclmjmefkgbbab
