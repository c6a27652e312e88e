/-
  Contracts of the program's chapter 4: two forms; the discriminant; vanishing and being alike at a place.
-/
import Derived.Test.YtciajpimpjpnfacImp4B
import Derived.Test.YtciajpimpjpnfacCore2
set_option linter.unusedVariables false
namespace Go.Proofs.Ytciajpimpjpnfac
open Go.RowKit

theorem quadraticOf_no (v : Value) (xs : List Int) (w : World) (h : Rd w v xs) (hf : fvB xs = false) : Calls Try.prog 67 #[v] w fun e w' => e = .returned (.tuple #[.nilIface, .bool false]) ∧ w = w' := by
  refine (quadraticOf_any v xs w h).mono ?_
  rintro e w' (⟨_, rfl, rfl⟩ | ⟨h2, _⟩)
  · exact ⟨rfl, rfl⟩
  · rw [hf] at h2; cases h2
theorem quadraticOf_yes (v : Value) (xs : List Int) (w : World) (h : Rd w v xs) (hf : fvB xs = true) : Calls Try.prog 67 #[v] w fun e w' => e = .returned (.tuple #[quadV v w.heap.size, .bool true]) ∧ w' = w.alloc (.map #[] 0) := by
  refine (quadraticOf_any v xs w h).mono ?_
  rintro e w' (⟨h2, _⟩ | ⟨_, rfl, rfl⟩)
  · rw [hf] at h2; cases h2
  · exact ⟨rfl, rfl⟩

/-- what quadraticsOf hands back -/
def Both (w : World) (va vb : Value) (xs ys : List Int) (e : Ending) (w' : World) : Prop :=
  (bothB xs ys = false ∧ e = .returned (.tuple #[.nilIface, .nilIface, .bool false]) ∧ Below w.heap.size w w') ∨
  (bothB xs ys = true ∧ ∃ m1 m2, m1 ≠ m2 ∧ e = .returned (.tuple #[quadV va m1, quadV vb m2, .bool true]) ∧ Quad w w' m1 0 va xs ∧ Quad w w' m2 0 vb ys)

set_option maxRecDepth 100000 in
set_option maxHeartbeats 2000000 in
theorem quadraticsOf_any (va vb : Value) (xs ys : List Int) (w : World) (hx : Rd w va xs) (hy : Rd w vb ys) : Calls Try.prog 35 #[va, vb] w fun e w' => Both w va vb xs ys e w' := by
  have HX := hid hx
  have HY := hid hy
  have B1 := hid ((Below.refl w.heap.size w).alloc (Nat.le_refl _) (.map #[] 0))
  have HX1 := hid (hx.keep B1.out)
  have HY1 := hid (hy.keep B1.out)
  clear hx hy
  cases hf : fvB xs with
  | false =>
    have HF := hid hf
    have HR : Hid (bothB xs ys = false) := hid (by unfold bothB; rw [hf]; rfl)
    cases hg : fvB ys with
    | false =>
      have HG := hid hg
      clear hf hg
      go_enter Try.func35, Try.ntmps35
      go_wp2_with fail
      refine (quadraticOf_no va xs _ HX.out HF.out).mono ?_
      rintro e w' ⟨rfl, rfl⟩
      go_wp2_with fail
      refine (quadraticOf_no vb ys _ HY.out HG.out).mono ?_
      rintro e w' ⟨rfl, rfl⟩
      go_wp2_with fail
      go_ret3
      exact .inl ⟨HR.out, rfl, Below.refl _ _⟩
    | true =>
      have HG := hid hg
      clear hf hg
      go_enter Try.func35, Try.ntmps35
      go_wp2_with fail
      refine (quadraticOf_no va xs _ HX.out HF.out).mono ?_
      rintro e w' ⟨rfl, rfl⟩
      go_wp2_with fail
      refine (quadraticOf_yes vb ys _ HY.out HG.out).mono ?_
      rintro e w' ⟨rfl, rfl⟩
      go_wp2_with fail
      go_ret3
      exact .inl ⟨HR.out, rfl, B1.out⟩
  | true =>
    have HF := hid hf
    cases hg : fvB ys with
    | false =>
      have HG := hid hg
      have HR : Hid (bothB xs ys = false) := hid (by unfold bothB; rw [hg, Bool.false_and, Bool.and_false])
      clear hf hg
      go_enter Try.func35, Try.ntmps35
      go_wp2_with fail
      refine (quadraticOf_yes va xs _ HX.out HF.out).mono ?_
      rintro e w' ⟨rfl, rfl⟩
      go_wp2_with fail
      refine (quadraticOf_no vb ys _ HY1.out HG.out).mono ?_
      rintro e w' ⟨rfl, rfl⟩
      go_wp2_with fail
      go_ret3
      exact .inl ⟨HR.out, rfl, B1.out⟩
    | true =>
      have HG := hid hg
      have q1 := quad_new HX.out hf (Below.refl _ _)
      have q2 := quad_new (w := w.alloc (.map #[] 0)) HY.out hg B1.out
      have Q1 := hid (q1.step ((Below.refl (w.alloc (.map #[] 0)).heap.size _).alloc (Nat.le_refl _) (.map #[] 0)))
      have Q2 := hid q2
      clear hf hg q1 q2
      by_cases hl : xs.length = ys.length
      · have HR : Hid (bothB xs ys = true) := hid (by unfold bothB; rw [HF.out, HG.out, hl]; simp)
        have T : ((xs.length : Int) == (ys.length : Int)) = true := by rw [beq_iff_eq]; omega
        clear hl
        go_enter Try.func35, Try.ntmps35
        go_wp2_with fail
        refine (quadraticOf_yes va xs _ HX.out HF.out).mono ?_
        rintro e w' ⟨rfl, rfl⟩
        go_wp2_with fail
        refine (quadraticOf_yes vb ys _ HY1.out HG.out).mono ?_
        rintro e w' ⟨rfl, rfl⟩
        unfold quadV
        go_wp2_with fail
        refine (diaCount_any va xs _ _ Q1.out.read).mono ?_
        rintro e w' ⟨rfl, hb1⟩
        rename_i w3
        have Q1b := hid (Q1.out.step hb1)
        have Q2b := hid (Q2.out.step hb1)
        clear hb1
        go_wp2_with fail
        refine (diaCount_any vb ys _ _ Q2b.out.read).mono ?_
        rintro e w' ⟨rfl, hb1⟩
        have Q1c := hid (Q1b.out.step hb1)
        have Q2c := hid (Q2b.out.step hb1)
        clear hb1
        go_wp2_with fail
        go_ret3
        exact .inr ⟨HR.out, _, _, by simp, rfl, Q1c.out, by simpa using Q2c.out⟩
      · have HR : Hid (bothB xs ys = false) := hid (by unfold bothB; rw [HF.out, HG.out, beq_eq_false_iff_ne.2 hl]; rfl)
        have T : ((xs.length : Int) == (ys.length : Int)) = false := by rw [beq_eq_false_iff_ne]; omega
        clear hl
        go_enter Try.func35, Try.ntmps35
        go_wp2_with fail
        refine (quadraticOf_yes va xs _ HX.out HF.out).mono ?_
        rintro e w' ⟨rfl, rfl⟩
        go_wp2_with fail
        refine (quadraticOf_yes vb ys _ HY1.out HG.out).mono ?_
        rintro e w' ⟨rfl, rfl⟩
        unfold quadV
        go_wp2_with fail
        refine (diaCount_any va xs _ _ Q1.out.read).mono ?_
        rintro e w' ⟨rfl, hb1⟩
        have Q1b := hid (Q1.out.step hb1)
        have Q2b := hid (Q2.out.step hb1)
        clear hb1
        go_wp2_with fail
        refine (diaCount_any vb ys _ _ Q2b.out.read).mono ?_
        rintro e w' ⟨rfl, hb1⟩
        have Q1c := hid (Q1b.out.step hb1)
        clear hb1
        go_wp2_with fail
        go_ret3
        exact .inl ⟨HR.out, rfl, Q1c.out.bel⟩

set_option maxRecDepth 100000 in
set_option maxHeartbeats 1000000 in
theorem discriminantOf_any (v : Value) (xs : List Int) (m : Nat) (w : World) (h : Rd w v xs) (hf : fvB xs = true) : Calls Try.prog 36 #[quadV v m] w fun e w' => e = .returned (.int .i64 (coreG (prodI xs))) ∧ Below w.heap.size w w' := by
  have HH := hid h
  have HF := hid hf
  have hp := prod_full hf
  have HP := hid hp
  clear h hf hp
  unfold quadV
  go_enter Try.func36, Try.ntmps36
  go_wp2_with fail
  refine (diaProduct_any v xs m _ HH.out HF.out).mono ?_
  rintro e w' ⟨rfl, hb1⟩
  have HB1 := hid hb1
  clear hb1
  go_wp2_with fail
  refine (numCore_any _ HP.out.1 (by have := HP.out; omega) (by have := HP.out; omega) _).mono ?_
  rintro e w' ⟨rfl, hb2⟩
  have HB2 := hid (HB1.out.trans (hb2.mono HB1.out.size))
  clear hb2
  go_wp2_with fail
  go_ret
  exact ⟨rfl, HB2.out⟩

theorem diaCount_is (v : Value) (xs : List Int) (m : Nat) (w : World) (h : Rd w v xs) (k : Int) (hk : (xs.length : Int) = k) : Calls Try.prog 108 #[diaV v m] w fun e w' => e = .returned (.int .i64 k) ∧ Below w.heap.size w w' := by
  subst hk
  exact diaCount_any v xs m w h


end Go.Proofs.Ytciajpimpjpnfac
