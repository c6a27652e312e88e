/-
  Contracts of the program's chapter 5: ZeroModulo, all arguments.
-/
import Derived.Test.YtbhlgdleklfonabZp6
import Derived.Test.YtbhlgdleklfonabZMdl0
set_option linter.unusedVariables false
namespace Go.Proofs.Ytbhlgdleklfonab
open Go.RowKit Go.Shelf
attribute [local go_sem] Oper.semAt_some

set_option maxRecDepth 100000 in
set_option maxHeartbeats 1000000 in
theorem zeroModulo_any (vf : Value) (xs : List Int) (p k : Int) (w : World) (hx : Rd w vf xs) :
    Calls Try.prog 29 #[vf, .int .i64 p, .int .i64 k] w fun e w' => e = .returned (.bool (zmodV xs p k)) ∧ Below w.heap.size w w' := by
  have HX := hid hx
  obtain ⟨a, cap, rfl, _⟩ := hx.form
  have bF := ((Boxed.new w 22 (.slice a xs.length cap)).alloc (.cells #[.int .i64 p] 3)).alloc (.cells #[.bool false] 4)
  have bP := (Boxed.new (w.alloc (.cells #[.slice a xs.length cap] 22)) 3 (.int .i64 p)).alloc (.cells #[.bool false] 4)
  have bR := Boxed.new ((w.alloc (.cells #[.slice a xs.length cap] 22)).alloc (.cells #[.int .i64 p] 3)) 4 (.bool false)
  simp only [World.size_alloc] at bP bR
  have cF := bF.cell
  have cP := bP.cell
  have cR := bR.cell
  have fR := bR.frozen
  have HB1 := hid (below_three (Below.refl w.heap.size w) (Nat.le_refl _) (.cells #[.slice a xs.length cap] 22) (.cells #[.int .i64 p] 3) (.cells #[.bool false] 4))
  have HX1 := hid (HX.out.keep HB1.out)
  have hlo : w.heap.size ≤ w.heap.size + 1 + 1 := by omega
  have HLO := hid hlo
  clear hx hlo
  cases hf : fvB xs with
  | false =>
    have HP := hid (zmod_no (xs := xs) (p := p) (k := k) (by unfold zmodOk; rw [hf, Bool.false_and]))
    have HF := hid hf
    clear hf
    go_enter Try.func29, Try.ntmps29
    go_wp2_with (go_at_call 37; refine (formValidP_any _ xs _ HX1.out).mono ?_; rw [HF.out]; rintro e w' ⟨rfl, rfl⟩)
    have cS := (bR.set (.bool false)).cell
    refine bodyPost_ret (v := .bool false) (by simp [results, Try.results29, go_sem] <;> go_simp) rfl ?_
    exact ⟨retB HP.out.symm, HB1.out⟩
  | true =>
    by_cases hl : xs.length ≤ 3
    · cases hPR : primeI p with
      | false =>
        have HP := hid (zmod_no (xs := xs) (p := p) (k := k) (by unfold zmodOk; rw [hPR, Bool.false_and, Bool.and_false, Bool.and_false]))
        have HF := hid hf
        have HPR := hid hPR
        clear hf hPR
        go_enter Try.func29, Try.ntmps29
        go_wp2_with (first | (go_at_call 37; refine (formValidP_any _ xs _ HX1.out).mono ?_; rw [HF.out]; rintro e w' ⟨rfl, rfl⟩) | (go_at_call 65; refine (prime_any _ _).mono ?_; rw [HPR.out]; rintro e w2 ⟨rfl, hb2⟩; have bR2 := boxed_lo bR hb2; have cR2 := bR2.cell; have fR2 := bR2.frozen))
        have cS := (bR2.set (.bool false)).cell
        refine bodyPost_ret (v := .bool false) (by simp [results, Try.results29, go_sem] <;> go_simp) rfl ?_
        exact ⟨retB HP.out.symm, (HB1.out.trans (hb2.mono HB1.out.size)).setCell (p := ⟨w.heap.size + 1 + 1, 0, none⟩) HLO.out _⟩
      | true =>
        have hp2 := (primeI_bd hPR).1
        obtain ⟨P, rfl⟩ := Int.eq_ofNat_of_zero_le (show 0 ≤ p by omega)
        have hP : primeN P = true := hPR
        have hpp2 := (primeN_bd hP).1
        have hpp5 := (primeN_bd hP).2.1
        cases hW : pw32 P k with
        | true =>
          have e9 := zmod_pw (k := k) hf hl hP
          rw [hW, Bool.true_and] at e9
          rw [e9]
          exact zeroModulo_main (.slice a xs.length cap) xs P _ k hf hl hP hW rfl w HX.out
        | false =>
          have HP : Hid (zmodV xs (P : Int) k = false) := hid (by rw [zmod_pw hf hl hP, hW, Bool.false_and])
          have HF := hid hf
          have HPR := hid hPR
          have HW := hid hW
          clear hf hPR hP hW
          go_enter Try.func29, Try.ntmps29
          go_wp2_with (first | (go_at_call 37; refine (formValidP_any _ xs _ HX1.out).mono ?_; rw [HF.out]; rintro e w' ⟨rfl, rfl⟩) | (go_at_call 65; refine (prime_any _ _).mono ?_; rw [HPR.out]; rintro e w2 ⟨rfl, hb2⟩; have bR2 := boxed_lo bR hb2; have bP2 := boxed_lo bP hb2; have cP2 := bP2.cell; have cR2 := bR2.cell; have fR2 := bR2.frozen) | (go_at_call 66; refine (powerWithin32_any P k hpp2 hpp5 _).mono ?_; rw [HW.out]; rintro e w' ⟨⟨xw, rfl, hxw⟩, rfl⟩; have bR3 := bR2.alloc (.cells #[.int .i64 xw] 3); have cR3 := bR3.cell; have fR3 := bR3.frozen))
          have cS := (bR3.set (.bool false)).cell
          refine bodyPost_ret (v := .bool false) (by simp [results, Try.results29, go_sem] <;> go_simp) rfl ?_
          exact ⟨retB HP.out.symm, ((HB1.out.trans (hb2.mono HB1.out.size)).alloc (HB1.out.trans (hb2.mono HB1.out.size)).size (.cells #[.int .i64 xw] 3)).setCell (p := ⟨w.heap.size + 1 + 1, 0, none⟩) HLO.out _⟩
    · have HP := hid (zmod_no (xs := xs) (p := p) (k := k) (by unfold zmodOk; rw [decide_eq_false hl, Bool.false_and, Bool.and_false]))
      have HF := hid hf
      have hgt : (3 : Int) < (xs.length : Int) := by omega
      clear hf hl
      go_enter Try.func29, Try.ntmps29
      go_wp2_with (go_at_call 37; refine (formValidP_any _ xs _ HX1.out).mono ?_; rw [HF.out]; rintro e w' ⟨rfl, rfl⟩)
      have cS := (bR.set (.bool false)).cell
      refine bodyPost_ret (v := .bool false) (by simp [results, Try.results29, go_sem] <;> go_simp) rfl ?_
      exact ⟨retB HP.out.symm, HB1.out⟩

end Go.Proofs.Ytbhlgdleklfonab
