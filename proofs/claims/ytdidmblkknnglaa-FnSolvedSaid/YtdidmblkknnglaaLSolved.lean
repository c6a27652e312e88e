/-
  Proves: for every code: what is solved has the symbol 1 at each place, and is solved by the opposite numbers too.
  Conditions: none beyond the given statement's own.
-/
import Derived.Test.YtdidmblkknnglaaRows
import Derived.Test.YtdidmblkknnglaaSymLaw
import Derived.Test.YtdidmblkknnglaaLaw3
import Derived.Test.YtdidmblkknnglaaSym6
import Derived.Test.YtdidmblkknnglaaDraws4
import Derived.Test.YtdidmblkknnglaaRowWord
import Derived.Test.YtdidmblkknnglaaImp3H
import Derived.Test.YtdidmblkknnglaaImp3G
import Derived.ProofKit
import Derived.OpenShut
import Derived.ShutString
import Derived.ChangeOld
namespace Go.Proofs.Ytdidmblkknnglaa.fnSolved
open Go.ChangeShapes Go.WideShapes Go.ChangeAt Go.RowKit
open Go.ChangeMaps (open_string shut_string)
set_option linter.unusedVariables false
theorem solved_split {a b x y z : Int} (h : sol3 a b x y z = true) : spltV a b = true ∧ sol3 a b (0 - x) (0 - y) (0 - z) = true := by
  have h0 := h
  unfold sol3 at h
  simp only [Bool.and_eq_true, decide_eq_true_eq, Bool.not_eq_true', Bool.and_eq_false_iff, decide_eq_false_iff_not] at h
  obtain ⟨O, hx, hy, hz, hn, he⟩ := h
  constructor
  · rcases okAB_cases a b with ⟨_, _, a0, _, _, b0, _⟩ | hO
    · unfold spltV
      rw [O, Bool.true_and, beq_iff_eq, List.length_eq_zero_iff, List.eq_nil_iff_forall_not_mem]
      intro q hq
      obtain ⟨h1, h2⟩ := (mem_spl O).1 hq
      rw [solved_one a0 b0 (by intro e; rcases hn with h | h | h; (· exact h e.1); (· exact h e.2.1); (· exact h e.2.2)) he h1] at h2
      cases h2
    · rw [O] at hO; cases hO
  · unfold sol3
    have ox := okN_iff.1 hx
    have oy := okN_iff.1 hy
    have oz := okN_iff.1 hz
    simp only [Bool.and_eq_true, decide_eq_true_eq, Bool.not_eq_true', Bool.and_eq_false_iff, decide_eq_false_iff_not]
    refine ⟨O, okN_iff.2 ⟨by omega, by omega⟩, okN_iff.2 ⟨by omega, by omega⟩, okN_iff.2 ⟨by omega, by omega⟩, ?_, ?_⟩
    · rcases hn with h | h | h
      · exact .inl (by omega)
      · exact .inr (.inl (by omega))
      · exact .inr (.inr (by omega))
    · simp only [Int.zero_sub, Int.mul_neg, Int.neg_mul, Int.neg_neg]
      exact he

set_option maxRecDepth 100000 in
set_option maxHeartbeats 2000000 in
theorem walk  (a0 : Option Addr) (len0 cap0 : Nat) (z0 : List Int) (w : World) (w0 : IsRow .u8 w a0 len0 cap0 z0) :
    Calls Try.prog 7 #[.slice a0 len0 cap0] w fun e w' => e = .returned (.bool true) ∧ Below w.heap.size w w' := by
  have HC := hid (codeIn_of w0)
  clear w0
  by_cases hl : (1048576 : Int) < (len0 : Int)
  · go_enter Try.func7, Try.ntmps7
    go_wp2
    go_ret
    exact ⟨rfl, Below.refl _ _⟩
  · go_enter Try.func7, Try.ntmps7
    go_wp2_with fail
    refine (drawSymbolSolved_any _ len0 _ HC.out).mono ?_
    rintro e w1 ⟨a, b, x, y, z, rfl, ⟨ha, hb0, hx, hy, hz⟩, hb⟩
    unfold smallI at ha hx hy hz
    unfold mildI at hb0
    have x1 := hx.1
    have x2 := hx.2
    have y1 := hy.1
    have y2 := hy.2
    have z1 := hz.1
    have z2 := hz.2
    clear ha hb0 hx hy hz
    cases hV : sol3 a b x y z with
    | false =>
      have P := hid hV
      clear hV
      go_wp2_with fail
      refine (symbolSolved_any a b x y z _).mono ?_
      rw [P.out]
      rintro e w' ⟨rfl, hb1⟩
      have hB1 := hb.trans (hb1.mono hb.size)
      go_wp2_with fail
      refine (symbolSolvedS_any a b x y z _).mono ?_
      rw [P.out]
      rintro e w' ⟨rfl, rfl⟩
      go_wp2
      go_ret
      exact ⟨rfl, hB1⟩
    | true =>
      have P := hid hV
      have hs := solved_split hV
      rw [Int.zero_sub, Int.zero_sub, Int.zero_sub] at hs
      have P1 := hid hs.1
      have P2 := hid hs.2
      clear hV hs
      go_wp2_with fail
      refine (symbolSolved_any a b x y z _).mono ?_
      rw [P.out]
      rintro e w' ⟨rfl, hb1⟩
      have hB1 := hb.trans (hb1.mono hb.size)
      go_wp2_with fail
      refine (symbolSolvedS_any a b x y z _).mono ?_
      rw [P.out]
      rintro e w' ⟨rfl, rfl⟩
      go_wp2_with fail
      refine (symbolSplit_any a b _).mono ?_
      rw [P1.out]
      rintro e w' ⟨rfl, hb2⟩
      have hB2 := hB1.trans (hb2.mono hB1.size)
      go_wp2_with fail
      refine (symbolSolved_any a b _ _ _ _).mono ?_
      rw [P2.out]
      rintro e w' ⟨rfl, hb3⟩
      have hB3 := hB2.trans (hb3.mono hB2.size)
      go_wp2
      go_ret
      exact ⟨rfl, hB3⟩
theorem own : ownKnob Try.prog.godebug = none := by kernel_rfl
theorem laidOut : laidOutB Try.prog = true := by kernel_rfl
set_option maxRecDepth 100000 in
theorem lifted (os : Os) (started : os.Started) (H : Type) (enc : TypeId × Value → H) :
    ReturnsInHanded {} Try.checked os 7 .any (Rows.fnSolvedSpec.pre6 enc Try.prog Try.f7 Rows.fnSolvedRow.domain false) (Rows.fnSolvedSpec.post enc Try.prog Try.f7 false true false false) := by
  refine returnsInHanded_of_change (C := Try.checked) own started (by kernel_rfl) Try.func7
    (ChangeSpec.witness6 (enc := enc) (C := Try.checked) false ⟨#[], #[.slice none 0 0], []⟩ 8 (by kernel_rfl) (by kernel_rfl) (by kernel_rfl) (by kernel_rfl)) ?_
  intro W base args ds gs before hval0 hW hcnd _
  have hval : ∀ (j : Nat) t v, Try.f7.params[j]? = some t → args[j]? = some v → Value.okWide Try.prog W .any base t v := hval0
  have hW' := hW
  obtain ⟨p, q, hA0, hV, rfl, hfz, hnd⟩ := hW
  have hA : DataW.TrodAll enc Try.prog W 0 (fun _ => true) true Try.f7.params.toList args.toList ds p := hA0
  rw [Try.params7] at hA hval
  obtain ⟨v0, vs0, d0, ds0, p0, q0, hargs, rfl, rfl, h0, r0⟩ := trodAll_cons hA
  obtain ⟨rfl, rfl, rfl⟩ := trodAll_nil r0
  obtain rfl : args = #[v0] := by cases args; simp_all
  obtain ⟨rfl, rfl⟩ := trodVars_none hV
  obtain ⟨a0, len0, cap0, rfl⟩ := okWide_slice Try.underlying22 (hval 0 22 v0 rfl rfl)
  have k0 := h0
  have lt0 : ∀ x ∈ p0, x.block < W.heap.size := by obtain ⟨m, hm⟩ := k0; exact DataW.trod_lt m _ _ _ hm
  obtain ⟨z0, w0⟩ : ∃ zs, IsRow .u8 W a0 len0 cap0 zs := by
    obtain ⟨fuel, hf⟩ := h0
    rcases open_ints Try.underlying22 Try.underlying5 (by kernel_rfl) hf with ⟨hcs, _⟩ | ⟨x, l, c, zs, hcs, _, hl, hm, hz, _, hcell, hwz⟩
    · simp [Value.cells] at hcs
      obtain ⟨rfl, rfl, rfl⟩ := hcs
      exact ⟨[], .inl ⟨rfl, rfl, rfl, rfl⟩⟩
    · simp [Value.cells] at hcs
      obtain ⟨rfl, rfl, rfl⟩ := hcs
      exact ⟨zs, .inr ⟨_, rfl, hl, hm, by simpa using hz, hcell, hwz⟩⟩
  clear hA0 hval0
  refine (walk a0 len0 cap0 z0 W w0).mono fun e W' ⟨he, bel⟩ => ?_
  subst he
  exact ⟨_, rfl, _, _, _, [], _, [], hW', trodAll_mk1 (shut_bool Try.underlying4 _), (trodAll_cons_mk (Below.trod laidOut (by kernel_rfl) (of_decide_eq_true (by kernel_rfl)) k0 bel lt0) trodAll_mk0), rfl, bel.frame _, fun h => by cases h⟩
theorem over : Rows.fnSolvedRow.holds Try.pinned (OpenSpec.ofChange Rows.fnSolvedSpec) :=
  OpenClaim.holds_of_wide 7 Try.f7 rfl rfl rfl rfl rfl rfl rfl ⟨rfl, rfl, rfl, rfl, rfl⟩ rfl rfl rfl rfl rfl (by kernel_rfl) Try.func7 (by kernel_rfl)
    (of_decide_eq_true (by kernel_rfl)) (by unfold Func.isWrapper; first | (rw [if_pos (by decide +kernel)]; kernel_rfl) | (rw [if_neg (by decide +kernel)]; exact ⟨rfl, rfl⟩))
    (fun os started H enc _ => lifted os started H enc)
theorem proved : Rows.FnSolvedSaid := over
end Go.Proofs.Ytdidmblkknnglaa.fnSolved
