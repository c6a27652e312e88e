/-
  Proves: for every code: a number and 1 less it have the symbol 1, and a number with itself the same as with -1.
  Conditions: none beyond the given statement's own.
-/
import Derived.Test.YtdidmblkknnglaaRows
import Derived.Test.YtdidmblkknnglaaSymLaw
import Derived.Test.YtdidmblkknnglaaDraws3
import Derived.Test.YtdidmblkknnglaaLists
import Derived.Test.YtdidmblkknnglaaRowWord
import Derived.Test.YtdidmblkknnglaaLawKit
import Derived.Test.YtdidmblkknnglaaImp3B
import Derived.ProofKit
import Derived.OpenShut
import Derived.ShutString
import Derived.ChangeOld
namespace Go.Proofs.Ytdidmblkknnglaa.fnSteinberg
open Go.ChangeShapes Go.WideShapes Go.ChangeAt Go.RowKit
open Go.ChangeMaps (open_string shut_string)
set_option linter.unusedVariables false
def numL : List Int := (List.range 119).map (fun (k : Nat) => (k : Int)) ++ ((List.range 119).map (fun (k : Nat) => -(k : Int)) ++ [5000, 4096, 3969])
def steinB (a : Int) : Bool := [0, 2, 3, 5, 7, 11, 13, 97].all (fun q => decide (a = 0) || (decide (a = 1) || decide (symV a (1 - a) q = 1)))
theorem steinB_all : numL.all steinB = true := by decide +kernel
theorem num_mem {x : Int} (h : numOk x) (hO : okN x = true) : x ∈ numL := by
  have hb := okN_iff.1 hO
  unfold numL
  rw [List.mem_append, List.mem_append]
  unfold numOk at h
  rcases h with ⟨h1, h2⟩ | rfl | rfl | rfl | rfl | rfl
  · by_cases h0 : 0 ≤ x
    · left; rw [List.mem_map]; exact ⟨x.toNat, List.mem_range.2 (by omega), by omega⟩
    · right; left; rw [List.mem_map]; exact ⟨x.natAbs, List.mem_range.2 (by omega), by omega⟩
  · right; right; decide
  · omega
  · omega
  · right; right; decide
  · right; right; decide
theorem place_mem {q : Int} (hp : prOk q) (hq : plI q = true) : q ∈ ([0, 2, 3, 5, 7, 11, 13, 97] : List Int) := by
  unfold prOk at hp
  rcases hp with rfl | rfl | rfl | rfl | rfl | rfl | rfl | rfl | rfl | rfl | rfl | rfl
  all_goals first | (revert hq; decide +kernel) | decide
theorem stein {a q : Int} (ha : numOk a) (hp : prOk q) (h : okAt a q = true) (h1 : a ≠ 1) : symOfV a (1 - a) q = 1 := by
  obtain ⟨b1, b2, a0, hq⟩ := okAt_split h
  have hs := List.all_eq_true.1 (List.all_eq_true.1 steinB_all a (num_mem ha (okN_iff.2 ⟨b1, b2⟩))) q (place_mem hp hq)
  rw [decide_eq_false a0, decide_eq_false h1, Bool.false_or, Bool.false_or] at hs
  have hs := of_decide_eq_true hs
  have ho : -5000 ≤ 1 - a ∧ 1 - a ≤ 5000 := by unfold numOk at ha; omega
  rw [symOf_yes (okAB_of h (okAt_yes ho.1 ho.2 (by omega) hq)) hq]
  exact hs
theorem self_minus {a q : Int} (h : okAt a q = true) : symOfV a a q = symOfV a (-1) q := by
  obtain ⟨_, _, a0, hq⟩ := okAt_split h
  rw [symOf_yes (okAB_of h h) hq, symOf_yes (okAB_of h (okAt_yes (by decide) (by decide) (by decide) hq)) hq]
  have h1 := symV_minus a0 hq
  rw [show -a = -1 * a by omega, symV_mul a0 (by decide) a0 hq] at h1
  rcases symV_val a0 a0 hq with e | e <;> rcases symV_val (b := -1) a0 (by decide) hq with f | f <;> rw [e, f] at h1 ⊢
  · cases h1
  · cases h1

set_option maxRecDepth 100000 in
set_option maxHeartbeats 2000000 in
theorem walk  (a0 : Option Addr) (len0 cap0 : Nat) (z0 : List Int) (w : World) (w0 : IsRow .u8 w a0 len0 cap0 z0) :
    Calls Try.prog 4 #[.slice a0 len0 cap0] w fun e w' => e = .returned (.bool true) ∧ Below w.heap.size w w' := by
  have HC := hid (codeIn_of w0)
  clear w0
  by_cases hl : (1048576 : Int) < (len0 : Int)
  · go_enter Try.func4, Try.ntmps4
    go_wp2
    go_ret
    exact ⟨rfl, Below.refl _ _⟩
  · go_enter Try.func4, Try.ntmps4
    go_wp2_with fail
    refine (drawSymbolOf_any _ len0 _ HC.out).mono ?_
    rintro e w1 ⟨a, b, q, rfl, ⟨ha, _, hp⟩, hb⟩
    have hsa := numOk_small ha
    have a1 := hsa.1
    have a2 := hsa.2
    rcases symbol_split a b q with hV | ⟨h1, h2, hV, hpm⟩
    · have P := hid hV
      clear hV hp ha hsa
      go_wp2_with fail
      refine (symbolOf_any a b q _).mono ?_
      rw [P.out]
      rintro e w' ⟨rfl, hb1⟩
      have hB1 := hb.trans (hb1.mono hb.size)
      go_wp2_with fail
      refine (symbolOfS_any a b q _).mono ?_
      rw [P.out]
      rintro e w' ⟨rfl, rfl⟩
      go_wp2
      go_ret
      exact ⟨rfl, hB1⟩
    · have P := hid hV
      obtain ⟨so, hso⟩ : ∃ so, so = symV a b q := ⟨_, rfl⟩
      rw [← hso] at hpm P
      have hT : (so == 0) = false := by rw [beq_eq_false_iff_ne]; omega
      have HSM := hid (self_minus h1)
      obtain ⟨u, hu⟩ : ∃ u, u = symOfV a (-1) q := ⟨_, rfl⟩
      have HU1 : Hid (symOfV a a q = u) := hid (by rw [hu]; exact HSM.out)
      have HU2 : Hid (symOfV a (-1) q = u) := hid hu.symm
      by_cases e1 : a = 1
      · obtain ⟨x, hx⟩ : ∃ x, x = symOfV a (1 - a) q := ⟨_, rfl⟩
        have HX : Hid (symOfV a (1 - a) q = x) := hid hx.symm
        have T1 : (a == 1) = true := by rw [beq_iff_eq]; exact e1
        clear hV hp ha hsa h1 h2 hso hu hx e1 HSM
        go_wp2_with fail
        refine (symbolOf_any a b q _).mono ?_
        rw [P.out]
        rintro e w' ⟨rfl, hb1⟩
        have hB1 := hb.trans (hb1.mono hb.size)
        go_wp2_with fail
        refine (symbolOfS_any a b q _).mono ?_
        rw [P.out]
        rintro e w' ⟨rfl, rfl⟩
        go_wp2_with fail
        refine (symbolOf_any a _ q _).mono ?_
        rw [HX.out]
        rintro e w' ⟨rfl, hb2⟩
        have hB2 := hB1.trans (hb2.mono hB1.size)
        go_wp2_with fail
        refine (symbolOf_any a a q _).mono ?_
        rw [HU1.out]
        rintro e w' ⟨rfl, hb3⟩
        have hB3 := hB2.trans (hb3.mono hB2.size)
        go_wp2_with fail
        refine (symbolOf_any a _ q _).mono ?_
        rw [HU2.out]
        rintro e w' ⟨rfl, hb4⟩
        have hB4 := hB3.trans (hb4.mono hB3.size)
        go_wp2
        go_ret
        exact ⟨rfl, hB4⟩
      · have HX : Hid (symOfV a (1 - a) q = 1) := hid (stein ha hp h1 e1)
        have T1 : (a == 1) = false := by rw [beq_eq_false_iff_ne]; exact e1
        clear hV hp ha hsa h1 h2 hso hu e1 HSM
        go_wp2_with fail
        refine (symbolOf_any a b q _).mono ?_
        rw [P.out]
        rintro e w' ⟨rfl, hb1⟩
        have hB1 := hb.trans (hb1.mono hb.size)
        go_wp2_with fail
        refine (symbolOfS_any a b q _).mono ?_
        rw [P.out]
        rintro e w' ⟨rfl, rfl⟩
        go_wp2_with fail
        refine (symbolOf_any a _ q _).mono ?_
        rw [HX.out]
        rintro e w' ⟨rfl, hb2⟩
        have hB2 := hB1.trans (hb2.mono hB1.size)
        go_wp2_with fail
        refine (symbolOf_any a a q _).mono ?_
        rw [HU1.out]
        rintro e w' ⟨rfl, hb3⟩
        have hB3 := hB2.trans (hb3.mono hB2.size)
        go_wp2_with fail
        refine (symbolOf_any a _ q _).mono ?_
        rw [HU2.out]
        rintro e w' ⟨rfl, hb4⟩
        have hB4 := hB3.trans (hb4.mono hB3.size)
        go_wp2
        go_ret
        exact ⟨rfl, hB4⟩
theorem own : ownKnob Try.prog.godebug = none := by kernel_rfl
theorem laidOut : laidOutB Try.prog = true := by kernel_rfl
set_option maxRecDepth 100000 in
theorem lifted (os : Os) (started : os.Started) (H : Type) (enc : TypeId × Value → H) :
    ReturnsInHanded {} Try.checked os 4 .any (Rows.fnSteinbergSpec.pre6 enc Try.prog Try.f4 Rows.fnSteinbergRow.domain false) (Rows.fnSteinbergSpec.post enc Try.prog Try.f4 false true false false) := by
  refine returnsInHanded_of_change (C := Try.checked) own started (by kernel_rfl) Try.func4
    (ChangeSpec.witness6 (enc := enc) (C := Try.checked) false ⟨#[], #[.slice none 0 0], []⟩ 8 (by kernel_rfl) (by kernel_rfl) (by kernel_rfl) (by kernel_rfl)) ?_
  intro W base args ds gs before hval0 hW hcnd _
  have hval : ∀ (j : Nat) t v, Try.f4.params[j]? = some t → args[j]? = some v → Value.okWide Try.prog W .any base t v := hval0
  have hW' := hW
  obtain ⟨p, q, hA0, hV, rfl, hfz, hnd⟩ := hW
  have hA : DataW.TrodAll enc Try.prog W 0 (fun _ => true) true Try.f4.params.toList args.toList ds p := hA0
  rw [Try.params4] at hA hval
  obtain ⟨v0, vs0, d0, ds0, p0, q0, hargs, rfl, rfl, h0, r0⟩ := trodAll_cons hA
  obtain ⟨rfl, rfl, rfl⟩ := trodAll_nil r0
  obtain rfl : args = #[v0] := by cases args; simp_all
  obtain ⟨rfl, rfl⟩ := trodVars_none hV
  obtain ⟨a0, len0, cap0, rfl⟩ := okWide_slice Try.underlying22 (hval 0 22 v0 rfl rfl)
  have k0 := h0
  have lt0 : ∀ x ∈ p0, x.block < W.heap.size := by obtain ⟨m, hm⟩ := k0; exact DataW.trod_lt m _ _ _ hm
  obtain ⟨z0, w0⟩ : ∃ zs, IsRow .u8 W a0 len0 cap0 zs := by
    obtain ⟨fuel, hf⟩ := h0
    rcases open_ints Try.underlying22 Try.underlying5 (by kernel_rfl) hf with ⟨hcs, _⟩ | ⟨x, l, c, zs, hcs, _, hl, hm, hz, _, hcell, hwz⟩
    · simp [Value.cells] at hcs
      obtain ⟨rfl, rfl, rfl⟩ := hcs
      exact ⟨[], .inl ⟨rfl, rfl, rfl, rfl⟩⟩
    · simp [Value.cells] at hcs
      obtain ⟨rfl, rfl, rfl⟩ := hcs
      exact ⟨zs, .inr ⟨_, rfl, hl, hm, by simpa using hz, hcell, hwz⟩⟩
  clear hA0 hval0
  refine (walk a0 len0 cap0 z0 W w0).mono fun e W' ⟨he, bel⟩ => ?_
  subst he
  exact ⟨_, rfl, _, _, _, [], _, [], hW', trodAll_mk1 (shut_bool Try.underlying4 _), (trodAll_cons_mk (Below.trod laidOut (by kernel_rfl) (of_decide_eq_true (by kernel_rfl)) k0 bel lt0) trodAll_mk0), rfl, bel.frame _, fun h => by cases h⟩
theorem over : Rows.fnSteinbergRow.holds Try.pinned (OpenSpec.ofChange Rows.fnSteinbergSpec) :=
  OpenClaim.holds_of_wide 4 Try.f4 rfl rfl rfl rfl rfl rfl rfl ⟨rfl, rfl, rfl, rfl, rfl⟩ rfl rfl rfl rfl rfl (by kernel_rfl) Try.func4 (by kernel_rfl)
    (of_decide_eq_true (by kernel_rfl)) (by unfold Func.isWrapper; first | (rw [if_pos (by decide +kernel)]; kernel_rfl) | (rw [if_neg (by decide +kernel)]; exact ⟨rfl, rfl⟩))
    (fun os started H enc _ => lifted os started H enc)
theorem proved : Rows.FnSteinbergSaid := over
end Go.Proofs.Ytdidmblkknnglaa.fnSteinberg
