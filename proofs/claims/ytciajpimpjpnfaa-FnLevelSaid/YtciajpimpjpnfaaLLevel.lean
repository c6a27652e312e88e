/-
  Proves: for every code: the level of a place is 4 at 2, and 1 or 2 at other primes, as -1 is a local square there or not.
  Conditions: none beyond the given statement's own.
-/
import Derived.Test.YtciajpimpjpnfaaRows
import Derived.Test.YtciajpimpjpnfaaBun48
import Derived.Test.YtciajpimpjpnfaaFmCore
import Derived.Test.YtciajpimpjpnfaaImp4D
import Derived.Test.YtciajpimpjpnfaaImpC
import Derived.ProofKit
import Derived.OpenShut
import Derived.ShutString
import Derived.ChangeOld
namespace Go.Proofs.Ytciajpimpjpnfaa.fnLevel
open Go.ChangeShapes Go.WideShapes Go.ChangeAt Go.RowKit
open Go.ChangeMaps (open_string shut_string)
set_option linter.unusedVariables false
theorem level_cases {q : Int} (h : prOk q) : levV q = -1 ∨ (levV q = 4 ∧ q = 2 ∧ lsV (-1) q = false) ∨ (levV q = 1 ∧ q ≠ 2 ∧ lsV (-1) q = true ∧ fvanV [1, 1] q = true) ∨ (levV q = 2 ∧ q ≠ 2 ∧ lsV (-1) q = false ∧ fvanV [1, 1, 1] q = true) := by
  unfold prOk at h
  rcases h with rfl | rfl | rfl | rfl | rfl | rfl | rfl | rfl | rfl | rfl | rfl | rfl <;> decide +kernel
theorem ones_snoc (K : Nat) : List.replicate (K + 1) (1 : Int) = List.replicate K 1 ++ [1] := by
  rw [List.replicate_succ']
set_option maxRecDepth 100000 in
set_option maxHeartbeats 4000000 in
theorem walk  (a0 : Option Addr) (len0 cap0 : Nat) (z0 : List Int) (w : World) (w0 : IsRow .u8 w a0 len0 cap0 z0) :
    Calls Try.prog 3 #[.slice a0 len0 cap0] w fun e w' => e = .returned (.bool true) ∧ Below w.heap.size w w' := by
  have HC := hid (codeIn_of w0)
  clear w0
  by_cases hl0 : (1048576 : Int) < (len0 : Int)
  · go_enter Try.func3, Try.ntmps3
    go_wp2
    go_ret
    exact ⟨rfl, Below.refl _ _⟩
  · go_enter Try.func3, Try.ntmps3
    go_wp2_with fail
    refine (drawLocalLevel_any _ len0 _ HC.out).mono ?_
    rintro e d1 ⟨q, rfl, hp, hb0⟩
    have HB1 := hid hb0
    clear hb0
    have HLC := level_cases hp
    obtain ⟨c, hc0⟩ : ∃ c, c = levV q := ⟨_, rfl⟩
    rw [← hc0] at HLC
    have HC0 := hid hc0.symm
    clear hp hc0
    go_wp2_with fail
    refine (localLevel_any q _).mono ?_
    rw [HC0.out]
    rintro e d2 ⟨rfl, hb2⟩
    have HB2 := hid (HB1.out.trans (hb2.mono HB1.out.size))
    clear hb2
    go_wp2_with fail
    refine (localLevelS_any q _).mono ?_
    rw [HC0.out]
    rintro e d3 ⟨rfl, hb3⟩
    have HB3 := hid (HB2.out.trans (hb3.mono HB2.out.size))
    clear hb3
    rcases HLC with rfl | ⟨rfl, rfl, hsq⟩ | ⟨rfl, hq2, hsq, hvn⟩ | ⟨rfl, hq2, hsq, hvn⟩
    · skip
      go_wp2
      go_ret
      exact ⟨rfl, HB3.out⟩
    · skip
      obtain ⟨i0, hi, hz0, hz1, hz2⟩ := info_parts infoInt
      have HSQ := hid hsq
      clear hsq
      have HB0 := hid ((Below.refl d3.heap.size d3).alloc (Nat.le_refl _) (.cells #[] 3))
      have HO0 : Hid (Owns (d3.alloc (.cells #[] 3)) d3.heap.size (.slice (some ⟨d3.heap.size, 0, none⟩) 0 0) []) := hid (World.ownsRow_made (size := 1) d3 #[] 0 (Nat.le_refl _) (by unfold maxLen; omega) rfl)
      go_wp2_with fail
      go_loopw [6, 7] (fun so si wr => ∃ K : Nat, si = .int .i64 K ∧ K ≤ 4 ∧ Hid (Owns wr d3.heap.size so (List.replicate K 1)) ∧ Hid (Below d3.heap.size d3 wr)) (fun _ si _ => 4 - (intOf si).toNat)
      case atStart => exact ⟨0, rfl, by omega, HO0, HB0⟩
      case round =>
        obtain ⟨K, rfl, hK, HO, HL⟩ := hrel
        rename World => wr
        have hbs : d3.heap.size ≤ wr.heap.size := HL.out.size
        by_cases hlt : K < 4
        · have t1 : (K : Int) ≤ 4 := by omega
          have t2 : (K : Int) < 4 := by omega
          have HS := hid (ones_snoc K)
          obtain ⟨pre, hpre⟩ : ∃ pre, pre = List.replicate K (1 : Int) := ⟨_, rfl⟩
          have hprel : pre.length ≤ 4 := by rw [hpre, List.length_replicate]; omega
          rw [← hpre] at HO HS
          clear hpre
          go_wp2_with (at_builtin; refine wpList_append_own_at _ rfl _ _ 25 rfl d3.heap.size 3 i0 (.int .i64 0) 1 8 Try.underlying25 hi hz0 hz1 hz2 rfl (by decide) _ _ _ rfl ((show World.ownsRow _ _ _ _ _ _ _ from HO.out).alloc _) ⟨wr.heap.size, 0, none⟩ 1 1 [.int .i64 (1 : Int)] rfl rfl (cell_one_new _ _ _) (by simp [Value.oneCell']) (by unfold maxLen; omega) (by omega) (by simp; omega) ?_; intro v' w3 hown' hgrow _ hat)
          have hsg := hgrow.size
          simp only [World.size_alloc] at hsg
          go_roundw
          case measure => simp only [intOf]; omega
          case rel =>
            refine ⟨K + 1, by go_num, by omega, hid ?_, hid (HL.out.alloc hbs _ |>.grown hgrow (by simp; omega) (fun k e => (HO.out.ge k e)))⟩
            rw [HS.out]
            unfold Owns
            simpa using hown'
        · obtain rfl : K = 4 := by omega
          have HBX := hid (HB3.out.trans (HL.out.mono HB3.out.size))
          clear hlt
          go_wp2_with fail
          refine (localSquare_any (-1) 2 _).mono ?_
          rw [HSQ.out]
          rintro e w4 ⟨rfl, hb4⟩
          have HB4 := hid (HBX.out.trans (hb4.mono HBX.out.size))
          have HO4 := hid (HO.out.keep HO.out.lt hb4)
          clear hb4
          go_wp2
          go_ret
          exact ⟨rfl, HB4.out⟩
    · skip
      obtain ⟨i0, hi, hz0, hz1, hz2⟩ := info_parts infoInt
      have HSQ := hid hsq
      clear hsq
      have HVN := hid hvn
      have T2 : (q == 2) = false := by rw [beq_eq_false_iff_ne]; exact hq2
      clear hvn hq2
      have HB0 := hid ((Below.refl d3.heap.size d3).alloc (Nat.le_refl _) (.cells #[] 3))
      have HO0 : Hid (Owns (d3.alloc (.cells #[] 3)) d3.heap.size (.slice (some ⟨d3.heap.size, 0, none⟩) 0 0) []) := hid (World.ownsRow_made (size := 1) d3 #[] 0 (Nat.le_refl _) (by unfold maxLen; omega) rfl)
      go_wp2_with fail
      go_loopw [6, 7] (fun so si wr => ∃ K : Nat, si = .int .i64 K ∧ K ≤ 2 ∧ Hid (Owns wr d3.heap.size so (List.replicate K 1)) ∧ Hid (Below d3.heap.size d3 wr)) (fun _ si _ => 2 - (intOf si).toNat)
      case atStart => exact ⟨0, rfl, by omega, HO0, HB0⟩
      case round =>
        obtain ⟨K, rfl, hK, HO, HL⟩ := hrel
        rename World => wr
        have hbs : d3.heap.size ≤ wr.heap.size := HL.out.size
        by_cases hlt : K < 2
        · have t1 : (K : Int) ≤ 1 := by omega
          have t2 : (K : Int) < 4 := by omega
          have HS := hid (ones_snoc K)
          obtain ⟨pre, hpre⟩ : ∃ pre, pre = List.replicate K (1 : Int) := ⟨_, rfl⟩
          have hprel : pre.length ≤ 4 := by rw [hpre, List.length_replicate]; omega
          rw [← hpre] at HO HS
          clear hpre
          go_wp2_with (at_builtin; refine wpList_append_own_at _ rfl _ _ 25 rfl d3.heap.size 3 i0 (.int .i64 0) 1 8 Try.underlying25 hi hz0 hz1 hz2 rfl (by decide) _ _ _ rfl ((show World.ownsRow _ _ _ _ _ _ _ from HO.out).alloc _) ⟨wr.heap.size, 0, none⟩ 1 1 [.int .i64 (1 : Int)] rfl rfl (cell_one_new _ _ _) (by simp [Value.oneCell']) (by unfold maxLen; omega) (by omega) (by simp; omega) ?_; intro v' w3 hown' hgrow _ hat)
          have hsg := hgrow.size
          simp only [World.size_alloc] at hsg
          go_roundw
          case measure => simp only [intOf]; omega
          case rel =>
            refine ⟨K + 1, by go_num, by omega, hid ?_, hid (HL.out.alloc hbs _ |>.grown hgrow (by simp; omega) (fun k e => (HO.out.ge k e)))⟩
            rw [HS.out]
            unfold Owns
            simpa using hown'
        · obtain rfl : K = 2 := by omega
          have HBX := hid (HB3.out.trans (HL.out.mono HB3.out.size))
          clear hlt
          go_wp2_with fail
          refine (localSquare_any (-1) q _).mono ?_
          rw [HSQ.out]
          rintro e w4 ⟨rfl, hb4⟩
          have HB4 := hid (HBX.out.trans (hb4.mono HBX.out.size))
          have HO4 := hid (HO.out.keep HO.out.lt hb4)
          clear hb4
          go_wp2_with fail
          refine (formVanishes_any _ _ q _ HO4.out.rd (by simp)).mono ?_
          rw [show List.replicate 2 (1 : Int) = [1, 1] from rfl, HVN.out]
          rintro e w5 ⟨rfl, hb5⟩
          go_wp2
          go_ret
          exact ⟨rfl, HB4.out.trans (hb5.mono HB4.out.size)⟩
    · skip
      obtain ⟨i0, hi, hz0, hz1, hz2⟩ := info_parts infoInt
      have HSQ := hid hsq
      clear hsq
      have HVN := hid hvn
      have T2 : (q == 2) = false := by rw [beq_eq_false_iff_ne]; exact hq2
      clear hvn hq2
      have HB0 := hid ((Below.refl d3.heap.size d3).alloc (Nat.le_refl _) (.cells #[] 3))
      have HO0 : Hid (Owns (d3.alloc (.cells #[] 3)) d3.heap.size (.slice (some ⟨d3.heap.size, 0, none⟩) 0 0) []) := hid (World.ownsRow_made (size := 1) d3 #[] 0 (Nat.le_refl _) (by unfold maxLen; omega) rfl)
      go_wp2_with fail
      go_loopw [6, 7] (fun so si wr => ∃ K : Nat, si = .int .i64 K ∧ K ≤ 3 ∧ Hid (Owns wr d3.heap.size so (List.replicate K 1)) ∧ Hid (Below d3.heap.size d3 wr)) (fun _ si _ => 3 - (intOf si).toNat)
      case atStart => exact ⟨0, rfl, by omega, HO0, HB0⟩
      case round =>
        obtain ⟨K, rfl, hK, HO, HL⟩ := hrel
        rename World => wr
        have hbs : d3.heap.size ≤ wr.heap.size := HL.out.size
        by_cases hlt : K < 3
        · have t1 : (K : Int) ≤ 2 := by omega
          have t2 : (K : Int) < 4 := by omega
          have HS := hid (ones_snoc K)
          obtain ⟨pre, hpre⟩ : ∃ pre, pre = List.replicate K (1 : Int) := ⟨_, rfl⟩
          have hprel : pre.length ≤ 4 := by rw [hpre, List.length_replicate]; omega
          rw [← hpre] at HO HS
          clear hpre
          go_wp2_with (at_builtin; refine wpList_append_own_at _ rfl _ _ 25 rfl d3.heap.size 3 i0 (.int .i64 0) 1 8 Try.underlying25 hi hz0 hz1 hz2 rfl (by decide) _ _ _ rfl ((show World.ownsRow _ _ _ _ _ _ _ from HO.out).alloc _) ⟨wr.heap.size, 0, none⟩ 1 1 [.int .i64 (1 : Int)] rfl rfl (cell_one_new _ _ _) (by simp [Value.oneCell']) (by unfold maxLen; omega) (by omega) (by simp; omega) ?_; intro v' w3 hown' hgrow _ hat)
          have hsg := hgrow.size
          simp only [World.size_alloc] at hsg
          go_roundw
          case measure => simp only [intOf]; omega
          case rel =>
            refine ⟨K + 1, by go_num, by omega, hid ?_, hid (HL.out.alloc hbs _ |>.grown hgrow (by simp; omega) (fun k e => (HO.out.ge k e)))⟩
            rw [HS.out]
            unfold Owns
            simpa using hown'
        · obtain rfl : K = 3 := by omega
          have HBX := hid (HB3.out.trans (HL.out.mono HB3.out.size))
          clear hlt
          go_wp2_with fail
          refine (localSquare_any (-1) q _).mono ?_
          rw [HSQ.out]
          rintro e w4 ⟨rfl, hb4⟩
          have HB4 := hid (HBX.out.trans (hb4.mono HBX.out.size))
          have HO4 := hid (HO.out.keep HO.out.lt hb4)
          clear hb4
          go_wp2_with fail
          refine (formVanishes_any _ _ q _ HO4.out.rd (by simp)).mono ?_
          rw [show List.replicate 3 (1 : Int) = [1, 1, 1] from rfl, HVN.out]
          rintro e w5 ⟨rfl, hb5⟩
          go_wp2
          go_ret
          exact ⟨rfl, HB4.out.trans (hb5.mono HB4.out.size)⟩
theorem own : ownKnob Try.prog.godebug = none := by kernel_rfl
theorem laidOut : laidOutB Try.prog = true := by kernel_rfl
set_option maxRecDepth 100000 in
theorem lifted (os : Os) (started : os.Started) (H : Type) (enc : TypeId × Value → H) :
    ReturnsInHanded {} Try.checked os 3 .any (Rows.fnLevelSpec.pre6 enc Try.prog Try.f3 Rows.fnLevelRow.domain false) (Rows.fnLevelSpec.post enc Try.prog Try.f3 false true false false) := by
  refine returnsInHanded_of_change (C := Try.checked) own started (by kernel_rfl) Try.func3
    (ChangeSpec.witness6 (enc := enc) (C := Try.checked) false ⟨#[], #[.slice none 0 0], []⟩ 8 (by kernel_rfl) (by kernel_rfl) (by kernel_rfl) (by kernel_rfl)) ?_
  intro W base args ds gs before hval0 hW hcnd _
  have hval : ∀ (j : Nat) t v, Try.f3.params[j]? = some t → args[j]? = some v → Value.okWide Try.prog W .any base t v := hval0
  have hW' := hW
  obtain ⟨p, q, hA0, hV, rfl, hfz, hnd⟩ := hW
  have hA : DataW.TrodAll enc Try.prog W 0 (fun _ => true) true Try.f3.params.toList args.toList ds p := hA0
  rw [Try.params3] at hA hval
  obtain ⟨v0, vs0, d0, ds0, p0, q0, hargs, rfl, rfl, h0, r0⟩ := trodAll_cons hA
  obtain ⟨rfl, rfl, rfl⟩ := trodAll_nil r0
  obtain rfl : args = #[v0] := by cases args; simp_all
  obtain ⟨rfl, rfl⟩ := trodVars_none hV
  obtain ⟨a0, len0, cap0, rfl⟩ := okWide_slice Try.underlying22 (hval 0 22 v0 rfl rfl)
  have k0 := h0
  have lt0 : ∀ x ∈ p0, x.block < W.heap.size := by obtain ⟨m, hm⟩ := k0; exact DataW.trod_lt m _ _ _ hm
  obtain ⟨z0, w0⟩ : ∃ zs, IsRow .u8 W a0 len0 cap0 zs := by
    obtain ⟨fuel, hf⟩ := h0
    rcases open_ints Try.underlying22 Try.underlying5 (by kernel_rfl) hf with ⟨hcs, _⟩ | ⟨x, l, c, zs, hcs, _, hl, hm, hz, _, hcell, hwz⟩
    · simp [Value.cells] at hcs
      obtain ⟨rfl, rfl, rfl⟩ := hcs
      exact ⟨[], .inl ⟨rfl, rfl, rfl, rfl⟩⟩
    · simp [Value.cells] at hcs
      obtain ⟨rfl, rfl, rfl⟩ := hcs
      exact ⟨zs, .inr ⟨_, rfl, hl, hm, by simpa using hz, hcell, hwz⟩⟩
  clear hA0 hval0
  refine (walk a0 len0 cap0 z0 W w0).mono fun e W' ⟨he, bel⟩ => ?_
  subst he
  exact ⟨_, rfl, _, _, _, [], _, [], hW', trodAll_mk1 (shut_bool Try.underlying4 _), (trodAll_cons_mk (Below.trod laidOut (by kernel_rfl) (of_decide_eq_true (by kernel_rfl)) k0 bel lt0) trodAll_mk0), rfl, bel.frame _, fun h => by cases h⟩
theorem over : Rows.fnLevelRow.holds Try.pinned (OpenSpec.ofChange Rows.fnLevelSpec) :=
  OpenClaim.holds_of_wide 3 Try.f3 rfl rfl rfl rfl rfl rfl rfl ⟨rfl, rfl, rfl, rfl, rfl⟩ rfl rfl rfl rfl rfl (by kernel_rfl) Try.func3 (by kernel_rfl)
    (of_decide_eq_true (by kernel_rfl)) (by unfold Func.isWrapper; first | (rw [if_pos (by decide +kernel)]; kernel_rfl) | (rw [if_neg (by decide +kernel)]; exact ⟨rfl, rfl⟩))
    (fun os started H enc _ => lifted os started H enc)
theorem proved : Rows.FnLevelSaid := over
end Go.Proofs.Ytciajpimpjpnfaa.fnLevel
