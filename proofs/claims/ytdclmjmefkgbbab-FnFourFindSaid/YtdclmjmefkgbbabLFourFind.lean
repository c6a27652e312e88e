/-
  Proves: for every code: four squares are enough, and the first one is 0 exactly for sums of three.
  Conditions: none beyond the given statement's own.
-/
import Derived.Test.YtdclmjmefkgbbabRows
import Derived.Test.YtdclmjmefkgbbabSuG
import Derived.Test.YtdclmjmefkgbbabDraws24
import Derived.Test.YtdclmjmefkgbbabQRowWord
import Derived.ProofKit
import Derived.OpenShut
import Derived.ShutString
import Derived.ChangeOld
namespace Go.Proofs.Ytdclmjmefkgbbab.fnFourFind
open Go.ChangeShapes Go.WideShapes Go.ChangeAt Go.RowKit
open Go.ChangeMaps (open_string shut_string)
set_option linter.unusedVariables false

set_option maxRecDepth 100000 in
set_option maxHeartbeats 4000000 in
theorem walk (a0 : Option Addr) (len0 cap0 : Nat) (z0 : List Int) (w : World) (w0 : IsRow .u8 w a0 len0 cap0 z0) :
    Calls Try.prog 10 #[.slice a0 len0 cap0] w fun e w' => e = .returned (.bool true) ∧ Below w.heap.size w w' := by
  have HC := hid (codeIn_of w0)
  clear w0
  by_cases hl : (1048576 : Int) < (len0 : Int)
  · go_enter Try.func10, Try.ntmps10
    go_wp2
    go_ret
    exact ⟨rfl, Below.refl _ _⟩
  · go_enter Try.func10, Try.ntmps10
    go_wp2_with fail
    refine (drawFourFind_any _ len0 _ HC.out).mono ?_
    rintro e w1 ⟨n, rfl, hn, hb⟩
    have HB1 := hid hb
    clear hb HC
    rcases sum_cases8 hn with h | ⟨N, rfl, h, hN⟩
    · have HI := hid (fun w => (fourFind_any n w).mono fun _ _ q => many_no8 (manyO_no h) q)
      have HS := hid (fun w => (fourFindS_any n w).mono fun _ _ q => many_no8 (manyO_no h) q)
      have hns : n < 0 ∨ 2000 < n := by
        rcases sumB_cases n with ⟨_, _, q⟩ | ⟨q, _⟩ | ⟨_, q, _⟩
        · rw [h] at q; cases q
        · exact .inl q
        · exact .inr q
      clear h hn
      rcases hns with hns | hns
      all_goals
        go_wp2_with fail
        refine (HI.out _).mono ?_
        rintro e w2 ⟨u, rfl, ho2, hb2⟩
        have HOu := hid ho2
        have HBx2 := hid hb2
        have HB2 := hid (HB1.out.trans (hb2.mono HB1.out.size))
        clear ho2 hb2
        go_wp2_with fail
        refine (HS.out _).mono ?_
        rintro e w3 ⟨z, rfl, ho3, hb3⟩
        have HOz := hid ho3
        have HBx3 := hid hb3
        have HB3 := hid (HB2.out.trans (hb3.mono HB2.out.size))
        clear ho3 hb3
        have HU3 := hid (HOu.out.keep HOu.out.lt HBx3.out)
        go_wp2_with fail
        refine (sameInts_any _ _ [] [] _ HU3.out.rd HOz.out.rd).mono ?_
        rw [dec_same]
        rintro e w4 ⟨rfl, hk4⟩
        have HB4 : Hid (Below w.heap.size w w4) := hid (by obtain ⟨k, rfl⟩ := hk4; exact below_drewN HB3.out k)
        have HU4 : Hid (Rd w4 u []) := hid (by obtain ⟨k, rfl⟩ := hk4; exact (HU3.out.drewN k).rd)
        clear hk4
        go_wp2
        all_goals (go_ret; exact ⟨rfl, HB4.out⟩)
    · obtain ⟨l, e, kz⟩ := four_kernel hN
      have hn2 : N ≤ 2000 := by omega
      have HI := hid (fun w => (fourFind_any (N : Int) w).mono fun _ _ q => many_yes8 h e q)
      have HS := hid (fun w => (fourFindS_any (N : Int) w).mono fun _ _ q => many_yes8 h e q)
      have HTE := hid (fun w => threeIsE_any (N : Int) w)
      rw [← kz] at HTE
      obtain ⟨x, y, z, v, rfl, x0, xy, yz, zv, hs, px, py, pz, pv⟩ := four_found hn2 e
      rw [show decide ([x, y, z, v].getD 0 0 = 0) = (x == 0) by show decide (x = 0) = (x == 0); by_cases q : x = 0 <;> simp [q]] at HTE
      have HTQ : Hid (∀ (w : World) (m : Nat), Calls Try.prog 29 #[.int .i64 (N : Int)] (w.drewN m) fun e w'' => e = .returned (.bool (x == 0)) ∧ ∃ k, w'' = w.drewN k) := hid (fun w m => Calls.quiet_of_same ((HTE.out _).mono fun _ _ q => ⟨q.1, q.2.symm⟩))
      have T1 : (x * x + y * y + z * z + v * v == (N : Int)) = true := by rw [beq_iff_eq]; exact hs
      have TQ : ((x == 0) == (x == 0)) = true := by simp
      clear h hn kz e hN hs
      go_wp2_with fail
      refine (HI.out _).mono ?_
      rintro e w2 ⟨u, rfl, ho2, hb2⟩
      have HOu := hid ho2
      have HBx2 := hid hb2
      have HB2 := hid (HB1.out.trans (hb2.mono HB1.out.size))
      clear ho2 hb2
      go_wp2_with fail
      refine (HS.out _).mono ?_
      rintro e w3 ⟨zz, rfl, ho3, hb3⟩
      have HOzz := hid ho3
      have HBx3 := hid hb3
      have HB3 := hid (HB2.out.trans (hb3.mono HB2.out.size))
      clear ho3 hb3
      have HU3 := hid (HOu.out.keep HOu.out.lt HBx3.out)
      go_wp2_with fail
      refine (sameInts_any _ _ [x, y, z, v] [x, y, z, v] _ HU3.out.rd HOzz.out.rd).mono ?_
      rw [dec_same]
      rintro e w4 ⟨rfl, hk4⟩
      have HB4 : Hid (Below w.heap.size w w4) := hid (by obtain ⟨k, rfl⟩ := hk4; exact below_drewN HB3.out k)
      have HU4 : Hid (Rd w4 u [x, y, z, v]) := hid (by obtain ⟨k, rfl⟩ := hk4; exact (HU3.out.drewN k).rd)
      clear hk4
      obtain ⟨ad, cap, rfl, hform⟩ := HU4.out.form
      obtain ⟨g, o, rfl, _, hc⟩ := hform (by simp)
      have HC4 : Hid (w4.cell? ⟨g, o, none⟩ = some (.int .i64 x) ∧ w4.cell? ⟨g, o + 1, none⟩ = some (.int .i64 y) ∧ w4.cell? ⟨g, o + 2, none⟩ = some (.int .i64 z) ∧ w4.cell? ⟨g, o + 3, none⟩ = some (.int .i64 v)) := hid ⟨hc 0 (by simp), hc 1 (by simp), hc 2 (by simp), hc 3 (by simp)⟩
      clear hform hc
      go_wp2_with fail
      go_loopw [8, 9] (fun ss si wr => ∃ (K s : Int), si = .int .i64 K ∧ ss = .int .i64 s ∧ (K = 0 ∧ s = 0 ∨ K = 1 ∧ s = x * x ∨ K = 2 ∧ s = x * x + y * y ∨ K = 3 ∧ s = x * x + y * y + z * z ∨ K = 4 ∧ s = x * x + y * y + z * z + v * v) ∧ Hid (∃ k, wr = w4.drewN k)) (fun _ si _ => 4 - (intOf si).toNat)
      case atStart => exact ⟨0, 0, rfl, rfl, .inl ⟨rfl, rfl⟩, hid ⟨0, rfl⟩⟩
      case round =>
        obtain ⟨K, s, rfl, rfl, hK, HW⟩ := hrel
        rename World => wr
        have HCr : Hid (wr.cell? ⟨g, o, none⟩ = some (.int .i64 x) ∧ wr.cell? ⟨g, o + 1, none⟩ = some (.int .i64 y) ∧ wr.cell? ⟨g, o + 2, none⟩ = some (.int .i64 z) ∧ wr.cell? ⟨g, o + 3, none⟩ = some (.int .i64 v)) := hid (by obtain ⟨k, rfl⟩ := HW.out; exact HC4.out)
        obtain ⟨c0, c1, c2, c3⟩ := HCr.out
        rcases hK with ⟨rfl, rfl⟩ | ⟨rfl, rfl⟩ | ⟨rfl, rfl⟩ | ⟨rfl, rfl⟩ | ⟨rfl, rfl⟩
        · go_wp2_with fail
          go_quiet (fail)
          have HW2 : Hid (∃ k, wr.drewN nq = w4.drewN k) := hid (by obtain ⟨k, rfl⟩ := HW.out; exact ⟨k + nq, by simp⟩)
          have HCq : Hid ((wr.drewN nq).cell? ⟨g, o, none⟩ = some (.int .i64 x) ∧ (wr.drewN nq).cell? ⟨g, o + 1, none⟩ = some (.int .i64 y) ∧ (wr.drewN nq).cell? ⟨g, o + 2, none⟩ = some (.int .i64 z) ∧ (wr.drewN nq).cell? ⟨g, o + 3, none⟩ = some (.int .i64 v)) := hid HCr.out
          clear c0 c1 c2 c3
          generalize wr.drewN nq = wq at *
          obtain ⟨c0, c1, c2, c3⟩ := HCq.out
          have n0 : ¬ x < 0 := by omega
          have n1 : decide (x < 0) = false := decide_eq_false n0
          go_wp2_with fail
          go_quiet (fail)
          have HW3 : Hid (∃ k, wq.drewN nq = w4.drewN k) := hid (by obtain ⟨k, rfl⟩ := HW2.out; exact ⟨k + nq, by simp⟩)
          go_wp2_with fail
          go_roundw
          case measure => simp only [intOf]; omega
          case rel => exact ⟨1, _, by go_num, rfl, .inr (.inl ⟨by go_num, by go_num⟩), HW3⟩
        · go_wp2_with fail
          go_quiet (fail)
          have HW2 : Hid (∃ k, wr.drewN nq = w4.drewN k) := hid (by obtain ⟨k, rfl⟩ := HW.out; exact ⟨k + nq, by simp⟩)
          have HCq : Hid ((wr.drewN nq).cell? ⟨g, o, none⟩ = some (.int .i64 x) ∧ (wr.drewN nq).cell? ⟨g, o + 1, none⟩ = some (.int .i64 y) ∧ (wr.drewN nq).cell? ⟨g, o + 2, none⟩ = some (.int .i64 z) ∧ (wr.drewN nq).cell? ⟨g, o + 3, none⟩ = some (.int .i64 v)) := hid HCr.out
          clear c0 c1 c2 c3
          generalize wr.drewN nq = wq at *
          obtain ⟨c0, c1, c2, c3⟩ := HCq.out
          have n0 : ¬ y < 0 := by omega
          have n1 : decide (y < 0) = false := decide_eq_false n0
          have n2 : ¬ y < x := by omega
          have n3 : decide (y < x) = false := decide_eq_false n2
          go_wp2_with fail
          go_quiet (fail)
          have HW3 : Hid (∃ k, wq.drewN nq = w4.drewN k) := hid (by obtain ⟨k, rfl⟩ := HW2.out; exact ⟨k + nq, by simp⟩)
          go_wp2_with fail
          go_roundw
          case measure => simp only [intOf]; omega
          case rel => exact ⟨2, _, by go_num, rfl, .inr (.inr (.inl ⟨by go_num, by go_num⟩)), HW3⟩
        · go_wp2_with fail
          go_quiet (fail)
          have HW2 : Hid (∃ k, wr.drewN nq = w4.drewN k) := hid (by obtain ⟨k, rfl⟩ := HW.out; exact ⟨k + nq, by simp⟩)
          have HCq : Hid ((wr.drewN nq).cell? ⟨g, o, none⟩ = some (.int .i64 x) ∧ (wr.drewN nq).cell? ⟨g, o + 1, none⟩ = some (.int .i64 y) ∧ (wr.drewN nq).cell? ⟨g, o + 2, none⟩ = some (.int .i64 z) ∧ (wr.drewN nq).cell? ⟨g, o + 3, none⟩ = some (.int .i64 v)) := hid HCr.out
          clear c0 c1 c2 c3
          generalize wr.drewN nq = wq at *
          obtain ⟨c0, c1, c2, c3⟩ := HCq.out
          have n0 : ¬ z < 0 := by omega
          have n1 : decide (z < 0) = false := decide_eq_false n0
          have n2 : ¬ z < y := by omega
          have n3 : decide (z < y) = false := decide_eq_false n2
          go_wp2_with fail
          go_quiet (fail)
          have HW3 : Hid (∃ k, wq.drewN nq = w4.drewN k) := hid (by obtain ⟨k, rfl⟩ := HW2.out; exact ⟨k + nq, by simp⟩)
          go_wp2_with fail
          go_roundw
          case measure => simp only [intOf]; omega
          case rel => exact ⟨3, _, by go_num, rfl, .inr (.inr (.inr (.inl ⟨by go_num, by go_num⟩))), HW3⟩
        · go_wp2_with fail
          go_quiet (fail)
          have HW2 : Hid (∃ k, wr.drewN nq = w4.drewN k) := hid (by obtain ⟨k, rfl⟩ := HW.out; exact ⟨k + nq, by simp⟩)
          have HCq : Hid ((wr.drewN nq).cell? ⟨g, o, none⟩ = some (.int .i64 x) ∧ (wr.drewN nq).cell? ⟨g, o + 1, none⟩ = some (.int .i64 y) ∧ (wr.drewN nq).cell? ⟨g, o + 2, none⟩ = some (.int .i64 z) ∧ (wr.drewN nq).cell? ⟨g, o + 3, none⟩ = some (.int .i64 v)) := hid HCr.out
          clear c0 c1 c2 c3
          generalize wr.drewN nq = wq at *
          obtain ⟨c0, c1, c2, c3⟩ := HCq.out
          have n0 : ¬ v < 0 := by omega
          have n1 : decide (v < 0) = false := decide_eq_false n0
          have n2 : ¬ v < z := by omega
          have n3 : decide (v < z) = false := decide_eq_false n2
          go_wp2_with fail
          go_quiet (fail)
          have HW3 : Hid (∃ k, wq.drewN nq = w4.drewN k) := hid (by obtain ⟨k, rfl⟩ := HW2.out; exact ⟨k + nq, by simp⟩)
          go_wp2_with fail
          go_roundw
          case measure => simp only [intOf]; omega
          case rel => exact ⟨4, _, by go_num, rfl, .inr (.inr (.inr (.inr ⟨by go_num, by go_num⟩))), HW3⟩
        · have HTK : Hid (∀ m : Nat, Calls Try.prog 29 #[.int .i64 (N : Int)] (wr.drewN m) fun e w'' => e = .returned (.bool (x == 0)) ∧ ∃ k, w'' = wr.drewN k) := hid (fun m => HTQ.out _ _)
          have HBr : Hid (Below w.heap.size w wr) := hid (by obtain ⟨k, rfl⟩ := HW.out; exact below_drewN HB4.out k)
          go_wp2_with fail
          go_quiet ((go_at_call 29; exact HTK.out _))
          go_wp2
          go_ret
          exact ⟨rfl, below_drewN HBr.out _⟩
theorem own : ownKnob Try.prog.godebug = none := by kernel_rfl
theorem laidOut : laidOutB Try.prog = true := by kernel_rfl
set_option maxRecDepth 100000 in
theorem lifted (os : Os) (started : os.Started) (H : Type) (enc : TypeId × Value → H) :
    ReturnsInHanded {} Try.checked os 10 .any (Rows.fnFourFindSpec.pre6 enc Try.prog Try.f10 Rows.fnFourFindRow.domain false) (Rows.fnFourFindSpec.post enc Try.prog Try.f10 false true false false) := by
  refine returnsInHanded_of_change (C := Try.checked) own started (by kernel_rfl) Try.func10
    (ChangeSpec.witness6 (enc := enc) (C := Try.checked) false ⟨#[], #[.slice none 0 0], []⟩ 8 (by kernel_rfl) (by kernel_rfl) (by kernel_rfl) (by kernel_rfl)) ?_
  intro W base args ds gs before hval0 hW hcnd _
  have hval : ∀ (j : Nat) t v, Try.f10.params[j]? = some t → args[j]? = some v → Value.okWide Try.prog W .any base t v := hval0
  have hW' := hW
  obtain ⟨p, q, hA0, hV, rfl, hfz, hnd⟩ := hW
  have hA : DataW.TrodAll enc Try.prog W 0 (fun _ => true) true Try.f10.params.toList args.toList ds p := hA0
  rw [Try.params10] at hA hval
  obtain ⟨v0, vs0, d0, ds0, p0, q0, hargs, rfl, rfl, h0, r0⟩ := trodAll_cons hA
  obtain ⟨rfl, rfl, rfl⟩ := trodAll_nil r0
  obtain rfl : args = #[v0] := by cases args; simp_all
  obtain ⟨rfl, rfl⟩ := trodVars_none hV
  obtain ⟨a0, len0, cap0, rfl⟩ := okWide_slice Try.underlying22 (hval 0 22 v0 rfl rfl)
  have k0 := h0
  have lt0 : ∀ x ∈ p0, x.block < W.heap.size := by obtain ⟨m, hm⟩ := k0; exact DataW.trod_lt m _ _ _ hm
  obtain ⟨z0, w0⟩ : ∃ zs, IsRow .u8 W a0 len0 cap0 zs := by
    obtain ⟨fuel, hf⟩ := h0
    rcases open_ints Try.underlying22 Try.underlying5 (by kernel_rfl) hf with ⟨hcs, _⟩ | ⟨x, l, c, zs, hcs, _, hl, hm, hz, _, hcell, hwz⟩
    · simp [Value.cells] at hcs
      obtain ⟨rfl, rfl, rfl⟩ := hcs
      exact ⟨[], .inl ⟨rfl, rfl, rfl, rfl⟩⟩
    · simp [Value.cells] at hcs
      obtain ⟨rfl, rfl, rfl⟩ := hcs
      exact ⟨zs, .inr ⟨_, rfl, hl, hm, by simpa using hz, hcell, hwz⟩⟩
  clear hA0 hval0
  refine (walk a0 len0 cap0 z0 W w0).mono fun e W' ⟨he, bel⟩ => ?_
  subst he
  exact ⟨_, rfl, _, _, _, [], _, [], hW', trodAll_mk1 (shut_bool Try.underlying4 _), (trodAll_cons_mk (Below.trod laidOut (by kernel_rfl) (of_decide_eq_true (by kernel_rfl)) k0 bel lt0) trodAll_mk0), rfl, bel.frame _, fun h => by cases h⟩
theorem over : Rows.fnFourFindRow.holds Try.pinned (OpenSpec.ofChange Rows.fnFourFindSpec) :=
  OpenClaim.holds_of_wide 10 Try.f10 rfl rfl rfl rfl rfl rfl rfl ⟨rfl, rfl, rfl, rfl, rfl⟩ rfl rfl rfl rfl rfl (by kernel_rfl) Try.func10 (by kernel_rfl)
    (of_decide_eq_true (by kernel_rfl)) (by unfold Func.isWrapper; first | (rw [if_pos (by decide +kernel)]; kernel_rfl) | (rw [if_neg (by decide +kernel)]; exact ⟨rfl, rfl⟩))
    (fun os started H enc _ => lifted os started H enc)
theorem proved : Rows.FnFourFindSaid := over
end Go.Proofs.Ytdclmjmefkgbbab.fnFourFind
