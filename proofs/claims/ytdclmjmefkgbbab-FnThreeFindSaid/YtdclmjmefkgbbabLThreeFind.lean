/-
  Proves: for every code: three squares are found exactly where they are, ascending.
  Conditions: none beyond the given statement's own.
-/
import Derived.Test.YtdclmjmefkgbbabRows
import Derived.Test.YtdclmjmefkgbbabSuG
import Derived.Test.YtdclmjmefkgbbabDraws24
import Derived.Test.YtdclmjmefkgbbabQRowWord
import Derived.ProofKit
import Derived.OpenShut
import Derived.ShutString
import Derived.ChangeOld
namespace Go.Proofs.Ytdclmjmefkgbbab.fnThreeFind
open Go.ChangeShapes Go.WideShapes Go.ChangeAt Go.RowKit
open Go.ChangeMaps (open_string shut_string)
set_option linter.unusedVariables false

set_option maxRecDepth 100000 in
set_option maxHeartbeats 4000000 in
theorem walk (a0 : Option Addr) (len0 cap0 : Nat) (z0 : List Int) (w : World) (w0 : IsRow .u8 w a0 len0 cap0 z0) :
    Calls Try.prog 7 #[.slice a0 len0 cap0] w fun e w' => e = .returned (.bool true) ∧ Below w.heap.size w w' := by
  have HC := hid (codeIn_of w0)
  clear w0
  by_cases hl : (1048576 : Int) < (len0 : Int)
  · go_enter Try.func7, Try.ntmps7
    go_wp2
    go_ret
    exact ⟨rfl, Below.refl _ _⟩
  · go_enter Try.func7, Try.ntmps7
    go_wp2_with fail
    refine (drawThreeFind_any _ len0 _ HC.out).mono ?_
    rintro e w1 ⟨n, rfl, hn, hb⟩
    have HB1 := hid hb
    clear hb HC
    rcases sum_cases8 hn with h | ⟨N, rfl, h, hN⟩
    · have HI := hid (fun w => (threeFind_any n w).mono fun _ _ q => many_no8 (manyO_no h) q)
      have HS := hid (fun w => (threeFindS_any n w).mono fun _ _ q => many_no8 (manyO_no h) q)
      have HT := hid (fun w => threeIs_any n w)
      rw [threeIs_no h] at HT
      clear h hn
      go_wp2_with fail
      refine (HI.out _).mono ?_
      rintro e w2 ⟨u, rfl, ho2, hb2⟩
      have HOu := hid ho2
      have HBx2 := hid hb2
      have HB2 := hid (HB1.out.trans (hb2.mono HB1.out.size))
      clear ho2 hb2
      go_wp2_with fail
      refine (HS.out _).mono ?_
      rintro e w3 ⟨z, rfl, ho3, hb3⟩
      have HOz := hid ho3
      have HBx3 := hid hb3
      have HB3 := hid (HB2.out.trans (hb3.mono HB2.out.size))
      clear ho3 hb3
      have HU3 := hid (HOu.out.keep HOu.out.lt HBx3.out)
      go_wp2_with fail
      refine (sameInts_any _ _ [] [] _ HU3.out.rd HOz.out.rd).mono ?_
      rw [dec_same]
      rintro e w4 ⟨rfl, hk4⟩
      have HB4 : Hid (Below w.heap.size w w4) := hid (by obtain ⟨k, rfl⟩ := hk4; exact below_drewN HB3.out k)
      have HU4 : Hid (Rd w4 u []) := hid (by obtain ⟨k, rfl⟩ := hk4; exact (HU3.out.drewN k).rd)
      clear hk4
      go_wp2_with fail
      refine (HT.out _).mono ?_
      rintro e w5 ⟨rfl, hb5⟩
      have HB5 := hid (HB4.out.trans (hb5.mono HB4.out.size))
      clear hb5
      go_wp2
      all_goals (go_ret; exact ⟨rfl, HB5.out⟩)
    · have k := three_kernel hN
      have hn2 : N ≤ 2000 := by omega
      cases e : lvl 3 (N : Int) 0 with
      | none =>
        have HI := hid (fun w => (threeFind_any (N : Int) w).mono fun _ _ q => many_no8 (manyO_none e) q)
        have HS := hid (fun w => (threeFindS_any (N : Int) w).mono fun _ _ q => many_no8 (manyO_none e) q)
        have HT := hid (fun w => threeIs_any (N : Int) w)
        rw [← k, e] at HT
        clear h hn k e hN
        go_wp2_with fail
        refine (HI.out _).mono ?_
        rintro e w2 ⟨u, rfl, ho2, hb2⟩
        have HOu := hid ho2
        have HBx2 := hid hb2
        have HB2 := hid (HB1.out.trans (hb2.mono HB1.out.size))
        clear ho2 hb2
        go_wp2_with fail
        refine (HS.out _).mono ?_
        rintro e w3 ⟨z, rfl, ho3, hb3⟩
        have HOz := hid ho3
        have HBx3 := hid hb3
        have HB3 := hid (HB2.out.trans (hb3.mono HB2.out.size))
        clear ho3 hb3
        have HU3 := hid (HOu.out.keep HOu.out.lt HBx3.out)
        go_wp2_with fail
        refine (sameInts_any _ _ [] [] _ HU3.out.rd HOz.out.rd).mono ?_
        rw [dec_same]
        rintro e w4 ⟨rfl, hk4⟩
        have HB4 : Hid (Below w.heap.size w w4) := hid (by obtain ⟨k, rfl⟩ := hk4; exact below_drewN HB3.out k)
        have HU4 : Hid (Rd w4 u []) := hid (by obtain ⟨k, rfl⟩ := hk4; exact (HU3.out.drewN k).rd)
        clear hk4
        go_wp2_with fail
        refine (HT.out _).mono ?_
        rintro e w5 ⟨rfl, hb5⟩
        have HB5 := hid (HB4.out.trans (hb5.mono HB4.out.size))
        clear hb5
        go_wp2
        all_goals (go_ret; exact ⟨rfl, HB5.out⟩)
      | some l =>
        have HI := hid (fun w => (threeFind_any (N : Int) w).mono fun _ _ q => many_yes8 h e q)
        have HS := hid (fun w => (threeFindS_any (N : Int) w).mono fun _ _ q => many_yes8 h e q)
        have HTE := hid (fun w => threeIsE_any (N : Int) w)
        rw [← k, e] at HTE
        have HTQ : Hid (∀ (w : World) (m : Nat), Calls Try.prog 29 #[.int .i64 (N : Int)] (w.drewN m) fun e w'' => e = .returned (.bool true) ∧ ∃ k, w'' = w.drewN k) := hid (fun w m => Calls.quiet_of_same ((HTE.out _).mono fun _ _ q => ⟨q.1, q.2.symm⟩))
        obtain ⟨x, y, z, rfl, x0, xy, yz, hs, px, py, pz⟩ := three_found hn2 e
        have T1 : (x * x + y * y + z * z == (N : Int)) = true := by rw [beq_iff_eq]; exact hs
        clear h hn k e hN hs
        go_wp2_with fail
        refine (HI.out _).mono ?_
        rintro e w2 ⟨u, rfl, ho2, hb2⟩
        have HOu := hid ho2
        have HBx2 := hid hb2
        have HB2 := hid (HB1.out.trans (hb2.mono HB1.out.size))
        clear ho2 hb2
        go_wp2_with fail
        refine (HS.out _).mono ?_
        rintro e w3 ⟨zz, rfl, ho3, hb3⟩
        have HOzz := hid ho3
        have HBx3 := hid hb3
        have HB3 := hid (HB2.out.trans (hb3.mono HB2.out.size))
        clear ho3 hb3
        have HU3 := hid (HOu.out.keep HOu.out.lt HBx3.out)
        go_wp2_with fail
        refine (sameInts_any _ _ [x, y, z] [x, y, z] _ HU3.out.rd HOzz.out.rd).mono ?_
        rw [dec_same]
        rintro e w4 ⟨rfl, hk4⟩
        have HB4 : Hid (Below w.heap.size w w4) := hid (by obtain ⟨k, rfl⟩ := hk4; exact below_drewN HB3.out k)
        have HU4 : Hid (Rd w4 u [x, y, z]) := hid (by obtain ⟨k, rfl⟩ := hk4; exact (HU3.out.drewN k).rd)
        clear hk4
        obtain ⟨ad, cap, rfl, hform⟩ := HU4.out.form
        obtain ⟨g, o, rfl, _, hc⟩ := hform (by simp)
        have c0 : w4.cell? ⟨g, o, none⟩ = some (.int .i64 x) := hc 0 (by simp)
        have c1 : w4.cell? ⟨g, o + 1, none⟩ = some (.int .i64 y) := hc 1 (by simp)
        have c2 : w4.cell? ⟨g, o + 2, none⟩ = some (.int .i64 z) := hc 2 (by simp)
        clear hform hc
        go_wp2_with fail
        go_quiet ((go_at_call 29; exact HTQ.out _ _))
        go_wp2
        go_ret
        exact ⟨rfl, below_drewN HB4.out _⟩
theorem own : ownKnob Try.prog.godebug = none := by kernel_rfl
theorem laidOut : laidOutB Try.prog = true := by kernel_rfl
set_option maxRecDepth 100000 in
theorem lifted (os : Os) (started : os.Started) (H : Type) (enc : TypeId × Value → H) :
    ReturnsInHanded {} Try.checked os 7 .any (Rows.fnThreeFindSpec.pre6 enc Try.prog Try.f7 Rows.fnThreeFindRow.domain false) (Rows.fnThreeFindSpec.post enc Try.prog Try.f7 false true false false) := by
  refine returnsInHanded_of_change (C := Try.checked) own started (by kernel_rfl) Try.func7
    (ChangeSpec.witness6 (enc := enc) (C := Try.checked) false ⟨#[], #[.slice none 0 0], []⟩ 8 (by kernel_rfl) (by kernel_rfl) (by kernel_rfl) (by kernel_rfl)) ?_
  intro W base args ds gs before hval0 hW hcnd _
  have hval : ∀ (j : Nat) t v, Try.f7.params[j]? = some t → args[j]? = some v → Value.okWide Try.prog W .any base t v := hval0
  have hW' := hW
  obtain ⟨p, q, hA0, hV, rfl, hfz, hnd⟩ := hW
  have hA : DataW.TrodAll enc Try.prog W 0 (fun _ => true) true Try.f7.params.toList args.toList ds p := hA0
  rw [Try.params7] at hA hval
  obtain ⟨v0, vs0, d0, ds0, p0, q0, hargs, rfl, rfl, h0, r0⟩ := trodAll_cons hA
  obtain ⟨rfl, rfl, rfl⟩ := trodAll_nil r0
  obtain rfl : args = #[v0] := by cases args; simp_all
  obtain ⟨rfl, rfl⟩ := trodVars_none hV
  obtain ⟨a0, len0, cap0, rfl⟩ := okWide_slice Try.underlying22 (hval 0 22 v0 rfl rfl)
  have k0 := h0
  have lt0 : ∀ x ∈ p0, x.block < W.heap.size := by obtain ⟨m, hm⟩ := k0; exact DataW.trod_lt m _ _ _ hm
  obtain ⟨z0, w0⟩ : ∃ zs, IsRow .u8 W a0 len0 cap0 zs := by
    obtain ⟨fuel, hf⟩ := h0
    rcases open_ints Try.underlying22 Try.underlying5 (by kernel_rfl) hf with ⟨hcs, _⟩ | ⟨x, l, c, zs, hcs, _, hl, hm, hz, _, hcell, hwz⟩
    · simp [Value.cells] at hcs
      obtain ⟨rfl, rfl, rfl⟩ := hcs
      exact ⟨[], .inl ⟨rfl, rfl, rfl, rfl⟩⟩
    · simp [Value.cells] at hcs
      obtain ⟨rfl, rfl, rfl⟩ := hcs
      exact ⟨zs, .inr ⟨_, rfl, hl, hm, by simpa using hz, hcell, hwz⟩⟩
  clear hA0 hval0
  refine (walk a0 len0 cap0 z0 W w0).mono fun e W' ⟨he, bel⟩ => ?_
  subst he
  exact ⟨_, rfl, _, _, _, [], _, [], hW', trodAll_mk1 (shut_bool Try.underlying4 _), (trodAll_cons_mk (Below.trod laidOut (by kernel_rfl) (of_decide_eq_true (by kernel_rfl)) k0 bel lt0) trodAll_mk0), rfl, bel.frame _, fun h => by cases h⟩
theorem over : Rows.fnThreeFindRow.holds Try.pinned (OpenSpec.ofChange Rows.fnThreeFindSpec) :=
  OpenClaim.holds_of_wide 7 Try.f7 rfl rfl rfl rfl rfl rfl rfl ⟨rfl, rfl, rfl, rfl, rfl⟩ rfl rfl rfl rfl rfl (by kernel_rfl) Try.func7 (by kernel_rfl)
    (of_decide_eq_true (by kernel_rfl)) (by unfold Func.isWrapper; first | (rw [if_pos (by decide +kernel)]; kernel_rfl) | (rw [if_neg (by decide +kernel)]; exact ⟨rfl, rfl⟩))
    (fun os started H enc _ => lifted os started H enc)
theorem proved : Rows.FnThreeFindSaid := over
end Go.Proofs.Ytdclmjmefkgbbab.fnThreeFind
