/-
  Proves: for every code: a point is met from itself, and is plain.
  Conditions: none beyond the given statement's own.
-/
import Derived.Test.YtfjbdbfeolfcfaaRows
import Derived.Test.YtfjbdbfeolfcfaaQBun18
import Derived.Test.YtfjbdbfeolfcfaaQBun30
import Derived.Test.YtfjbdbfeolfcfaaQBun27
import Derived.Test.YtfjbdbfeolfcfaaQBun47
import Derived.ProofKit
import Derived.OpenShut
import Derived.ShutString
import Derived.ChangeOld
namespace Go.Proofs.Ytfjbdbfeolfcfaa.fnPoint
open Go.ChangeShapes Go.WideShapes Go.ChangeAt Go.RowKit
open Go.ChangeMaps (open_string shut_string)
set_option linter.unusedVariables false
set_option maxRecDepth 100000 in
set_option maxHeartbeats 4000000 in
theorem walk (a0 : Option Addr) (len0 cap0 : Nat) (z0 : List Int) (w : World) (w0 : IsRow .u8 w a0 len0 cap0 z0) :
    Calls Try.prog 3 #[.slice a0 len0 cap0] w fun e w' => e = .returned (.bool true) ∧ Below w.heap.size w w' := by
  have HC := hid (codeIn_of w0)
  clear w0
  by_cases hl0 : (1048576 : Int) < (len0 : Int)
  · go_enter Try.func3, Try.ntmps3
    go_wp2
    go_ret
    exact ⟨rfl, Below.refl _ _⟩
  · go_enter Try.func3, Try.ntmps3
    go_wp2_with fail
    refine (drawConicPoint_any _ len0 _ HC.out).mono ?_
    rintro e d1 ⟨u, z, xs, vs, rfl, _, _, HO, HZo, hb⟩
    have HB1 := hid hb
    clear hb
    have X_1 := hid HO.out.rd
    have V_1 := hid HZo.out.rd
    go_wp2_with fail
    refine (conicPoint_any _ _ xs vs _ X_1.out V_1.out).mono ?_
    rintro e d2 ⟨rfl, hb⟩
    have HB2 := hid (HB1.out.trans (hb.mono HB1.out.size))
    have X_2 := hid (X_1.out.keep hb)
    have V_2 := hid (V_1.out.keep hb)
    clear hb
    go_wp2_with fail
    refine (conicPointS_any _ _ xs vs _ X_2.out V_2.out).mono ?_
    rintro e d3 ⟨rfl, hb⟩
    have HB3 := hid (HB2.out.trans (hb.mono HB2.out.size))
    have X_3 := hid (X_2.out.keep hb)
    have V_3 := hid (V_2.out.keep hb)
    clear hb
    cases hp : pointB xs vs with
    | false =>
      clear hp
      go_wp2
      go_ret
      exact ⟨rfl, HB3.out⟩
    | true =>
      obtain ⟨s, t, hbk, hs, ht, hok, hL, hz, hpl⟩ := point_self hp
      have HBK := hid hbk
      have HZ := hid hz
      have HZP : Hid (zplainL xs vs = vs) := hid (by unfold zplainL; rw [hz, if_pos rfl, hpl])
      have HLV : decide (vs = vs) = true := by simp
      obtain ⟨ns, hns⟩ : ∃ ns : Int, ns = (s.natAbs : Nat) := ⟨_, rfl⟩
      obtain ⟨nt, hnt⟩ : ∃ nt : Int, nt = (t.natAbs : Nat) := ⟨_, rfl⟩
      have HNS : Hid (∀ wx : World, Calls Try.prog 14 #[.int .i64 s] wx fun e w' => e = .returned (.int .i64 ns) ∧ wx = w') := hid (fun wx => by rw [hns]; exact sizeOf_any s (by omega) (by omega) wx)
      have HNT : Hid (∀ wx : World, Calls Try.prog 14 #[.int .i64 t] wx fun e w' => e = .returned (.int .i64 nt) ∧ wx = w') := hid (fun wx => by rw [hnt]; exact sizeOf_any t (by omega) (by omega) wx)
      by_cases h1 : -20 ≤ s ∧ s ≤ 20
      · by_cases h2 : -20 ≤ t ∧ t ≤ 20
        · have HOK : Hid (otherOk xs vs (headL vs s t) = true) := hid (by rw [hok, decide_eq_true h1, decide_eq_true h2]; rfl)
          have HL := hid (hL HOK.out)
          have n1 : ns ≤ 20 := by omega
          have n2 : nt ≤ 20 := by omega
          clear hp hbk hok hL hz hpl hns hnt h1 h2 hs ht
          go_wp2_with fail
          refine (conicBack_any _ _ _ xs vs vs _ X_3.out V_3.out V_3.out).mono ?_
          rw [HBK.out]
          rintro e d4 ⟨rfl, hb⟩
          have HB4 := hid (HB3.out.trans (hb.mono HB3.out.size))
          have X_4 := hid (X_3.out.keep hb)
          have V_4 := hid (V_3.out.keep hb)
          clear hb
          go_wp2_with fail
          refine (conicAt_any _ _ xs vs s t _ X_4.out V_4.out).mono ?_
          unfold OtherPost
          rw [HOK.out]
          rw [HL.out]
          rintro e d5 ⟨y, rfl, ho, hb⟩
          have HB5 := hid (HB4.out.trans (hb.mono HB4.out.size))
          have X_5 := hid (X_4.out.keep hb)
          have V_5 := hid (V_4.out.keep hb)
          clear hb
          have Y_5 := hid ho.rd
          clear ho
          go_wp2_with fail
          refine (HNS.out _).mono ?_
          rintro e dS ⟨rfl, rfl⟩
          go_wp2_with fail
          refine (HNT.out _).mono ?_
          rintro e dT ⟨rfl, rfl⟩
          go_wp2_with fail
          refine (zeroPlain_any _ _ xs vs _ X_5.out V_5.out).mono ?_
          rw [HZ.out, HZP.out]
          rintro e d6 ⟨q, rfl, ho, hb⟩
          have HB6 := hid (HB5.out.trans (hb.mono HB5.out.size))
          have X_6 := hid (X_5.out.keep hb)
          have V_6 := hid (V_5.out.keep hb)
          have Y_6 := hid (Y_5.out.keep hb)
          clear hb
          have Q_6 := hid ho.rd
          clear ho
          go_wp2_with fail
          refine (sameInts_any _ _ vs vs _ Q_6.out V_6.out).mono ?_
          rintro e d7 ⟨rfl, k7, hk7⟩
          have hb : Below d6.heap.size d6 d7 := by rw [hk7]; exact below_drewN (Below.refl _ _) k7
          clear hk7
          have HB7 := hid (HB6.out.trans (hb.mono HB6.out.size))
          have X_7 := hid (X_6.out.keep hb)
          have V_7 := hid (V_6.out.keep hb)
          have Y_7 := hid (Y_6.out.keep hb)
          have Q_7 := hid (Q_6.out.keep hb)
          clear hb
          go_wp2_with fail
          refine (sameInts_any _ _ vs vs _ Y_7.out V_7.out).mono ?_
          rintro e d8 ⟨rfl, k8, hk8⟩
          have hb : Below d7.heap.size d7 d8 := by rw [hk8]; exact below_drewN (Below.refl _ _) k8
          clear hk8
          have HB8 := hid (HB7.out.trans (hb.mono HB7.out.size))
          have X_8 := hid (X_7.out.keep hb)
          have V_8 := hid (V_7.out.keep hb)
          have Y_8 := hid (Y_7.out.keep hb)
          have Q_8 := hid (Q_7.out.keep hb)
          clear hb
          go_wp2
          go_ret
          exact ⟨rfl, HB8.out⟩
        · have HOK : Hid (otherOk xs vs (headL vs s t) = false) := hid (by rw [hok, decide_eq_true h1, decide_eq_false h2]; rfl)
          have n1 : ns ≤ 20 := by omega
          have n2 : ¬ nt ≤ 20 := by omega
          clear hp hbk hok hL hz hpl hns hnt h1 h2 hs ht
          go_wp2_with fail
          refine (conicBack_any _ _ _ xs vs vs _ X_3.out V_3.out V_3.out).mono ?_
          rw [HBK.out]
          rintro e d4 ⟨rfl, hb⟩
          have HB4 := hid (HB3.out.trans (hb.mono HB3.out.size))
          have X_4 := hid (X_3.out.keep hb)
          have V_4 := hid (V_3.out.keep hb)
          clear hb
          go_wp2_with fail
          refine (conicAt_any _ _ xs vs s t _ X_4.out V_4.out).mono ?_
          unfold OtherPost
          rw [HOK.out]
          rintro e d5 ⟨y, rfl, ho, hb⟩
          have HB5 := hid (HB4.out.trans (hb.mono HB4.out.size))
          have X_5 := hid (X_4.out.keep hb)
          have V_5 := hid (V_4.out.keep hb)
          clear hb
          have Y_5 := hid ho.rd
          clear ho
          go_wp2_with fail
          refine (HNS.out _).mono ?_
          rintro e dS ⟨rfl, rfl⟩
          go_wp2_with fail
          refine (HNT.out _).mono ?_
          rintro e dT ⟨rfl, rfl⟩
          go_wp2_with fail
          refine (zeroPlain_any _ _ xs vs _ X_5.out V_5.out).mono ?_
          rw [HZ.out, HZP.out]
          rintro e d6 ⟨q, rfl, ho, hb⟩
          have HB6 := hid (HB5.out.trans (hb.mono HB5.out.size))
          have X_6 := hid (X_5.out.keep hb)
          have V_6 := hid (V_5.out.keep hb)
          have Y_6 := hid (Y_5.out.keep hb)
          clear hb
          have Q_6 := hid ho.rd
          clear ho
          go_wp2_with fail
          refine (sameInts_any _ _ vs vs _ Q_6.out V_6.out).mono ?_
          rintro e d7 ⟨rfl, k7, hk7⟩
          have hb : Below d6.heap.size d6 d7 := by rw [hk7]; exact below_drewN (Below.refl _ _) k7
          clear hk7
          have HB7 := hid (HB6.out.trans (hb.mono HB6.out.size))
          have X_7 := hid (X_6.out.keep hb)
          have V_7 := hid (V_6.out.keep hb)
          have Y_7 := hid (Y_6.out.keep hb)
          have Q_7 := hid (Q_6.out.keep hb)
          clear hb
          go_wp2
          go_ret
          exact ⟨rfl, HB7.out⟩
      · have HOK : Hid (otherOk xs vs (headL vs s t) = false) := hid (by rw [hok, decide_eq_false h1]; rfl)
        have n1 : ¬ ns ≤ 20 := by omega
        clear hp hbk hok hL hz hpl hns hnt h1 hs ht
        go_wp2_with fail
        refine (conicBack_any _ _ _ xs vs vs _ X_3.out V_3.out V_3.out).mono ?_
        rw [HBK.out]
        rintro e d4 ⟨rfl, hb⟩
        have HB4 := hid (HB3.out.trans (hb.mono HB3.out.size))
        have X_4 := hid (X_3.out.keep hb)
        have V_4 := hid (V_3.out.keep hb)
        clear hb
        go_wp2_with fail
        refine (conicAt_any _ _ xs vs s t _ X_4.out V_4.out).mono ?_
        unfold OtherPost
        rw [HOK.out]
        rintro e d5 ⟨y, rfl, ho, hb⟩
        have HB5 := hid (HB4.out.trans (hb.mono HB4.out.size))
        have X_5 := hid (X_4.out.keep hb)
        have V_5 := hid (V_4.out.keep hb)
        clear hb
        have Y_5 := hid ho.rd
        clear ho
        go_wp2_with fail
        refine (HNS.out _).mono ?_
        rintro e dS ⟨rfl, rfl⟩
        go_wp2_with fail
        refine (zeroPlain_any _ _ xs vs _ X_5.out V_5.out).mono ?_
        rw [HZ.out, HZP.out]
        rintro e d6 ⟨q, rfl, ho, hb⟩
        have HB6 := hid (HB5.out.trans (hb.mono HB5.out.size))
        have X_6 := hid (X_5.out.keep hb)
        have V_6 := hid (V_5.out.keep hb)
        have Y_6 := hid (Y_5.out.keep hb)
        clear hb
        have Q_6 := hid ho.rd
        clear ho
        go_wp2_with fail
        refine (sameInts_any _ _ vs vs _ Q_6.out V_6.out).mono ?_
        rintro e d7 ⟨rfl, k7, hk7⟩
        have hb : Below d6.heap.size d6 d7 := by rw [hk7]; exact below_drewN (Below.refl _ _) k7
        clear hk7
        have HB7 := hid (HB6.out.trans (hb.mono HB6.out.size))
        have X_7 := hid (X_6.out.keep hb)
        have V_7 := hid (V_6.out.keep hb)
        have Y_7 := hid (Y_6.out.keep hb)
        have Q_7 := hid (Q_6.out.keep hb)
        clear hb
        go_wp2
        go_ret
        exact ⟨rfl, HB7.out⟩
theorem own : ownKnob Try.prog.godebug = none := by kernel_rfl
theorem laidOut : laidOutB Try.prog = true := by kernel_rfl
set_option maxRecDepth 100000 in
theorem lifted (os : Os) (started : os.Started) (H : Type) (enc : TypeId × Value → H) :
    ReturnsInHanded {} Try.checked os 3 .any (Rows.fnPointSpec.pre6 enc Try.prog Try.f3 Rows.fnPointRow.domain false) (Rows.fnPointSpec.post enc Try.prog Try.f3 false true false false) := by
  refine returnsInHanded_of_change (C := Try.checked) own started (by kernel_rfl) Try.func3
    (ChangeSpec.witness6 (enc := enc) (C := Try.checked) false ⟨#[], #[.slice none 0 0], []⟩ 8 (by kernel_rfl) (by kernel_rfl) (by kernel_rfl) (by kernel_rfl)) ?_
  intro W base args ds gs before hval0 hW hcnd _
  have hval : ∀ (j : Nat) t v, Try.f3.params[j]? = some t → args[j]? = some v → Value.okWide Try.prog W .any base t v := hval0
  have hW' := hW
  obtain ⟨p, q, hA0, hV, rfl, hfz, hnd⟩ := hW
  have hA : DataW.TrodAll enc Try.prog W 0 (fun _ => true) true Try.f3.params.toList args.toList ds p := hA0
  rw [Try.params3] at hA hval
  obtain ⟨v0, vs0, d0, ds0, p0, q0, hargs, rfl, rfl, h0, r0⟩ := trodAll_cons hA
  obtain ⟨rfl, rfl, rfl⟩ := trodAll_nil r0
  obtain rfl : args = #[v0] := by cases args; simp_all
  obtain ⟨rfl, rfl⟩ := trodVars_none hV
  obtain ⟨a0, len0, cap0, rfl⟩ := okWide_slice Try.underlying22 (hval 0 22 v0 rfl rfl)
  have k0 := h0
  have lt0 : ∀ x ∈ p0, x.block < W.heap.size := by obtain ⟨m, hm⟩ := k0; exact DataW.trod_lt m _ _ _ hm
  obtain ⟨z0, w0⟩ : ∃ zs, IsRow .u8 W a0 len0 cap0 zs := by
    obtain ⟨fuel, hf⟩ := h0
    rcases open_ints Try.underlying22 Try.underlying5 (by kernel_rfl) hf with ⟨hcs, _⟩ | ⟨x, l, c, zs, hcs, _, hl, hm, hz, _, hcell, hwz⟩
    · simp [Value.cells] at hcs
      obtain ⟨rfl, rfl, rfl⟩ := hcs
      exact ⟨[], .inl ⟨rfl, rfl, rfl, rfl⟩⟩
    · simp [Value.cells] at hcs
      obtain ⟨rfl, rfl, rfl⟩ := hcs
      exact ⟨zs, .inr ⟨_, rfl, hl, hm, by simpa using hz, hcell, hwz⟩⟩
  clear hA0 hval0
  refine (walk a0 len0 cap0 z0 W w0).mono fun e W' ⟨he, bel⟩ => ?_
  subst he
  exact ⟨_, rfl, _, _, _, [], _, [], hW', trodAll_mk1 (shut_bool Try.underlying4 _), (trodAll_cons_mk (Below.trod laidOut (by kernel_rfl) (of_decide_eq_true (by kernel_rfl)) k0 bel lt0) trodAll_mk0), rfl, bel.frame _, fun h => by cases h⟩
theorem over : Rows.fnPointRow.holds Try.pinned (OpenSpec.ofChange Rows.fnPointSpec) :=
  OpenClaim.holds_of_wide 3 Try.f3 rfl rfl rfl rfl rfl rfl rfl ⟨rfl, rfl, rfl, rfl, rfl⟩ rfl rfl rfl rfl rfl (by kernel_rfl) Try.func3 (by kernel_rfl)
    (of_decide_eq_true (by kernel_rfl)) (by unfold Func.isWrapper; first | (rw [if_pos (by decide +kernel)]; kernel_rfl) | (rw [if_neg (by decide +kernel)]; exact ⟨rfl, rfl⟩))
    (fun os started H enc _ => lifted os started H enc)
theorem proved : Rows.FnPointSaid := over
end Go.Proofs.Ytfjbdbfeolfcfaa.fnPoint
