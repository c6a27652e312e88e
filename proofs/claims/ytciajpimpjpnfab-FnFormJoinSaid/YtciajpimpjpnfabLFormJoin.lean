/-
  Proves: for every code: a joined form has the terms of both.
  Conditions: none beyond the given statement's own.
-/
import Derived.Test.YtciajpimpjpnfabRows
import Derived.Test.YtciajpimpjpnfabBun42
import Derived.Test.YtciajpimpjpnfabImp4D
import Derived.Test.YtciajpimpjpnfabImp4G
import Derived.Test.YtciajpimpjpnfabImp4H
import Derived.ProofKit
import Derived.OpenShut
import Derived.ShutString
import Derived.ChangeOld
namespace Go.Proofs.Ytciajpimpjpnfab.fnFormJoin
open Go.ChangeShapes Go.WideShapes Go.ChangeAt Go.RowKit
open Go.ChangeMaps (open_string shut_string)
set_option linter.unusedVariables false
set_option maxRecDepth 100000 in
set_option maxHeartbeats 4000000 in
theorem walk  (a0 : Option Addr) (len0 cap0 : Nat) (z0 : List Int) (w : World) (w0 : IsRow .u8 w a0 len0 cap0 z0) :
    Calls Try.prog 3 #[.slice a0 len0 cap0] w fun e w' => e = .returned (.bool true) ∧ Below w.heap.size w w' := by
  have HC := hid (codeIn_of w0)
  clear w0
  by_cases hl : (1048576 : Int) < (len0 : Int)
  · go_enter Try.func3, Try.ntmps3
    go_wp2
    go_ret
    exact ⟨rfl, Below.refl _ _⟩
  · go_enter Try.func3, Try.ntmps3
    go_wp2_with fail
    refine (drawFormJoin_any _ len0 _ HC.out).mono ?_
    rintro e w1 ⟨u, v, xs, ys, rfl, ⟨HT, HT2⟩, HO, HR, hfv, hb⟩
    have hxl := HT.1
    have hyl := HT2.1
    have hfu := HO.out.firm
    have HRX := hid HO.out.rd
    have HFU := hid hfu
    have HFV := hid hfv
    have HBa := hid hb
    clear hfu hfv HO hb
    go_wp2_with fail
    refine (formJoin_any u v xs ys _ HFU.out HFV.out HRX.out HR.out (by omega) (by omega)).mono ?_
    rintro e w2 ⟨o1, rfl, hO1, hb2⟩
    have HB2 := hid (HBa.out.trans (hb2.mono HBa.out.size))
    have HX2 := hid (HRX.out.keep hb2)
    have HY2 := hid (HR.out.keep hb2)
    have HO1 := hid hO1
    clear hO1 hb2
    go_wp2_with fail
    refine (formJoinS_any u v xs ys _ HX2.out HY2.out HFU.out HFV.out (by omega) (by omega)).mono ?_
    rintro e w3 ⟨o2, rfl, hO2, hb3⟩
    have HB3 := hid (HB2.out.trans (hb3.mono HB2.out.size))
    have HX3 := hid (HX2.out.keep hb3)
    have HY3 := hid (HY2.out.keep hb3)
    have HP3 := hid (HO1.out.keep HO1.out.lt hb3)
    have HO2 := hid hO2
    clear hO2 hb3
    obtain ⟨J, hJ⟩ : ∃ J, J = joinL xs ys := ⟨_, rfl⟩
    rw [← hJ] at HO1 HP3 HO2
    have HD : decide (J = J) = true := by simp
    cases hj : joinOk xs ys with
    | false =>
      have HJN : Hid (J = []) := hid (by rw [hJ]; exact join_no hj)
      clear hJ hj
      go_wp2_with fail
      refine (sameInts_any _ _ J J _ HP3.out.rd HO2.out.rd).mono ?_
      rintro e w4 ⟨rfl, k4, hw4⟩
      have HB4 : Hid (Below w.heap.size w w4) := hid (by rw [hw4]; exact below_dn HB3.out)
      have HP4 : Hid (Owns w4 w1.heap.size o1 J) := hid (by rw [hw4]; exact HP3.out.drewN k4)
      have HO4 : Hid (Owns w4 w2.heap.size o2 J) := hid (by rw [hw4]; exact HO2.out.drewN k4)
      clear hw4
      go_wp2_with fail
      refine (sameInts_any _ _ J J _ HP4.out.rd HO4.out.rd).mono ?_
      rintro e w5 ⟨rfl, k5, hw5⟩
      go_wp2
      go_ret
      exact ⟨retB (by simp), by (try rw [hw5]); exact below_dn HB4.out⟩
    | true =>
      obtain ⟨h1, h2, h3, h4⟩ := join_yes hj
      have HJE : Hid (J = xs ++ ys) := hid (by rw [hJ, h4])
      have S1 := hid (signs_yes h1)
      have S2 := hid (signs_yes h2)
      have S3 : Hid (signsV J = .tuple #[.int .i64 (sg xs + sg ys), .bool true]) := hid (by rw [HJE.out, signs_yes h3, sg_app])
      have HJC := hid (join_comm hj)
      have HJ2 : Hid (joinL ys xs = ys ++ xs) := hid (join_yes (join_comm hj)).2.2.2
      have HSM : Hid (fsameV J (ys ++ xs) = true) := hid (by rw [HJE.out]; exact same_perm h3 List.perm_append_comm)
      have HDS : Hid (discV (ys ++ xs) = discV J) := hid (by rw [HJE.out]; exact (disc_perm List.perm_append_comm h3).symm)
      have HJL : Hid (J.length = xs.length + ys.length) := hid (by rw [HJE.out, List.length_append])
      have HJL2 : Hid ((ys ++ xs).length ≤ 1048576) := hid (by rw [List.length_append]; omega)
      have b1 := sg_bd xs
      have b2 := sg_bd ys
      obtain ⟨s, hs⟩ : ∃ s, s = sg xs := ⟨_, rfl⟩
      obtain ⟨t, ht⟩ : ∃ t, t = sg ys := ⟨_, rfl⟩
      rw [← hs] at S1 S3 b1
      rw [← ht] at S2 S3 b2
      have s1 : -10 ≤ s := by omega
      have s2 : s ≤ 10 := by omega
      have t1 : -10 ≤ t := by omega
      have t2 : t ≤ 10 := by omega
      obtain ⟨d, hd⟩ : ∃ d, d = discV J := ⟨_, rfl⟩
      have HDD := hid hd.symm
      have HRV := hid HP3.out.reads
      clear hJ hj h1 h2 h3 h4 b1 b2 hs ht hd
      go_wp2_with fail
      refine (sameInts_any _ _ J J _ HP3.out.rd HO2.out.rd).mono ?_
      rintro e w4 ⟨rfl, k4, hw4⟩
      have HB4 : Hid (Below w.heap.size w w4) := hid (by rw [hw4]; exact below_dn HB3.out)
      have HP4 : Hid (Owns w4 w1.heap.size o1 J) := hid (by rw [hw4]; exact HP3.out.drewN k4)
      have hbd : Below w3.heap.size w3 w4 := by rw [hw4]; exact below_dn (Below.refl _ _)
      have HX4 := hid (HX3.out.keep hbd)
      have HY4 := hid (HY3.out.keep hbd)
      clear hw4 hbd
      go_wp2_with fail
      refine (formSigns_any _ _ _ HX4.out (by omega)).mono ?_
      rw [S1.out]
      rintro e w5 ⟨rfl, hb5⟩
      have HB5 := hid (HB4.out.trans (hb5.mono HB4.out.size))
      have HX5 := hid (HX4.out.keep hb5)
      have HY5 := hid (HY4.out.keep hb5)
      have HP5 := hid (HP4.out.keep HP4.out.lt hb5)
      clear hb5
      go_wp2_with fail
      refine (formSigns_any _ _ _ HY5.out (by omega)).mono ?_
      rw [S2.out]
      rintro e w6 ⟨rfl, hb6⟩
      have HB6 := hid (HB5.out.trans (hb6.mono HB5.out.size))
      have HX6 := hid (HX5.out.keep hb6)
      have HY6 := hid (HY5.out.keep hb6)
      have HP6 := hid (HP5.out.keep HP5.out.lt hb6)
      clear hb6
      go_wp2_with fail
      refine (formSigns_any _ _ _ HP6.out.rd (by rw [HJL.out]; omega)).mono ?_
      rw [S3.out]
      rintro e w7 ⟨rfl, hb7⟩
      have HB7 := hid (HB6.out.trans (hb7.mono HB6.out.size))
      have HX7 := hid (HX6.out.keep hb7)
      have HY7 := hid (HY6.out.keep hb7)
      have HP7 := hid (HP6.out.keep HP6.out.lt hb7)
      clear hb7
      go_wp2_with fail
      refine (formJoin_any v u ys xs _ HFV.out HFU.out HY7.out HX7.out (by omega) (by omega)).mono ?_
      rw [HJC.out, HJ2.out]
      rintro e w8 ⟨o3, rfl, hO8, hb8⟩
      have HB8 := hid (HB7.out.trans (hb8.mono HB7.out.size))
      have HP8 := hid (HP7.out.keep HP7.out.lt hb8)
      have HQ8 := hid hO8
      obtain ⟨ax, cx, rfl, _⟩ := HX7.out.form
      obtain ⟨ay, cy, rfl, _⟩ := HY7.out.form
      obtain ⟨ao, co, rfl⟩ := HP8.out.reads
      have hjl : ((J.length : Nat) : Int) = (xs.length : Int) + (ys.length : Int) := by rw [HJL.out]; push_cast; rfl
      clear hb8 hO8
      go_wp2_with fail
      refine (formSame_any _ o3 J (ys ++ xs) _ HP8.out.rd HQ8.out.rd (by omega) HJL2.out).mono ?_
      rw [HSM.out]
      rintro e w9 ⟨rfl, hb9⟩
      have HB9 := hid (HB8.out.trans (hb9.mono HB8.out.size))
      have HP9 := hid (HP8.out.keep HP8.out.lt hb9)
      have HQ9 := hid (HQ8.out.keep HQ8.out.lt hb9)
      clear hb9
      go_wp2_with fail
      refine (formDisc_any _ J _ HP9.out.rd (by omega)).mono ?_
      rw [HDD.out]
      rintro e w10 ⟨rfl, hb10⟩
      have HB10 := hid (HB9.out.trans (hb10.mono HB9.out.size))
      have HQ10 := hid (HQ9.out.keep HQ9.out.lt hb10)
      clear hb10
      go_wp2_with fail
      refine (formDisc_any o3 (ys ++ xs) _ HQ10.out.rd HJL2.out).mono ?_
      rw [HDS.out, HDD.out]
      rintro e w11 ⟨rfl, hb11⟩
      go_wp2
      go_ret
      exact ⟨rfl, HB10.out.trans (hb11.mono HB10.out.size)⟩
theorem own : ownKnob Try.prog.godebug = none := by kernel_rfl
theorem laidOut : laidOutB Try.prog = true := by kernel_rfl
set_option maxRecDepth 100000 in
theorem lifted (os : Os) (started : os.Started) (H : Type) (enc : TypeId × Value → H) :
    ReturnsInHanded {} Try.checked os 3 .any (Rows.fnFormJoinSpec.pre6 enc Try.prog Try.f3 Rows.fnFormJoinRow.domain false) (Rows.fnFormJoinSpec.post enc Try.prog Try.f3 false true false false) := by
  refine returnsInHanded_of_change (C := Try.checked) own started (by kernel_rfl) Try.func3
    (ChangeSpec.witness6 (enc := enc) (C := Try.checked) false ⟨#[], #[.slice none 0 0], []⟩ 8 (by kernel_rfl) (by kernel_rfl) (by kernel_rfl) (by kernel_rfl)) ?_
  intro W base args ds gs before hval0 hW hcnd _
  have hval : ∀ (j : Nat) t v, Try.f3.params[j]? = some t → args[j]? = some v → Value.okWide Try.prog W .any base t v := hval0
  have hW' := hW
  obtain ⟨p, q, hA0, hV, rfl, hfz, hnd⟩ := hW
  have hA : DataW.TrodAll enc Try.prog W 0 (fun _ => true) true Try.f3.params.toList args.toList ds p := hA0
  rw [Try.params3] at hA hval
  obtain ⟨v0, vs0, d0, ds0, p0, q0, hargs, rfl, rfl, h0, r0⟩ := trodAll_cons hA
  obtain ⟨rfl, rfl, rfl⟩ := trodAll_nil r0
  obtain rfl : args = #[v0] := by cases args; simp_all
  obtain ⟨rfl, rfl⟩ := trodVars_none hV
  obtain ⟨a0, len0, cap0, rfl⟩ := okWide_slice Try.underlying22 (hval 0 22 v0 rfl rfl)
  have k0 := h0
  have lt0 : ∀ x ∈ p0, x.block < W.heap.size := by obtain ⟨m, hm⟩ := k0; exact DataW.trod_lt m _ _ _ hm
  obtain ⟨z0, w0⟩ : ∃ zs, IsRow .u8 W a0 len0 cap0 zs := by
    obtain ⟨fuel, hf⟩ := h0
    rcases open_ints Try.underlying22 Try.underlying5 (by kernel_rfl) hf with ⟨hcs, _⟩ | ⟨x, l, c, zs, hcs, _, hl, hm, hz, _, hcell, hwz⟩
    · simp [Value.cells] at hcs
      obtain ⟨rfl, rfl, rfl⟩ := hcs
      exact ⟨[], .inl ⟨rfl, rfl, rfl, rfl⟩⟩
    · simp [Value.cells] at hcs
      obtain ⟨rfl, rfl, rfl⟩ := hcs
      exact ⟨zs, .inr ⟨_, rfl, hl, hm, by simpa using hz, hcell, hwz⟩⟩
  clear hA0 hval0
  refine (walk a0 len0 cap0 z0 W w0).mono fun e W' ⟨he, bel⟩ => ?_
  subst he
  exact ⟨_, rfl, _, _, _, [], _, [], hW', trodAll_mk1 (shut_bool Try.underlying4 _), (trodAll_cons_mk (Below.trod laidOut (by kernel_rfl) (of_decide_eq_true (by kernel_rfl)) k0 bel lt0) trodAll_mk0), rfl, bel.frame _, fun h => by cases h⟩
theorem over : Rows.fnFormJoinRow.holds Try.pinned (OpenSpec.ofChange Rows.fnFormJoinSpec) :=
  OpenClaim.holds_of_wide 3 Try.f3 rfl rfl rfl rfl rfl rfl rfl ⟨rfl, rfl, rfl, rfl, rfl⟩ rfl rfl rfl rfl rfl (by kernel_rfl) Try.func3 (by kernel_rfl)
    (of_decide_eq_true (by kernel_rfl)) (by unfold Func.isWrapper; first | (rw [if_pos (by decide +kernel)]; kernel_rfl) | (rw [if_neg (by decide +kernel)]; exact ⟨rfl, rfl⟩))
    (fun os started H enc _ => lifted os started H enc)
theorem proved : Rows.FnFormJoinSaid := over
end Go.Proofs.Ytciajpimpjpnfab.fnFormJoin
