/-
  Proves: for every code: a form of less than four terms has a zero just where it has no bad place; what is found is a plain zero, and then there is no bad place.
  Conditions: none beyond the given statement's own.
-/
import Derived.Test.YtenibnblibnocacRows
import Derived.Test.YtenibnblibnocacQBun15
import Derived.Test.YtenibnblibnocacQBun26
import Derived.Test.YtenibnblibnocacQBun18
import Derived.Test.YtenibnblibnocacQBun35
import Derived.Test.YtenibnblibnocacQBun24
import Derived.Test.YtenibnblibnocacQBun13
import Derived.Test.YtenibnblibnocacQZp4d
import Derived.Test.YtenibnblibnocacQZm7
import Derived.Test.YtenibnblibnocacQBun44
import Derived.ProofKit
import Derived.OpenShut
import Derived.ShutString
import Derived.ChangeOld
namespace Go.Proofs.Ytenibnblibnocac.fnFindZero
open Go.ChangeShapes Go.WideShapes Go.ChangeAt Go.RowKit
open Go.ChangeMaps (open_string shut_string)
set_option linter.unusedVariables false
theorem zplain_got {xs v : List Int} (h : Got xs v) : zeroB xs v = true ∧ zplainL xs v = v := ⟨h.zero, by unfold zplainL; rw [h.zero, if_pos rfl, h.plain]⟩
set_option maxRecDepth 100000 in
set_option maxHeartbeats 4000000 in
theorem walk  (a0 : Option Addr) (len0 cap0 : Nat) (z0 : List Int) (w : World) (w0 : IsRow .u8 w a0 len0 cap0 z0) :
    Calls Try.prog 4 #[.slice a0 len0 cap0] w fun e w' => e = .returned (.bool true) ∧ Below w.heap.size w w' := by
  have HC := hid (codeIn_of w0)
  clear w0
  by_cases hl0 : (1048576 : Int) < (len0 : Int)
  · go_enter Try.func4, Try.ntmps4
    go_wp2
    go_ret
    exact ⟨rfl, Below.refl _ _⟩
  · go_enter Try.func4, Try.ntmps4
    go_wp2_with fail
    refine (drawZeroFind_any _ len0 _ HC.out).mono ?_
    rintro e d1 ⟨u, xs, rfl, HT, HXo, hb0⟩
    have HB1 := hid hb0
    clear hb0
    have hxl := HT.1
    clear HT
    obtain ⟨xa, xcap, rfl⟩ := (HXo.out).reads
    have HZF : Hid (∀ (vv : Value) (wx : World), Rd wx vv xs → Calls Try.prog 17 #[vv] wx (SearchPost (zfindO xs) wx)) := hid (fun vv wx hr => zeroFind_any vv xs wx hr)
    have HZS : Hid (∀ (vv : Value) (wx : World), Rd wx vv xs → Calls Try.prog 18 #[vv] wx (SearchPost (zfindO xs) wx)) := hid (fun vv wx hr => zeroFindS_any vv xs wx hr)
    have HNO : Hid (fvB xs = false → zfindO xs = none) := hid (fun e => by unfold zfindO; rw [e]; rfl)
    have HNV : Hid (fvB xs = true → xs.length ≤ 3 → zfindO xs = none → (badL xs).length ≠ 0) := hid (fun h1 h2 h3 => find_never h1 h2 h3)
    have HGT : Hid (∀ v, zfindO xs = some v → badL xs = [] ∧ zeroB xs v = true ∧ zplainL xs v = v) := hid (fun v h => ⟨zero_bad (find_got h).zero, (zplain_got (find_got h)).1, (zplain_got (find_got h)).2⟩)
    have HFV : Hid (∀ v, zfindO xs = some v → fvB xs = true) := hid (fun v h => by
      cases hf : fvB xs with
      | true => rfl
      | false => rw [HNO.out hf] at h; cases h)
    obtain ⟨o, ho⟩ : ∃ o, o = zfindO xs := ⟨_, rfl⟩
    rw [← ho] at HZF HZS HNO HNV HGT HFV
    clear ho
    cases o with
    | none =>
      go_wp2_with fail
      refine (HZF.out (.slice xa xs.length xcap) _ HXo.out.rd).mono ?_
      rintro e d2 ⟨P_o, rfl, hO2, hb2⟩
      have HB2 := hid (HB1.out.trans (hb2.mono HB1.out.size))
      have X_2 := hid (HXo.out.keep HXo.out.lt hb2)
      have P_2 := hid hO2
      clear hO2
      clear hb2
      go_wp2_with fail
      refine (HZS.out (.slice xa xs.length xcap) _ X_2.out.rd).mono ?_
      rintro e d3 ⟨Q_o, rfl, hO3, hb3⟩
      have HB3 := hid (HB2.out.trans (hb3.mono HB2.out.size))
      have X_3 := hid (X_2.out.keep X_2.out.lt hb3)
      have P_3 := hid (P_2.out.keep P_2.out.lt hb3)
      have Q_3 := hid hO3
      clear hO3
      clear hb3
      have HD : decide (([] : List Int) = []) = true := by simp
      go_wp2_with fail
      refine (sameInts_any _ _ ([] : List Int) ([] : List Int) _ P_3.out.rd Q_3.out.rd).mono ?_
      rintro e d4 ⟨rfl, k4, hw4⟩
      have hb4 : Below d3.heap.size d3 d4 := by rw [hw4]; exact below_dn (Below.refl _ _)
      have HB4 := hid (HB3.out.trans (hb4.mono HB3.out.size))
      have X_4 := hid (X_3.out.keep X_3.out.lt hb4)
      have P_4 := hid (P_3.out.keep P_3.out.lt hb4)
      have Q_4 := hid (Q_3.out.keep Q_3.out.lt hb4)
      clear hw4 hb4
      cases hf : fvB xs with
      | false =>
        have HF := hid hf
        clear hf HNV HNO HFV HGT
        go_wp2_with fail
        refine (formValidP_any (.slice xa xs.length xcap) xs _ X_4.out.rd).mono ?_
        rw [HF.out]
        rintro e d5 ⟨rfl, rfl⟩
        go_wp2
        go_ret
        exact ⟨rfl, HB4.out⟩
      | true =>
        have HF := hid hf
        have HNL : Hid (xs.length ≤ 3 → (badL xs).length ≠ 0) := hid (fun h => HNV.out hf h trivial)
        clear hf HNV HNO HFV HGT
        go_wp2_with fail
        refine (formValidP_any (.slice xa xs.length xcap) xs _ X_4.out.rd).mono ?_
        rw [HF.out]
        rintro e d5 ⟨rfl, rfl⟩
        go_wp2_with fail
        refine (formBad_any (.slice xa xs.length xcap) xs _ X_4.out.rd (by omega)).mono ?_
        rintro e d6 ⟨B_o, rfl, hO6, hb6⟩
        have HB6 := hid (HB4.out.trans (hb6.mono HB4.out.size))
        have X_6 := hid (X_4.out.keep X_4.out.lt hb6)
        have P_6 := hid (P_4.out.keep P_4.out.lt hb6)
        have Q_6 := hid (Q_4.out.keep Q_4.out.lt hb6)
        have B_6 := hid hO6
        clear hO6
        clear hb6
        obtain ⟨ba, bcap, rfl⟩ := (B_6.out).reads
        obtain ⟨n, hn⟩ : ∃ n, n = (badL xs).length := ⟨_, rfl⟩
        rw [← hn] at HNL ⊢
        have hnb : n ≤ 1000 := by rw [hn]; exact bad_len xs
        clear hn
        by_cases hl4 : (xs.length : Int) < 4
        · skip
          have T : ((n : Int) == 0) = false := by rw [beq_eq_false_iff_ne]; have := HNL.out (by omega); omega
          go_wp2
          go_ret
          exact ⟨rfl, HB6.out⟩
        · skip
          go_wp2
          go_ret
          exact ⟨rfl, HB6.out⟩
    | some v =>
      obtain ⟨hb0, hz0, hp0⟩ := HGT.out v rfl
      have HBE := hid hb0
      have HZ := hid hz0
      have HPL := hid hp0
      have HF := hid (HFV.out v rfl)
      clear hb0 hz0 hp0 HGT HFV HNV HNO
      go_wp2_with fail
      refine (HZF.out (.slice xa xs.length xcap) _ HXo.out.rd).mono ?_
      rintro e d2 ⟨P_o, rfl, hO2, hb2⟩
      have HB2 := hid (HB1.out.trans (hb2.mono HB1.out.size))
      have X_2 := hid (HXo.out.keep HXo.out.lt hb2)
      have P_2 := hid hO2
      clear hO2
      clear hb2
      go_wp2_with fail
      refine (HZS.out (.slice xa xs.length xcap) _ X_2.out.rd).mono ?_
      rintro e d3 ⟨Q_o, rfl, hO3, hb3⟩
      have HB3 := hid (HB2.out.trans (hb3.mono HB2.out.size))
      have X_3 := hid (X_2.out.keep X_2.out.lt hb3)
      have P_3 := hid (P_2.out.keep P_2.out.lt hb3)
      have Q_3 := hid hO3
      clear hO3
      clear hb3
      have HD : decide (v = v) = true := by simp
      go_wp2_with fail
      refine (sameInts_any _ _ v v _ P_3.out.rd Q_3.out.rd).mono ?_
      rintro e d4 ⟨rfl, k4, hw4⟩
      have hb4 : Below d3.heap.size d3 d4 := by rw [hw4]; exact below_dn (Below.refl _ _)
      have HB4 := hid (HB3.out.trans (hb4.mono HB3.out.size))
      have X_4 := hid (X_3.out.keep X_3.out.lt hb4)
      have P_4 := hid (P_3.out.keep P_3.out.lt hb4)
      have Q_4 := hid (Q_3.out.keep Q_3.out.lt hb4)
      clear hw4 hb4
      go_wp2_with fail
      refine (formValidP_any (.slice xa xs.length xcap) xs _ X_4.out.rd).mono ?_
      rw [HF.out]
      rintro e d5 ⟨rfl, rfl⟩
      go_wp2_with fail
      refine (formBad_any (.slice xa xs.length xcap) xs _ X_4.out.rd (by omega)).mono ?_
      rw [HBE.out]
      rintro e d6 ⟨B_o, rfl, hO6, hb6⟩
      have HB6 := hid (HB4.out.trans (hb6.mono HB4.out.size))
      have X_6 := hid (X_4.out.keep X_4.out.lt hb6)
      have P_6 := hid (P_4.out.keep P_4.out.lt hb6)
      have B_6 := hid hO6
      clear hO6
      clear hb6
      obtain ⟨ba, bcap, rfl⟩ := (B_6.out).reads
      by_cases hl4 : (xs.length : Int) < 4
      · skip
        go_wp2_with fail
        refine (zeroPlain_any (.slice xa xs.length xcap) P_o xs v _ X_6.out.rd P_6.out.rd).mono ?_
        rw [HZ.out, HPL.out]
        rintro e d7 ⟨R_o, rfl, hO7, hb7⟩
        have HB7 := hid (HB6.out.trans (hb7.mono HB6.out.size))
        have X_7 := hid (X_6.out.keep X_6.out.lt hb7)
        have P_7 := hid (P_6.out.keep P_6.out.lt hb7)
        have R_7 := hid hO7
        clear hO7
        clear hb7
        go_wp2_with fail
        refine (sameInts_any _ _ v v _ R_7.out.rd P_7.out.rd).mono ?_
        rintro e d8 ⟨rfl, k8, hw8⟩
        have hb8 : Below d7.heap.size d7 d8 := by rw [hw8]; exact below_dn (Below.refl _ _)
        have HB8 := hid (HB7.out.trans (hb8.mono HB7.out.size))
        have X_8 := hid (X_7.out.keep X_7.out.lt hb8)
        have P_8 := hid (P_7.out.keep P_7.out.lt hb8)
        have R_8 := hid (R_7.out.keep R_7.out.lt hb8)
        clear hw8 hb8
        go_wp2_with fail
        refine (zeroIs_any (.slice xa xs.length xcap) P_o xs v _ X_8.out.rd P_8.out.rd).mono ?_
        rw [HZ.out]
        rintro e d9 ⟨rfl, hb9⟩
        have HB9 := hid (HB8.out.trans (hb9.mono HB8.out.size))
        have X_9 := hid (X_8.out.keep X_8.out.lt hb9)
        have P_9 := hid (P_8.out.keep P_8.out.lt hb9)
        clear hb9
        go_wp2
        go_ret
        exact ⟨rfl, HB9.out⟩
      · skip
        go_wp2_with fail
        refine (zeroPlain_any (.slice xa xs.length xcap) P_o xs v _ X_6.out.rd P_6.out.rd).mono ?_
        rw [HZ.out, HPL.out]
        rintro e d7 ⟨R_o, rfl, hO7, hb7⟩
        have HB7 := hid (HB6.out.trans (hb7.mono HB6.out.size))
        have X_7 := hid (X_6.out.keep X_6.out.lt hb7)
        have P_7 := hid (P_6.out.keep P_6.out.lt hb7)
        have R_7 := hid hO7
        clear hO7
        clear hb7
        go_wp2_with fail
        refine (sameInts_any _ _ v v _ R_7.out.rd P_7.out.rd).mono ?_
        rintro e d8 ⟨rfl, k8, hw8⟩
        have hb8 : Below d7.heap.size d7 d8 := by rw [hw8]; exact below_dn (Below.refl _ _)
        have HB8 := hid (HB7.out.trans (hb8.mono HB7.out.size))
        have X_8 := hid (X_7.out.keep X_7.out.lt hb8)
        have P_8 := hid (P_7.out.keep P_7.out.lt hb8)
        have R_8 := hid (R_7.out.keep R_7.out.lt hb8)
        clear hw8 hb8
        go_wp2_with fail
        refine (zeroIs_any (.slice xa xs.length xcap) P_o xs v _ X_8.out.rd P_8.out.rd).mono ?_
        rw [HZ.out]
        rintro e d9 ⟨rfl, hb9⟩
        have HB9 := hid (HB8.out.trans (hb9.mono HB8.out.size))
        have X_9 := hid (X_8.out.keep X_8.out.lt hb9)
        have P_9 := hid (P_8.out.keep P_8.out.lt hb9)
        clear hb9
        go_wp2
        go_ret
        exact ⟨rfl, HB9.out⟩
theorem own : ownKnob Try.prog.godebug = none := by kernel_rfl
theorem laidOut : laidOutB Try.prog = true := by kernel_rfl
set_option maxRecDepth 100000 in
theorem lifted (os : Os) (started : os.Started) (H : Type) (enc : TypeId × Value → H) :
    ReturnsInHanded {} Try.checked os 4 .any (Rows.fnFindZeroSpec.pre6 enc Try.prog Try.f4 Rows.fnFindZeroRow.domain false) (Rows.fnFindZeroSpec.post enc Try.prog Try.f4 false true false false) := by
  refine returnsInHanded_of_change (C := Try.checked) own started (by kernel_rfl) Try.func4
    (ChangeSpec.witness6 (enc := enc) (C := Try.checked) false ⟨#[], #[.slice none 0 0], []⟩ 8 (by kernel_rfl) (by kernel_rfl) (by kernel_rfl) (by kernel_rfl)) ?_
  intro W base args ds gs before hval0 hW hcnd _
  have hval : ∀ (j : Nat) t v, Try.f4.params[j]? = some t → args[j]? = some v → Value.okWide Try.prog W .any base t v := hval0
  have hW' := hW
  obtain ⟨p, q, hA0, hV, rfl, hfz, hnd⟩ := hW
  have hA : DataW.TrodAll enc Try.prog W 0 (fun _ => true) true Try.f4.params.toList args.toList ds p := hA0
  rw [Try.params4] at hA hval
  obtain ⟨v0, vs0, d0, ds0, p0, q0, hargs, rfl, rfl, h0, r0⟩ := trodAll_cons hA
  obtain ⟨rfl, rfl, rfl⟩ := trodAll_nil r0
  obtain rfl : args = #[v0] := by cases args; simp_all
  obtain ⟨rfl, rfl⟩ := trodVars_none hV
  obtain ⟨a0, len0, cap0, rfl⟩ := okWide_slice Try.underlying22 (hval 0 22 v0 rfl rfl)
  have k0 := h0
  have lt0 : ∀ x ∈ p0, x.block < W.heap.size := by obtain ⟨m, hm⟩ := k0; exact DataW.trod_lt m _ _ _ hm
  obtain ⟨z0, w0⟩ : ∃ zs, IsRow .u8 W a0 len0 cap0 zs := by
    obtain ⟨fuel, hf⟩ := h0
    rcases open_ints Try.underlying22 Try.underlying5 (by kernel_rfl) hf with ⟨hcs, _⟩ | ⟨x, l, c, zs, hcs, _, hl, hm, hz, _, hcell, hwz⟩
    · simp [Value.cells] at hcs
      obtain ⟨rfl, rfl, rfl⟩ := hcs
      exact ⟨[], .inl ⟨rfl, rfl, rfl, rfl⟩⟩
    · simp [Value.cells] at hcs
      obtain ⟨rfl, rfl, rfl⟩ := hcs
      exact ⟨zs, .inr ⟨_, rfl, hl, hm, by simpa using hz, hcell, hwz⟩⟩
  clear hA0 hval0
  refine (walk a0 len0 cap0 z0 W w0).mono fun e W' ⟨he, bel⟩ => ?_
  subst he
  exact ⟨_, rfl, _, _, _, [], _, [], hW', trodAll_mk1 (shut_bool Try.underlying4 _), (trodAll_cons_mk (Below.trod laidOut (by kernel_rfl) (of_decide_eq_true (by kernel_rfl)) k0 bel lt0) trodAll_mk0), rfl, bel.frame _, fun h => by cases h⟩
theorem over : Rows.fnFindZeroRow.holds Try.pinned (OpenSpec.ofChange Rows.fnFindZeroSpec) :=
  OpenClaim.holds_of_wide 4 Try.f4 rfl rfl rfl rfl rfl rfl rfl ⟨rfl, rfl, rfl, rfl, rfl⟩ rfl rfl rfl rfl rfl (by kernel_rfl) Try.func4 (by kernel_rfl)
    (of_decide_eq_true (by kernel_rfl)) (by unfold Func.isWrapper; first | (rw [if_pos (by decide +kernel)]; kernel_rfl) | (rw [if_neg (by decide +kernel)]; exact ⟨rfl, rfl⟩))
    (fun os started H enc _ => lifted os started H enc)
theorem proved : Rows.FnFindZeroSaid := over
end Go.Proofs.Ytenibnblibnocac.fnFindZero
