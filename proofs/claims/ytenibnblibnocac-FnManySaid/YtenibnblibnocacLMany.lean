/-
  Proves: for every code: zeros up to a greater size are no fewer, none where there is a bad place, and at least one where one is found.
  Conditions: none beyond the given statement's own.
-/
import Derived.Test.YtenibnblibnocacRows
import Derived.Test.YtenibnblibnocacQBun15
import Derived.Test.YtenibnblibnocacQBun26
import Derived.Test.YtenibnblibnocacQBun18
import Derived.Test.YtenibnblibnocacQBun35
import Derived.Test.YtenibnblibnocacQBun13
import Derived.Test.YtenibnblibnocacQBun46
import Derived.Test.YtenibnblibnocacQZp4d
import Derived.Test.YtenibnblibnocacQZm8
import Derived.Test.YtenibnblibnocacQBun44
import Derived.ProofKit
import Derived.OpenShut
import Derived.ShutString
import Derived.ChangeOld
namespace Go.Proofs.Ytenibnblibnocac.fnMany
open Go.ChangeShapes Go.WideShapes Go.ChangeAt Go.RowKit
open Go.ChangeMaps (open_string shut_string)
set_option linter.unusedVariables false
theorem zhgt_got {xs v : List Int} (h : zeroB xs v = true) : zhgtV xs v = (hgtL v : Nat) := by unfold zhgtV; rw [h, if_pos rfl]
set_option maxRecDepth 100000 in
set_option maxHeartbeats 4000000 in
theorem walk  (a0 : Option Addr) (len0 cap0 : Nat) (z0 : List Int) (w : World) (w0 : IsRow .u8 w a0 len0 cap0 z0) :
    Calls Try.prog 5 #[.slice a0 len0 cap0] w fun e w' => e = .returned (.bool true) ∧ Below w.heap.size w w' := by
  have HC := hid (codeIn_of w0)
  clear w0
  by_cases hl0 : (1048576 : Int) < (len0 : Int)
  · go_enter Try.func5, Try.ntmps5
    go_wp2
    go_ret
    exact ⟨rfl, Below.refl _ _⟩
  · go_enter Try.func5, Try.ntmps5
    go_wp2_with fail
    refine (drawZeroMany_any _ len0 _ HC.out).mono ?_
    rintro e d1 ⟨u, xs, n, rfl, HT, HXo, hb0⟩
    have HB1 := hid hb0
    clear hb0
    have hxl := HT.1.1
    have hn1 := HT.2.1
    have hn2 := HT.2.2
    clear HT
    obtain ⟨xa, xcap, rfl⟩ := (HXo.out).reads
    have HNX : Hid (0 ≤ zmanyV xs n → n ≠ 6 → zmanyV xs n ≤ zmanyV xs (n + 1)) := hid zmany_next
    have HBD : Hid (0 ≤ zmanyV xs n → zmanyV xs n ≤ 28561 ∧ 1 ≤ n ∧ n ≤ 6 ∧ fvB xs = true) := hid (fun h => ⟨zmany_bd h, (zmany_get h).2.1, (zmany_get h).2.2.1, (zmany_get h).1⟩)
    have HBA : Hid (0 ≤ zmanyV xs n → (badL xs).length ≠ 0 → zmanyV xs n = 0) := hid zmany_bad
    have HFO : Hid (∀ v, 0 ≤ zmanyV xs n → zfindO xs = some v → (hgtL v : Int) ≤ n → 1 ≤ zmanyV xs n) := hid (fun v => zmany_found)
    have HGT : Hid (∀ v, zfindO xs = some v → zeroB xs v = true ∧ zhgtV xs v = (hgtL v : Nat) ∧ hgtL v ≤ 2000 ∧ (badL xs).length = 0) := hid (fun v h => ⟨(find_got h).zero, zhgt_got (find_got h).zero, hgt_le (fun u hu => by have := (find_got h).small u hu; omega), by rw [zero_bad (find_got h).zero]; rfl⟩)
    have HMP : Hid (∀ (k : Int) (wx : World), Rd wx (.slice xa xs.length xcap) xs → Calls Try.prog 22 #[.slice xa xs.length xcap, .int .i64 k] wx fun e w' => e = .returned (.int .i64 (zmanyV xs k)) ∧ Below wx.heap.size wx w') := hid (fun k wx hr => zeroMany_any _ xs k wx hr)
    have HMS : Hid (∀ (k : Int) (wx : World), Rd wx (.slice xa xs.length xcap) xs → Calls Try.prog 23 #[.slice xa xs.length xcap, .int .i64 k] wx fun e w' => e = .returned (.int .i64 (zmanyV xs k)) ∧ Below wx.heap.size wx w') := hid (fun k wx hr => zeroManyS_any _ xs k wx hr)
    have HZF : Hid (∀ (vv : Value) (wx : World), Rd wx vv xs → Calls Try.prog 17 #[vv] wx (SearchPost (zfindO xs) wx)) := hid (fun vv wx hr => zeroFind_any vv xs wx hr)
    have HM0 := hid (HMP.out n)
    have HM1 := hid (HMP.out (n + 1))
    have HM2 := hid (HMS.out n)
    obtain ⟨m, hm⟩ : ∃ m, m = zmanyV xs n := ⟨_, rfl⟩
    obtain ⟨m1, hm1⟩ : ∃ m1, m1 = zmanyV xs (n + 1) := ⟨_, rfl⟩
    obtain ⟨o, ho⟩ : ∃ o, o = zfindO xs := ⟨_, rfl⟩
    obtain ⟨B, hB⟩ : ∃ B, B = badL xs := ⟨_, rfl⟩
    have HBL : Hid (B.length ≤ 1000) := hid (by rw [hB]; exact bad_len xs)
    rw [← hm, ← hm1] at HNX
    rw [← hm] at HBD HBA HFO HM0 HM2
    rw [← hm1] at HM1
    rw [← ho] at HFO HGT HZF
    rw [← hB] at HBA HGT
    have HBEQ := hid hB
    clear hm hm1 ho hB HMP HMS
    by_cases hneg : m < 0
    · skip
      go_wp2_with fail
      refine (HM0.out _ HXo.out.rd).mono ?_
      rintro e d2 ⟨rfl, hb2⟩
      have HB2 := hid (HB1.out.trans (hb2.mono HB1.out.size))
      have X_2 := hid (HXo.out.keep HXo.out.lt hb2)
      clear hb2
      go_wp2_with fail
      refine (HM2.out _ X_2.out.rd).mono ?_
      rintro e d3 ⟨rfl, hb3⟩
      have HB3 := hid (HB2.out.trans (hb3.mono HB2.out.size))
      have X_3 := hid (X_2.out.keep X_2.out.lt hb3)
      clear hb3
      go_wp2
      go_ret
      exact ⟨rfl, HB3.out⟩
    · skip
      obtain ⟨hm9, hn3, hn4, _⟩ := HBD.out (by omega)
      have HN2 : Hid (n ≠ 6 → m ≤ m1) := hid (fun h => HNX.out (by omega) h)
      have HBQ : Hid (B.length ≠ 0 → m = 0) := hid (fun h => HBA.out (by omega) h)
      have HF2 : Hid (∀ v, o = some v → (hgtL v : Int) ≤ n → 1 ≤ m) := hid (fun v h1 h2 => HFO.out v (by omega) h1 h2)
      clear HNX HBD HBA HFO
      go_wp2_with fail
      refine (HM0.out _ HXo.out.rd).mono ?_
      rintro e d2 ⟨rfl, hb2⟩
      have HB2 := hid (HB1.out.trans (hb2.mono HB1.out.size))
      have X_2 := hid (HXo.out.keep HXo.out.lt hb2)
      clear hb2
      go_wp2_with fail
      refine (HM2.out _ X_2.out.rd).mono ?_
      rintro e d3 ⟨rfl, hb3⟩
      have HB3 := hid (HB2.out.trans (hb3.mono HB2.out.size))
      have X_3 := hid (X_2.out.keep X_2.out.lt hb3)
      clear hb3
      go_wp2_with fail
      refine (HM1.out _ X_3.out.rd).mono ?_
      rintro e d4 ⟨rfl, hb4⟩
      have HB4 := hid (HB3.out.trans (hb4.mono HB3.out.size))
      have X_4 := hid (X_3.out.keep X_3.out.lt hb4)
      clear hb4
      cases o with
      | none =>
        go_wp2_with fail
        refine (HZF.out (.slice xa xs.length xcap) _ X_4.out.rd).mono ?_
        rintro e d5 ⟨P_o, rfl, hO5, hb5⟩
        have HB5 := hid (HB4.out.trans (hb5.mono HB4.out.size))
        have X_5 := hid (X_4.out.keep X_4.out.lt hb5)
        have P_5 := hid hO5
        clear hO5
        clear hb5
        by_cases h6 : n = 6
        · skip
          have T6 : (n == 6) = true := by rw [beq_iff_eq]; exact h6
          clear h6
          go_wp2_with fail
          refine (formBad_any (.slice xa xs.length xcap) xs _ X_5.out.rd (by omega)).mono ?_
          rw [← HBEQ.out]
          rintro e d6 ⟨B_o, rfl, hO6, hb6⟩
          have HB6 := hid (HB5.out.trans (hb6.mono HB5.out.size))
          have X_6 := hid (X_5.out.keep X_5.out.lt hb6)
          have P_6 := hid (P_5.out.keep P_5.out.lt hb6)
          have B_6 := hid hO6
          clear hO6
          clear hb6
          obtain ⟨ba, bcap, rfl⟩ := (B_6.out).reads
          have hbl := HBL.out
          by_cases hb0 : B.length = 0
          · skip
            have TB : ((B.length : Int) == 0) = true := by rw [beq_iff_eq]; omega
            clear hb0 hbl
            go_wp2
            go_ret
            exact ⟨rfl, HB6.out⟩
          · skip
            have TB : ((B.length : Int) == 0) = false := by rw [beq_eq_false_iff_ne]; omega
            have hm0 : m = 0 := HBQ.out hb0
            have TM : (m == 0) = true := by rw [beq_iff_eq]; exact hm0
            clear hb0 hbl
            go_wp2
            go_ret
            exact ⟨rfl, HB6.out⟩
        · skip
          have T6 : (n == 6) = false := by rw [beq_eq_false_iff_ne]; exact h6
          have hge : m ≤ m1 := HN2.out h6
          clear h6
          go_wp2_with fail
          refine (formBad_any (.slice xa xs.length xcap) xs _ X_5.out.rd (by omega)).mono ?_
          rw [← HBEQ.out]
          rintro e d6 ⟨B_o, rfl, hO6, hb6⟩
          have HB6 := hid (HB5.out.trans (hb6.mono HB5.out.size))
          have X_6 := hid (X_5.out.keep X_5.out.lt hb6)
          have P_6 := hid (P_5.out.keep P_5.out.lt hb6)
          have B_6 := hid hO6
          clear hO6
          clear hb6
          obtain ⟨ba, bcap, rfl⟩ := (B_6.out).reads
          have hbl := HBL.out
          by_cases hb0 : B.length = 0
          · skip
            have TB : ((B.length : Int) == 0) = true := by rw [beq_iff_eq]; omega
            clear hb0 hbl
            go_wp2
            go_ret
            exact ⟨rfl, HB6.out⟩
          · skip
            have TB : ((B.length : Int) == 0) = false := by rw [beq_eq_false_iff_ne]; omega
            have hm0 : m = 0 := HBQ.out hb0
            have TM : (m == 0) = true := by rw [beq_iff_eq]; exact hm0
            clear hb0 hbl
            go_wp2
            go_ret
            exact ⟨rfl, HB6.out⟩
      | some v =>
        obtain ⟨hz0, hh0, hh1, hbz⟩ := HGT.out v rfl
        have HBZ := hid hbz
        have HHV := hid hh0
        have HFF := hid (HF2.out v rfl)
        obtain ⟨h, hh⟩ : ∃ h, h = hgtL v := ⟨_, rfl⟩
        rw [← hh] at HHV HFF hh1
        clear hz0 hh0 hh hbz HGT HF2
        go_wp2_with fail
        refine (HZF.out (.slice xa xs.length xcap) _ X_4.out.rd).mono ?_
        rintro e d5 ⟨P_o, rfl, hO5, hb5⟩
        have HB5 := hid (HB4.out.trans (hb5.mono HB4.out.size))
        have X_5 := hid (X_4.out.keep X_4.out.lt hb5)
        have P_5 := hid hO5
        clear hO5
        clear hb5
        by_cases h6 : n = 6
        · skip
          have T6 : (n == 6) = true := by rw [beq_iff_eq]; exact h6
          clear h6
          go_wp2_with fail
          refine (formBad_any (.slice xa xs.length xcap) xs _ X_5.out.rd (by omega)).mono ?_
          rw [← HBEQ.out]
          rintro e d6 ⟨B_o, rfl, hO6, hb6⟩
          have HB6 := hid (HB5.out.trans (hb6.mono HB5.out.size))
          have X_6 := hid (X_5.out.keep X_5.out.lt hb6)
          have P_6 := hid (P_5.out.keep P_5.out.lt hb6)
          have B_6 := hid hO6
          clear hO6
          clear hb6
          obtain ⟨ba, bcap, rfl⟩ := (B_6.out).reads
          have hbl := HBL.out
          have hb0 : B.length = 0 := HBZ.out
          have TB : ((B.length : Int) == 0) = true := by rw [beq_iff_eq]; omega
          clear hb0 hbl
          go_wp2_with fail
          refine (zeroHeight_any (.slice xa xs.length xcap) P_o xs v _ X_6.out.rd P_6.out.rd).mono ?_
          rw [HHV.out]
          rintro e d7 ⟨rfl, hb7⟩
          have HB7 := hid (HB6.out.trans (hb7.mono HB6.out.size))
          have X_7 := hid (X_6.out.keep X_6.out.lt hb7)
          have P_7 := hid (P_6.out.keep P_6.out.lt hb7)
          clear hb7
          by_cases hh : n < (h : Int)
          · skip
            go_wp2
            go_ret
            exact ⟨rfl, HB7.out⟩
          · skip
            have hm3 : 1 ≤ m := HFF.out (by omega)
            go_wp2
            go_ret
            exact ⟨rfl, HB7.out⟩
        · skip
          have T6 : (n == 6) = false := by rw [beq_eq_false_iff_ne]; exact h6
          have hge : m ≤ m1 := HN2.out h6
          clear h6
          go_wp2_with fail
          refine (formBad_any (.slice xa xs.length xcap) xs _ X_5.out.rd (by omega)).mono ?_
          rw [← HBEQ.out]
          rintro e d6 ⟨B_o, rfl, hO6, hb6⟩
          have HB6 := hid (HB5.out.trans (hb6.mono HB5.out.size))
          have X_6 := hid (X_5.out.keep X_5.out.lt hb6)
          have P_6 := hid (P_5.out.keep P_5.out.lt hb6)
          have B_6 := hid hO6
          clear hO6
          clear hb6
          obtain ⟨ba, bcap, rfl⟩ := (B_6.out).reads
          have hbl := HBL.out
          have hb0 : B.length = 0 := HBZ.out
          have TB : ((B.length : Int) == 0) = true := by rw [beq_iff_eq]; omega
          clear hb0 hbl
          go_wp2_with fail
          refine (zeroHeight_any (.slice xa xs.length xcap) P_o xs v _ X_6.out.rd P_6.out.rd).mono ?_
          rw [HHV.out]
          rintro e d7 ⟨rfl, hb7⟩
          have HB7 := hid (HB6.out.trans (hb7.mono HB6.out.size))
          have X_7 := hid (X_6.out.keep X_6.out.lt hb7)
          have P_7 := hid (P_6.out.keep P_6.out.lt hb7)
          clear hb7
          by_cases hh : n < (h : Int)
          · skip
            go_wp2
            go_ret
            exact ⟨rfl, HB7.out⟩
          · skip
            have hm3 : 1 ≤ m := HFF.out (by omega)
            go_wp2
            go_ret
            exact ⟨rfl, HB7.out⟩
theorem own : ownKnob Try.prog.godebug = none := by kernel_rfl
theorem laidOut : laidOutB Try.prog = true := by kernel_rfl
set_option maxRecDepth 100000 in
theorem lifted (os : Os) (started : os.Started) (H : Type) (enc : TypeId × Value → H) :
    ReturnsInHanded {} Try.checked os 5 .any (Rows.fnManySpec.pre6 enc Try.prog Try.f5 Rows.fnManyRow.domain false) (Rows.fnManySpec.post enc Try.prog Try.f5 false true false false) := by
  refine returnsInHanded_of_change (C := Try.checked) own started (by kernel_rfl) Try.func5
    (ChangeSpec.witness6 (enc := enc) (C := Try.checked) false ⟨#[], #[.slice none 0 0], []⟩ 8 (by kernel_rfl) (by kernel_rfl) (by kernel_rfl) (by kernel_rfl)) ?_
  intro W base args ds gs before hval0 hW hcnd _
  have hval : ∀ (j : Nat) t v, Try.f5.params[j]? = some t → args[j]? = some v → Value.okWide Try.prog W .any base t v := hval0
  have hW' := hW
  obtain ⟨p, q, hA0, hV, rfl, hfz, hnd⟩ := hW
  have hA : DataW.TrodAll enc Try.prog W 0 (fun _ => true) true Try.f5.params.toList args.toList ds p := hA0
  rw [Try.params5] at hA hval
  obtain ⟨v0, vs0, d0, ds0, p0, q0, hargs, rfl, rfl, h0, r0⟩ := trodAll_cons hA
  obtain ⟨rfl, rfl, rfl⟩ := trodAll_nil r0
  obtain rfl : args = #[v0] := by cases args; simp_all
  obtain ⟨rfl, rfl⟩ := trodVars_none hV
  obtain ⟨a0, len0, cap0, rfl⟩ := okWide_slice Try.underlying22 (hval 0 22 v0 rfl rfl)
  have k0 := h0
  have lt0 : ∀ x ∈ p0, x.block < W.heap.size := by obtain ⟨m, hm⟩ := k0; exact DataW.trod_lt m _ _ _ hm
  obtain ⟨z0, w0⟩ : ∃ zs, IsRow .u8 W a0 len0 cap0 zs := by
    obtain ⟨fuel, hf⟩ := h0
    rcases open_ints Try.underlying22 Try.underlying5 (by kernel_rfl) hf with ⟨hcs, _⟩ | ⟨x, l, c, zs, hcs, _, hl, hm, hz, _, hcell, hwz⟩
    · simp [Value.cells] at hcs
      obtain ⟨rfl, rfl, rfl⟩ := hcs
      exact ⟨[], .inl ⟨rfl, rfl, rfl, rfl⟩⟩
    · simp [Value.cells] at hcs
      obtain ⟨rfl, rfl, rfl⟩ := hcs
      exact ⟨zs, .inr ⟨_, rfl, hl, hm, by simpa using hz, hcell, hwz⟩⟩
  clear hA0 hval0
  refine (walk a0 len0 cap0 z0 W w0).mono fun e W' ⟨he, bel⟩ => ?_
  subst he
  exact ⟨_, rfl, _, _, _, [], _, [], hW', trodAll_mk1 (shut_bool Try.underlying4 _), (trodAll_cons_mk (Below.trod laidOut (by kernel_rfl) (of_decide_eq_true (by kernel_rfl)) k0 bel lt0) trodAll_mk0), rfl, bel.frame _, fun h => by cases h⟩
theorem over : Rows.fnManyRow.holds Try.pinned (OpenSpec.ofChange Rows.fnManySpec) :=
  OpenClaim.holds_of_wide 5 Try.f5 rfl rfl rfl rfl rfl rfl rfl ⟨rfl, rfl, rfl, rfl, rfl⟩ rfl rfl rfl rfl rfl (by kernel_rfl) Try.func5 (by kernel_rfl)
    (of_decide_eq_true (by kernel_rfl)) (by unfold Func.isWrapper; first | (rw [if_pos (by decide +kernel)]; kernel_rfl) | (rw [if_neg (by decide +kernel)]; exact ⟨rfl, rfl⟩))
    (fun os started H enc _ => lifted os started H enc)
theorem proved : Rows.FnManySaid := over
end Go.Proofs.Ytenibnblibnocac.fnMany
