/-
  Proves: for every code: a form multiplied twice is its cores, vanishes where the form does, and has its discriminant if the terms are even in number.
  Conditions: none beyond the given statement's own.
-/
import Derived.Test.YtciajpimpjpnfabRows
import Derived.Test.YtciajpimpjpnfabBun42
import Derived.Test.YtciajpimpjpnfabImp4D
import Derived.Test.YtciajpimpjpnfabImp4F
import Derived.ProofKit
import Derived.OpenShut
import Derived.ShutString
import Derived.ChangeOld
namespace Go.Proofs.Ytciajpimpjpnfab.fnTimes
open Go.ChangeShapes Go.WideShapes Go.ChangeAt Go.RowKit
open Go.ChangeMaps (open_string shut_string)
set_option linter.unusedVariables false
set_option maxRecDepth 100000 in
set_option maxHeartbeats 4000000 in
theorem walk  (a0 : Option Addr) (len0 cap0 : Nat) (z0 : List Int) (w : World) (w0 : IsRow .u8 w a0 len0 cap0 z0) :
    Calls Try.prog 4 #[.slice a0 len0 cap0] w fun e w' => e = .returned (.bool true) ∧ Below w.heap.size w w' := by
  have HC := hid (codeIn_of w0)
  clear w0
  by_cases hl0 : (1048576 : Int) < (len0 : Int)
  · go_enter Try.func4, Try.ntmps4
    go_wp2
    go_ret
    exact ⟨rfl, Below.refl _ _⟩
  · go_enter Try.func4, Try.ntmps4
    go_wp2_with fail
    refine (drawFormTimes_any _ len0 _ HC.out).mono ?_
    rintro e d1 ⟨u, xs, n, rfl, ⟨HT, hn⟩, HXo, hb0⟩
    have HB1 := hid hb0
    clear hb0
    have hxl := HT.1
    clear HT
    go_wp2_with fail
    refine (formTimes_any u xs n _ HXo.out.rd (by omega)).mono ?_
    rintro e d2 ⟨O_o, rfl, hO2, hb2⟩
    have HB2 := hid (HB1.out.trans (hb2.mono HB1.out.size))
    have X_2 := hid (HXo.out.keep HXo.out.lt hb2)
    have O_2 := hid hO2
    clear hO2
    clear hb2
    go_wp2_with fail
    refine (formTimesS_any u xs n _ X_2.out.rd).mono ?_
    rintro e d3 ⟨W_o, rfl, hO3, hb3⟩
    have HB3 := hid (HB2.out.trans (hb3.mono HB2.out.size))
    have X_3 := hid (X_2.out.keep X_2.out.lt hb3)
    have O_3 := hid (O_2.out.keep O_2.out.lt hb3)
    have W_3 := hid hO3
    clear hO3
    clear hb3
    have HLN := hid (ftimes_len xs n)
    obtain ⟨J, hJ⟩ : ∃ J, J = ftimesL xs n := ⟨_, rfl⟩
    have HD : decide (J = J) = true := by simp
    rw [← hJ] at O_3 W_3 HLN
    cases hf : timesOk xs n with
    | false =>
      clear hJ
      go_wp2_with fail
      refine (sameInts_any _ _ J J _ O_3.out.rd W_3.out.rd).mono ?_
      rintro e d4 ⟨rfl, k4, hw4⟩
      have hb4 : Below d3.heap.size d3 d4 := by rw [hw4]; exact below_dn (Below.refl _ _)
      have HB4 := hid (HB3.out.trans (hb4.mono HB3.out.size))
      have X_4 := hid (X_3.out.keep X_3.out.lt hb4)
      have O_4 := hid (O_3.out.keep O_3.out.lt hb4)
      have W_4 := hid (W_3.out.keep W_3.out.lt hb4)
      clear hw4 hb4
      go_wp2_with fail
      refine (sameInts_any _ _ J J _ O_4.out.rd W_4.out.rd).mono ?_
      rintro e d5 ⟨rfl, k5, hw5⟩
      have hb5 : Below d4.heap.size d4 d5 := by rw [hw5]; exact below_dn (Below.refl _ _)
      have HB5 := hid (HB4.out.trans (hb5.mono HB4.out.size))
      have X_5 := hid (X_4.out.keep X_4.out.lt hb5)
      have O_5 := hid (O_4.out.keep O_4.out.lt hb5)
      have W_5 := hid (W_4.out.keep W_4.out.lt hb5)
      clear hw5 hb5
      go_wp2
      go_ret
      exact ⟨retB (by simp), HB5.out⟩
    | true =>
      obtain ⟨y1, y2, y3, y4⟩ := times_yes hf
      have hn0 : n ≠ 0 := by rintro rfl; exact absurd y2 (by decide)
      obtain ⟨g1, g2⟩ := times_again hn0 hf
      have HJE : Hid (J = timesL xs n) := hid (by rw [hJ, y4])
      have HG1 : Hid (timesOk J n = true) := hid (by rw [HJE.out]; exact g1)
      have HG2 : Hid (ftimesL J n = xs.map coreG) := hid (by rw [HJE.out]; exact g2)
      have HF := hid y1
      have HCX : Hid (fcoresL xs = xs.map coreG) := hid (cores_yes y1)
      have HVC : Hid (∀ q, fvanV J q = fvanV xs q) := hid (fun q => by rw [HJE.out]; exact van_times hn0 y1 y3 q)
      have HDS : Hid (xs.length % 2 = 0 → discV J = discV xs) := hid (fun h => by rw [HJE.out]; exact disc_times hn0 y1 y3 h)
      have HDD : decide (xs.map coreG = xs.map coreG) = true := by simp
      have hjl : J.length = xs.length := by rw [HJE.out]; unfold timesL; rw [List.length_map]
      have HJL := hid hjl
      obtain ⟨M, hM⟩ : ∃ M, M = xs.map coreG := ⟨_, rfl⟩
      rw [← hM] at HG2 HCX HDD
      clear hJ hf hjl y1 y2 y3 y4 g1 g2 hn0 hM
      go_wp2_with fail
      refine (sameInts_any _ _ J J _ O_3.out.rd W_3.out.rd).mono ?_
      rintro e d4 ⟨rfl, k4, hw4⟩
      have hb4 : Below d3.heap.size d3 d4 := by rw [hw4]; exact below_dn (Below.refl _ _)
      have HB4 := hid (HB3.out.trans (hb4.mono HB3.out.size))
      have X_4 := hid (X_3.out.keep X_3.out.lt hb4)
      have O_4 := hid (O_3.out.keep O_3.out.lt hb4)
      have W_4 := hid (W_3.out.keep W_3.out.lt hb4)
      clear hw4 hb4
      go_wp2_with fail
      refine (formTimes_any _ J n _ O_4.out.rd (by rw [HJL.out]; omega)).mono ?_
      rw [HG1.out, HG2.out]
      rintro e d5 ⟨C_o, rfl, hO5, hb5⟩
      have HB5 := hid (HB4.out.trans (hb5.mono HB4.out.size))
      have X_5 := hid (X_4.out.keep X_4.out.lt hb5)
      have O_5 := hid (O_4.out.keep O_4.out.lt hb5)
      have C_5 := hid hO5
      clear hO5
      clear hb5
      go_wp2_with fail
      refine (formCores_any u xs _ X_5.out.rd (by omega)).mono ?_
      rw [HF.out, HCX.out]
      rintro e d6 ⟨D_o, rfl, hO6, hb6⟩
      have HB6 := hid (HB5.out.trans (hb6.mono HB5.out.size))
      have X_6 := hid (X_5.out.keep X_5.out.lt hb6)
      have O_6 := hid (O_5.out.keep O_5.out.lt hb6)
      have C_6 := hid (C_5.out.keep C_5.out.lt hb6)
      have D_6 := hid hO6
      clear hO6
      clear hb6
      have ha7 := (Below.refl d6.heap.size d6).alloc (Nat.le_refl _) (.cells #[.int .i64 0, .int .i64 2, .int .i64 3, .int .i64 5] 3)
      have HB7 := hid (HB6.out.trans (ha7.mono HB6.out.size))
      have X_7 := hid (X_6.out.keep X_6.out.lt ha7)
      have O_7 := hid (O_6.out.keep O_6.out.lt ha7)
      have C_7 := hid (C_6.out.keep C_6.out.lt ha7)
      have D_7 := hid (D_6.out.keep D_6.out.lt ha7)
      have PL_7 : Hid (Owns (d6.alloc (.cells #[.int .i64 0, .int .i64 2, .int .i64 3, .int .i64 5] 3)) d6.heap.size (.slice (some ⟨d6.heap.size, 0, none⟩) 4 4) [0, 2, 3, 5]) := hid (owns_lit [0, 2, 3, 5] _ rfl (Nat.le_refl _) (by unfold maxLen; simp))
      clear ha7
      have HPK : Hid (∀ wx : World, Below (d6.alloc (.cells #[.int .i64 0, .int .i64 2, .int .i64 3, .int .i64 5] 3)).heap.size (d6.alloc (.cells #[.int .i64 0, .int .i64 2, .int .i64 3, .int .i64 5] 3)) wx → Rd wx (.slice (some ⟨d6.heap.size, 0, none⟩) 4 4) ([0, 2, 3, 5] : List Int)) := hid (fun wx hbx => (PL_7.out.keep PL_7.out.lt hbx).rd)
      have HV1 : Hid (∀ wx : World, Below (d6.alloc (.cells #[.int .i64 0, .int .i64 2, .int .i64 3, .int .i64 5] 3)).heap.size (d6.alloc (.cells #[.int .i64 0, .int .i64 2, .int .i64 3, .int .i64 5] 3)) wx → Rd wx O_o J) := hid (fun wx hbx => (O_7.out.keep O_7.out.lt hbx).rd)
      have HV2 : Hid (∀ wx : World, Below (d6.alloc (.cells #[.int .i64 0, .int .i64 2, .int .i64 3, .int .i64 5] 3)).heap.size (d6.alloc (.cells #[.int .i64 0, .int .i64 2, .int .i64 3, .int .i64 5] 3)) wx → Rd wx u xs) := hid (fun wx hbx => (X_7.out.keep X_7.out.lt hbx).rd)
      have HBW := HB7
      go_wp2_with fail
      go_loopw [14] (fun si wr => ∃ K : Nat, si = .int .i64 K ∧ K ≤ 4 ∧ Below (d6.alloc (.cells #[.int .i64 0, .int .i64 2, .int .i64 3, .int .i64 5] 3)).heap.size (d6.alloc (.cells #[.int .i64 0, .int .i64 2, .int .i64 3, .int .i64 5] 3)) wr) (fun si _ => 4 - (intOf si).toNat)
      case atStart => exact ⟨0, rfl, by omega, Below.refl _ _⟩
      case round =>
        obtain ⟨K, rfl, hK, hBr⟩ := hrel
        rename World => wr
        by_cases hlt : K < 4
        · skip
          have HX : Hid (∀ wx : World, Below (d6.alloc (.cells #[.int .i64 0, .int .i64 2, .int .i64 3, .int .i64 5] 3)).heap.size (d6.alloc (.cells #[.int .i64 0, .int .i64 2, .int .i64 3, .int .i64 5] 3)) wx → wx.cell? ⟨d6.heap.size, K, none⟩ = some (.int .i64 (([0, 2, 3, 5] : List Int).getD K 0))) := hid (fun wx hbx => by
            obtain ⟨ad, cap, e1, hform⟩ := (HPK.out wx hbx).form
            cases e1
            obtain ⟨bb, o, e2, hml, hc⟩ := hform (by decide)
            cases e2
            have hcell := hc K hlt
            rw [Nat.zero_add] at hcell
            exact hcell)
          obtain ⟨q, hq⟩ : ∃ q, q = ([0, 2, 3, 5] : List Int).getD K 0 := ⟨_, rfl⟩
          rw [← hq] at HX
          have hqm : q ∈ ([0, 2, 3, 5] : List Int) := by rw [hq, getD_at _ _ (show K < ([0, 2, 3, 5] : List Int).length from hlt)]; exact List.getElem_mem _
          have HSQ := hid (HVC.out q)
          obtain ⟨B, hBq⟩ : ∃ B, B = fvanV J q := ⟨_, rfl⟩
          have HVV : Hid (∀ (v : Value) (wx : World), v = O_o ∨ v = u → Below (d6.alloc (.cells #[.int .i64 0, .int .i64 2, .int .i64 3, .int .i64 5] 3)).heap.size (d6.alloc (.cells #[.int .i64 0, .int .i64 2, .int .i64 3, .int .i64 5] 3)) wx → Calls Try.prog 26 #[v, .int .i64 q] wx fun e w' => e = .returned (.bool B) ∧ Below wx.heap.size wx w') := hid (by
            intro v wx hv hbx
            rcases hv with rfl | rfl
            · refine (formVanishes_any _ J q wx (HV1.out wx hbx) (by rw [HJL.out]; omega)).mono ?_
              rw [← hBq]
              exact fun e w' h => h
            · refine (formVanishes_any _ xs q wx (HV2.out wx hbx) (by omega)).mono ?_
              rw [← HSQ.out, ← hBq]
              exact fun e w' h => h)
          have hi0 : (K : Int) < (4 : Int) := by omega
          have T : (B != B) = false := by simp
          have c1 := HX.out _ hBr
          have HLT := hid hlt
          clear hq hqm hBq hlt
          go_wp2_with fail
          go_region_held3 (fun wx => Below (d6.alloc (.cells #[.int .i64 0, .int .i64 2, .int .i64 3, .int .i64 5] 3)).heap.size (d6.alloc (.cells #[.int .i64 0, .int .i64 2, .int .i64 3, .int .i64 5] 3)) wx ∧ wx.cell? ⟨d6.heap.size, K, none⟩ = some (.int .i64 q)) (first | exact ⟨hb3.out, c3⟩ | exact ⟨hb2.out, c2⟩ | exact ⟨hBr.drew, c1⟩)
            (first | (go_at_call 26; refine (HVV.out u _ (.inr rfl) hb2.out).mono ?_; rintro e w' ⟨rfl, hbq2⟩; have hb3 := hid (hb2.out.trans (hbq2.mono hb2.out.size)); have c3 := HX.out _ hb3.out) | (go_at_call 26; refine (HVV.out O_o _ (.inl rfl) hBr.drew).mono ?_; rintro e w' ⟨rfl, hbq⟩; have hb2 := hid (hBr.trans ((below_of_drew hbq).mono hBr.size)); have c2 := HX.out _ hb2.out))
          go_wp2
          go_round
          case measure => simp only [intOf]; have := HLT.out; omega
          case rel => exact ⟨K + 1, by go_num, by have := HLT.out; omega, hb3.out⟩
        · obtain rfl : K = 4 := by omega
          have HB8 := hid (HB7.out.trans (hBr.mono HB7.out.size))
          have X_8 := hid (X_7.out.keep X_7.out.lt hBr)
          have O_8 := hid (O_7.out.keep O_7.out.lt hBr)
          have C_8 := hid (C_7.out.keep C_7.out.lt hBr)
          have D_8 := hid (D_7.out.keep D_7.out.lt hBr)
          have PL_8 := hid (PL_7.out.keep PL_7.out.lt hBr)
          clear hlt hBr
          obtain ⟨ua, ucap, rfl, _⟩ := (X_8.out.rd).form
          go_wp2_with fail
          refine (sameInts_any _ _ M M _ C_8.out.rd D_8.out.rd).mono ?_
          rintro e d9 ⟨rfl, k9, hw9⟩
          have hb9 : Below wr.heap.size wr d9 := by rw [hw9]; exact below_dn (Below.refl _ _)
          have HB9 := hid (HB8.out.trans (hb9.mono HB8.out.size))
          have X_9 := hid (X_8.out.keep X_8.out.lt hb9)
          have O_9 := hid (O_8.out.keep O_8.out.lt hb9)
          have C_9 := hid (C_8.out.keep C_8.out.lt hb9)
          have D_9 := hid (D_8.out.keep D_8.out.lt hb9)
          have PL_9 := hid (PL_8.out.keep PL_8.out.lt hb9)
          clear hw9 hb9
          by_cases hpar : xs.length % 2 = 1
          · have T2 : ((xs.length : Int) % 2 == 1) = true := by rw [beq_iff_eq]; omega
            clear hpar
            go_wp2
            go_ret
            exact ⟨rfl, HB9.out⟩
          · have T2 : ((xs.length : Int) % 2 == 1) = false := by rw [beq_eq_false_iff_ne]; omega
            have HD2 := hid (HDS.out (by omega))
            clear hpar
            go_wp2_with fail
            refine (formDisc_any _ J _ O_9.out.rd (by rw [HJL.out]; omega)).mono ?_
            rw [HD2.out]
            rintro e d10 ⟨rfl, hb10⟩
            have HB10 := hid (HB9.out.trans (hb10.mono HB9.out.size))
            have X_10 := hid (X_9.out.keep X_9.out.lt hb10)
            have O_10 := hid (O_9.out.keep O_9.out.lt hb10)
            have C_10 := hid (C_9.out.keep C_9.out.lt hb10)
            have D_10 := hid (D_9.out.keep D_9.out.lt hb10)
            have PL_10 := hid (PL_9.out.keep PL_9.out.lt hb10)
            clear hb10
            go_wp2_with fail
            refine (formDisc_any _ xs _ X_10.out.rd (by omega)).mono ?_
            rintro e d11 ⟨rfl, hb11⟩
            have HB11 := hid (HB10.out.trans (hb11.mono HB10.out.size))
            have X_11 := hid (X_10.out.keep X_10.out.lt hb11)
            have O_11 := hid (O_10.out.keep O_10.out.lt hb11)
            have C_11 := hid (C_10.out.keep C_10.out.lt hb11)
            have D_11 := hid (D_10.out.keep D_10.out.lt hb11)
            have PL_11 := hid (PL_10.out.keep PL_10.out.lt hb11)
            clear hb11
            go_wp2
            go_ret
            exact ⟨rfl, HB11.out⟩
theorem own : ownKnob Try.prog.godebug = none := by kernel_rfl
theorem laidOut : laidOutB Try.prog = true := by kernel_rfl
set_option maxRecDepth 100000 in
theorem lifted (os : Os) (started : os.Started) (H : Type) (enc : TypeId × Value → H) :
    ReturnsInHanded {} Try.checked os 4 .any (Rows.fnTimesSpec.pre6 enc Try.prog Try.f4 Rows.fnTimesRow.domain false) (Rows.fnTimesSpec.post enc Try.prog Try.f4 false true false false) := by
  refine returnsInHanded_of_change (C := Try.checked) own started (by kernel_rfl) Try.func4
    (ChangeSpec.witness6 (enc := enc) (C := Try.checked) false ⟨#[], #[.slice none 0 0], []⟩ 8 (by kernel_rfl) (by kernel_rfl) (by kernel_rfl) (by kernel_rfl)) ?_
  intro W base args ds gs before hval0 hW hcnd _
  have hval : ∀ (j : Nat) t v, Try.f4.params[j]? = some t → args[j]? = some v → Value.okWide Try.prog W .any base t v := hval0
  have hW' := hW
  obtain ⟨p, q, hA0, hV, rfl, hfz, hnd⟩ := hW
  have hA : DataW.TrodAll enc Try.prog W 0 (fun _ => true) true Try.f4.params.toList args.toList ds p := hA0
  rw [Try.params4] at hA hval
  obtain ⟨v0, vs0, d0, ds0, p0, q0, hargs, rfl, rfl, h0, r0⟩ := trodAll_cons hA
  obtain ⟨rfl, rfl, rfl⟩ := trodAll_nil r0
  obtain rfl : args = #[v0] := by cases args; simp_all
  obtain ⟨rfl, rfl⟩ := trodVars_none hV
  obtain ⟨a0, len0, cap0, rfl⟩ := okWide_slice Try.underlying22 (hval 0 22 v0 rfl rfl)
  have k0 := h0
  have lt0 : ∀ x ∈ p0, x.block < W.heap.size := by obtain ⟨m, hm⟩ := k0; exact DataW.trod_lt m _ _ _ hm
  obtain ⟨z0, w0⟩ : ∃ zs, IsRow .u8 W a0 len0 cap0 zs := by
    obtain ⟨fuel, hf⟩ := h0
    rcases open_ints Try.underlying22 Try.underlying5 (by kernel_rfl) hf with ⟨hcs, _⟩ | ⟨x, l, c, zs, hcs, _, hl, hm, hz, _, hcell, hwz⟩
    · simp [Value.cells] at hcs
      obtain ⟨rfl, rfl, rfl⟩ := hcs
      exact ⟨[], .inl ⟨rfl, rfl, rfl, rfl⟩⟩
    · simp [Value.cells] at hcs
      obtain ⟨rfl, rfl, rfl⟩ := hcs
      exact ⟨zs, .inr ⟨_, rfl, hl, hm, by simpa using hz, hcell, hwz⟩⟩
  clear hA0 hval0
  refine (walk a0 len0 cap0 z0 W w0).mono fun e W' ⟨he, bel⟩ => ?_
  subst he
  exact ⟨_, rfl, _, _, _, [], _, [], hW', trodAll_mk1 (shut_bool Try.underlying4 _), (trodAll_cons_mk (Below.trod laidOut (by kernel_rfl) (of_decide_eq_true (by kernel_rfl)) k0 bel lt0) trodAll_mk0), rfl, bel.frame _, fun h => by cases h⟩
theorem over : Rows.fnTimesRow.holds Try.pinned (OpenSpec.ofChange Rows.fnTimesSpec) :=
  OpenClaim.holds_of_wide 4 Try.f4 rfl rfl rfl rfl rfl rfl rfl ⟨rfl, rfl, rfl, rfl, rfl⟩ rfl rfl rfl rfl rfl (by kernel_rfl) Try.func4 (by kernel_rfl)
    (of_decide_eq_true (by kernel_rfl)) (by unfold Func.isWrapper; first | (rw [if_pos (by decide +kernel)]; kernel_rfl) | (rw [if_neg (by decide +kernel)]; exact ⟨rfl, rfl⟩))
    (fun os started H enc _ => lifted os started H enc)
theorem proved : Rows.FnTimesSaid := over
end Go.Proofs.Ytciajpimpjpnfab.fnTimes
