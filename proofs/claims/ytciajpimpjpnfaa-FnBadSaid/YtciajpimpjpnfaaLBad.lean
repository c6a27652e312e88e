/-
  Proves: for every code: a form is bad just where it does not vanish; of three terms at an even number of places, of one term at all.
  Conditions: none beyond the given statement's own.
-/
import Derived.Test.YtciajpimpjpnfaaRows
import Derived.Test.YtciajpimpjpnfaaFmCore
import Derived.Test.YtciajpimpjpnfaaBun30
import Derived.Test.YtciajpimpjpnfaaImp4D
import Derived.Test.YtciajpimpjpnfaaImp4F
import Derived.ProofKit
import Derived.OpenShut
import Derived.ShutString
import Derived.ChangeOld
namespace Go.Proofs.Ytciajpimpjpnfaa.fnBad
open Go.ChangeShapes Go.WideShapes Go.ChangeAt Go.RowKit
open Go.ChangeMaps (open_string shut_string)
set_option linter.unusedVariables false
theorem van_pl {xs : List Int} {q : Int} (h : q ∈ fplL xs) : fvanV xs q = vanB xs q := by
  obtain ⟨h1, h2⟩ := fpl_all.2 q h
  exact van_yes h1 h2
theorem bad_mem {xs : List Int} {q : Int} (h : q ∈ fplL xs) : decide (q ∈ badL xs) = !fvanV xs q := by
  rw [van_pl h, Bool.eq_iff_iff, decide_eq_true_eq]
  unfold badL
  rw [List.mem_filter]
  exact ⟨fun h2 => h2.2, fun h2 => ⟨h, h2⟩⟩
theorem bad_none {xs : List Int} (h : fvB xs = false) : badL xs = [] := by
  unfold badL fplL
  rw [h]
  rfl
theorem bad_three {xs : List Int} (hl : xs.length = 3) : (badL xs).length % 2 = 0 := by
  cases h : fvB xs with
  | false => rw [bad_none h]; rfl
  | true => exact bad_even h hl
theorem bad_one {xs : List Int} (hl : xs.length = 1) : badL xs = fplL xs := by
  unfold badL
  rw [List.filter_eq_self]
  intro q hq
  have : vanB xs q = false := by
    by_cases h0 : q = 0
    · subst h0
      have := less_le xs
      unfold vanB
      rw [if_pos rfl]
      by_cases h1 : 0 < lessN xs
      · rw [decide_eq_false (show ¬ lessN xs < xs.length by omega), Bool.and_false]
      · rw [decide_eq_false h1, Bool.false_and]
    · exact van_one h0 hl
  rw [this]
  rfl
set_option maxRecDepth 100000 in
set_option maxHeartbeats 4000000 in
theorem walk  (a0 : Option Addr) (len0 cap0 : Nat) (z0 : List Int) (w : World) (w0 : IsRow .u8 w a0 len0 cap0 z0) :
    Calls Try.prog 11 #[.slice a0 len0 cap0] w fun e w' => e = .returned (.bool true) ∧ Below w.heap.size w w' := by
  have HC := hid (codeIn_of w0)
  clear w0
  by_cases hl0 : (1048576 : Int) < (len0 : Int)
  · go_enter Try.func11, Try.ntmps11
    go_wp2
    go_ret
    exact ⟨rfl, Below.refl _ _⟩
  · go_enter Try.func11, Try.ntmps11
    go_wp2_with fail
    refine (drawFormBad_any _ len0 _ HC.out).mono ?_
    rintro e d1 ⟨u, xs, rfl, HT, HXo, hb0⟩
    have HB1 := hid hb0
    clear hb0
    have hxl := HT.1
    clear HT
    go_wp2_with fail
    refine (formBad_any u xs _ HXo.out.rd (by omega)).mono ?_
    rintro e d2 ⟨O_o, rfl, hO2, hb2⟩
    have HB2 := hid (HB1.out.trans (hb2.mono HB1.out.size))
    have X_2 := hid (HXo.out.keep HXo.out.lt hb2)
    have O_2 := hid hO2
    clear hO2
    clear hb2
    go_wp2_with fail
    refine (formBadS_any u xs _ X_2.out.rd).mono ?_
    rintro e d3 ⟨W_o, rfl, hO3, hb3⟩
    have HB3 := hid (HB2.out.trans (hb3.mono HB2.out.size))
    have X_3 := hid (X_2.out.keep X_2.out.lt hb3)
    have O_3 := hid (O_2.out.keep O_2.out.lt hb3)
    have W_3 := hid hO3
    clear hO3
    clear hb3
    have HLN := bad_len xs
    have HPN := fpl_len xs
    have HTH : Hid (xs.length = 3 → (badL xs).length % 2 = 0) := hid (fun h => bad_three h)
    have HON : Hid (xs.length = 1 → badL xs = fplL xs) := hid (fun h => bad_one h)
    have HBM : Hid (∀ q ∈ fplL xs, decide (q ∈ badL xs) = !fvanV xs q) := hid (fun q hq => bad_mem hq)
    obtain ⟨J, hJ⟩ : ∃ J, J = badL xs := ⟨_, rfl⟩
    obtain ⟨L, hL⟩ : ∃ L, L = fplL xs := ⟨_, rfl⟩
    have HD : decide (J = J) = true := by simp
    rw [← hJ] at O_3 W_3 HLN HTH HON HBM
    rw [← hL] at HPN HON HBM
    have HL := hid hL.symm
    clear hJ hL
    go_wp2_with fail
    refine (sameInts_any _ _ J J _ O_3.out.rd W_3.out.rd).mono ?_
    rintro e d4 ⟨rfl, k4, hw4⟩
    have hb4 : Below d3.heap.size d3 d4 := by rw [hw4]; exact below_dn (Below.refl _ _)
    have HB4 := hid (HB3.out.trans (hb4.mono HB3.out.size))
    have X_4 := hid (X_3.out.keep X_3.out.lt hb4)
    have O_4 := hid (O_3.out.keep O_3.out.lt hb4)
    have W_4 := hid (W_3.out.keep W_3.out.lt hb4)
    clear hw4 hb4
    go_wp2_with fail
    refine (formPlaces_any u xs _ X_4.out.rd (by omega)).mono ?_
    rw [HL.out]
    rintro e d5 ⟨P_o, rfl, hO5, hb5⟩
    have HB5 := hid (HB4.out.trans (hb5.mono HB4.out.size))
    have X_5 := hid (X_4.out.keep X_4.out.lt hb5)
    have O_5 := hid (O_4.out.keep O_4.out.lt hb5)
    have P_5 := hid hO5
    clear hO5
    clear hb5
    have HPK : Hid (∀ wx : World, Below d5.heap.size d5 wx → Rd wx P_o L) := hid (fun wx hbx => (P_5.out.keep P_5.out.lt hbx).rd)
    have HOJ : Hid (∀ wx : World, Below d5.heap.size d5 wx → Rd wx O_o J) := hid (fun wx hbx => (O_5.out.keep O_5.out.lt hbx).rd)
    have HVX : Hid (∀ wx : World, Below d5.heap.size d5 wx → Rd wx u xs) := hid (fun wx hbx => (X_5.out.keep X_5.out.lt hbx).rd)
    obtain ⟨pad, pcap, rfl, hpform⟩ := (HPK.out _ (Below.refl _ _)).form
    have HPF := hid hpform
    clear hpform
    go_wp2_with fail
    go_loopw [6] (fun si wr => ∃ K : Nat, si = .int .i64 K ∧ K ≤ L.length ∧ Below d5.heap.size d5 wr) (fun si _ => L.length - (intOf si).toNat)
    case atStart => exact ⟨0, rfl, by omega, Below.refl _ _⟩
    case round =>
      obtain ⟨K, rfl, hK, hBr⟩ := hrel
      rename World => wr
      by_cases hlt : K < L.length
      · skip
        obtain ⟨bb, o, rfl, hml, _⟩ := HPF.out (by omega)
        have HXC : Hid (∀ wx : World, Below d5.heap.size d5 wx → wx.cell? ⟨bb, o + K, none⟩ = some (.int .i64 (L.getD K 0))) := hid (fun wx hbx => by
          obtain ⟨ad, cap, e1, hform⟩ := (HPK.out wx hbx).form
          simp only [Value.slice.injEq, true_and] at e1
          obtain ⟨rfl, _⟩ := e1
          obtain ⟨b2, o2, e2, hml, hc⟩ := hform (by omega)
          cases e2
          exact hc K hlt)
        unfold maxLen at hml
        obtain ⟨q, hq⟩ : ∃ q, q = L.getD K 0 := ⟨_, rfl⟩
        rw [← hq] at HXC
        have hqm : q ∈ L := by rw [hq, getD_at _ _ hlt]; exact List.getElem_mem _
        have HIN := hid (HBM.out q hqm)
        obtain ⟨B, hBq⟩ : ∃ B, B = fvanV xs q := ⟨_, rfl⟩
        rw [← hBq] at HIN
        have HVV : Hid (∀ wx : World, Below d5.heap.size d5 wx → Calls Try.prog 19 #[u, .int .i64 q] wx fun e w' => e = .returned (.bool B) ∧ Below wx.heap.size wx w') := hid (by
          intro wx hbx
          refine (formVanishes_any u xs q wx (HVX.out wx hbx) (by omega)).mono ?_
          rw [← hBq]
          exact fun e w' h => h)
        have HHI : Hid (∀ wx : World, Below d5.heap.size d5 wx → Calls Try.prog 45 #[O_o, .int .i64 q] wx fun e w' => e = .returned (.bool (!B)) ∧ wx = w') := hid (by
          intro wx hbx
          refine (hasInt_any _ J q wx (HOJ.out wx hbx)).mono ?_
          rw [HIN.out]
          exact fun e w' h => h)
        have hi0 : (K : Int) < (L.length : Int) := by omega
        have T : ((!B) == B) = false := by cases B <;> rfl
        have c1 := HXC.out _ hBr
        have HLT := hid hlt
        clear hq hqm hBq hlt
        go_wp2_with fail
        go_region_held3 (fun wx => Below d5.heap.size d5 wx ∧ wx.cell? ⟨bb, o + K, none⟩ = some (.int .i64 q)) (first | exact ⟨hb2.out, c2⟩ | exact ⟨hBr.drew, c1⟩)
          (first | (go_at_call 19; refine (HVV.out _ hBr.drew).mono ?_; rintro e w' ⟨rfl, hbq⟩; have hb2 := hid (hBr.trans ((below_of_drew hbq).mono hBr.size)); have c2 := HXC.out _ hb2.out) | (go_at_call 45; refine (HHI.out _ hb2.out).mono ?_; rintro e w' ⟨rfl, rfl⟩) | (go_at_call 45; refine (HHI.out _ hBr.drew).mono ?_; rintro e w' ⟨rfl, rfl⟩))
        go_wp2
        go_round
        case measure => simp only [intOf]; have := HLT.out; omega
        case rel => exact ⟨K + 1, by go_num, by have := HLT.out; omega, hb2.out⟩
      · have hKL : K = L.length := by omega
        have HB6 := hid (HB5.out.trans (hBr.mono HB5.out.size))
        have X_6 := hid (X_5.out.keep X_5.out.lt hBr)
        have O_6 := hid (O_5.out.keep O_5.out.lt hBr)
        have P_6 := hid (P_5.out.keep P_5.out.lt hBr)
        clear hlt hBr
        obtain ⟨ua, ucap, rfl, _⟩ := (X_6.out.rd).form
        obtain ⟨oa, ocap, rfl, _⟩ := (O_6.out.rd).form
        by_cases h3 : xs.length = 3
        · have hpar := HTH.out h3
          have T3 : ((xs.length : Int) != 3) = false := by rw [bne_eq_false_iff_eq]; omega
          have T1 : ((xs.length : Int) != 1) = true := by rw [bne_iff_ne]; omega
          have TP : ((J.length : Int) % 2 == 0) = true := by rw [beq_iff_eq]; omega
          clear h3 hpar
          go_wp2
          go_ret
          exact ⟨rfl, HB6.out⟩
        · have T3 : ((xs.length : Int) != 3) = true := by rw [bne_iff_ne]; omega
          by_cases h1 : xs.length = 1
          · have T1 : ((xs.length : Int) != 1) = false := by rw [bne_eq_false_iff_eq]; omega
            have HJL := hid (HON.out h1)
            have HDJ : Hid (decide (J = L) = true) := hid (decide_eq_true HJL.out)
            clear h1 h3
            go_wp2_with fail
            refine (sameInts_any _ _ J L _ O_6.out.rd P_6.out.rd).mono ?_
            rw [HDJ.out]
            rintro e d7 ⟨rfl, k7, hw7⟩
            have hb7 : Below wr.heap.size wr d7 := by rw [hw7]; exact below_dn (Below.refl _ _)
            have HB7 := hid (HB6.out.trans (hb7.mono HB6.out.size))
            have X_7 := hid (X_6.out.keep X_6.out.lt hb7)
            have O_7 := hid (O_6.out.keep O_6.out.lt hb7)
            have P_7 := hid (P_6.out.keep P_6.out.lt hb7)
            clear hw7 hb7
            go_wp2
            go_ret
            exact ⟨rfl, HB7.out⟩
          · have T1 : ((xs.length : Int) != 1) = true := by rw [bne_iff_ne]; omega
            clear h1 h3
            go_wp2
            go_ret
            exact ⟨rfl, HB6.out⟩
theorem own : ownKnob Try.prog.godebug = none := by kernel_rfl
theorem laidOut : laidOutB Try.prog = true := by kernel_rfl
set_option maxRecDepth 100000 in
theorem lifted (os : Os) (started : os.Started) (H : Type) (enc : TypeId × Value → H) :
    ReturnsInHanded {} Try.checked os 11 .any (Rows.fnBadSpec.pre6 enc Try.prog Try.f11 Rows.fnBadRow.domain false) (Rows.fnBadSpec.post enc Try.prog Try.f11 false true false false) := by
  refine returnsInHanded_of_change (C := Try.checked) own started (by kernel_rfl) Try.func11
    (ChangeSpec.witness6 (enc := enc) (C := Try.checked) false ⟨#[], #[.slice none 0 0], []⟩ 8 (by kernel_rfl) (by kernel_rfl) (by kernel_rfl) (by kernel_rfl)) ?_
  intro W base args ds gs before hval0 hW hcnd _
  have hval : ∀ (j : Nat) t v, Try.f11.params[j]? = some t → args[j]? = some v → Value.okWide Try.prog W .any base t v := hval0
  have hW' := hW
  obtain ⟨p, q, hA0, hV, rfl, hfz, hnd⟩ := hW
  have hA : DataW.TrodAll enc Try.prog W 0 (fun _ => true) true Try.f11.params.toList args.toList ds p := hA0
  rw [Try.params11] at hA hval
  obtain ⟨v0, vs0, d0, ds0, p0, q0, hargs, rfl, rfl, h0, r0⟩ := trodAll_cons hA
  obtain ⟨rfl, rfl, rfl⟩ := trodAll_nil r0
  obtain rfl : args = #[v0] := by cases args; simp_all
  obtain ⟨rfl, rfl⟩ := trodVars_none hV
  obtain ⟨a0, len0, cap0, rfl⟩ := okWide_slice Try.underlying22 (hval 0 22 v0 rfl rfl)
  have k0 := h0
  have lt0 : ∀ x ∈ p0, x.block < W.heap.size := by obtain ⟨m, hm⟩ := k0; exact DataW.trod_lt m _ _ _ hm
  obtain ⟨z0, w0⟩ : ∃ zs, IsRow .u8 W a0 len0 cap0 zs := by
    obtain ⟨fuel, hf⟩ := h0
    rcases open_ints Try.underlying22 Try.underlying5 (by kernel_rfl) hf with ⟨hcs, _⟩ | ⟨x, l, c, zs, hcs, _, hl, hm, hz, _, hcell, hwz⟩
    · simp [Value.cells] at hcs
      obtain ⟨rfl, rfl, rfl⟩ := hcs
      exact ⟨[], .inl ⟨rfl, rfl, rfl, rfl⟩⟩
    · simp [Value.cells] at hcs
      obtain ⟨rfl, rfl, rfl⟩ := hcs
      exact ⟨zs, .inr ⟨_, rfl, hl, hm, by simpa using hz, hcell, hwz⟩⟩
  clear hA0 hval0
  refine (walk a0 len0 cap0 z0 W w0).mono fun e W' ⟨he, bel⟩ => ?_
  subst he
  exact ⟨_, rfl, _, _, _, [], _, [], hW', trodAll_mk1 (shut_bool Try.underlying4 _), (trodAll_cons_mk (Below.trod laidOut (by kernel_rfl) (of_decide_eq_true (by kernel_rfl)) k0 bel lt0) trodAll_mk0), rfl, bel.frame _, fun h => by cases h⟩
theorem over : Rows.fnBadRow.holds Try.pinned (OpenSpec.ofChange Rows.fnBadSpec) :=
  OpenClaim.holds_of_wide 11 Try.f11 rfl rfl rfl rfl rfl rfl rfl ⟨rfl, rfl, rfl, rfl, rfl⟩ rfl rfl rfl rfl rfl (by kernel_rfl) Try.func11 (by kernel_rfl)
    (of_decide_eq_true (by kernel_rfl)) (by unfold Func.isWrapper; first | (rw [if_pos (by decide +kernel)]; kernel_rfl) | (rw [if_neg (by decide +kernel)]; exact ⟨rfl, rfl⟩))
    (fun os started H enc _ => lifted os started H enc)
theorem proved : Rows.FnBadSaid := over
end Go.Proofs.Ytciajpimpjpnfaa.fnBad
