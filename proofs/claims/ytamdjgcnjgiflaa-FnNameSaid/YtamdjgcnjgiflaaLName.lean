/-
  Proves: for every code: the name of a number is a number of its class, the only one among the names, and its own name.
  Conditions: none beyond the given statement's own.
-/
import Derived.Test.YtamdjgcnjgiflaaRows
import Derived.Test.YtamdjgcnjgiflaaImpC
import Derived.Test.YtamdjgcnjgiflaaLawCls
import Derived.Test.YtamdjgcnjgiflaaLists
import Derived.Test.YtamdjgcnjgiflaaSame
import Derived.Test.YtamdjgcnjgiflaaRowWord
import Derived.Test.YtamdjgcnjgiflaaLawKit
import Derived.Test.YtamdjgcnjgiflaaRegion
import Derived.ProofKit
import Derived.OpenShut
import Derived.ShutString
import Derived.ChangeOld
namespace Go.Proofs.Ytamdjgcnjgiflaa.fnName
open Go.ChangeShapes Go.WideShapes Go.ChangeAt Go.RowKit
open Go.ChangeMaps (open_string shut_string)
set_option linter.unusedVariables false
theorem name_eq {n q : Int} (hn : n ≠ 0) (hq : plI q = true) {i : Nat} (h : i < (namesOf q).length) : ((namesOf q).getD i 0 = nameOf n q ↔ cls n q = cls ((namesOf q).getD i 0) q) := by
  constructor
  · intro e; rw [e, cls_name hn hq]
  · intro e
    rw [cls_at hq i h] at e
    have := idx_uniq hn hq h e.symm
    rw [this]; rfl
theorem name_loop {n q : Int} (hp : prOk q) (h : okAt n q = true) {i : Nat} (hi : i < (namesOf q).length) : lsameV n ((namesOf q).getD i 0) q = decide ((namesOf q).getD i 0 = nameOf n q) := by
  obtain ⟨_, _, h0, hq⟩ := okAt_split h
  have hm : (namesOf q).getD i 0 ∈ namesOf q := by rw [getD_at _ _ hi]; exact List.getElem_mem _
  have hb := names_drawn hp hq _ hm
  unfold lsameV
  rw [h, okAt_yes hb.1 hb.2 (names_ne hq _ hm) hq, Bool.true_and, Bool.true_and]
  exact decide_eq_decide.2 (name_eq h0 hq hi).symm
theorem name_own {n q : Int} (hp : prOk q) (h : okAt n q = true) : lnameV (nameOf n q) q = .tuple #[.int .i64 (nameOf n q), .bool true] := by
  obtain ⟨_, _, h0, hq⟩ := okAt_split h
  rw [lnameV_yes (okAt_name hp h0 hq), name_congr (cls_name h0 hq)]

set_option maxRecDepth 100000 in
set_option maxHeartbeats 2000000 in
theorem walk  (a0 : Option Addr) (len0 cap0 : Nat) (z0 : List Int) (w : World) (w0 : IsRow .u8 w a0 len0 cap0 z0) :
    Calls Try.prog 4 #[.slice a0 len0 cap0] w fun e w' => e = .returned (.bool true) ∧ Below w.heap.size w w' := by
  have HC := hid (codeIn_of w0)
  clear w0
  by_cases hl : (1048576 : Int) < (len0 : Int)
  · go_enter Try.func4, Try.ntmps4
    go_wp2
    go_ret
    exact ⟨rfl, Below.refl _ _⟩
  · go_enter Try.func4, Try.ntmps4
    go_wp2_with fail
    refine (drawLocalName_any _ len0 _ HC.out).mono ?_
    rintro e w1 ⟨n, q, rfl, ⟨_, hp⟩, hb⟩
    cases hV : okAt n q with
    | false =>
      have P := hid (lnameV_no hV)
      clear hV hp
      go_wp2_with fail
      refine (localName_any n q _).mono ?_
      rw [P.out]
      rintro e w' ⟨rfl, hb1⟩
      have hB1 := hb.trans (hb1.mono hb.size)
      go_wp2_with fail
      refine (localNameS_any n q _).mono ?_
      rw [P.out]
      rintro e w' ⟨rfl, hb2⟩
      have hB2 := hB1.trans (hb2.mono hB1.size)
      go_wp2
      go_ret
      exact ⟨rfl, hB2⟩
    | true =>
      have P := hid (lnameV_yes hV)
      have F1 := hid (name_own hp hV)
      obtain ⟨_, _, h0, hq⟩ := okAt_split hV
      have HL : Hid (lnamesL q = namesOf q) := hid (by unfold lnamesL; rw [hq]; rfl)
      have HQ := hid hq
      have HLOOP : Hid (∀ i, i < (namesOf q).length → lsameV n ((namesOf q).getD i 0) q = decide ((namesOf q).getD i 0 = nameOf n q)) := hid (fun i hi => name_loop hp hV hi)
      have HMEM : Hid (decide (nameOf n q ∈ namesOf q) = true) := hid (decide_eq_true (name_mem h0 hq))
      have hlen : (namesOf q).length ≤ 8 := by
        rw [names_len hq]; unfold clsList; split; (· decide); (· split <;> decide)
      obtain ⟨N, hN⟩ : ∃ N, N = nameOf n q := ⟨_, rfl⟩
      rw [← hN] at P F1 HLOOP HMEM
      obtain ⟨L, hL⟩ : ∃ L, L = namesOf q := ⟨_, rfl⟩
      rw [← hL] at HL HLOOP HMEM hlen
      clear hV hp h0 hq hN hL
      go_wp2_with fail
      refine (localName_any n q _).mono ?_
      rw [P.out]
      rintro e w' ⟨rfl, hb1⟩
      have hB1 := hb.trans (hb1.mono hb.size)
      go_wp2_with fail
      refine (localNameS_any n q _).mono ?_
      rw [P.out]
      rintro e w' ⟨rfl, hb2⟩
      have hB2 := hB1.trans (hb2.mono hB1.size)
      go_wp2_with fail
      refine (localNames_any q _).mono ?_
      rw [HQ.out, HL.out]
      rintro e w3 ⟨v, rfl, ho, hb3⟩
      have hB3 := hB2.trans (hb3.mono hB2.size)
      obtain ⟨a, cap, rfl, hform⟩ := ho.rd.form
      have HO := hid ho
      have HF := hid hform
      clear ho hform hb hb1 hb2 hb3 hB1 hB2
      go_wp2_with fail
      refine (localName_any N q _).mono ?_
      rw [F1.out]
      rintro e w' ⟨rfl, hb4⟩
      have HB4 := hid (hB3.trans (hb4.mono hB3.size))
      have HO4 := hid (HO.out.keep HO.out.lt hb4)
      have HK4 : Hid (∀ wr : World, Below w'.heap.size w' wr → Owns wr w'.heap.size (.slice a L.length cap) L ∨ True) := hid (fun _ _ => .inr trivial)
      rename World => w4
      clear HK4
      clear hB3 hb4 HF
      obtain ⟨a', cap', e', hform⟩ := HO4.out.rd.form
      cases e'
      have HF := hid hform
      clear hform
      go_wp2_with fail
      go_loopw [13] (fun si wr => ∃ K : Nat, si = .int .i64 K ∧ K ≤ L.length ∧ Below w4.heap.size w4 wr) (fun si _ => L.length - (intOf si).toNat)
      case atStart => exact ⟨0, rfl, by omega, Below.refl _ _⟩
      case round =>
        obtain ⟨K, rfl, hK, hBr⟩ := hrel
        rename World => wr
        have hs4 := HB4.out.size
        by_cases hlt : K < L.length
        · obtain ⟨b, o, rfl, hml, hc⟩ := HF.out (by omega)
          have HX : Hid (∀ wx : World, Below w4.heap.size w4 wx → wx.cell? ⟨b, o + K, none⟩ = some (.int .i64 (L.getD K 0))) := hid (fun wx hbx => by
            rw [hbx.cell (p := ⟨b, o + K, none⟩) (HO4.out.lt b rfl)]; exact hc K hlt)
          have hsm := HLOOP.out K hlt
          obtain ⟨m, hm⟩ : ∃ m, m = L.getD K 0 := ⟨_, rfl⟩
          rw [← hm] at hsm
          have c1 := HX.out _ hBr
          rw [← hm] at c1
          have HM := hid hm
          have HSM := hid hsm
          have hi : (K : Int) < (L.length : Int) := by omega
          unfold maxLen at hml
          clear hc hm hsm hlt
          by_cases e : m = N
          · have T : (m == N) = true := by rw [beq_iff_eq]; exact e
            have HS2 : Hid (lsameV n m q = true) := hid (by rw [HSM.out, decide_eq_true e])
            clear e
            go_wp2_with fail
            go_region_held3 (fun wx => Below w4.heap.size w4 wx ∧ wx.cell? ⟨b, o + K, none⟩ = some (.int .i64 m)) (first | exact ⟨hb2.out, c2⟩ | exact ⟨hBr.drew, c1⟩)
              (first | (go_at_call 24; refine (localSame_any _ _ _ _).mono ?_; rw [HS2.out]; rintro e w' ⟨rfl, hbq⟩; have hb2 := hid (hBr.trans ((below_of_drew hbq).mono hBr.size)); have c2 := HX.out _ hb2.out; rw [← HM.out] at c2))
            go_wp2
            go_round
            case measure => simp only [intOf]; omega
            case rel => exact ⟨K + 1, by go_num, by omega, hb2.out⟩
          · have T : (m == N) = false := by rw [beq_eq_false_iff_ne]; exact e
            have HS2 : Hid (lsameV n m q = false) := hid (by rw [HSM.out, decide_eq_false e])
            clear e
            go_wp2_with fail
            go_region_held3 (fun wx => Below w4.heap.size w4 wx ∧ wx.cell? ⟨b, o + K, none⟩ = some (.int .i64 m)) (first | exact ⟨hb2.out, c2⟩ | exact ⟨hBr.drew, c1⟩)
              (first | (go_at_call 24; refine (localSame_any _ _ _ _).mono ?_; rw [HS2.out]; rintro e w' ⟨rfl, hbq⟩; have hb2 := hid (hBr.trans ((below_of_drew hbq).mono hBr.size)); have c2 := HX.out _ hb2.out; rw [← HM.out] at c2))
            go_wp2
            go_round
            case measure => simp only [intOf]; omega
            case rel => exact ⟨K + 1, by go_num, by omega, hb2.out⟩
        · obtain rfl : K = L.length := by omega
          have HRD := hid ((HO4.out.keep HO4.out.lt hBr).rd)
          clear hlt
          go_wp2_with (go_at_call 25; refine (hasInt_any _ _ _ _ HRD.out).mono ?_; rw [HMEM.out]; rintro e w' ⟨rfl, rfl⟩)
          go_ret
          exact ⟨rfl, HB4.out.trans (hBr.mono hs4)⟩
theorem own : ownKnob Try.prog.godebug = none := by kernel_rfl
theorem laidOut : laidOutB Try.prog = true := by kernel_rfl
set_option maxRecDepth 100000 in
theorem lifted (os : Os) (started : os.Started) (H : Type) (enc : TypeId × Value → H) :
    ReturnsInHanded {} Try.checked os 4 .any (Rows.fnNameSpec.pre6 enc Try.prog Try.f4 Rows.fnNameRow.domain false) (Rows.fnNameSpec.post enc Try.prog Try.f4 false true false false) := by
  refine returnsInHanded_of_change (C := Try.checked) own started (by kernel_rfl) Try.func4
    (ChangeSpec.witness6 (enc := enc) (C := Try.checked) false ⟨#[], #[.slice none 0 0], []⟩ 8 (by kernel_rfl) (by kernel_rfl) (by kernel_rfl) (by kernel_rfl)) ?_
  intro W base args ds gs before hval0 hW hcnd _
  have hval : ∀ (j : Nat) t v, Try.f4.params[j]? = some t → args[j]? = some v → Value.okWide Try.prog W .any base t v := hval0
  have hW' := hW
  obtain ⟨p, q, hA0, hV, rfl, hfz, hnd⟩ := hW
  have hA : DataW.TrodAll enc Try.prog W 0 (fun _ => true) true Try.f4.params.toList args.toList ds p := hA0
  rw [Try.params4] at hA hval
  obtain ⟨v0, vs0, d0, ds0, p0, q0, hargs, rfl, rfl, h0, r0⟩ := trodAll_cons hA
  obtain ⟨rfl, rfl, rfl⟩ := trodAll_nil r0
  obtain rfl : args = #[v0] := by cases args; simp_all
  obtain ⟨rfl, rfl⟩ := trodVars_none hV
  obtain ⟨a0, len0, cap0, rfl⟩ := okWide_slice Try.underlying22 (hval 0 22 v0 rfl rfl)
  have k0 := h0
  have lt0 : ∀ x ∈ p0, x.block < W.heap.size := by obtain ⟨m, hm⟩ := k0; exact DataW.trod_lt m _ _ _ hm
  obtain ⟨z0, w0⟩ : ∃ zs, IsRow .u8 W a0 len0 cap0 zs := by
    obtain ⟨fuel, hf⟩ := h0
    rcases open_ints Try.underlying22 Try.underlying5 (by kernel_rfl) hf with ⟨hcs, _⟩ | ⟨x, l, c, zs, hcs, _, hl, hm, hz, _, hcell, hwz⟩
    · simp [Value.cells] at hcs
      obtain ⟨rfl, rfl, rfl⟩ := hcs
      exact ⟨[], .inl ⟨rfl, rfl, rfl, rfl⟩⟩
    · simp [Value.cells] at hcs
      obtain ⟨rfl, rfl, rfl⟩ := hcs
      exact ⟨zs, .inr ⟨_, rfl, hl, hm, by simpa using hz, hcell, hwz⟩⟩
  clear hA0 hval0
  refine (walk a0 len0 cap0 z0 W w0).mono fun e W' ⟨he, bel⟩ => ?_
  subst he
  exact ⟨_, rfl, _, _, _, [], _, [], hW', trodAll_mk1 (shut_bool Try.underlying4 _), (trodAll_cons_mk (Below.trod laidOut (by kernel_rfl) (of_decide_eq_true (by kernel_rfl)) k0 bel lt0) trodAll_mk0), rfl, bel.frame _, fun h => by cases h⟩
theorem over : Rows.fnNameRow.holds Try.pinned (OpenSpec.ofChange Rows.fnNameSpec) :=
  OpenClaim.holds_of_wide 4 Try.f4 rfl rfl rfl rfl rfl rfl rfl ⟨rfl, rfl, rfl, rfl, rfl⟩ rfl rfl rfl rfl rfl (by kernel_rfl) Try.func4 (by kernel_rfl)
    (of_decide_eq_true (by kernel_rfl)) (by unfold Func.isWrapper; first | (rw [if_pos (by decide +kernel)]; kernel_rfl) | (rw [if_neg (by decide +kernel)]; exact ⟨rfl, rfl⟩))
    (fun os started H enc _ => lifted os started H enc)
theorem proved : Rows.FnNameSaid := over
end Go.Proofs.Ytamdjgcnjgiflaa.fnName
