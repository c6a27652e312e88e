/-
  Proves: for every two codes: what is added to both forms can be taken away.
  Conditions: none beyond the given statement's own.
-/
import Derived.Test.YtciajpimpjpnfaaRows
import Derived.Test.YtciajpimpjpnfaaBun26
import Derived.Test.YtciajpimpjpnfaaImp4G
import Derived.Test.YtciajpimpjpnfaaImp4H
import Derived.ProofKit
import Derived.OpenShut
import Derived.ShutString
import Derived.ChangeOld
namespace Go.Proofs.Ytciajpimpjpnfaa.fnCancel
open Go.ChangeShapes Go.WideShapes Go.ChangeAt Go.RowKit
open Go.ChangeMaps (open_string shut_string)
set_option linter.unusedVariables false
set_option maxRecDepth 100000 in
set_option maxHeartbeats 4000000 in
theorem walk  (a0 : Option Addr) (len0 cap0 : Nat) (z0 : List Int) (a1 : Option Addr) (len1 cap1 : Nat) (z1 : List Int) (w : World) (w0 : IsRow .u8 w a0 len0 cap0 z0) (w1 : IsRow .u8 w a1 len1 cap1 z1) :
    Calls Try.prog 13 #[.slice a0 len0 cap0, .slice a1 len1 cap1] w fun e w' => e = .returned (.bool true) ∧ Below w.heap.size w w' := by
  have HC := hid (codeIn_of w0)
  clear w0 w1
  by_cases hl : (1048576 : Int) < (len0 : Int)
  · go_enter Try.func13, Try.ntmps13
    go_wp2
    go_ret
    exact ⟨rfl, Below.refl _ _⟩
  by_cases hl1 : (1048576 : Int) < (len1 : Int)
  · go_enter Try.func13, Try.ntmps13
    go_wp2
    go_ret
    exact ⟨rfl, Below.refl _ _⟩
  · go_enter Try.func13, Try.ntmps13
    go_wp2_with fail
    refine (drawFormSame_any _ len0 _ HC.out).mono ?_
    rintro e w1 ⟨u, v, xs, ys, rfl, ⟨HT, HT2⟩, HO, HR, hfv, hb⟩
    have hxl := HT.1
    have hyl := HT2.1
    have hfu := HO.out.firm
    have HRX := hid HO.out.rd
    have HFU := hid hfu
    have HFV := hid hfv
    have HBa := hid hb
    obtain ⟨S, hS⟩ : ∃ S, S = fsameV xs ys := ⟨_, rfl⟩
    have HS := hid hS.symm
    obtain ⟨t, ht⟩ : ∃ t : Nat, t = 1 + len1 % 15 := ⟨_, rfl⟩
    have ht1 : 1 ≤ t := by omega
    have ht2 : t ≤ 15 := by omega
    have hte : 1 + (len1 : Int) % 15 = (t : Int) := by rw [ht]; push_cast; rfl
    clear hfu hfv HO hb hS ht
    go_wp2_with fail
    refine (formSame_any u v xs ys _ HRX.out HR.out (by omega) (by omega)).mono ?_
    rw [HS.out]
    rintro e w2 ⟨rfl, hb2⟩
    have HB2 := hid (HBa.out.trans (hb2.mono HBa.out.size))
    have HX2 := hid (HRX.out.keep hb2)
    have HY2 := hid (HR.out.keep hb2)
    clear hb2
    go_wp2_with fail
    refine (formSameS_any u v xs ys _ HX2.out HY2.out).mono ?_
    rw [HS.out]
    rintro e w3 ⟨rfl, hb3⟩
    have HB3 := hid (HB2.out.trans (hb3.mono HB2.out.size))
    have HX3 := hid (HX2.out.keep hb3)
    have HY3 := hid (HY2.out.keep hb3)
    clear hb3
    have HA3 := hid ((Below.refl w3.heap.size w3).alloc (Nat.le_refl _) (.cells #[.int .i64 (t : Int)] 3))
    have HX3a := hid (HX3.out.keep HA3.out)
    have HY3a := hid (HY3.out.keep HA3.out)
    have HT3 := hid (rd_one (t : Int) (show (w3.alloc (.cells #[.int .i64 (t : Int)] 3)).cell? ⟨w3.heap.size, 0, none⟩ = some (.int .i64 (t : Int)) by rw [Go.cell_of_row _ _ _ _ _ _ (World.alloc_heap_new w3 _)]; rfl))
    go_wp2_with fail
    refine (formJoin_any u _ xs [(t : Int)] _ HFU.out (.inr ⟨_, _, _, rfl⟩) HX3a.out HT3.out (by omega) (by simp)).mono ?_
    rintro e w4 ⟨o1, rfl, hO1, hb4⟩
    have HB4 := hid ((HB3.out.alloc HB3.out.size (.cells #[.int .i64 (t : Int)] 3)).trans (hb4.mono (by simp; have := HB3.out.size; omega)))
    have HY4 := hid (HY3a.out.keep hb4)
    have HO1 := hid hO1
    clear hb4 hO1
    have HA4 := hid ((Below.refl w4.heap.size w4).alloc (Nat.le_refl _) (.cells #[.int .i64 (t : Int)] 3))
    have HY4a := hid (HY4.out.keep HA4.out)
    have HO1a := hid (HO1.out.keep HO1.out.lt HA4.out)
    have HT4 := hid (rd_one (t : Int) (show (w4.alloc (.cells #[.int .i64 (t : Int)] 3)).cell? ⟨w4.heap.size, 0, none⟩ = some (.int .i64 (t : Int)) by rw [Go.cell_of_row _ _ _ _ _ _ (World.alloc_heap_new w4 _)]; rfl))
    go_wp2_with fail
    refine (formJoin_any v _ ys [(t : Int)] _ HFV.out (.inr ⟨_, _, _, rfl⟩) HY4a.out HT4.out (by omega) (by simp)).mono ?_
    rintro e w5 ⟨o2, rfl, hO2, hb5⟩
    have HB5 := hid ((HB4.out.alloc HB4.out.size (.cells #[.int .i64 (t : Int)] 3)).trans (hb5.mono (by simp; have := HB4.out.size; omega)))
    have HO5 := hid (HO1a.out.keep HO1a.out.lt hb5)
    have HO2 := hid hO2
    clear hb5 hO2
    cases hj : joinOk xs [(t : Int)] with
    | false =>
      go_wp2
      go_ret
      exact ⟨rfl, HB5.out⟩
    | true =>
      cases hk : joinOk ys [(t : Int)] with
      | false =>
        go_wp2
        go_ret
        exact ⟨rfl, HB5.out⟩
      | true =>
        have HJ := hid (join_yes hj)
        have HK := hid (join_yes hk)
        have HE : Hid (fsameV (joinL xs [(t : Int)]) (joinL ys [(t : Int)]) = S) := hid (by
          rw [HJ.out.2.2.2, HK.out.2.2.2, cancel HJ.out.1 HK.out.1 HJ.out.2.2.1 HK.out.2.2.1, HS.out])
        have HL1 : Hid ((joinL xs [(t : Int)]).length ≤ 1048576) := hid (Nat.le_trans (join_len _ _) (by omega))
        have HL2 : Hid ((joinL ys [(t : Int)]).length ≤ 1048576) := hid (Nat.le_trans (join_len _ _) (by omega))
        clear hj hk
        go_wp2_with fail
        refine (formSame_any o1 o2 _ _ _ HO5.out.rd HO2.out.rd HL1.out HL2.out).mono ?_
        rw [HE.out]
        rintro e w6 ⟨rfl, hb6⟩
        go_wp2
        go_ret
        exact ⟨retB (by simp), HB5.out.trans (hb6.mono HB5.out.size)⟩
theorem own : ownKnob Try.prog.godebug = none := by kernel_rfl
theorem laidOut : laidOutB Try.prog = true := by kernel_rfl
set_option maxRecDepth 100000 in
theorem lifted (os : Os) (started : os.Started) (H : Type) (enc : TypeId × Value → H) :
    ReturnsInHanded {} Try.checked os 13 .any (Rows.fnCancelSpec.pre6 enc Try.prog Try.f13 Rows.fnCancelRow.domain false) (Rows.fnCancelSpec.post enc Try.prog Try.f13 false true false false) := by
  refine returnsInHanded_of_change (C := Try.checked) own started (by kernel_rfl) Try.func13
    (ChangeSpec.witness6 (enc := enc) (C := Try.checked) false ⟨#[], #[.slice none 0 0, .slice none 0 0], []⟩ 8 (by kernel_rfl) (by kernel_rfl) (by kernel_rfl) (by kernel_rfl)) ?_
  intro W base args ds gs before hval0 hW hcnd _
  have hval : ∀ (j : Nat) t v, Try.f13.params[j]? = some t → args[j]? = some v → Value.okWide Try.prog W .any base t v := hval0
  have hW' := hW
  obtain ⟨p, q, hA0, hV, rfl, hfz, hnd⟩ := hW
  have hA : DataW.TrodAll enc Try.prog W 0 (fun _ => true) true Try.f13.params.toList args.toList ds p := hA0
  rw [Try.params13] at hA hval
  obtain ⟨v0, vs0, d0, ds0, p0, q0, hargs, rfl, rfl, h0, r0⟩ := trodAll_cons hA
  obtain ⟨v1, vs1, d1, ds1, p1, q1, rfl, rfl, rfl, h1, r1⟩ := trodAll_cons r0
  obtain ⟨rfl, rfl, rfl⟩ := trodAll_nil r1
  obtain rfl : args = #[v0, v1] := by cases args; simp_all
  obtain ⟨rfl, rfl⟩ := trodVars_none hV
  obtain ⟨a0, len0, cap0, rfl⟩ := okWide_slice Try.underlying22 (hval 0 22 v0 rfl rfl)
  have k0 := h0
  have lt0 : ∀ x ∈ p0, x.block < W.heap.size := by obtain ⟨m, hm⟩ := k0; exact DataW.trod_lt m _ _ _ hm
  obtain ⟨z0, w0⟩ : ∃ zs, IsRow .u8 W a0 len0 cap0 zs := by
    obtain ⟨fuel, hf⟩ := h0
    rcases open_ints Try.underlying22 Try.underlying5 (by kernel_rfl) hf with ⟨hcs, _⟩ | ⟨x, l, c, zs, hcs, _, hl, hm, hz, _, hcell, hwz⟩
    · simp [Value.cells] at hcs
      obtain ⟨rfl, rfl, rfl⟩ := hcs
      exact ⟨[], .inl ⟨rfl, rfl, rfl, rfl⟩⟩
    · simp [Value.cells] at hcs
      obtain ⟨rfl, rfl, rfl⟩ := hcs
      exact ⟨zs, .inr ⟨_, rfl, hl, hm, by simpa using hz, hcell, hwz⟩⟩
  obtain ⟨a1, len1, cap1, rfl⟩ := okWide_slice Try.underlying22 (hval 1 22 v1 rfl rfl)
  have k1 := h1
  have lt1 : ∀ x ∈ p1, x.block < W.heap.size := by obtain ⟨m, hm⟩ := k1; exact DataW.trod_lt m _ _ _ hm
  obtain ⟨z1, w1⟩ : ∃ zs, IsRow .u8 W a1 len1 cap1 zs := by
    obtain ⟨fuel, hf⟩ := h1
    rcases open_ints Try.underlying22 Try.underlying5 (by kernel_rfl) hf with ⟨hcs, _⟩ | ⟨x, l, c, zs, hcs, _, hl, hm, hz, _, hcell, hwz⟩
    · simp [Value.cells] at hcs
      obtain ⟨rfl, rfl, rfl⟩ := hcs
      exact ⟨[], .inl ⟨rfl, rfl, rfl, rfl⟩⟩
    · simp [Value.cells] at hcs
      obtain ⟨rfl, rfl, rfl⟩ := hcs
      exact ⟨zs, .inr ⟨_, rfl, hl, hm, by simpa using hz, hcell, hwz⟩⟩
  clear hA0 hval0
  refine (walk a0 len0 cap0 z0 a1 len1 cap1 z1 W w0 w1).mono fun e W' ⟨he, bel⟩ => ?_
  subst he
  exact ⟨_, rfl, _, _, _, [], _, [], hW', trodAll_mk1 (shut_bool Try.underlying4 _), (trodAll_cons_mk (Below.trod laidOut (by kernel_rfl) (of_decide_eq_true (by kernel_rfl)) k0 bel lt0) (trodAll_cons_mk (Below.trod laidOut (by kernel_rfl) (of_decide_eq_true (by kernel_rfl)) k1 bel lt1) trodAll_mk0)), rfl, bel.frame _, fun h => by cases h⟩
theorem over : Rows.fnCancelRow.holds Try.pinned (OpenSpec.ofChange Rows.fnCancelSpec) :=
  OpenClaim.holds_of_wide 13 Try.f13 rfl rfl rfl rfl rfl rfl rfl ⟨rfl, rfl, rfl, rfl, rfl⟩ rfl rfl rfl rfl rfl (by kernel_rfl) Try.func13 (by kernel_rfl)
    (of_decide_eq_true (by kernel_rfl)) (by unfold Func.isWrapper; first | (rw [if_pos (by decide +kernel)]; kernel_rfl) | (rw [if_neg (by decide +kernel)]; exact ⟨rfl, rfl⟩))
    (fun os started H enc _ => lifted os started H enc)
theorem proved : Rows.FnCancelSaid := over
end Go.Proofs.Ytciajpimpjpnfaa.fnCancel
