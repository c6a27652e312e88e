/-
  Proves: for every code: values grow by squares, and know neither signs nor the order of terms.
  Conditions: none beyond the given statement's own.
-/
import Derived.Test.YtciajpimpjpnfaaRows
import Derived.Test.YtciajpimpjpnfaaBun26
import Derived.Test.YtciajpimpjpnfaaImp4D
import Derived.ProofKit
import Derived.OpenShut
import Derived.ShutString
import Derived.ChangeOld
namespace Go.Proofs.Ytciajpimpjpnfaa.fnFormValue
open Go.ChangeShapes Go.WideShapes Go.ChangeAt Go.RowKit
open Go.ChangeMaps (open_string shut_string)
set_option linter.unusedVariables false
theorem vec_iff {xs vs : List Int} : vecB xs vs 1000 = true ↔ (∀ v ∈ vs, -1000 ≤ v ∧ v ≤ 1000) ∧ fvB xs = true ∧ vs.length = xs.length := by
  unfold vecB
  rw [Bool.and_eq_true, Bool.and_eq_true, List.all_eq_true, beq_iff_eq]
  constructor
  · rintro ⟨h1, h2, h3⟩
    refine ⟨fun v hv => ?_, h2, h3⟩
    have := h1 v hv
    unfold inR at this
    rw [Bool.and_eq_true, decide_eq_true_eq, decide_eq_true_eq] at this
    exact this
  · rintro ⟨h1, h2, h3⟩
    refine ⟨fun v hv => ?_, h2, h3⟩
    have := h1 v hv
    unfold inR
    rw [decide_eq_true this.1, decide_eq_true this.2]
    rfl
theorem val_map {xs vs : List Int} {f : Int → Int} {c : Int} (h0 : f 0 = 0) (hf : ∀ v, f v * f v = c * (v * v)) : ∀ i, valI xs (vs.map f) i = c * valI xs vs i
  | 0 => by simp [valI]
  | i + 1 => by
    unfold valI
    rw [val_map h0 hf i]
    have e : (vs.map f).getD i 0 = f (vs.getD i 0) := by
      rw [List.getD_eq_getElem?_getD, List.getD_eq_getElem?_getD, List.getElem?_map]
      cases vs[i]? <;> simp [h0]
    rw [e, Int.mul_assoc, hf, Int.mul_add]
    congr 1
    simp only [Int.mul_assoc, Int.mul_left_comm]
theorem val_cons (x v : Int) (xs vs : List Int) : ∀ i, valI (x :: xs) (v :: vs) (i + 1) = x * v * v + valI xs vs i
  | 0 => by simp [valI]
  | i + 1 => by
    have ih := val_cons x v xs vs i
    show valI (x :: xs) (v :: vs) (i + 1) + (x :: xs).getD (i + 1) 0 * (v :: vs).getD (i + 1) 0 * (v :: vs).getD (i + 1) 0 = x * v * v + (valI xs vs i + xs.getD i 0 * vs.getD i 0 * vs.getD i 0)
    rw [ih]
    simp only [List.getD_cons_succ]
    omega
theorem val_take {xs vs a b : List Int} : ∀ i, i ≤ xs.length → i ≤ vs.length → valI (xs ++ a) (vs ++ b) i = valI xs vs i
  | 0, _, _ => rfl
  | i + 1, h, k => by
    unfold valI
    rw [val_take i (by omega) (by omega)]
    have e1 : (xs ++ a).getD i 0 = xs.getD i 0 := by rw [List.getD_eq_getElem?_getD, List.getD_eq_getElem?_getD, List.getElem?_append_left (by omega)]
    have e2 : (vs ++ b).getD i 0 = vs.getD i 0 := by rw [List.getD_eq_getElem?_getD, List.getD_eq_getElem?_getD, List.getElem?_append_left (by omega)]
    rw [e1, e2]
theorem val_back : ∀ (xs vs : List Int), vs.length = xs.length → valI xs.reverse vs.reverse xs.length = valI xs vs xs.length
  | [], [], _ => rfl
  | [], _ :: _, h => by simp at h
  | _ :: _, [], h => by simp at h
  | x :: xs, v :: vs, h => by
    have hl : vs.length = xs.length := by simpa using h
    rw [List.length_cons, val_cons, List.reverse_cons, List.reverse_cons]
    show valI (xs.reverse ++ [x]) (vs.reverse ++ [v]) xs.length + (xs.reverse ++ [x]).getD xs.length 0 * (vs.reverse ++ [v]).getD xs.length 0 * (vs.reverse ++ [v]).getD xs.length 0 = _
    rw [val_take _ (by rw [List.length_reverse]; exact Nat.le_refl _) (by rw [List.length_reverse]; omega), val_back xs vs hl]
    have e1 : (xs.reverse ++ [x]).getD xs.length 0 = x := by
      rw [List.getD_eq_getElem?_getD, List.getElem?_append_right (by rw [List.length_reverse]; exact Nat.le_refl _), List.length_reverse, Nat.sub_self]
      rfl
    have e2 : (vs.reverse ++ [v]).getD xs.length 0 = v := by
      rw [List.getD_eq_getElem?_getD, List.getElem?_append_right (by rw [List.length_reverse]; omega), List.length_reverse, hl, Nat.sub_self]
      rfl
    rw [e1, e2]
    omega
theorem fval_neg {xs vs : List Int} (h : vecB xs vs 1000 = true) : fvalV xs (vs.map (fun x => -x)) = .tuple #[.int .i64 (valI xs vs xs.length), .bool true] := by
  obtain ⟨h1, h2, h3⟩ := vec_iff.1 h
  have hv : vecB xs (vs.map (fun x => -x)) 1000 = true := vec_iff.2 ⟨fun v hv => by
    obtain ⟨y, hy, rfl⟩ := List.mem_map.1 hv
    have := h1 y hy
    omega, h2, by rw [List.length_map]; exact h3⟩
  unfold fvalV
  rw [hv, if_pos rfl, val_map (c := 1) (f := fun x => -x) rfl (fun v => by rw [Int.neg_mul_neg, Int.one_mul]), Int.one_mul]
theorem fval_back {xs vs : List Int} (h : vecB xs vs 1000 = true) : fvalV xs.reverse vs.reverse = .tuple #[.int .i64 (valI xs vs xs.length), .bool true] := by
  obtain ⟨h1, h2, h3⟩ := vec_iff.1 h
  have hv : vecB xs.reverse vs.reverse 1000 = true := vec_iff.2 ⟨fun v hv => h1 v (List.mem_reverse.1 hv), fv_perm (List.reverse_perm xs).symm h2, by rw [List.length_reverse, List.length_reverse]; exact h3⟩
  unfold fvalV
  rw [hv, if_pos rfl, List.length_reverse, val_back xs vs h3]
theorem fval_twice {xs vs : List Int} : (fvalV xs (vs.map (fun x => 2 * x)) = .tuple #[.int .i64 0, .bool false]) ∨ fvalV xs (vs.map (fun x => 2 * x)) = .tuple #[.int .i64 (4 * valI xs vs xs.length), .bool true] := by
  unfold fvalV
  split
  · right
    rw [val_map (c := 4) (f := fun x => 2 * x) rfl (fun v => by rw [Int.mul_assoc, Int.mul_left_comm v 2 v, ← Int.mul_assoc 2 2]; rfl)]
  · left; rfl
theorem fval_bd {xs vs : List Int} (h : vecB xs vs 1000 = true) : -120000000 ≤ valI xs vs xs.length ∧ valI xs vs xs.length ≤ 120000000 := by
  obtain ⟨h1, h2, h3⟩ := vec_iff.1 h
  have := valI_bd h2 h1 h3 xs.length (Nat.le_refl _)
  have := (fvB_iff.1 h2).2.2
  omega
set_option maxRecDepth 100000 in
set_option maxHeartbeats 4000000 in
theorem walk  (a0 : Option Addr) (len0 cap0 : Nat) (z0 : List Int) (w : World) (w0 : IsRow .u8 w a0 len0 cap0 z0) :
    Calls Try.prog 4 #[.slice a0 len0 cap0] w fun e w' => e = .returned (.bool true) ∧ Below w.heap.size w w' := by
  have HC := hid (codeIn_of w0)
  clear w0
  by_cases hl0 : (1048576 : Int) < (len0 : Int)
  · go_enter Try.func4, Try.ntmps4
    go_wp2
    go_ret
    exact ⟨rfl, Below.refl _ _⟩
  · go_enter Try.func4, Try.ntmps4
    go_wp2_with fail
    refine (drawFormValue_any _ len0 _ HC.out).mono ?_
    rintro e d1 ⟨u, v, xs, vs, rfl, ⟨HT, HT2⟩, HXo, HYr, hfv, hb0⟩
    have HB1 := hid hb0
    clear hb0
    have hxl := HT.1
    have hyl := HT2.1
    have HM := hid HT.mild
    have HM2 := hid (HT2.mild (by omega))
    clear hfv HT HT2
    cases hv : vecB xs vs 1000 with
    | false =>
      have HV : Hid (fvalV xs vs = .tuple #[.int .i64 0, .bool false]) := hid (by unfold fvalV; rw [hv]; rfl)
      clear hv
      go_wp2_with fail
      refine (formValue_any u v xs vs _ HXo.out.rd HYr.out (by omega) (by omega)).mono ?_
      rw [HV.out]
      rintro e d2 ⟨rfl, hb2⟩
      have HB2 := hid (HB1.out.trans (hb2.mono HB1.out.size))
      have X_2 := hid (HXo.out.keep HXo.out.lt hb2)
      have Y_2 := hid (HYr.out.keep hb2)
      clear hb2
      go_wp2_with fail
      refine (formValueS_any u v xs vs _ X_2.out.rd Y_2.out).mono ?_
      rw [HV.out]
      rintro e d3 ⟨rfl, k3, hw3⟩
      have hb3 : Below d2.heap.size d2 d3 := by rw [hw3]; exact below_dn (Below.refl _ _)
      have HB3 := hid (HB2.out.trans (hb3.mono HB2.out.size))
      have X_3 := hid (X_2.out.keep X_2.out.lt hb3)
      have Y_3 := hid (Y_2.out.keep hb3)
      clear hw3 hb3
      go_wp2
      go_ret
      exact ⟨rfl, HB3.out⟩
    | true =>
      have HV : Hid (fvalV xs vs = .tuple #[.int .i64 (valI xs vs xs.length), .bool true]) := hid (by unfold fvalV; rw [hv]; rfl)
      have HNG := hid (fval_neg hv)
      have HBK := hid (fval_back hv)
      have HTW := hid (@fval_twice xs vs)
      have hbd := fval_bd hv
      have HLE := hid (vec_iff.1 hv).2.2
      obtain ⟨t, ht⟩ : ∃ t, t = valI xs vs xs.length := ⟨_, rfl⟩
      rw [← ht] at HV HNG HBK HTW hbd
      have hbd1 := hbd.1
      have hbd2 := hbd.2
      clear hv ht hbd
      go_wp2_with fail
      refine (formValue_any u v xs vs _ HXo.out.rd HYr.out (by omega) (by omega)).mono ?_
      rw [HV.out]
      rintro e d2 ⟨rfl, hb2⟩
      have HB2 := hid (HB1.out.trans (hb2.mono HB1.out.size))
      have X_2 := hid (HXo.out.keep HXo.out.lt hb2)
      have Y_2 := hid (HYr.out.keep hb2)
      clear hb2
      go_wp2_with fail
      refine (formValueS_any u v xs vs _ X_2.out.rd Y_2.out).mono ?_
      rw [HV.out]
      rintro e d3 ⟨rfl, k3, hw3⟩
      have hb3 : Below d2.heap.size d2 d3 := by rw [hw3]; exact below_dn (Below.refl _ _)
      have HB3 := hid (HB2.out.trans (hb3.mono HB2.out.size))
      have X_3 := hid (X_2.out.keep X_2.out.lt hb3)
      have Y_3 := hid (Y_2.out.keep hb3)
      clear hw3 hb3
      obtain ⟨va, vcap, rfl, _⟩ := (Y_3.out).form
      obtain ⟨i0, hi, hz0, hz1, hz2⟩ := info_parts infoInt
      have HYK : Hid (∀ wx : World, Below d3.heap.size d3 wx → Rd wx (.slice va vs.length vcap) vs) := hid (fun wx hbx => Y_3.out.keep hbx)
      have HB0 := hid ((Below.refl d3.heap.size d3).alloc (Nat.le_refl _) (.cells #[] 3))
      have HO0 : Hid (Owns (d3.alloc (.cells #[] 3)) d3.heap.size (.slice (some ⟨d3.heap.size, 0, none⟩) 0 0) []) := hid (World.ownsRow_made (size := 1) d3 #[] 0 (Nat.le_refl _) (by unfold maxLen; omega) rfl)
      go_wp2_with fail
      go_loopw [9, 10] (fun so si wr => ∃ K : Nat, si = .int .i64 K ∧ K ≤ vs.length ∧ Hid (Owns wr d3.heap.size so ((vs.take K).map (fun x => 2 * x))) ∧ Hid (Below d3.heap.size d3 wr)) (fun _ si _ => vs.length - (intOf si).toNat)
      case atStart => exact ⟨0, rfl, by omega, hid (by simpa using HO0.out), HB0⟩
      case round =>
        obtain ⟨K, rfl, hK, HO, HL⟩ := hrel
        rename World => wr
        have hbs : d3.heap.size ≤ wr.heap.size := HL.out.size
        by_cases hlt : K < vs.length
        · obtain ⟨a2, cap2, e2, hform⟩ := (HYK.out wr HL.out).form
          cases e2
          obtain ⟨bb, o, rfl, hml, hc⟩ := hform (by omega)
          have hcell := hc K hlt
          have ht := HM2.out.at hlt
          obtain ⟨x, hx⟩ : ∃ x, x = vs.getD K 0 := ⟨_, rfl⟩
          rw [← hx] at hcell ht
          have HS : Hid ((vs.take (K + 1)).map (fun x => 2 * x) = (vs.take K).map (fun x => 2 * x) ++ [2 * x]) := hid (by rw [map_take hlt, hx])
          have hi0 : (K : Int) < (vs.length : Int) := by omega
          have HLT := hid hlt
          obtain ⟨pre, hpre⟩ : ∃ pre, pre = (vs.take K).map (fun x => 2 * x) := ⟨_, rfl⟩
          have hprel : pre.length ≤ 1000 := by rw [hpre, List.length_map, List.length_take]; omega
          rw [← hpre] at HO HS
          unfold maxLen at hml
          clear hform hc hx hlt hpre
          go_wp2_with (at_builtin; refine wpList_append_own_at _ rfl _ _ 25 rfl d3.heap.size 3 i0 (.int .i64 0) 1 8 Try.underlying25 hi hz0 hz1 hz2 rfl (by decide) _ _ _ rfl ((show World.ownsRow _ _ _ _ _ _ _ from HO.out).alloc _) ⟨wr.heap.size, 0, none⟩ 1 1 [.int .i64 (2 * x)] rfl rfl (cell_one_new _ _ _) (by simp [Value.oneCell']) (by unfold maxLen; omega) (by omega) (by simp; omega) ?_; intro v' w3 hown' hgrow _ hat)
          have hsg := hgrow.size
          simp only [World.size_alloc] at hsg
          go_roundw
          case measure => simp only [intOf]; have := HLT.out; omega
          case rel =>
            refine ⟨K + 1, by go_num, by have := HLT.out; omega, hid ?_, hid (HL.out.alloc hbs _ |>.grown hgrow (by simp; omega) (fun k e => (HO.out.ge k e)))⟩
            rw [HS.out]
            unfold Owns
            simpa using hown'
        · have hKL : K = vs.length := by omega
          rw [hKL, List.take_length] at HO
          have HB4 := hid (HB3.out.trans (HL.out.mono HB3.out.size))
          have X_4 := hid (X_3.out.keep X_3.out.lt HL.out)
          have Y_4 := hid (Y_3.out.keep HL.out)
          clear hlt
          obtain ⟨p, x, hpx, hpq⟩ : ∃ (p : Bool) (x : Int), fvalV xs (vs.map (fun x => 2 * x)) = .tuple #[.int .i64 x, .bool p] ∧ (p = true → x = 4 * t) := by
            rcases HTW.out with h | h
            · exact ⟨false, 0, h, fun h => by cases h⟩
            · exact ⟨true, _, h, fun _ => rfl⟩
          have HPX := hid hpx
          have HPQ := hid hpq
          clear hpx hpq HTW
          go_wp2_with fail
          refine (formValue_any u _ xs _ _ X_4.out.rd HO.out.rd (by omega) (by rw [List.length_map]; omega)).mono ?_
          rw [HPX.out]
          rintro e d5 ⟨rfl, hb5⟩
          have HB5 := hid (HB4.out.trans (hb5.mono HB4.out.size))
          have X_5 := hid (X_4.out.keep X_4.out.lt hb5)
          have Y_5 := hid (Y_4.out.keep hb5)
          have TW_5 := hid (HO.out.keep HO.out.lt hb5)
          clear hb5
          go_wp2_with fail
          refine (minusOf_any _ vs _ Y_5.out HM2.out).mono ?_
          rintro e d6 ⟨N_o, rfl, hO6, hb6⟩
          have HB6 := hid (HB5.out.trans (hb6.mono HB5.out.size))
          have X_6 := hid (X_5.out.keep X_5.out.lt hb6)
          have Y_6 := hid (Y_5.out.keep hb6)
          have TW_6 := hid (TW_5.out.keep TW_5.out.lt hb6)
          have N_6 := hid hO6
          clear hO6
          clear hb6
          go_wp2_with fail
          refine (formValue_any u _ xs _ _ X_6.out.rd N_6.out.rd (by omega) (by rw [List.length_map]; omega)).mono ?_
          rw [HNG.out]
          rintro e d7 ⟨rfl, hb7⟩
          have HB7 := hid (HB6.out.trans (hb7.mono HB6.out.size))
          have X_7 := hid (X_6.out.keep X_6.out.lt hb7)
          have Y_7 := hid (Y_6.out.keep hb7)
          have TW_7 := hid (TW_6.out.keep TW_6.out.lt hb7)
          have N_7 := hid (N_6.out.keep N_6.out.lt hb7)
          clear hb7
          go_wp2_with fail
          refine (backOf_any u xs _ X_7.out.rd HM.out).mono ?_
          rintro e d8 ⟨R_o, rfl, hO8, hb8⟩
          have HB8 := hid (HB7.out.trans (hb8.mono HB7.out.size))
          have X_8 := hid (X_7.out.keep X_7.out.lt hb8)
          have Y_8 := hid (Y_7.out.keep hb8)
          have TW_8 := hid (TW_7.out.keep TW_7.out.lt hb8)
          have N_8 := hid (N_7.out.keep N_7.out.lt hb8)
          have R_8 := hid hO8
          clear hO8
          clear hb8
          go_wp2_with fail
          refine (backOf_any _ vs _ Y_8.out HM2.out).mono ?_
          rintro e d9 ⟨S_o, rfl, hO9, hb9⟩
          have HB9 := hid (HB8.out.trans (hb9.mono HB8.out.size))
          have X_9 := hid (X_8.out.keep X_8.out.lt hb9)
          have Y_9 := hid (Y_8.out.keep hb9)
          have TW_9 := hid (TW_8.out.keep TW_8.out.lt hb9)
          have N_9 := hid (N_8.out.keep N_8.out.lt hb9)
          have R_9 := hid (R_8.out.keep R_8.out.lt hb9)
          have S_9 := hid hO9
          clear hO9
          clear hb9
          go_wp2_with fail
          refine (formValue_any _ _ _ _ _ R_9.out.rd S_9.out.rd (by rw [List.length_reverse]; omega) (by rw [List.length_reverse]; omega)).mono ?_
          rw [HBK.out]
          rintro e d10 ⟨rfl, hb10⟩
          have HB10 := hid (HB9.out.trans (hb10.mono HB9.out.size))
          have X_10 := hid (X_9.out.keep X_9.out.lt hb10)
          have Y_10 := hid (Y_9.out.keep hb10)
          have TW_10 := hid (TW_9.out.keep TW_9.out.lt hb10)
          have N_10 := hid (N_9.out.keep N_9.out.lt hb10)
          have R_10 := hid (R_9.out.keep R_9.out.lt hb10)
          have S_10 := hid (S_9.out.keep S_9.out.lt hb10)
          clear hb10
          cases p with
          | false =>
            go_wp2
            go_ret
            exact ⟨rfl, HB10.out⟩
          | true =>
            obtain rfl := HPQ.out (by trivial)
            go_wp2
            go_ret
            exact ⟨rfl, HB10.out⟩
theorem own : ownKnob Try.prog.godebug = none := by kernel_rfl
theorem laidOut : laidOutB Try.prog = true := by kernel_rfl
set_option maxRecDepth 100000 in
theorem lifted (os : Os) (started : os.Started) (H : Type) (enc : TypeId × Value → H) :
    ReturnsInHanded {} Try.checked os 4 .any (Rows.fnFormValueSpec.pre6 enc Try.prog Try.f4 Rows.fnFormValueRow.domain false) (Rows.fnFormValueSpec.post enc Try.prog Try.f4 false true false false) := by
  refine returnsInHanded_of_change (C := Try.checked) own started (by kernel_rfl) Try.func4
    (ChangeSpec.witness6 (enc := enc) (C := Try.checked) false ⟨#[], #[.slice none 0 0], []⟩ 8 (by kernel_rfl) (by kernel_rfl) (by kernel_rfl) (by kernel_rfl)) ?_
  intro W base args ds gs before hval0 hW hcnd _
  have hval : ∀ (j : Nat) t v, Try.f4.params[j]? = some t → args[j]? = some v → Value.okWide Try.prog W .any base t v := hval0
  have hW' := hW
  obtain ⟨p, q, hA0, hV, rfl, hfz, hnd⟩ := hW
  have hA : DataW.TrodAll enc Try.prog W 0 (fun _ => true) true Try.f4.params.toList args.toList ds p := hA0
  rw [Try.params4] at hA hval
  obtain ⟨v0, vs0, d0, ds0, p0, q0, hargs, rfl, rfl, h0, r0⟩ := trodAll_cons hA
  obtain ⟨rfl, rfl, rfl⟩ := trodAll_nil r0
  obtain rfl : args = #[v0] := by cases args; simp_all
  obtain ⟨rfl, rfl⟩ := trodVars_none hV
  obtain ⟨a0, len0, cap0, rfl⟩ := okWide_slice Try.underlying22 (hval 0 22 v0 rfl rfl)
  have k0 := h0
  have lt0 : ∀ x ∈ p0, x.block < W.heap.size := by obtain ⟨m, hm⟩ := k0; exact DataW.trod_lt m _ _ _ hm
  obtain ⟨z0, w0⟩ : ∃ zs, IsRow .u8 W a0 len0 cap0 zs := by
    obtain ⟨fuel, hf⟩ := h0
    rcases open_ints Try.underlying22 Try.underlying5 (by kernel_rfl) hf with ⟨hcs, _⟩ | ⟨x, l, c, zs, hcs, _, hl, hm, hz, _, hcell, hwz⟩
    · simp [Value.cells] at hcs
      obtain ⟨rfl, rfl, rfl⟩ := hcs
      exact ⟨[], .inl ⟨rfl, rfl, rfl, rfl⟩⟩
    · simp [Value.cells] at hcs
      obtain ⟨rfl, rfl, rfl⟩ := hcs
      exact ⟨zs, .inr ⟨_, rfl, hl, hm, by simpa using hz, hcell, hwz⟩⟩
  clear hA0 hval0
  refine (walk a0 len0 cap0 z0 W w0).mono fun e W' ⟨he, bel⟩ => ?_
  subst he
  exact ⟨_, rfl, _, _, _, [], _, [], hW', trodAll_mk1 (shut_bool Try.underlying4 _), (trodAll_cons_mk (Below.trod laidOut (by kernel_rfl) (of_decide_eq_true (by kernel_rfl)) k0 bel lt0) trodAll_mk0), rfl, bel.frame _, fun h => by cases h⟩
theorem over : Rows.fnFormValueRow.holds Try.pinned (OpenSpec.ofChange Rows.fnFormValueSpec) :=
  OpenClaim.holds_of_wide 4 Try.f4 rfl rfl rfl rfl rfl rfl rfl ⟨rfl, rfl, rfl, rfl, rfl⟩ rfl rfl rfl rfl rfl (by kernel_rfl) Try.func4 (by kernel_rfl)
    (of_decide_eq_true (by kernel_rfl)) (by unfold Func.isWrapper; first | (rw [if_pos (by decide +kernel)]; kernel_rfl) | (rw [if_neg (by decide +kernel)]; exact ⟨rfl, rfl⟩))
    (fun os started H enc _ => lifted os started H enc)
theorem proved : Rows.FnFormValueSaid := over
end Go.Proofs.Ytciajpimpjpnfaa.fnFormValue
