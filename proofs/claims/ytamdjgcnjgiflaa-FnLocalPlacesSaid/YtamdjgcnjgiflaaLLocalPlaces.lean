/-
  Proves: for every code: of 0, 2 and the primes of a number exactly those at which it is no local square are told; there are none exactly for a square.
  Conditions: none beyond the given statement's own.
-/
import Derived.Test.YtamdjgcnjgiflaaRows
import Derived.Test.YtamdjgcnjgiflaaImpD
import Derived.Test.YtamdjgcnjgiflaaLawCls
import Derived.Test.YtamdjgcnjgiflaaLists
import Derived.Test.YtamdjgcnjgiflaaSame
import Derived.Test.YtamdjgcnjgiflaaRowWord
import Derived.Test.YtamdjgcnjgiflaaLawKit
import Derived.Test.YtamdjgcnjgiflaaRegion
import Derived.ProofKit
import Derived.OpenShut
import Derived.ShutString
import Derived.ChangeOld
namespace Go.Proofs.Ytamdjgcnjgiflaa.fnLocalPlaces
open Go.ChangeShapes Go.WideShapes Go.ChangeAt Go.RowKit
open Go.ChangeMaps (open_string shut_string)
set_option linter.unusedVariables false
def placesEndB (n : Int) : Bool := !factB n || (((lplacesL n).length == 0) == sqB n)
theorem placesEnd_all : drawnL.all placesEndB = true := by decide +kernel
theorem places_end {n : Int} (h : locOk n) (hF : factB n = true) : ((lplacesL n).length == 0) = sqB n := by
  have := List.all_eq_true.1 placesEnd_all n (drawn_mem h)
  unfold placesEndB at this
  rw [hF] at this
  simpa using this
def triedL (n : Int) : List Int := [0, 2] ++ natsI (plist n.natAbs)
theorem tried_mem {n : Int} (h0 : n ≠ 0) (h1 : -5000 ≤ n) (h2 : n ≤ 5000) {q : Int} (hq : q ∈ triedL n) : q ∈ placesOf n := by
  unfold triedL at hq
  unfold placesOf
  simp only [List.cons_append, List.nil_append, List.mem_cons] at hq ⊢
  rcases hq with h | h | h
  · exact .inl h
  · exact .inr (.inl h)
  · by_cases e : q = 2
    · exact .inr (.inl e)
    · right; right
      refine List.mem_filter.2 ⟨h, decide_eq_true ?_⟩
      unfold natsI at h
      rw [List.mem_map] at h
      obtain ⟨x, hx, rfl⟩ := h
      have := (primeN_bd ((plist_ok (show n.natAbs ≤ 5000 by omega)).2 x hx).1).1
      omega
theorem tried_facts {n : Int} (hF : factB n = true) (h0 : n ≠ 0) (h1 : -5000 ≤ n) (h2 : n ≤ 5000) {q : Int} (hq : q ∈ triedL n) : lsV n q = sqAt n q ∧ decide (q ∈ lplacesL n) = !sqAt n q ∧ 0 ≤ q ∧ q ≤ 5000 := by
  have hm := tried_mem h0 h1 h2 hq
  have hp := (placesOf_ok h0 h1 h2).2 q hm
  have hb := plI_bd hp
  refine ⟨?_, ?_, hb.1, hb.2⟩
  · unfold lsV; rw [okAt_yes h1 h2 h0 hp, Bool.true_and]
  · unfold lplacesL
    rw [hF, if_pos rfl]
    cases hs : sqAt n q
    · exact decide_eq_true (List.mem_filter.2 ⟨hm, by simp [hs]⟩)
    · exact decide_eq_false (fun h => by
        have := (List.mem_filter.1 h).2
        simp [hs] at this)
theorem tried_len {n : Int} (h1 : -5000 ≤ n) (h2 : n ≤ 5000) : (natsI (plist n.natAbs)).length ≤ 70 := by
  unfold natsI; rw [List.length_map]; exact (plist_ok (show n.natAbs ≤ 5000 by omega)).1

set_option maxRecDepth 100000 in
set_option maxHeartbeats 4000000 in
theorem walk  (a0 : Option Addr) (len0 cap0 : Nat) (z0 : List Int) (w : World) (w0 : IsRow .u8 w a0 len0 cap0 z0) :
    Calls Try.prog 8 #[.slice a0 len0 cap0] w fun e w' => e = .returned (.bool true) ∧ Below w.heap.size w w' := by
  obtain ⟨i0, hi, hz0, hz1, hz2⟩ := info_parts infoInt
  have HC := hid (codeIn_of w0)
  clear w0
  by_cases hl : (1048576 : Int) < (len0 : Int)
  · go_enter Try.func8, Try.ntmps8
    go_wp2
    go_ret
    exact ⟨rfl, Below.refl _ _⟩
  · go_enter Try.func8, Try.ntmps8
    go_wp2_with fail
    refine (drawLocalPlaces_any _ len0 _ HC.out).mono ?_
    rintro e w1 ⟨n, rfl, hd, hb⟩
    have hns := locOk_small hd
    have hn1 := hns.1
    have hn2 := hns.2
    have HD := hid hd
    obtain ⟨L, hL⟩ : ∃ L, L = lplacesL n := ⟨_, rfl⟩
    have HLE := hid hL
    have HI : Hid (∀ w : World, Calls Try.prog 35 #[.int .i64 n] w fun e w' => ∃ v, e = .returned v ∧ Owns w' w.heap.size v L ∧ Below w.heap.size w w') := hid (fun w => by rw [HLE.out]; exact localPlaces_any n w)
    have HJ : Hid (∀ w : World, Calls Try.prog 36 #[.int .i64 n] w fun e w' => ∃ v, e = .returned v ∧ Owns w' w.heap.size v L ∧ Below w.heap.size w w') := hid (fun w => by rw [HLE.out]; exact localPlacesS_any n w)
    clear hd hns hL
    go_wp2_with fail
    refine (HI.out _).mono ?_
    rintro e w2 ⟨v1, rfl, o1, b1⟩
    have O1 := hid o1
    have hB1 := hb.trans (b1.mono hb.size)
    clear o1
    go_wp2_with fail
    refine (HJ.out _).mono ?_
    rintro e w3 ⟨v2, rfl, o2, b2⟩
    have O1b := hid (O1.out.keep O1.out.lt b2)
    have HR2 := hid o2.rd
    have HB2 := hid (hB1.trans (b2.mono hB1.size))
    clear o2 hb b1 b2 hB1
    obtain ⟨a, cap, rfl, hform⟩ := O1b.out.rd.form
    have HR1 := hid O1b.out.rd
    clear hform
    go_wp2_with fail
    refine (sameInts_any _ _ _ _ _ HR1.out HR2.out).mono ?_
    rintro e w4 ⟨rfl, kk, hw4⟩
    have HB4 : Hid (Below w.heap.size w w4) := hid (by rw [hw4]; exact below_drewN HB2.out kk)
    have HO4 : Hid (Owns w4 w1.heap.size (.slice a L.length cap) L) := hid (by rw [hw4]; exact O1b.out.drewN kk)
    clear hw4
    cases hF : factB n with
    | false =>
      have hL0 : L = [] := by rw [HLE.out]; unfold lplacesL; rw [hF]; rfl
      subst hL0
      rcases factB_cases n with ⟨_, _, _, _, hF2⟩ | ⟨rfl, _⟩ | ⟨h0, O, _⟩
      · rw [hF] at hF2; cases hF2
      · go_wp2
        go_ret
        exact ⟨rfl, HB4.out⟩
      · have T0 : (n == 0) = false := by rw [beq_eq_false_iff_ne]; exact h0
        have hbig : (5000 : Int) < ((n.natAbs : Nat) : Int) := by have := okN_no.1 O; omega
        clear h0 hF O
        go_wp2_with (go_at_call 20; refine (sizeOf_any _ (by omega) (by omega) _).mono ?_; rintro e w' ⟨rfl, rfl⟩)
        go_ret
        exact ⟨rfl, HB4.out⟩
    | true =>
      rcases factB_cases n with ⟨h1, h2, h0, O, _⟩ | ⟨_, hF2⟩ | ⟨_, _, hF2⟩
      · have T0 : (n == 0) = false := by rw [beq_eq_false_iff_ne]; exact h0
        have hbig : ¬ ((5000 : Int) < ((n.natAbs : Nat) : Int)) := by omega
        have HFACT : Hid (∀ q, q ∈ triedL n → lsV n q = sqAt n q ∧ decide (q ∈ L) = !sqAt n q ∧ 0 ≤ q ∧ q ≤ 5000) := hid (fun q hq => by rw [HLE.out]; exact tried_facts hF h0 h1 h2 hq)
        have HEND : Hid ((okN n && sqB n) = (L.length == 0)) := hid (by rw [O, Bool.true_and, HLE.out, places_end HD.out hF])
        have HPO : Hid (∀ w : World, Calls Try.prog 37 #[.int .i64 n] w fun e w' => ∃ v, e = .returned v ∧ Owns w' w.heap.size v (natsI (plist n.natAbs)) ∧ Below w.heap.size w w') := hid (fun w => by
          have := primesOf_any n w
          rw [hF, if_pos rfl] at this
          exact this)
        have hpl := tried_len h1 h2
        have HT : Hid (triedL n = [0, 2] ++ natsI (plist n.natAbs)) := rfl
        obtain ⟨pl, hple⟩ : ∃ pl, pl = natsI (plist n.natAbs) := ⟨_, rfl⟩
        rw [← hple] at HPO hpl HT
        have HLIT := hid (owns_lit (W := w4) (B := w4.heap.size) [0, 2] #[.int .i64 0, .int .i64 2] rfl (Nat.le_refl _) (by unfold maxLen; simp))
        have HBL := hid ((Below.refl w4.heap.size w4).alloc (Nat.le_refl _) (.cells #[.int .i64 0, .int .i64 2] 3))
        clear h0 hF hple
        have key : ∀ (w5 : World) (vp : Value), Owns w5 w4.heap.size vp ([0, 2] ++ pl) → Below w4.heap.size w4 w5 → ∃ b o cp, vp = .slice (some ⟨b, o, none⟩) (2 + pl.length) cp ∧ b < w5.heap.size ∧ (∀ wx : World, Below w5.heap.size w5 wx → ∀ i, i < 2 + pl.length → wx.cell? ⟨b, o + i, none⟩ = some (.int .i64 ((triedL n).getD i 0))) ∧
            (∀ wx : World, Below w5.heap.size w5 wx → Rd wx (.slice a L.length cap) L) := by
          intro w5 vp ho hb5
          have hlen : ([0, 2] ++ pl : List Int).length = 2 + pl.length := by simp; omega
          obtain ⟨a', c', rfl, hf⟩ := ho.rd.form
          obtain ⟨b, o, rfl, hm, hc⟩ := hf (by rw [hlen]; omega)
          have hlt := ho.lt b rfl
          refine ⟨b, o, c', by rw [hlen], hlt, fun wx hbx i hi => ?_, fun wx hbx => ?_⟩
          · rw [hbx.cell (p := ⟨b, o + i, none⟩) hlt, HT.out]
            exact hc i (by rw [hlen]; exact hi)
          · exact (HO4.out.keep HO4.out.lt (hb5.trans (hbx.mono hb5.size))).rd
        have KEY := hid key
        clear key
        go_wp2_with (go_at_call 20; refine (sizeOf_any _ (by omega) (by omega) _).mono ?_; rintro e w' ⟨rfl, rfl⟩)
        refine (HPO.out _).mono ?_
        rintro e w5 ⟨vp, rfl, hop, hbp⟩
        have HLK := hid (HLIT.out.keep HLIT.out.lt hbp)
        have HBK := hid (HBL.out.trans (hbp.mono (by simp)))
        have hs5 := HBK.out.size
        clear hbp
        rcases hop.2 with ⟨rfl, hz⟩ | ⟨g, cp, cur, rfl, hge, hh, hcap, hmx, hs, htk⟩
        · have hpl0 : pl = [] := List.length_eq_zero_iff.1 hz
          have HO6a : Hid (Owns w5 w4.heap.size (.slice (some ⟨w4.heap.size, 0, none⟩) 2 2) ([0, 2] ++ pl)) := hid (by rw [hpl0]; exact HLK.out)
          clear hop hz hpl0
          · obtain ⟨w6, hw6⟩ : ∃ w6, w6 = w5 := ⟨_, rfl⟩
            go_wp2_with (at_builtin; refine wpList_append_own_none rfl _ _ 31 rfl w4.heap.size 3 i0 1 Try.underlying31 hi _ 2 _ rfl (show World.ownsRow _ _ _ _ _ _ _ from HLK.out) rfl ?_)
            have HO6 := HO6a
            have HB6 := HBK
            rw [← hw6] at HO6 HB6 ⊢
            clear hw6 HO6a HBK HLK
            obtain ⟨b, o, cp2, e6, hlt6, hcells, hrds⟩ := KEY.out w6 _ HO6.out HB6.out
            rw [e6]
            clear e6 HO6
            have HCELL := hid hcells
            have HRDS := hid hrds
            have HB46 := hid (HB4.out.trans (HB6.out.mono HB4.out.size))
            clear hcells hrds hlt6
            go_wp2_with fail
            go_loopw [7] (fun si wr => ∃ K : Nat, si = .int .i64 K ∧ K ≤ 2 + pl.length ∧ Below w6.heap.size w6 wr) (fun si _ => 2 + pl.length - (intOf si).toNat)
            case atStart => exact ⟨0, rfl, by omega, Below.refl _ _⟩
            case round =>
              obtain ⟨K, rfl, hK, hBr⟩ := hrel
              rename World => wr
              have hs6 := HB46.out.size
              by_cases hlt : K < 2 + pl.length
              · have hmem : (triedL n).getD K 0 ∈ triedL n := by rw [getD_at _ _ (by rw [HT.out, List.length_append]; simp; omega)]; exact List.getElem_mem _
                obtain ⟨f1, f2, f3, f4⟩ := HFACT.out _ hmem
                have c1 := HCELL.out _ hBr K hlt
                obtain ⟨q, hq⟩ : ∃ q, q = (triedL n).getD K 0 := ⟨_, rfl⟩
                rw [← hq] at f1 f2 f3 f4 c1
                have HQ := hid hq
                have hK0 : (K : Int) < ((2 + pl.length : Nat) : Int) := by omega
                have hK1 : (K : Int) < 2 + (pl.length : Int) := by omega
                have HLT := hid hlt
                clear hmem hq hlt
                have hsq : sqAt n q = true ∨ sqAt n q = false := by cases sqAt n q <;> simp
                rcases hsq with hsq | hsq
                · rw [hsq] at f1 f2
                  have F1 := hid f1
                  have F2 := hid f2
                  have HRA := hid (HRDS.out _ hBr.drew)
                  clear f1 f2 hsq
                  go_wp2_with fail
                  go_region_held3 (fun wx => Below w6.heap.size w6 wx ∧ wx.cell? ⟨b, o + K, none⟩ = some (.int .i64 q)) (first | exact ⟨hb2.out, c2⟩ | exact ⟨hBr.drew, c1⟩)
                    (first | (go_at_call 16; refine (localSquare_any _ _ _).mono ?_; rw [F1.out]; rintro e w' ⟨rfl, hbq⟩; have hb2 := hid (hBr.trans ((below_of_drew hbq).mono hBr.size)); have c2 := HCELL.out _ hb2.out K HLT.out; rw [← HQ.out] at c2; have HRB := hid (HRDS.out _ hb2.out)) | (go_at_call 25; refine (hasInt_any _ L _ _ ?_).mono ?_; (first | exact HRB.out | exact HRA.out); rw [F2.out]; rintro e w'' ⟨rfl, rfl⟩))
                  all_goals go_wp2
                  all_goals go_round
                  case measure => simp only [intOf]; omega
                  case rel => exact ⟨K + 1, by go_num, by omega, hb2.out⟩
                · rw [hsq] at f1 f2
                  have F1 := hid f1
                  have F2 := hid f2
                  have HRA := hid (HRDS.out _ hBr.drew)
                  clear f1 f2 hsq
                  go_wp2_with fail
                  go_region_held3 (fun wx => Below w6.heap.size w6 wx ∧ wx.cell? ⟨b, o + K, none⟩ = some (.int .i64 q)) (first | exact ⟨hb2.out, c2⟩ | exact ⟨hBr.drew, c1⟩)
                    (first | (go_at_call 16; refine (localSquare_any _ _ _).mono ?_; rw [F1.out]; rintro e w' ⟨rfl, hbq⟩; have hb2 := hid (hBr.trans ((below_of_drew hbq).mono hBr.size)); have c2 := HCELL.out _ hb2.out K HLT.out; rw [← HQ.out] at c2; have HRB := hid (HRDS.out _ hb2.out)) | (go_at_call 25; refine (hasInt_any _ L _ _ ?_).mono ?_; (first | exact HRB.out | exact HRA.out); rw [F2.out]; rintro e w'' ⟨rfl, rfl⟩))
                  all_goals go_wp2
                  all_goals go_round
                  case measure => simp only [intOf]; omega
                  case rel => exact ⟨K + 1, by go_num, by omega, hb2.out⟩
              · obtain rfl : K = 2 + pl.length := by omega
                clear hlt
                by_cases hL0 : L.length = 0
                · have TL : ((L.length : Int) == 0) = true := by rw [beq_iff_eq]; omega
                  have HE2 : Hid ((okN n && sqB n) = true) := hid (by rw [HEND.out, hL0]; rfl)
                  clear hL0
                  go_wp2_with (go_at_call 38; refine (squareIs_any _ _).mono ?_; rw [HE2.out]; rintro e w' ⟨rfl, rfl⟩)
                  go_ret
                  exact ⟨rfl, HB46.out.trans (hBr.mono hs6)⟩
                · have TL : ((L.length : Int) == 0) = false := by rw [beq_eq_false_iff_ne]; omega
                  have HE2 : Hid ((okN n && sqB n) = false) := hid (by rw [HEND.out, beq_eq_false_iff_ne]; exact hL0)
                  clear hL0
                  go_wp2_with (go_at_call 38; refine (squareIs_any _ _).mono ?_; rw [HE2.out]; rintro e w' ⟨rfl, rfl⟩)
                  go_ret
                  exact ⟨rfl, HB46.out.trans (hBr.mono hs6)⟩
        · have HNEWS : Hid (∀ j u, (pl.map (Value.int .i64))[j]? = some u → w5.cell? ((⟨g, 0, none⟩ : Addr).add j) = some u) := hid (fun j u hj => by
            have hj2 : j < pl.length := by
              have := (List.getElem?_eq_some_iff.1 hj).1
              simpa using this
            have := World.ownsRow.cellAt hop j (by omega)
            rw [hj] at this
            have e : ((⟨g, 0, none⟩ : Addr).add j) = ⟨g, j, none⟩ := by cases j <;> simp [Addr.add]
            rw [e]; exact this)
          clear hop hge hh hcap hmx hs htk
          · go_wp2_with (at_builtin; refine wpList_append_own_at _ rfl _ _ 31 rfl w4.heap.size 3 i0 (.int .i64 0) 1 8 Try.underlying31 hi hz0 hz1 hz2 rfl (by decide) _ 2 _ rfl (show World.ownsRow _ _ _ _ _ _ _ from HLK.out) ⟨g, 0, none⟩ pl.length cp (pl.map (Value.int .i64)) rfl (by simp) HNEWS.out (by simp [Value.oneCell']) (by unfold maxLen; omega) (by omega) (by omega) ?_; intro v' w6 hown' hgrow _ hat)
            have HO6 : Hid (Owns w6 w4.heap.size v' ([0, 2] ++ pl)) := hid (by unfold Owns; rw [show ([0, 2] ++ pl : List Int).length = 2 + pl.length by simp; omega]; simpa using hown')
            have HB6 := hid (HBK.out.grown hgrow (by omega) (fun k e => HLK.out.ge k e))
            clear hown' hgrow hat HNEWS
            obtain ⟨b, o, cp2, rfl, hlt6, hcells, hrds⟩ := KEY.out w6 _ HO6.out HB6.out
            have HCELL := hid hcells
            have HRDS := hid hrds
            have HB46 := hid (HB4.out.trans (HB6.out.mono HB4.out.size))
            clear hcells hrds hlt6
            go_wp2_with fail
            go_loopw [7] (fun si wr => ∃ K : Nat, si = .int .i64 K ∧ K ≤ 2 + pl.length ∧ Below w6.heap.size w6 wr) (fun si _ => 2 + pl.length - (intOf si).toNat)
            case atStart => exact ⟨0, rfl, by omega, Below.refl _ _⟩
            case round =>
              obtain ⟨K, rfl, hK, hBr⟩ := hrel
              rename World => wr
              have hs6 := HB46.out.size
              by_cases hlt : K < 2 + pl.length
              · have hmem : (triedL n).getD K 0 ∈ triedL n := by rw [getD_at _ _ (by rw [HT.out, List.length_append]; simp; omega)]; exact List.getElem_mem _
                obtain ⟨f1, f2, f3, f4⟩ := HFACT.out _ hmem
                have c1 := HCELL.out _ hBr K hlt
                obtain ⟨q, hq⟩ : ∃ q, q = (triedL n).getD K 0 := ⟨_, rfl⟩
                rw [← hq] at f1 f2 f3 f4 c1
                have HQ := hid hq
                have hK0 : (K : Int) < ((2 + pl.length : Nat) : Int) := by omega
                have hK1 : (K : Int) < 2 + (pl.length : Int) := by omega
                have HLT := hid hlt
                clear hmem hq hlt
                have hsq : sqAt n q = true ∨ sqAt n q = false := by cases sqAt n q <;> simp
                rcases hsq with hsq | hsq
                · rw [hsq] at f1 f2
                  have F1 := hid f1
                  have F2 := hid f2
                  have HRA := hid (HRDS.out _ hBr.drew)
                  clear f1 f2 hsq
                  go_wp2_with fail
                  go_region_held3 (fun wx => Below w6.heap.size w6 wx ∧ wx.cell? ⟨b, o + K, none⟩ = some (.int .i64 q)) (first | exact ⟨hb2.out, c2⟩ | exact ⟨hBr.drew, c1⟩)
                    (first | (go_at_call 16; refine (localSquare_any _ _ _).mono ?_; rw [F1.out]; rintro e w' ⟨rfl, hbq⟩; have hb2 := hid (hBr.trans ((below_of_drew hbq).mono hBr.size)); have c2 := HCELL.out _ hb2.out K HLT.out; rw [← HQ.out] at c2; have HRB := hid (HRDS.out _ hb2.out)) | (go_at_call 25; refine (hasInt_any _ L _ _ ?_).mono ?_; (first | exact HRB.out | exact HRA.out); rw [F2.out]; rintro e w'' ⟨rfl, rfl⟩))
                  all_goals go_wp2
                  all_goals go_round
                  case measure => simp only [intOf]; omega
                  case rel => exact ⟨K + 1, by go_num, by omega, hb2.out⟩
                · rw [hsq] at f1 f2
                  have F1 := hid f1
                  have F2 := hid f2
                  have HRA := hid (HRDS.out _ hBr.drew)
                  clear f1 f2 hsq
                  go_wp2_with fail
                  go_region_held3 (fun wx => Below w6.heap.size w6 wx ∧ wx.cell? ⟨b, o + K, none⟩ = some (.int .i64 q)) (first | exact ⟨hb2.out, c2⟩ | exact ⟨hBr.drew, c1⟩)
                    (first | (go_at_call 16; refine (localSquare_any _ _ _).mono ?_; rw [F1.out]; rintro e w' ⟨rfl, hbq⟩; have hb2 := hid (hBr.trans ((below_of_drew hbq).mono hBr.size)); have c2 := HCELL.out _ hb2.out K HLT.out; rw [← HQ.out] at c2; have HRB := hid (HRDS.out _ hb2.out)) | (go_at_call 25; refine (hasInt_any _ L _ _ ?_).mono ?_; (first | exact HRB.out | exact HRA.out); rw [F2.out]; rintro e w'' ⟨rfl, rfl⟩))
                  all_goals go_wp2
                  all_goals go_round
                  case measure => simp only [intOf]; omega
                  case rel => exact ⟨K + 1, by go_num, by omega, hb2.out⟩
              · obtain rfl : K = 2 + pl.length := by omega
                clear hlt
                by_cases hL0 : L.length = 0
                · have TL : ((L.length : Int) == 0) = true := by rw [beq_iff_eq]; omega
                  have HE2 : Hid ((okN n && sqB n) = true) := hid (by rw [HEND.out, hL0]; rfl)
                  clear hL0
                  go_wp2_with (go_at_call 38; refine (squareIs_any _ _).mono ?_; rw [HE2.out]; rintro e w' ⟨rfl, rfl⟩)
                  go_ret
                  exact ⟨rfl, HB46.out.trans (hBr.mono hs6)⟩
                · have TL : ((L.length : Int) == 0) = false := by rw [beq_eq_false_iff_ne]; omega
                  have HE2 : Hid ((okN n && sqB n) = false) := hid (by rw [HEND.out, beq_eq_false_iff_ne]; exact hL0)
                  clear hL0
                  go_wp2_with (go_at_call 38; refine (squareIs_any _ _).mono ?_; rw [HE2.out]; rintro e w' ⟨rfl, rfl⟩)
                  go_ret
                  exact ⟨rfl, HB46.out.trans (hBr.mono hs6)⟩
      · rw [hF] at hF2; cases hF2
      · rw [hF] at hF2; cases hF2
theorem own : ownKnob Try.prog.godebug = none := by kernel_rfl
theorem laidOut : laidOutB Try.prog = true := by kernel_rfl
set_option maxRecDepth 100000 in
theorem lifted (os : Os) (started : os.Started) (H : Type) (enc : TypeId × Value → H) :
    ReturnsInHanded {} Try.checked os 8 .any (Rows.fnLocalPlacesSpec.pre6 enc Try.prog Try.f8 Rows.fnLocalPlacesRow.domain false) (Rows.fnLocalPlacesSpec.post enc Try.prog Try.f8 false true false false) := by
  refine returnsInHanded_of_change (C := Try.checked) own started (by kernel_rfl) Try.func8
    (ChangeSpec.witness6 (enc := enc) (C := Try.checked) false ⟨#[], #[.slice none 0 0], []⟩ 8 (by kernel_rfl) (by kernel_rfl) (by kernel_rfl) (by kernel_rfl)) ?_
  intro W base args ds gs before hval0 hW hcnd _
  have hval : ∀ (j : Nat) t v, Try.f8.params[j]? = some t → args[j]? = some v → Value.okWide Try.prog W .any base t v := hval0
  have hW' := hW
  obtain ⟨p, q, hA0, hV, rfl, hfz, hnd⟩ := hW
  have hA : DataW.TrodAll enc Try.prog W 0 (fun _ => true) true Try.f8.params.toList args.toList ds p := hA0
  rw [Try.params8] at hA hval
  obtain ⟨v0, vs0, d0, ds0, p0, q0, hargs, rfl, rfl, h0, r0⟩ := trodAll_cons hA
  obtain ⟨rfl, rfl, rfl⟩ := trodAll_nil r0
  obtain rfl : args = #[v0] := by cases args; simp_all
  obtain ⟨rfl, rfl⟩ := trodVars_none hV
  obtain ⟨a0, len0, cap0, rfl⟩ := okWide_slice Try.underlying22 (hval 0 22 v0 rfl rfl)
  have k0 := h0
  have lt0 : ∀ x ∈ p0, x.block < W.heap.size := by obtain ⟨m, hm⟩ := k0; exact DataW.trod_lt m _ _ _ hm
  obtain ⟨z0, w0⟩ : ∃ zs, IsRow .u8 W a0 len0 cap0 zs := by
    obtain ⟨fuel, hf⟩ := h0
    rcases open_ints Try.underlying22 Try.underlying5 (by kernel_rfl) hf with ⟨hcs, _⟩ | ⟨x, l, c, zs, hcs, _, hl, hm, hz, _, hcell, hwz⟩
    · simp [Value.cells] at hcs
      obtain ⟨rfl, rfl, rfl⟩ := hcs
      exact ⟨[], .inl ⟨rfl, rfl, rfl, rfl⟩⟩
    · simp [Value.cells] at hcs
      obtain ⟨rfl, rfl, rfl⟩ := hcs
      exact ⟨zs, .inr ⟨_, rfl, hl, hm, by simpa using hz, hcell, hwz⟩⟩
  clear hA0 hval0
  refine (walk a0 len0 cap0 z0 W w0).mono fun e W' ⟨he, bel⟩ => ?_
  subst he
  exact ⟨_, rfl, _, _, _, [], _, [], hW', trodAll_mk1 (shut_bool Try.underlying4 _), (trodAll_cons_mk (Below.trod laidOut (by kernel_rfl) (of_decide_eq_true (by kernel_rfl)) k0 bel lt0) trodAll_mk0), rfl, bel.frame _, fun h => by cases h⟩
theorem over : Rows.fnLocalPlacesRow.holds Try.pinned (OpenSpec.ofChange Rows.fnLocalPlacesSpec) :=
  OpenClaim.holds_of_wide 8 Try.f8 rfl rfl rfl rfl rfl rfl rfl ⟨rfl, rfl, rfl, rfl, rfl⟩ rfl rfl rfl rfl rfl (by kernel_rfl) Try.func8 (by kernel_rfl)
    (of_decide_eq_true (by kernel_rfl)) (by unfold Func.isWrapper; first | (rw [if_pos (by decide +kernel)]; kernel_rfl) | (rw [if_neg (by decide +kernel)]; exact ⟨rfl, rfl⟩))
    (fun os started H enc _ => lifted os started H enc)
theorem proved : Rows.FnLocalPlacesSaid := over
end Go.Proofs.Ytamdjgcnjgiflaa.fnLocalPlaces
