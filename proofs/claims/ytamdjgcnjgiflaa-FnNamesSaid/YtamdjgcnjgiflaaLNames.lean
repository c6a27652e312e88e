/-
  Proves: for every code: the names of a place are a group: as many as the document says, the first one 1, each row of products has each name once.
  Conditions: none beyond the given statement's own.
-/
import Derived.Test.YtamdjgcnjgiflaaRows
import Derived.Test.YtamdjgcnjgiflaaImpC
import Derived.Test.YtamdjgcnjgiflaaLawCls
import Derived.Test.YtamdjgcnjgiflaaLists
import Derived.Test.YtamdjgcnjgiflaaSame
import Derived.Test.YtamdjgcnjgiflaaRowWord
import Derived.Test.YtamdjgcnjgiflaaLawKit
import Derived.Test.YtamdjgcnjgiflaaRegion
import Derived.ProofKit
import Derived.OpenShut
import Derived.ShutString
import Derived.ChangeOld
namespace Go.Proofs.Ytamdjgcnjgiflaa.fnNames
open Go.ChangeShapes Go.WideShapes Go.ChangeAt Go.RowKit
open Go.ChangeMaps (open_string shut_string)
set_option linter.unusedVariables false
theorem comb_cancel {q : Int} (hq : plI q = true) {c d e : Nat × Int} (hc : c ∈ clsList q) (hd : d ∈ clsList q) (he : e ∈ clsList q) (h : comb q c d = comb q c e) : d = e := by
  rcases plI_cases hq with rfl | rfl | ⟨P, rfl, hP, h3, h5⟩
  · exact (show ∀ c ∈ clsList 0, ∀ d ∈ clsList 0, ∀ e ∈ clsList 0, comb 0 c d = comb 0 c e → d = e by decide) c hc d hd e he h
  · exact (show ∀ c ∈ clsList 2, ∀ d ∈ clsList 2, ∀ e ∈ clsList 2, comb 2 c d = comb 2 c e → d = e by decide +kernel) c hc d hd e he h
  · have e0 : ¬ ((P : Int) = 0) := by omega
    have e2 : ¬ ((P : Int) = 2) := by omega
    unfold clsList at hc hd he
    rw [if_neg e0, if_neg e2] at hc hd he
    unfold comb at h
    rw [if_neg e2, if_neg e2] at h
    exact (show ∀ c ∈ [((0 : Nat), (1 : Int)), (0, -1), (1, 1), (1, -1)], ∀ d ∈ [((0 : Nat), (1 : Int)), (0, -1), (1, 1), (1, -1)], ∀ e ∈ [((0 : Nat), (1 : Int)), (0, -1), (1, 1), (1, -1)], (((c.1 + d.1) % 2, c.2 * d.2) : Nat × Int) = ((c.1 + e.1) % 2, c.2 * e.2) → d = e by decide) c hc d hd e he h
theorem names_get {q : Int} {i : Nat} (h : i < (namesOf q).length) : (namesOf q).getD i 0 ∈ namesOf q := by rw [getD_at _ _ h]; exact List.getElem_mem _
def prodN (q : Int) (i k : Nat) : Int := nameOf ((namesOf q).getD i 0 * (namesOf q).getD k 0) q
theorem names_facts {q : Int} (hp : prOk q) (hq : plI q = true) {i k : Nat} (hi : i < (namesOf q).length) (hk : k < (namesOf q).length) :
    lmulV ((namesOf q).getD i 0) ((namesOf q).getD k 0) q = .tuple #[.int .i64 (prodN q i k), .bool true] ∧ prodN q i k ∈ namesOf q ∧ (i = k → prodN q i k = 1) ∧ ∀ j, j < k → prodN q i j ≠ prodN q i k := by
  have bi := names_drawn hp hq _ (names_get hi)
  have bk := names_drawn hp hq _ (names_get hk)
  have zi := names_ne hq _ (names_get hi)
  have zk := names_ne hq _ (names_get hk)
  refine ⟨lmulV_yes (okAt_yes bi.1 bi.2 zi hq) (okAt_yes bk.1 bk.2 zk hq), name_mem (Int.mul_ne_zero zi zk) hq, ?_, ?_⟩
  · rintro rfl
    exact name_sq hq (by rw [sq_mul zi zi hq]; simp)
  · intro j hj e
    have hj2 : j < (namesOf q).length := by omega
    have zj := names_ne hq _ (names_get hj2)
    have e2 := congrArg (fun m => cls m q) e
    unfold prodN at e2
    simp only [cls_name (Int.mul_ne_zero zi zj) hq, cls_name (Int.mul_ne_zero zi zk) hq, cls_mul zi zj hq, cls_mul zi zk hq] at e2
    have e3 := comb_cancel hq (cls_mem zi hq) (cls_mem zj hq) (cls_mem zk hq) e2
    have e4 := idx_uniq zk hq hj2 (by rw [← cls_at hq j hj2]; exact e3)
    have e5 := idx_uniq zk hq hk (by rw [← cls_at hq k hk])
    omega
def rowL (q : Int) (i k : Nat) : List Int := (List.range k).map (fun j => prodN q i j)
theorem rowL_succ (q : Int) (i k : Nat) : rowL q i (k + 1) = rowL q i k ++ [prodN q i k] := by unfold rowL; rw [List.range_succ, List.map_append]; rfl
theorem rowL_len (q : Int) (i k : Nat) : (rowL q i k).length = k := by unfold rowL; simp
theorem rowL_not {q : Int} (hp : prOk q) (hq : plI q = true) {i k : Nat} (hi : i < (namesOf q).length) (hk : k < (namesOf q).length) : decide (prodN q i k ∈ rowL q i k) = false := by
  refine decide_eq_false (fun h => ?_)
  unfold rowL at h
  rw [List.mem_map] at h
  obtain ⟨j, hj, e⟩ := h
  exact (names_facts hp hq hi hk).2.2.2 j (List.mem_range.1 hj) e
theorem names_first {q : Int} (hq : plI q = true) : (namesOf q).getD 0 0 = 1 ∧ 0 < (namesOf q).length ∧ (namesOf q).length ≤ 8 := by
  rcases plI_cases hq with rfl | rfl | ⟨P, rfl, hP, h3, h5⟩
  · decide
  · decide
  · rw [names_odd h3]; simp

set_option maxRecDepth 100000 in
set_option maxHeartbeats 4000000 in
theorem walk  (a0 : Option Addr) (len0 cap0 : Nat) (z0 : List Int) (w : World) (w0 : IsRow .u8 w a0 len0 cap0 z0) :
    Calls Try.prog 5 #[.slice a0 len0 cap0] w fun e w' => e = .returned (.bool true) ∧ Below w.heap.size w w' := by
  obtain ⟨i0, hi, hz0, hz1, hz2⟩ := info_parts infoInt
  have HC := hid (codeIn_of w0)
  clear w0
  by_cases hl : (1048576 : Int) < (len0 : Int)
  · go_enter Try.func5, Try.ntmps5
    go_wp2
    go_ret
    exact ⟨rfl, Below.refl _ _⟩
  · go_enter Try.func5, Try.ntmps5
    go_wp2_with fail
    refine (drawLocalNames_any _ len0 _ HC.out).mono ?_
    rintro e w1 ⟨q, rfl, hp, hb⟩
    obtain ⟨L, hL⟩ : ∃ L, L = lnamesL q := ⟨_, rfl⟩
    cases hV : plI q with
    | false =>
      have P := hid hV
      have HLE := hid hL
      clear hV hp hL
      go_wp2_with fail
      refine (localNames_any q _).mono ?_
      rw [P.out, ← HLE.out]
      rintro e w2 ⟨v, rfl, ho, hb1⟩
      have hB1 := hb.trans (hb1.mono hb.size)
      have HO := hid ho
      go_wp2_with fail
      refine (localNamesS_any q _).mono ?_
      rw [P.out, ← HLE.out]
      rintro e w3 ⟨v2, rfl, ho2, hb2⟩
      have HB2 := hid (hB1.trans (hb2.mono hB1.size))
      have HR1 := hid (HO.out.keep HO.out.lt hb2).rd
      have HR2 := hid ho2.rd
      clear ho ho2 hb hb1 hb2 hB1
      go_wp2_with fail
      refine (sameInts_any _ _ _ _ _ HR1.out HR2.out).mono ?_
      rintro e w4 ⟨rfl, k, rfl⟩
      go_wp2_with fail
      refine (sameInts_any _ _ _ _ _ (show Rd (w3.drewN k) _ _ from HR1.out) (show Rd (w3.drewN k) _ _ from HR2.out)).mono ?_
      rintro e w5 ⟨rfl, k5, rfl⟩
      go_wp2
      go_ret
      exact ⟨retB (by simp), below_drewN HB2.out (k + k5)⟩
    | true =>
      have P := hid hV
      have HP := hid hp
      have hLn : L = namesOf q := by rw [hL]; unfold lnamesL; rw [hV]; rfl
      obtain ⟨f1, f2, f3⟩ := names_first hV
      have HLE := hid hL
      have HFACT : Hid (∀ i k, i < L.length → k < L.length → lmulV (L.getD i 0) (L.getD k 0) q = .tuple #[.int .i64 (prodN q i k), .bool true] ∧ decide (prodN q i k ∈ L) = true ∧ (i = k → prodN q i k = 1) ∧ decide (prodN q i k ∈ rowL q i k) = false) := hid (fun i k hi hk => by
        rw [hLn] at hi hk ⊢
        have := names_facts HP.out P.out hi hk
        exact ⟨this.1, decide_eq_true this.2.1, this.2.2.1, rowL_not HP.out P.out hi hk⟩)
      rw [← hLn] at f1 f2 f3
      have HF1 := hid f1
      have hdue : (q = 0 ∧ L.length = 2) ∨ (q = 2 ∧ L.length = 8) ∨ (q ≠ 0 ∧ q ≠ 2 ∧ L.length = 4) := by
        rcases plI_cases hV with rfl | rfl | ⟨Q, rfl, hQ, h3, h5⟩
        · left; rw [hLn]; decide
        · right; left; rw [hLn]; decide
        · right; right; rw [hLn, names_odd h3]; exact ⟨by omega, by omega, rfl⟩
      clear hV hp hL hLn f1
      go_wp2_with fail
      refine (localNames_any q _).mono ?_
      rw [P.out, ← HLE.out]
      rintro e w2 ⟨v, rfl, ho, hb1⟩
      have hB1 := hb.trans (hb1.mono hb.size)
      have HO := hid ho
      go_wp2_with fail
      refine (localNamesS_any q _).mono ?_
      rw [P.out, ← HLE.out]
      rintro e w3 ⟨v2, rfl, ho2, hb2⟩
      have HB2 := hid (hB1.trans (hb2.mono hB1.size))
      have HO2 := hid (HO.out.keep HO.out.lt hb2)
      have HR2 := hid ho2.rd
      clear ho ho2 hb hb1 hb2 hB1
      obtain ⟨a, cap, rfl, hform⟩ := HO2.out.rd.form
      obtain ⟨b, o, rfl, hml, hc⟩ := hform f2
      have HR1 := hid HO2.out.rd
      have hltb := HO2.out.lt b rfl
      have HCc := hid hc
      unfold maxLen at hml
      clear hc hform
      go_wp2_with fail
      refine (sameInts_any _ _ _ _ _ HR1.out HR2.out).mono ?_
      rintro e w4 ⟨rfl, kk, hw4⟩
      have HB4 : Hid (Below w.heap.size w w4) := hid (by rw [hw4]; exact below_drewN HB2.out kk)
      have HO4 : Hid (Owns w4 w1.heap.size (.slice (some ⟨b, o, none⟩) L.length cap) L) := hid (by rw [hw4]; exact HO2.out.drewN kk)
      have HC4 : Hid (∀ wx : World, Below w4.heap.size w4 wx → ∀ i, i < L.length → wx.cell? ⟨b, o + i, none⟩ = some (.int .i64 (L.getD i 0))) := hid (fun wx hbx i hi => by
        rw [hbx.cell (p := ⟨b, o + i, none⟩) (HO4.out.lt b rfl)]
        rw [hw4]
        exact HCc.out i hi)
      have HR4 : Hid (∀ wx : World, Below w4.heap.size w4 wx → Rd wx (.slice (some ⟨b, o, none⟩) L.length cap) L) := hid (fun wx hbx => (HO4.out.keep HO4.out.lt hbx).rd)
      clear hw4 hltb
      have hs4 := HB4.out.size
      rcases hdue with ⟨hq, hlen⟩ | ⟨hq, hlen⟩ | ⟨hq, hq2, hlen⟩
      · have T0 : (q == 0) = true := by rw [beq_iff_eq]; exact hq
        have T2 : (q == 2) = false := by rw [beq_eq_false_iff_ne]; omega
        have TL : ((L.length : Int) == 2) = true := by rw [beq_iff_eq]; omega
        clear hq hlen
        go_wp2_with fail
        go_loopw [9] (fun si wr => ∃ I : Nat, si = .int .i64 I ∧ I ≤ L.length ∧ Below w4.heap.size w4 wr) (fun si _ => L.length - (intOf si).toNat)
        case atStart => exact ⟨0, rfl, by omega, Below.refl _ _⟩
        case round =>
          obtain ⟨I, rfl, hI, hBr⟩ := hrel
          rename World => wA
          by_cases hlt : I < L.length
          · have hI0 : (I : Int) < (L.length : Int) := by omega
            have hA0 : Hid (Owns (wA.alloc (.cells #[] 3)) w4.heap.size (.slice (some ⟨wA.heap.size, 0, none⟩) 0 0) (rowL q I 0)) := hid (World.ownsRow_made (size := 1) wA #[] 0 hBr.size (by unfold maxLen; omega) rfl)
            have hBa := hBr.alloc hBr.size (.cells #[] 3)
            go_wp2_with fail
            go_loopw [10, 11] (fun sr sk wx => ∃ K : Nat, sk = .int .i64 K ∧ K ≤ L.length ∧ Hid (Owns wx w4.heap.size sr (rowL q I K)) ∧ Below w4.heap.size w4 wx) (fun _ sk _ => L.length - (intOf sk).toNat)
            case atStart => exact ⟨0, rfl, by omega, hA0, hBa⟩
            case round =>
              obtain ⟨K, rfl, hK, HOr, hBy⟩ := hrel
              rename World => wy
              by_cases hlt2 : K < L.length
              · have hK0 : (K : Int) < (L.length : Int) := by omega
                obtain ⟨g1, g2, g3, g4⟩ := HFACT.out I K hlt hlt2
                have c1 := HC4.out _ hBy I hlt
                have c2 := HC4.out _ hBy K hlt2
                obtain ⟨x, hx⟩ : ∃ x, x = L.getD I 0 := ⟨_, rfl⟩
                obtain ⟨y, hy⟩ : ∃ y, y = L.getD K 0 := ⟨_, rfl⟩
                obtain ⟨z, hz⟩ : ∃ z, z = prodN q I K := ⟨_, rfl⟩
                rw [← hx] at c1
                rw [← hy] at c2
                rw [← hx, ← hy, ← hz] at g1
                rw [← hz] at g2 g3 g4
                have G1 := hid g1
                have G2 := hid g2
                have G4 := hid g4
                have HX := hid hx
                have HY := hid hy
                have HZ : Hid (rowL q I (K + 1) = rowL q I K ++ [z]) := hid (by rw [hz]; exact rowL_succ q I K)
                have hT : ((I : Int) == (K : Int)) = false ∨ (((I : Int) == (K : Int)) = true ∧ (z != 1) = false) := by
                  by_cases e : I = K
                  · right; exact ⟨by rw [beq_iff_eq]; omega, by rw [g3 e]; rfl⟩
                  · left; rw [beq_eq_false_iff_ne]; omega
                obtain ⟨pre, hpre⟩ : ∃ pre, pre = rowL q I K := ⟨_, rfl⟩
                have hprel : pre.length ≤ 8 := by rw [hpre, rowL_len]; omega
                rw [← hpre] at HOr G4 HZ
                have HOC := HOr
                have HLT := hid HOr.out.lt
                clear g1 g2 g3 g4 hx hy hz hpre
                go_wp2_with fail
                go_region_held3 (fun wx => Below w4.heap.size w4 wx ∧ wx.cell? ⟨b, o + I, none⟩ = some (.int .i64 x) ∧ wx.cell? ⟨b, o + K, none⟩ = some (.int .i64 y)) (first | exact ⟨hb2.out, d1, d2⟩ | exact ⟨hBy.drew, c1, c2⟩)
                  (first | (go_at_call 29; refine (localMul_any _ _ _ _).mono ?_; rw [G1.out]; rintro e w' ⟨rfl, hbq⟩; have hb2 := hid (hBy.trans ((below_of_drew hbq).mono hBy.size)); have d1 := HC4.out _ hb2.out I hlt; rw [← HX.out] at d1; have d2 := HC4.out _ hb2.out K hlt2; rw [← HY.out] at d2; have HOz := hid (HOC.out.keep HLT.out (below_of_drew hbq))))
                rename World => wz
                have HRz := hid HOz.out.rd
                have HRL := hid (HR4.out _ hb2.out)
                have hbz := hb2.out.size
                rcases hT with hT | ⟨hT, hT2⟩
                · go_wp2_with fail
                  refine (hasInt_any _ _ _ _ HRz.out).mono ?_
                  rw [G4.out]
                  rintro e w6 ⟨rfl, rfl⟩
                  go_wp2_with fail
                  refine (hasInt_any _ _ _ _ HRL.out).mono ?_
                  rw [G2.out]
                  rintro e w6 ⟨rfl, rfl⟩
                  go_wp2_with (at_builtin; refine wpList_append_own_at _ rfl _ _ 31 rfl w4.heap.size 3 i0 (.int .i64 0) 1 8 Try.underlying31 hi hz0 hz1 hz2 rfl (by decide) _ _ _ rfl ((show World.ownsRow _ _ _ _ _ _ _ from HOz.out).alloc _) ⟨wz.heap.size, 0, none⟩ 1 1 [.int .i64 z] rfl rfl (cell_one_new _ _ _) (by simp [Value.oneCell']) (by unfold maxLen; omega) (by omega) (by simp; omega) ?_; intro v' w5 hown' hgrow _ hat)
                  go_round
                  case measure => simp only [intOf]; omega
                  case rel =>
                    refine ⟨K + 1, by go_num, by omega, hid ?_, (hb2.out.alloc hbz _).grown hgrow (by simp; omega) (fun k e => HOz.out.ge k e)⟩
                    rw [HZ.out]
                    unfold Owns
                    simpa using hown'
                · go_wp2_with fail
                  refine (hasInt_any _ _ _ _ HRz.out).mono ?_
                  rw [G4.out]
                  rintro e w6 ⟨rfl, rfl⟩
                  go_wp2_with fail
                  refine (hasInt_any _ _ _ _ HRL.out).mono ?_
                  rw [G2.out]
                  rintro e w6 ⟨rfl, rfl⟩
                  go_wp2_with (at_builtin; refine wpList_append_own_at _ rfl _ _ 31 rfl w4.heap.size 3 i0 (.int .i64 0) 1 8 Try.underlying31 hi hz0 hz1 hz2 rfl (by decide) _ _ _ rfl ((show World.ownsRow _ _ _ _ _ _ _ from HOz.out).alloc _) ⟨wz.heap.size, 0, none⟩ 1 1 [.int .i64 z] rfl rfl (cell_one_new _ _ _) (by simp [Value.oneCell']) (by unfold maxLen; omega) (by omega) (by simp; omega) ?_; intro v' w5 hown' hgrow _ hat)
                  go_round
                  case measure => simp only [intOf]; omega
                  case rel =>
                    refine ⟨K + 1, by go_num, by omega, hid ?_, (hb2.out.alloc hbz _).grown hgrow (by simp; omega) (fun k e => HOz.out.ge k e)⟩
                    rw [HZ.out]
                    unfold Owns
                    simpa using hown'
              · obtain rfl : K = L.length := by omega
                clear hlt2
                go_wp2_with fail
                go_round
                case measure => simp only [intOf]; omega
                case rel => exact ⟨I + 1, by go_num, by omega, hBy⟩
          · obtain rfl : I = L.length := by omega
            have c0 := HC4.out _ hBr 0 f2
            rw [Nat.add_zero, HF1.out] at c0
            clear hlt
            go_wp2_with fail
            go_ret
            exact ⟨rfl, HB4.out.trans (hBr.mono hs4)⟩
      · have T0 : (q == 0) = false := by rw [beq_eq_false_iff_ne]; omega
        have T2 : (q == 2) = true := by rw [beq_iff_eq]; exact hq
        have TL : ((L.length : Int) == 8) = true := by rw [beq_iff_eq]; omega
        clear hq hlen
        go_wp2_with fail
        go_loopw [9] (fun si wr => ∃ I : Nat, si = .int .i64 I ∧ I ≤ L.length ∧ Below w4.heap.size w4 wr) (fun si _ => L.length - (intOf si).toNat)
        case atStart => exact ⟨0, rfl, by omega, Below.refl _ _⟩
        case round =>
          obtain ⟨I, rfl, hI, hBr⟩ := hrel
          rename World => wA
          by_cases hlt : I < L.length
          · have hI0 : (I : Int) < (L.length : Int) := by omega
            have hA0 : Hid (Owns (wA.alloc (.cells #[] 3)) w4.heap.size (.slice (some ⟨wA.heap.size, 0, none⟩) 0 0) (rowL q I 0)) := hid (World.ownsRow_made (size := 1) wA #[] 0 hBr.size (by unfold maxLen; omega) rfl)
            have hBa := hBr.alloc hBr.size (.cells #[] 3)
            go_wp2_with fail
            go_loopw [10, 11] (fun sr sk wx => ∃ K : Nat, sk = .int .i64 K ∧ K ≤ L.length ∧ Hid (Owns wx w4.heap.size sr (rowL q I K)) ∧ Below w4.heap.size w4 wx) (fun _ sk _ => L.length - (intOf sk).toNat)
            case atStart => exact ⟨0, rfl, by omega, hA0, hBa⟩
            case round =>
              obtain ⟨K, rfl, hK, HOr, hBy⟩ := hrel
              rename World => wy
              by_cases hlt2 : K < L.length
              · have hK0 : (K : Int) < (L.length : Int) := by omega
                obtain ⟨g1, g2, g3, g4⟩ := HFACT.out I K hlt hlt2
                have c1 := HC4.out _ hBy I hlt
                have c2 := HC4.out _ hBy K hlt2
                obtain ⟨x, hx⟩ : ∃ x, x = L.getD I 0 := ⟨_, rfl⟩
                obtain ⟨y, hy⟩ : ∃ y, y = L.getD K 0 := ⟨_, rfl⟩
                obtain ⟨z, hz⟩ : ∃ z, z = prodN q I K := ⟨_, rfl⟩
                rw [← hx] at c1
                rw [← hy] at c2
                rw [← hx, ← hy, ← hz] at g1
                rw [← hz] at g2 g3 g4
                have G1 := hid g1
                have G2 := hid g2
                have G4 := hid g4
                have HX := hid hx
                have HY := hid hy
                have HZ : Hid (rowL q I (K + 1) = rowL q I K ++ [z]) := hid (by rw [hz]; exact rowL_succ q I K)
                have hT : ((I : Int) == (K : Int)) = false ∨ (((I : Int) == (K : Int)) = true ∧ (z != 1) = false) := by
                  by_cases e : I = K
                  · right; exact ⟨by rw [beq_iff_eq]; omega, by rw [g3 e]; rfl⟩
                  · left; rw [beq_eq_false_iff_ne]; omega
                obtain ⟨pre, hpre⟩ : ∃ pre, pre = rowL q I K := ⟨_, rfl⟩
                have hprel : pre.length ≤ 8 := by rw [hpre, rowL_len]; omega
                rw [← hpre] at HOr G4 HZ
                have HOC := HOr
                have HLT := hid HOr.out.lt
                clear g1 g2 g3 g4 hx hy hz hpre
                go_wp2_with fail
                go_region_held3 (fun wx => Below w4.heap.size w4 wx ∧ wx.cell? ⟨b, o + I, none⟩ = some (.int .i64 x) ∧ wx.cell? ⟨b, o + K, none⟩ = some (.int .i64 y)) (first | exact ⟨hb2.out, d1, d2⟩ | exact ⟨hBy.drew, c1, c2⟩)
                  (first | (go_at_call 29; refine (localMul_any _ _ _ _).mono ?_; rw [G1.out]; rintro e w' ⟨rfl, hbq⟩; have hb2 := hid (hBy.trans ((below_of_drew hbq).mono hBy.size)); have d1 := HC4.out _ hb2.out I hlt; rw [← HX.out] at d1; have d2 := HC4.out _ hb2.out K hlt2; rw [← HY.out] at d2; have HOz := hid (HOC.out.keep HLT.out (below_of_drew hbq))))
                rename World => wz
                have HRz := hid HOz.out.rd
                have HRL := hid (HR4.out _ hb2.out)
                have hbz := hb2.out.size
                rcases hT with hT | ⟨hT, hT2⟩
                · go_wp2_with fail
                  refine (hasInt_any _ _ _ _ HRz.out).mono ?_
                  rw [G4.out]
                  rintro e w6 ⟨rfl, rfl⟩
                  go_wp2_with fail
                  refine (hasInt_any _ _ _ _ HRL.out).mono ?_
                  rw [G2.out]
                  rintro e w6 ⟨rfl, rfl⟩
                  go_wp2_with (at_builtin; refine wpList_append_own_at _ rfl _ _ 31 rfl w4.heap.size 3 i0 (.int .i64 0) 1 8 Try.underlying31 hi hz0 hz1 hz2 rfl (by decide) _ _ _ rfl ((show World.ownsRow _ _ _ _ _ _ _ from HOz.out).alloc _) ⟨wz.heap.size, 0, none⟩ 1 1 [.int .i64 z] rfl rfl (cell_one_new _ _ _) (by simp [Value.oneCell']) (by unfold maxLen; omega) (by omega) (by simp; omega) ?_; intro v' w5 hown' hgrow _ hat)
                  go_round
                  case measure => simp only [intOf]; omega
                  case rel =>
                    refine ⟨K + 1, by go_num, by omega, hid ?_, (hb2.out.alloc hbz _).grown hgrow (by simp; omega) (fun k e => HOz.out.ge k e)⟩
                    rw [HZ.out]
                    unfold Owns
                    simpa using hown'
                · go_wp2_with fail
                  refine (hasInt_any _ _ _ _ HRz.out).mono ?_
                  rw [G4.out]
                  rintro e w6 ⟨rfl, rfl⟩
                  go_wp2_with fail
                  refine (hasInt_any _ _ _ _ HRL.out).mono ?_
                  rw [G2.out]
                  rintro e w6 ⟨rfl, rfl⟩
                  go_wp2_with (at_builtin; refine wpList_append_own_at _ rfl _ _ 31 rfl w4.heap.size 3 i0 (.int .i64 0) 1 8 Try.underlying31 hi hz0 hz1 hz2 rfl (by decide) _ _ _ rfl ((show World.ownsRow _ _ _ _ _ _ _ from HOz.out).alloc _) ⟨wz.heap.size, 0, none⟩ 1 1 [.int .i64 z] rfl rfl (cell_one_new _ _ _) (by simp [Value.oneCell']) (by unfold maxLen; omega) (by omega) (by simp; omega) ?_; intro v' w5 hown' hgrow _ hat)
                  go_round
                  case measure => simp only [intOf]; omega
                  case rel =>
                    refine ⟨K + 1, by go_num, by omega, hid ?_, (hb2.out.alloc hbz _).grown hgrow (by simp; omega) (fun k e => HOz.out.ge k e)⟩
                    rw [HZ.out]
                    unfold Owns
                    simpa using hown'
              · obtain rfl : K = L.length := by omega
                clear hlt2
                go_wp2_with fail
                go_round
                case measure => simp only [intOf]; omega
                case rel => exact ⟨I + 1, by go_num, by omega, hBy⟩
          · obtain rfl : I = L.length := by omega
            have c0 := HC4.out _ hBr 0 f2
            rw [Nat.add_zero, HF1.out] at c0
            clear hlt
            go_wp2_with fail
            go_ret
            exact ⟨rfl, HB4.out.trans (hBr.mono hs4)⟩
      · have T0 : (q == 0) = false := by rw [beq_eq_false_iff_ne]; exact hq
        have T2 : (q == 2) = false := by rw [beq_eq_false_iff_ne]; exact hq2
        have TL : ((L.length : Int) == 4) = true := by rw [beq_iff_eq]; omega
        clear hq hq2 hlen
        go_wp2_with fail
        go_loopw [9] (fun si wr => ∃ I : Nat, si = .int .i64 I ∧ I ≤ L.length ∧ Below w4.heap.size w4 wr) (fun si _ => L.length - (intOf si).toNat)
        case atStart => exact ⟨0, rfl, by omega, Below.refl _ _⟩
        case round =>
          obtain ⟨I, rfl, hI, hBr⟩ := hrel
          rename World => wA
          by_cases hlt : I < L.length
          · have hI0 : (I : Int) < (L.length : Int) := by omega
            have hA0 : Hid (Owns (wA.alloc (.cells #[] 3)) w4.heap.size (.slice (some ⟨wA.heap.size, 0, none⟩) 0 0) (rowL q I 0)) := hid (World.ownsRow_made (size := 1) wA #[] 0 hBr.size (by unfold maxLen; omega) rfl)
            have hBa := hBr.alloc hBr.size (.cells #[] 3)
            go_wp2_with fail
            go_loopw [10, 11] (fun sr sk wx => ∃ K : Nat, sk = .int .i64 K ∧ K ≤ L.length ∧ Hid (Owns wx w4.heap.size sr (rowL q I K)) ∧ Below w4.heap.size w4 wx) (fun _ sk _ => L.length - (intOf sk).toNat)
            case atStart => exact ⟨0, rfl, by omega, hA0, hBa⟩
            case round =>
              obtain ⟨K, rfl, hK, HOr, hBy⟩ := hrel
              rename World => wy
              by_cases hlt2 : K < L.length
              · have hK0 : (K : Int) < (L.length : Int) := by omega
                obtain ⟨g1, g2, g3, g4⟩ := HFACT.out I K hlt hlt2
                have c1 := HC4.out _ hBy I hlt
                have c2 := HC4.out _ hBy K hlt2
                obtain ⟨x, hx⟩ : ∃ x, x = L.getD I 0 := ⟨_, rfl⟩
                obtain ⟨y, hy⟩ : ∃ y, y = L.getD K 0 := ⟨_, rfl⟩
                obtain ⟨z, hz⟩ : ∃ z, z = prodN q I K := ⟨_, rfl⟩
                rw [← hx] at c1
                rw [← hy] at c2
                rw [← hx, ← hy, ← hz] at g1
                rw [← hz] at g2 g3 g4
                have G1 := hid g1
                have G2 := hid g2
                have G4 := hid g4
                have HX := hid hx
                have HY := hid hy
                have HZ : Hid (rowL q I (K + 1) = rowL q I K ++ [z]) := hid (by rw [hz]; exact rowL_succ q I K)
                have hT : ((I : Int) == (K : Int)) = false ∨ (((I : Int) == (K : Int)) = true ∧ (z != 1) = false) := by
                  by_cases e : I = K
                  · right; exact ⟨by rw [beq_iff_eq]; omega, by rw [g3 e]; rfl⟩
                  · left; rw [beq_eq_false_iff_ne]; omega
                obtain ⟨pre, hpre⟩ : ∃ pre, pre = rowL q I K := ⟨_, rfl⟩
                have hprel : pre.length ≤ 8 := by rw [hpre, rowL_len]; omega
                rw [← hpre] at HOr G4 HZ
                have HOC := HOr
                have HLT := hid HOr.out.lt
                clear g1 g2 g3 g4 hx hy hz hpre
                go_wp2_with fail
                go_region_held3 (fun wx => Below w4.heap.size w4 wx ∧ wx.cell? ⟨b, o + I, none⟩ = some (.int .i64 x) ∧ wx.cell? ⟨b, o + K, none⟩ = some (.int .i64 y)) (first | exact ⟨hb2.out, d1, d2⟩ | exact ⟨hBy.drew, c1, c2⟩)
                  (first | (go_at_call 29; refine (localMul_any _ _ _ _).mono ?_; rw [G1.out]; rintro e w' ⟨rfl, hbq⟩; have hb2 := hid (hBy.trans ((below_of_drew hbq).mono hBy.size)); have d1 := HC4.out _ hb2.out I hlt; rw [← HX.out] at d1; have d2 := HC4.out _ hb2.out K hlt2; rw [← HY.out] at d2; have HOz := hid (HOC.out.keep HLT.out (below_of_drew hbq))))
                rename World => wz
                have HRz := hid HOz.out.rd
                have HRL := hid (HR4.out _ hb2.out)
                have hbz := hb2.out.size
                rcases hT with hT | ⟨hT, hT2⟩
                · go_wp2_with fail
                  refine (hasInt_any _ _ _ _ HRz.out).mono ?_
                  rw [G4.out]
                  rintro e w6 ⟨rfl, rfl⟩
                  go_wp2_with fail
                  refine (hasInt_any _ _ _ _ HRL.out).mono ?_
                  rw [G2.out]
                  rintro e w6 ⟨rfl, rfl⟩
                  go_wp2_with (at_builtin; refine wpList_append_own_at _ rfl _ _ 31 rfl w4.heap.size 3 i0 (.int .i64 0) 1 8 Try.underlying31 hi hz0 hz1 hz2 rfl (by decide) _ _ _ rfl ((show World.ownsRow _ _ _ _ _ _ _ from HOz.out).alloc _) ⟨wz.heap.size, 0, none⟩ 1 1 [.int .i64 z] rfl rfl (cell_one_new _ _ _) (by simp [Value.oneCell']) (by unfold maxLen; omega) (by omega) (by simp; omega) ?_; intro v' w5 hown' hgrow _ hat)
                  go_round
                  case measure => simp only [intOf]; omega
                  case rel =>
                    refine ⟨K + 1, by go_num, by omega, hid ?_, (hb2.out.alloc hbz _).grown hgrow (by simp; omega) (fun k e => HOz.out.ge k e)⟩
                    rw [HZ.out]
                    unfold Owns
                    simpa using hown'
                · go_wp2_with fail
                  refine (hasInt_any _ _ _ _ HRz.out).mono ?_
                  rw [G4.out]
                  rintro e w6 ⟨rfl, rfl⟩
                  go_wp2_with fail
                  refine (hasInt_any _ _ _ _ HRL.out).mono ?_
                  rw [G2.out]
                  rintro e w6 ⟨rfl, rfl⟩
                  go_wp2_with (at_builtin; refine wpList_append_own_at _ rfl _ _ 31 rfl w4.heap.size 3 i0 (.int .i64 0) 1 8 Try.underlying31 hi hz0 hz1 hz2 rfl (by decide) _ _ _ rfl ((show World.ownsRow _ _ _ _ _ _ _ from HOz.out).alloc _) ⟨wz.heap.size, 0, none⟩ 1 1 [.int .i64 z] rfl rfl (cell_one_new _ _ _) (by simp [Value.oneCell']) (by unfold maxLen; omega) (by omega) (by simp; omega) ?_; intro v' w5 hown' hgrow _ hat)
                  go_round
                  case measure => simp only [intOf]; omega
                  case rel =>
                    refine ⟨K + 1, by go_num, by omega, hid ?_, (hb2.out.alloc hbz _).grown hgrow (by simp; omega) (fun k e => HOz.out.ge k e)⟩
                    rw [HZ.out]
                    unfold Owns
                    simpa using hown'
              · obtain rfl : K = L.length := by omega
                clear hlt2
                go_wp2_with fail
                go_round
                case measure => simp only [intOf]; omega
                case rel => exact ⟨I + 1, by go_num, by omega, hBy⟩
          · obtain rfl : I = L.length := by omega
            have c0 := HC4.out _ hBr 0 f2
            rw [Nat.add_zero, HF1.out] at c0
            clear hlt
            go_wp2_with fail
            go_ret
            exact ⟨rfl, HB4.out.trans (hBr.mono hs4)⟩
theorem own : ownKnob Try.prog.godebug = none := by kernel_rfl
theorem laidOut : laidOutB Try.prog = true := by kernel_rfl
set_option maxRecDepth 100000 in
theorem lifted (os : Os) (started : os.Started) (H : Type) (enc : TypeId × Value → H) :
    ReturnsInHanded {} Try.checked os 5 .any (Rows.fnNamesSpec.pre6 enc Try.prog Try.f5 Rows.fnNamesRow.domain false) (Rows.fnNamesSpec.post enc Try.prog Try.f5 false true false false) := by
  refine returnsInHanded_of_change (C := Try.checked) own started (by kernel_rfl) Try.func5
    (ChangeSpec.witness6 (enc := enc) (C := Try.checked) false ⟨#[], #[.slice none 0 0], []⟩ 8 (by kernel_rfl) (by kernel_rfl) (by kernel_rfl) (by kernel_rfl)) ?_
  intro W base args ds gs before hval0 hW hcnd _
  have hval : ∀ (j : Nat) t v, Try.f5.params[j]? = some t → args[j]? = some v → Value.okWide Try.prog W .any base t v := hval0
  have hW' := hW
  obtain ⟨p, q, hA0, hV, rfl, hfz, hnd⟩ := hW
  have hA : DataW.TrodAll enc Try.prog W 0 (fun _ => true) true Try.f5.params.toList args.toList ds p := hA0
  rw [Try.params5] at hA hval
  obtain ⟨v0, vs0, d0, ds0, p0, q0, hargs, rfl, rfl, h0, r0⟩ := trodAll_cons hA
  obtain ⟨rfl, rfl, rfl⟩ := trodAll_nil r0
  obtain rfl : args = #[v0] := by cases args; simp_all
  obtain ⟨rfl, rfl⟩ := trodVars_none hV
  obtain ⟨a0, len0, cap0, rfl⟩ := okWide_slice Try.underlying22 (hval 0 22 v0 rfl rfl)
  have k0 := h0
  have lt0 : ∀ x ∈ p0, x.block < W.heap.size := by obtain ⟨m, hm⟩ := k0; exact DataW.trod_lt m _ _ _ hm
  obtain ⟨z0, w0⟩ : ∃ zs, IsRow .u8 W a0 len0 cap0 zs := by
    obtain ⟨fuel, hf⟩ := h0
    rcases open_ints Try.underlying22 Try.underlying5 (by kernel_rfl) hf with ⟨hcs, _⟩ | ⟨x, l, c, zs, hcs, _, hl, hm, hz, _, hcell, hwz⟩
    · simp [Value.cells] at hcs
      obtain ⟨rfl, rfl, rfl⟩ := hcs
      exact ⟨[], .inl ⟨rfl, rfl, rfl, rfl⟩⟩
    · simp [Value.cells] at hcs
      obtain ⟨rfl, rfl, rfl⟩ := hcs
      exact ⟨zs, .inr ⟨_, rfl, hl, hm, by simpa using hz, hcell, hwz⟩⟩
  clear hA0 hval0
  refine (walk a0 len0 cap0 z0 W w0).mono fun e W' ⟨he, bel⟩ => ?_
  subst he
  exact ⟨_, rfl, _, _, _, [], _, [], hW', trodAll_mk1 (shut_bool Try.underlying4 _), (trodAll_cons_mk (Below.trod laidOut (by kernel_rfl) (of_decide_eq_true (by kernel_rfl)) k0 bel lt0) trodAll_mk0), rfl, bel.frame _, fun h => by cases h⟩
theorem over : Rows.fnNamesRow.holds Try.pinned (OpenSpec.ofChange Rows.fnNamesSpec) :=
  OpenClaim.holds_of_wide 5 Try.f5 rfl rfl rfl rfl rfl rfl rfl ⟨rfl, rfl, rfl, rfl, rfl⟩ rfl rfl rfl rfl rfl (by kernel_rfl) Try.func5 (by kernel_rfl)
    (of_decide_eq_true (by kernel_rfl)) (by unfold Func.isWrapper; first | (rw [if_pos (by decide +kernel)]; kernel_rfl) | (rw [if_neg (by decide +kernel)]; exact ⟨rfl, rfl⟩))
    (fun os started H enc _ => lifted os started H enc)
theorem proved : Rows.FnNamesSaid := over
end Go.Proofs.Ytamdjgcnjgiflaa.fnNames
