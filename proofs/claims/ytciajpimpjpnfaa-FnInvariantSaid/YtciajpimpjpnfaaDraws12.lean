/-
  What the drawing functions of chapter 4 hand out: two forms that are often like each other.
-/
import Derived.Test.YtciajpimpjpnfaaDraws11
set_option linter.unusedVariables false
namespace Go.Proofs.Ytciajpimpjpnfaa
open Go.RowKit

theorem Owns.storedAt {W : World} {B g cap n : Nat} {xs : List Int} (h : Owns W B (.slice (some ⟨g, 0, none⟩) n cap) xs) (j : Nat) (x : Int) :
    Owns (W.setCell ⟨g, j, none⟩ (.int .i64 x)) B (.slice (some ⟨g, 0, none⟩) n cap) (xs.set j x) ∧ W.grownBy (W.setCell ⟨g, j, none⟩ (.int .i64 x)) (some g) := by
  have hn : n = xs.length := by
    rcases h.2 with ⟨h3, _⟩ | ⟨g', cap', cur, h3, _⟩
    · cases h3
    · simp only [Value.slice.injEq] at h3; exact h3.2.1
  subst hn
  have h2 := World.ownsRow.stored h j (.int .i64 x)
  refine ⟨?_, h2.2⟩
  unfold Owns
  rw [List.length_set, List.map_set]
  exact h2.1
theorem Owns.frozenAt' {W : World} {B g cap n : Nat} {xs : List Int} (h : Owns W B (.slice (some ⟨g, 0, none⟩) n cap) xs) (j : Nat) : W.frozen? ⟨g, j, none⟩ = false := by
  have hn : n = xs.length := by
    rcases h.2 with ⟨h3, _⟩ | ⟨g', cap', cur, h3, _⟩
    · cases h3
    · simp only [Value.slice.injEq] at h3; exact h3.2.1
  subst hn
  exact World.ownsRow.frozenAt h j
theorem fv_set {xs : List Int} {x : Int} (h : fvB xs = true) (j : Nat) (h0 : x ≠ 0) (h1 : -30 ≤ x) (h2 : x ≤ 30) : fvB (xs.set j x) = true := by
  obtain ⟨a1, a2, a3⟩ := fvB_iff.1 h
  refine fvB_iff.2 ⟨fun y hy => ?_, by rw [List.length_set]; exact a2, by rw [List.length_set]; exact a3⟩
  rcases List.mem_or_eq_of_mem_set hy with h3 | h3
  · exact a1 y h3
  · rw [h3]; exact ⟨h0, h1, h2⟩
theorem fv_terms {xs : List Int} (h : fvB xs = true) : TermsOk xs := by
  obtain ⟨a1, a2, a3⟩ := fvB_iff.1 h
  exact ⟨by omega, fun x hx => by have := a1 x hx; omega⟩
theorem core_bd {n : Int} (hn : n ≠ 0) : coreG n ≠ 0 ∧ (coreG n).natAbs ≤ n.natAbs := by
  have hc := core_is hn
  refine ⟨hc.ne hn, ?_⟩
  have e : n.natAbs = (coreG n).natAbs * (rootG n * rootG n) := by
    conv => lhs; rw [← hc.eq]
    rw [Int.natAbs_mul, Int.natAbs_mul, Int.natAbs_natCast]
  have := Nat.le_mul_of_pos_right (coreG n).natAbs (Nat.mul_pos hc.pos hc.pos)
  omega
def SamePost (w : World) (B R : Nat) (v : Value) (n p : Nat) (e : Ending) (w' : World) : Prop :=
  ∃ (u : Value) (ys : List Int) (q : Nat), e = .returned u ∧ fvB ys = true ∧ Hid (Owns w' w.heap.size u ys) ∧ q ≤ p + 4 ∧ Hid (Rdr w' B R v n q) ∧ Hid (Only R w w')
theorem SamePost.mk {w : World} {B R : Nat} {v : Value} {n p q : Nat} {u : Value} {ys : List Int} {w' : World} (h : fvB ys = true) (ho : Owns w' w.heap.size u ys) (hq : q ≤ p + 4) (hr : Rdr w' B R v n q) (hn : Only R w w') : SamePost w B R v n p (.returned u) w' :=
  ⟨u, ys, q, rfl, h, hid ho, hq, hid hr, hid hn⟩

set_option maxRecDepth 100000 in
set_option maxHeartbeats 4000000 in
theorem drawSame_any (B R : Nat) (v : Value) (n p : Nat) (hp : p ≤ 70000) (w : World) (HR : Hid (Rdr w B R v n p)) (hB : B ≤ w.heap.size) (u : Value) (xs : List Int) (HU : Hid (Rd w u xs)) (fu : Firm u) (hv : fvB xs = true) :
    Calls Try.prog 114 #[.pointer (some ⟨R, 0, none⟩), u] w (SamePost w B R v n p) := by
  have hRs := HR.out.lt
  have hBR := HR.out.1
  have HV := hid hv
  have hxl := (fvB_iff.1 hv).2
  have HXT := hid (fvB_iff.1 hv).1
  clear hv
  have HO0 : Hid (Owns (w.alloc (.cells #[] 3)) w.heap.size (.slice (some ⟨w.heap.size, 0, none⟩) 0 0) []) := hid (World.ownsRow_made (size := 1) w #[] 0 (Nat.le_refl _) (by unfold maxLen; omega) rfl)
  have HB0 := hid ((Below.refl w.heap.size w).alloc (Nat.le_refl _) (.cells #[] 3))
  have HX0 := hid (HU.out.keep HB0.out)
  go_enter Try.func114, Try.ntmps114
  go_wp2_with (at_builtin; refine append_rd rfl _ _ rfl w.heap.size _ [] rfl HO0.out u xs rfl HX0.out fu (by simp; omega) (by simp) ?_; intro v1 w1 o1 g1; have HO1 : Hid (Owns w1 w.heap.size v1 xs) := hid o1; have HB1 := hid (HB0.out.grown g1 (by simp) (fun k e => HO0.out.ge k e)); clear o1 g1)
  obtain ⟨a1, cap, rfl⟩ := HO1.out.reads
  have HR1 := hid (HR.out.kept HB1.out hRs hB)
  have HN1 := hid (Only.of_below (R := R) HB1.out)
  have hs1 := HB1.out.size
  by_cases h2 : xs.length < 2
  · have h2i : (xs.length : Int) < 2 := by omega
    simp only [Builtin.len_]
    go_simp
    go_wp2
    go_ret
    exact SamePost.mk HV.out HO1.out (by omega) HR1.out HN1.out
  · have h2i : ¬ (xs.length : Int) < 2 := by omega
    obtain ⟨g, cap2, hv2⟩ := HO1.out.slice_of (by omega)
    simp only [Value.slice.injEq, true_and] at hv2
    obtain ⟨rfl, rfl⟩ := hv2
    have hg := HO1.out.ge g rfl
    go_wp2_with fail
    refine (pick_any _ _ _ _ p ((xs.length : Int) - 1) (by omega) (by omega) (by omega) _ (HR1.out)).mono ?_
    rintro e wHC ⟨kk, r, rfl, hkk0, hkk1, _, hr, HC, HP⟩
    replace hkk1 := hkk1 (by omega)
    have hs2 := HP.out.size
    have HN2 := hid (HN1.out.trans HP.out)
    have HO2 := hid (HO1.out.only HP.out (by omega))
    clear HN1 HO1 HP HB1 HR1
    obtain ⟨K, rfl⟩ := Int.eq_ofNat_of_zero_le hkk0
    have hK1 : K + 1 < xs.length := by omega
    have hKi : (K : Int) < (xs.length : Int) := by omega
    have hKj : (K : Int) + 1 < (xs.length : Int) := by omega
    have c1 := HO2.out.at (show K < xs.length by omega)
    have c2 := HO2.out.at hK1
    have ta := HXT.out _ (List.getElem_mem (show K < xs.length by omega))
    have tb := HXT.out _ (List.getElem_mem hK1)
    obtain ⟨a, ha⟩ : ∃ a, a = xs[K] := ⟨_, rfl⟩
    obtain ⟨b, hb⟩ : ∃ b, b = xs[K + 1] := ⟨_, rfl⟩
    rw [← ha] at c1 ta
    rw [← hb] at c2 tb
    clear ha hb
    go_wp2_with fail
    refine (pick_any _ _ _ _ r 2 (by omega) (by omega) (by omega) _ (HC.out)).mono ?_
    rintro e wHD ⟨x, r2, rfl, hx0, hx1, _, hr2, HD, HQ⟩
    replace hx1 := hx1 (by omega)
    have hs3 := HQ.out.size
    have HN3 := hid (HN2.out.trans HQ.out)
    have HO3 := hid (HO2.out.only HQ.out (by omega))
    clear HN2 HO2 HQ c1 c2
    go_wp2_with fail
    refine (pick_any _ _ _ _ r2 2 (by omega) (by omega) (by omega) _ (HD.out)).mono ?_
    rintro e wHE ⟨y, r3, rfl, hy0, hy1, _, hr3, HE, HS⟩
    replace hy1 := hy1 (by omega)
    have hs4 := HS.out.size
    have HN4 := hid (HN3.out.trans HS.out)
    have HO4 := hid (HO3.out.only HS.out (by omega))
    clear HN3 HO3 HS
    have e1 : (a * x).natAbs ≤ 30 * 1 := by rw [Int.natAbs_mul]; exact Nat.mul_le_mul (by omega) (by omega)
    have e2 : (a * x * x).natAbs ≤ 30 * 1 := by rw [Int.natAbs_mul]; exact Nat.mul_le_mul (by omega) (by omega)
    have e3 : (b * (1 + y)).natAbs ≤ 30 * 2 := by rw [Int.natAbs_mul]; exact Nat.mul_le_mul (by omega) (by omega)
    have e4 : (b * (1 + y) * (1 + y)).natAbs ≤ 60 * 2 := by rw [Int.natAbs_mul]; exact Nat.mul_le_mul (by omega) (by omega)
    have b1 : -30 ≤ a * x := by omega
    have b2 : a * x ≤ 30 := by omega
    have b3 : -30 ≤ a * x * x := by omega
    have b4 : a * x * x ≤ 30 := by omega
    have b5 : -60 ≤ b * (1 + y) := by omega
    have b6 : b * (1 + y) ≤ 60 := by omega
    have b7 : -120 ≤ b * (1 + y) * (1 + y) := by omega
    have b8 : b * (1 + y) * (1 + y) ≤ 120 := by omega
    clear e1 e2 e3 e4
    have HC0 := hid tb
    have HD0 := hid ta
    by_cases ht : a * x * x + b * (1 + y) * (1 + y) = 0
    · have HOx := HO4
      have HSA := hid (HOx.out.storedAt K b)
      have HSB := hid (HSA.out.1.storedAt (K + 1) a)
      have f1 := HOx.out.frozenAt' K
      have f2 := HSA.out.1.frozenAt' (K + 1)
      have d1 := HOx.out.at (show K < xs.length by omega)
      have d2 := HSA.out.1.at (show K + 1 < (xs.set K b).length by rw [List.length_set]; omega)
      go_wp2
      go_ret
      have hb1 := Below.grown (Below.refl w.heap.size wHE) HSA.out.2 (by omega) (fun k e => by cases e; exact hg)
      have hb2 := Below.grown hb1 HSB.out.2 (Nat.le_trans (by omega) HSA.out.2.size) (fun k e => by cases e; exact hg)
      exact SamePost.mk (fv_set (fv_set HV.out K HC0.out.1 HC0.out.2.1 HC0.out.2.2) (K + 1) HD0.out.1 HD0.out.2.1 HD0.out.2.2) HSB.out.1 (by omega) (HE.out.kept hb2 hRs hB) (Only.grown (Only.grown HN4.out HSA.out.2 (fun k e => by cases e; exact hg)) HSB.out.2 (fun k e => by cases e; exact hg))
    · skip
      go_wp2_with fail
      refine (pick_any _ _ _ _ r3 3 (by omega) (by omega) (by omega) _ (HE.out)).mono ?_
      rintro e wHF ⟨z, r4, rfl, hz0, hz1, _, hr4, HF, HT⟩
      replace hz1 := hz1 (by omega)
      have hs5 := HT.out.size
      have HN5 := hid (HN4.out.trans HT.out)
      have HO5 := hid (HO4.out.only HT.out (by omega))
      clear HN4 HO4 HT
      by_cases hz : z > 0
      · skip
        have q1 : (a * b).natAbs ≤ 30 * 30 := by rw [Int.natAbs_mul]; exact Nat.mul_le_mul (by omega) (by omega)
        have q2 : (a * b * (a * x * x + b * (1 + y) * (1 + y))).natAbs ≤ 900 * 150 := by rw [Int.natAbs_mul]; exact Nat.mul_le_mul (by omega) (by omega)
        have q3 : -900 ≤ a * b := by omega
        have q4 : a * b ≤ 900 := by omega
        have q5 : -135000 ≤ a * b * (a * x * x + b * (1 + y) * (1 + y)) := by omega
        have q6 : a * b * (a * x * x + b * (1 + y) * (1 + y)) ≤ 135000 := by omega
        have HT0 := hid ht
        have HT2 := hid (Int.mul_ne_zero (Int.mul_ne_zero ta.1 tb.1) ht)
        have kc := core_bd HT0.out
        have kd := core_bd HT2.out
        obtain ⟨c, hc⟩ : ∃ c, c = coreG (a * x * x + b * (1 + y) * (1 + y)) := ⟨_, rfl⟩
        obtain ⟨d, hd⟩ : ∃ d, d = coreG (a * b * (a * x * x + b * (1 + y) * (1 + y))) := ⟨_, rfl⟩
        rw [← hc] at kc
        rw [← hd] at kd
        have HCE := hid hc.symm
        have HDE := hid hd.symm
        have kcn : c.natAbs ≤ 150 := by omega
        have kdn : d.natAbs ≤ 135000 := by omega
        have HKC := hid kc.1
        have HKD := hid kd.1
        clear q1 q2 hc hd ht kc kd
        go_wp2_with fail
        refine (l1CoreG_any _ HT0.out (by omega) (by omega) _).mono ?_
        rw [HCE.out]
        rintro e w' ⟨rfl, rfl⟩
        go_wp2_with fail
        refine (l1CoreG_any _ HT2.out (by omega) (by omega) _).mono ?_
        rw [HDE.out]
        rintro e w' ⟨rfl, rfl⟩
        obtain ⟨nc, hnc⟩ : ∃ nc, nc = c.natAbs := ⟨_, rfl⟩
        obtain ⟨nd, hnd⟩ : ∃ nd, nd = d.natAbs := ⟨_, rfl⟩
        have HNC := hid hnc
        have HND := hid hnd
        by_cases hc30 : c.natAbs ≤ 30
        · have hc31 : (nc : Int) ≤ 30 := by omega
          clear hnc
          go_wp2_with fail
          refine (l1Size_any c (by omega) (by omega) _).mono ?_
          rw [← HNC.out]
          rintro e w' ⟨rfl, rfl⟩
          by_cases hd30 : d.natAbs ≤ 30
          · have hd31 : (nd : Int) ≤ 30 := by omega
            clear hnd
            go_wp2_with fail
            refine (l1Size_any d (by omega) (by omega) _).mono ?_
            rw [← HND.out]
            rintro e w' ⟨rfl, rfl⟩
            have HOx := HO5
            have HC0 : Hid (c ≠ 0 ∧ -30 ≤ c ∧ c ≤ 30) := hid ⟨HKC.out, by omega, by omega⟩
            have HD0 : Hid (d ≠ 0 ∧ -30 ≤ d ∧ d ≤ 30) := hid ⟨HKD.out, by omega, by omega⟩
            have HSA := hid (HOx.out.storedAt K c)
            have HSB := hid (HSA.out.1.storedAt (K + 1) d)
            have f1 := HOx.out.frozenAt' K
            have f2 := HSA.out.1.frozenAt' (K + 1)
            have d1 := HOx.out.at (show K < xs.length by omega)
            have d2 := HSA.out.1.at (show K + 1 < (xs.set K c).length by rw [List.length_set]; omega)
            go_wp2
            go_ret
            have hb1 := Below.grown (Below.refl w.heap.size wHF) HSA.out.2 (by omega) (fun k e => by cases e; exact hg)
            have hb2 := Below.grown hb1 HSB.out.2 (Nat.le_trans (by omega) HSA.out.2.size) (fun k e => by cases e; exact hg)
            exact SamePost.mk (fv_set (fv_set HV.out K HC0.out.1 HC0.out.2.1 HC0.out.2.2) (K + 1) HD0.out.1 HD0.out.2.1 HD0.out.2.2) HSB.out.1 (by omega) (HF.out.kept hb2 hRs hB) (Only.grown (Only.grown HN5.out HSA.out.2 (fun k e => by cases e; exact hg)) HSB.out.2 (fun k e => by cases e; exact hg))
          · have hd31 : ¬ (nd : Int) ≤ 30 := by omega
            clear hnd
            go_wp2_with fail
            refine (l1Size_any d (by omega) (by omega) _).mono ?_
            rw [← HND.out]
            rintro e w' ⟨rfl, rfl⟩
            have HOx := HO5
            have HSA := hid (HOx.out.storedAt K b)
            have HSB := hid (HSA.out.1.storedAt (K + 1) a)
            have f1 := HOx.out.frozenAt' K
            have f2 := HSA.out.1.frozenAt' (K + 1)
            have d1 := HOx.out.at (show K < xs.length by omega)
            have d2 := HSA.out.1.at (show K + 1 < (xs.set K b).length by rw [List.length_set]; omega)
            go_wp2
            go_ret
            have hb1 := Below.grown (Below.refl w.heap.size wHF) HSA.out.2 (by omega) (fun k e => by cases e; exact hg)
            have hb2 := Below.grown hb1 HSB.out.2 (Nat.le_trans (by omega) HSA.out.2.size) (fun k e => by cases e; exact hg)
            exact SamePost.mk (fv_set (fv_set HV.out K HC0.out.1 HC0.out.2.1 HC0.out.2.2) (K + 1) HD0.out.1 HD0.out.2.1 HD0.out.2.2) HSB.out.1 (by omega) (HF.out.kept hb2 hRs hB) (Only.grown (Only.grown HN5.out HSA.out.2 (fun k e => by cases e; exact hg)) HSB.out.2 (fun k e => by cases e; exact hg))
        · have hc31 : ¬ (nc : Int) ≤ 30 := by omega
          clear hnc
          go_wp2_with fail
          refine (l1Size_any c (by omega) (by omega) _).mono ?_
          rw [← HNC.out]
          rintro e w' ⟨rfl, rfl⟩
          have HOx := HO5
          have HSA := hid (HOx.out.storedAt K b)
          have HSB := hid (HSA.out.1.storedAt (K + 1) a)
          have f1 := HOx.out.frozenAt' K
          have f2 := HSA.out.1.frozenAt' (K + 1)
          have d1 := HOx.out.at (show K < xs.length by omega)
          have d2 := HSA.out.1.at (show K + 1 < (xs.set K b).length by rw [List.length_set]; omega)
          go_wp2
          go_ret
          have hb1 := Below.grown (Below.refl w.heap.size wHF) HSA.out.2 (by omega) (fun k e => by cases e; exact hg)
          have hb2 := Below.grown hb1 HSB.out.2 (Nat.le_trans (by omega) HSA.out.2.size) (fun k e => by cases e; exact hg)
          exact SamePost.mk (fv_set (fv_set HV.out K HC0.out.1 HC0.out.2.1 HC0.out.2.2) (K + 1) HD0.out.1 HD0.out.2.1 HD0.out.2.2) HSB.out.1 (by omega) (HF.out.kept hb2 hRs hB) (Only.grown (Only.grown HN5.out HSA.out.2 (fun k e => by cases e; exact hg)) HSB.out.2 (fun k e => by cases e; exact hg))
      · have HOx := HO5
        have HSA := hid (HOx.out.storedAt K b)
        have HSB := hid (HSA.out.1.storedAt (K + 1) a)
        have f1 := HOx.out.frozenAt' K
        have f2 := HSA.out.1.frozenAt' (K + 1)
        have d1 := HOx.out.at (show K < xs.length by omega)
        have d2 := HSA.out.1.at (show K + 1 < (xs.set K b).length by rw [List.length_set]; omega)
        go_wp2
        go_ret
        have hb1 := Below.grown (Below.refl w.heap.size wHF) HSA.out.2 (by omega) (fun k e => by cases e; exact hg)
        have hb2 := Below.grown hb1 HSB.out.2 (Nat.le_trans (by omega) HSA.out.2.size) (fun k e => by cases e; exact hg)
        exact SamePost.mk (fv_set (fv_set HV.out K HC0.out.1 HC0.out.2.1 HC0.out.2.2) (K + 1) HD0.out.1 HD0.out.2.1 HD0.out.2.2) HSB.out.1 (by omega) (HF.out.kept hb2 hRs hB) (Only.grown (Only.grown HN5.out HSA.out.2 (fun k e => by cases e; exact hg)) HSB.out.2 (fun k e => by cases e; exact hg))

end Go.Proofs.Ytciajpimpjpnfaa
