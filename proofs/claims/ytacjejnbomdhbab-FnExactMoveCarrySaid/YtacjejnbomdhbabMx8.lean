/-
  Contracts of the model's chapter 7: determinants, signs.
-/
import Derived.Test.YtacjejnbomdhbabQBun25
set_option linter.unusedVariables false
namespace Go.Proofs.Ytacjejnbomdhbab
open Go.RowKit

theorem mul_bd18 {x y : Int} (h1 : -1000000 ≤ x ∧ x ≤ 1000000) (h2 : -2000000000000 ≤ y ∧ y ≤ 2000000000000) : -2000000000000000000 ≤ x * y ∧ x * y ≤ 2000000000000000000 := by
  have e : (x * y).natAbs ≤ 1000000 * 2000000000000 := by rw [Int.natAbs_mul]; exact Nat.mul_le_mul (by omega) (by omega)
  omega

set_option maxRecDepth 100000 in
set_option maxHeartbeats 4000000 in
theorem l7Det_any (v : Value) (R : List (List Int)) (n : Nat) (w : World) (hm : RdM w v R) (hs : Sq n R) (hn : n = 1 ∨ n = 2 ∨ n = 3) (hb : ∀ i k, -1000000 ≤ at2 R i k ∧ at2 R i k ≤ 1000000) : Calls Try.prog 71 #[v] w fun e w' => e = .returned (.int .i64 (detF n (at2 R))) ∧ ∃ k, w' = w.drewN k := by
  obtain ⟨a, cap, rfl⟩ := hm.form
  have hrow : ∀ t, t < n → (R.getD t []).length = n := fun t ht => by
    rw [List.getD_eq_getElem?_getD, List.getElem?_eq_getElem (by rw [hs.1]; exact ht)]
    exact hs.2 _ (List.getElem_mem _)
  obtain ⟨b, o, _, rfl, _, _⟩ := hm.row (i := 0) (by rw [hs.1]; omega)
  have hl := hs.1
  have HRL := hid hl
  rcases hn with rfl | rfl | rfl
  · skip
    obtain ⟨b0, o0, k0, h0, c0⟩ := row_cells hm (t := 0) (by rw [HRL.out]; omega) (show 0 < 1 by omega) (hrow 0 (by omega))
    have e00 := c0 0 (by omega)
    simp only [Nat.add_zero] at h0 e00
    have q00 := hb 0 0
    have HDET := hid (det1 (at2 R))
    obtain ⟨x00, y00⟩ : ∃ x, x = at2 R 0 0 := ⟨_, rfl⟩
    rw [← y00] at e00 q00 HDET
    rw [hl]
    clear c0 y00 hl hrow hs hm hb
    go_enter Try.func71, Try.ntmps71
    go_wp2_with fail
    go_ret
    exact ⟨retI HDET.out.symm, 0, rfl⟩
  · skip
    obtain ⟨b0, o0, k0, h0, c0⟩ := row_cells hm (t := 0) (by rw [HRL.out]; omega) (show 0 < 2 by omega) (hrow 0 (by omega))
    obtain ⟨b1, o1, k1, h1, c1⟩ := row_cells hm (t := 1) (by rw [HRL.out]; omega) (show 0 < 2 by omega) (hrow 1 (by omega))
    have e00 := c0 0 (by omega)
    have e01 := c0 1 (by omega)
    have e10 := c1 0 (by omega)
    have e11 := c1 1 (by omega)
    simp only [Nat.add_zero] at h0 h1 e00 e01 e10 e11
    have q00 := hb 0 0
    have q01 := hb 0 1
    have q10 := hb 1 0
    have q11 := hb 1 1
    have HDET := hid (det2 (at2 R))
    obtain ⟨x00, y00⟩ : ∃ x, x = at2 R 0 0 := ⟨_, rfl⟩
    obtain ⟨x01, y01⟩ : ∃ x, x = at2 R 0 1 := ⟨_, rfl⟩
    obtain ⟨x10, y10⟩ : ∃ x, x = at2 R 1 0 := ⟨_, rfl⟩
    obtain ⟨x11, y11⟩ : ∃ x, x = at2 R 1 1 := ⟨_, rfl⟩
    rw [← y00] at e00 q00 HDET
    rw [← y01] at e01 q01 HDET
    rw [← y10] at e10 q10 HDET
    rw [← y11] at e11 q11 HDET
    rw [hl]
    obtain ⟨m1, m2⟩ := mul_bd12 q00 q11
    obtain ⟨m3, m4⟩ := mul_bd12 q01 q10
    clear c0 c1 y00 y01 y10 y11 hl hrow hs hm hb
    go_enter Try.func71, Try.ntmps71
    go_wp2_with fail
    go_quiet (fail)
    go_wp2_with fail
    go_ret
    exact ⟨retI HDET.out.symm, _, rfl⟩
  · skip
    obtain ⟨b0, o0, k0, h0, c0⟩ := row_cells hm (t := 0) (by rw [HRL.out]; omega) (show 0 < 3 by omega) (hrow 0 (by omega))
    obtain ⟨b1, o1, k1, h1, c1⟩ := row_cells hm (t := 1) (by rw [HRL.out]; omega) (show 0 < 3 by omega) (hrow 1 (by omega))
    obtain ⟨b2, o2, k2, h2, c2⟩ := row_cells hm (t := 2) (by rw [HRL.out]; omega) (show 0 < 3 by omega) (hrow 2 (by omega))
    have e00 := c0 0 (by omega)
    have e01 := c0 1 (by omega)
    have e02 := c0 2 (by omega)
    have e10 := c1 0 (by omega)
    have e11 := c1 1 (by omega)
    have e12 := c1 2 (by omega)
    have e20 := c2 0 (by omega)
    have e21 := c2 1 (by omega)
    have e22 := c2 2 (by omega)
    simp only [Nat.add_zero] at h0 h1 h2 e00 e01 e02 e10 e11 e12 e20 e21 e22
    have q00 := hb 0 0
    have q01 := hb 0 1
    have q02 := hb 0 2
    have q10 := hb 1 0
    have q11 := hb 1 1
    have q12 := hb 1 2
    have q20 := hb 2 0
    have q21 := hb 2 1
    have q22 := hb 2 2
    have HDET := hid (det3 (at2 R))
    obtain ⟨x00, y00⟩ : ∃ x, x = at2 R 0 0 := ⟨_, rfl⟩
    obtain ⟨x01, y01⟩ : ∃ x, x = at2 R 0 1 := ⟨_, rfl⟩
    obtain ⟨x02, y02⟩ : ∃ x, x = at2 R 0 2 := ⟨_, rfl⟩
    obtain ⟨x10, y10⟩ : ∃ x, x = at2 R 1 0 := ⟨_, rfl⟩
    obtain ⟨x11, y11⟩ : ∃ x, x = at2 R 1 1 := ⟨_, rfl⟩
    obtain ⟨x12, y12⟩ : ∃ x, x = at2 R 1 2 := ⟨_, rfl⟩
    obtain ⟨x20, y20⟩ : ∃ x, x = at2 R 2 0 := ⟨_, rfl⟩
    obtain ⟨x21, y21⟩ : ∃ x, x = at2 R 2 1 := ⟨_, rfl⟩
    obtain ⟨x22, y22⟩ : ∃ x, x = at2 R 2 2 := ⟨_, rfl⟩
    rw [← y00] at e00 q00 HDET
    rw [← y01] at e01 q01 HDET
    rw [← y02] at e02 q02 HDET
    rw [← y10] at e10 q10 HDET
    rw [← y11] at e11 q11 HDET
    rw [← y12] at e12 q12 HDET
    rw [← y20] at e20 q20 HDET
    rw [← y21] at e21 q21 HDET
    rw [← y22] at e22 q22 HDET
    rw [hl]
    have p0a := mul_bd12 q11 q22
    have p0b := mul_bd12 q12 q21
    have s0 := mul_bd18 (y := x11 * x22 - x12 * x21) q00 (by omega)
    have p1a := mul_bd12 q12 q20
    have p1b := mul_bd12 q10 q22
    have s1 := mul_bd18 (y := x12 * x20 - x10 * x22) q01 (by omega)
    have p2a := mul_bd12 q10 q21
    have p2b := mul_bd12 q11 q20
    have s2 := mul_bd18 (y := x10 * x21 - x11 * x20) q02 (by omega)
    have PB := hid (And.intro p0a (And.intro p0b (And.intro p1a (And.intro p1b (And.intro p2a (And.intro p2b (And.intro s0 (And.intro s1 s2))))))))
    clear c0 c1 c2 y00 y01 y02 y10 y11 y12 y20 y21 y22 hl hrow hs hm hb p0a p0b p1a p1b p2a p2b s0 s1 s2
    go_enter Try.func71, Try.ntmps71
    go_wp2_with fail
    go_loopw [3, 4, 5] (fun ss sk sa wr => ∃ (K D : Int) (q : Nat), sk = .int .i64 K ∧ ss = .int .i64 D ∧ (K = 0 ∧ D = 0 ∨ K = 1 ∧ D = x00 * (x11 * x22 - x12 * x21) ∨ K = 2 ∧ D = x00 * (x11 * x22 - x12 * x21) + x01 * (x12 * x20 - x10 * x22) ∨ K = 3 ∧ D = x00 * (x11 * x22 - x12 * x21) + x01 * (x12 * x20 - x10 * x22) + x02 * (x10 * x21 - x11 * x20)) ∧ wr = w.drewN q) (fun _ sk _ _ => 3 - (intOf sk).toNat)
    case atStart => exact ⟨0, 0, 0, rfl, rfl, .inl ⟨rfl, rfl⟩, rfl⟩
    case round =>
      obtain ⟨K, D, q, rfl, rfl, hK, rfl⟩ := hrel
      obtain ⟨p0a, p0b, p1a, p1b, p2a, p2b, s0, s1, s2⟩ := PB.out
      rcases hK with ⟨rfl, rfl⟩ | ⟨rfl, rfl⟩ | ⟨rfl, rfl⟩ | ⟨rfl, rfl⟩
      · go_wp2_with fail
        go_quiet (fail)
        go_wp2_with fail
        go_roundw
        case measure => simp only [intOf]; omega
        case rel => exact ⟨1, _, _, by go_num, by go_num, .inr (.inl ⟨rfl, by omega⟩), by first | rfl | exact World.drewN_drewN ..⟩
      · go_wp2_with fail
        go_quiet (fail)
        go_wp2_with fail
        go_roundw
        case measure => simp only [intOf]; omega
        case rel => exact ⟨2, _, _, by go_num, by go_num, .inr (.inr (.inl ⟨rfl, by omega⟩)), by first | rfl | exact World.drewN_drewN ..⟩
      · go_wp2_with fail
        go_quiet (fail)
        go_wp2_with fail
        go_roundw
        case measure => simp only [intOf]; omega
        case rel => exact ⟨3, _, _, by go_num, by go_num, .inr (.inr (.inr ⟨rfl, by omega⟩)), by first | rfl | exact World.drewN_drewN ..⟩
      · clear p0a p0b p1a p1b p2a p2b s0 s1 s2
        go_wp2_with fail
        go_ret
        exact ⟨retI HDET.out.symm, _, rfl⟩

set_option maxRecDepth 100000 in
set_option maxHeartbeats 2000000 in
theorem moveSignS_any (vf va : Value) (xs : List Int) (A : List (List Int)) (a : Int) (w : World) (hx : Rd w vf xs) (hA : RdM w va A) : Calls Try.prog 34 #[vf, .agg #[va, .int .i64 a]] w fun e w' => e = .returned (.int .i64 (signW xs A a)) ∧ Below w.heap.size w w' := by
  obtain ⟨aa, ca, rfl⟩ := hA.form
  obtain ⟨ax, cx, rfl, _⟩ := hx.form
  have hB0 := below_box2 w (.cells #[.slice aa A.length ca, .int .i64 a] 29)
  have H0 := hid (heap_alloc_new w (.cells #[.slice aa A.length ca, .int .i64 a] 29))
  have HX := hid (hx.keep hB0)
  have HA := hid (hA.keep hB0)
  have HB := hid hB0
  have HVA := hid (fun (wx : World) (h1 : Rd wx (.slice ax xs.length cx) xs) (h2 : RdM wx (.slice aa A.length ca) A) => moveValidS_any (.slice ax xs.length cx) (.slice aa A.length ca) xs A a wx h1 h2)
  clear hx hA hB0
  cases hva : moveB xs A a with
  | false =>
    have HE : Hid (signW xs A a = 0) := hid (by unfold signW; rw [hva]; rfl)
    rw [hva] at HVA
    clear hva
    go_enter Try.func34, Try.ntmps34
    go_wp2_with fail
    refine (HVA.out _ HX.out HA.out).mono ?_
    rintro e w2 ⟨rfl, hb2⟩
    go_wp2_with fail
    go_ret
    exact ⟨retI HE.out.symm, HB.out.trans (hb2.mono HB.out.size)⟩
  | true =>
    have hMA := moveB_iff.1 hva
    have HE : Hid (signW xs A a = sg (detF xs.length (at2 A))) := hid (sign_ok hMA)
    rw [hva] at HVA
    obtain ⟨D, hD⟩ : ∃ D, D = detF xs.length (at2 A) := ⟨_, rfl⟩
    have HDC := hid (fun (wx : World) (v : Value) (h : RdM wx v A) => l7Det_any v A xs.length wx h hMA.sq hMA.n3 hMA.at_bd)
    rw [← hD] at HE HDC
    clear hva hMA hD
    go_enter Try.func34, Try.ntmps34
    go_wp2_with fail
    refine (HVA.out _ HX.out HA.out).mono ?_
    rintro e w2 ⟨rfl, hb2⟩
    have h02 := (hb2.block _ (Array.getElem?_eq_some_iff.1 H0.out).1).trans H0.out
    have x0 := cellB (i := 0) h02
    have HA2 := hid (HA.out.keep hb2)
    have HB2 := hid (HB.out.trans (hb2.mono HB.out.size))
    clear h02 hb2
    go_wp2_with fail
    refine (HDC.out _ _ HA2.out).mono ?_
    rintro e w3 ⟨rfl, k3, rfl⟩
    by_cases h0 : 0 < D
    · have HS : Hid (signW xs A a = 1) := hid (by rw [HE.out, sg_pos h0])
      go_wp2_with fail
      go_ret
      exact ⟨retI HS.out.symm, below_drewN HB2.out k3⟩
    · have HS : Hid (signW xs A a = -1) := hid (by rw [HE.out]; unfold sg; rw [if_neg h0])
      go_wp2_with fail
      go_ret
      exact ⟨retI HS.out.symm, below_drewN HB2.out k3⟩

end Go.Proofs.Ytacjejnbomdhbab
