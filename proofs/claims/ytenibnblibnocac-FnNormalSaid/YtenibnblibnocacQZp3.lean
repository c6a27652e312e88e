/-
  Contracts of the program's chapter 5: are three terms normal; the search for a zero.
-/
import Derived.Test.YtenibnblibnocacQBun34
import Derived.Test.YtenibnblibnocacQBun26
import Derived.Test.YtenibnblibnocacQBun25
set_option linter.unusedVariables false
namespace Go.Proofs.Ytenibnblibnocac
open Go.RowKit

theorem nrm_gcd {a b c : Int} (h : nrmB [a, b, c] = true) : Nat.gcd a.natAbs b.natAbs = 1 ∧ Nat.gcd b.natAbs c.natAbs = 1 ∧ Nat.gcd c.natAbs a.natAbs = 1 := by
  obtain ⟨⟨a0, b0, c0⟩, _, _, _, h2⟩ := nrmB_iff.1 h
  have p1 : 0 < Int.gcd a b := Nat.gcd_pos_of_pos_left _ (by omega)
  have p2 : 0 < Int.gcd b c := Nat.gcd_pos_of_pos_left _ (by omega)
  have p3 : 0 < Int.gcd c a := Nat.gcd_pos_of_pos_left _ (by omega)
  have e1 : Int.gcd a b = Nat.gcd a.natAbs b.natAbs := rfl
  have e2 : Int.gcd b c = Nat.gcd b.natAbs c.natAbs := rfl
  have e3 : Int.gcd c a = Nat.gcd c.natAbs a.natAbs := rfl
  rcases two_cases a b c with ⟨_, q1, q2, q3⟩ | ⟨hp, _⟩
  · omega
  · have := hp.1
    omega
theorem nrm_end {a b c : Int} (ra : -30000 ≤ a ∧ a ≤ 30000) (rb : -30000 ≤ b ∧ b ≤ 30000) (rc : -30000 ≤ c ∧ c ≤ 30000) (a0 : a ≠ 0) (b0 : b ≠ 0) (c0 : c ≠ 0) (g1 : Nat.gcd a.natAbs b.natAbs = 1) (g2 : Nat.gcd b.natAbs c.natAbs = 1) (g3 : Nat.gcd c.natAbs a.natAbs = 1) (r1 : rootG a = 1) (r2 : rootG b = 1) (r3 : rootG c = 1) : nrmB [a, b, c] = decide ((a * b * c).natAbs ≤ 30000) := by
  have e1 : Int.gcd a b = 1 := g1
  have e2 : Int.gcd b c = 1 := g2
  have e3 : Int.gcd c a = 1 := g3
  have ht : twoD a b c = 1 := by unfold twoD; rw [e1, e2, e3, if_neg (by decide), if_neg (by decide), if_neg (by decide)]
  rw [Bool.eq_iff_iff, nrmB_iff, decide_eq_true_eq]
  exact ⟨fun h => h.2.2.2.1, fun h => ⟨⟨a0, b0, c0⟩, ⟨ra, rb, rc⟩, ⟨r1, r2, r3⟩, h, ht⟩⟩
theorem nrm_range {xs : List Int} (h : (inAll xs 30000 && decide ((xs.length : Int) = 3)) = false) : nrmB xs = false := by
  cases hn : nrmB xs with
  | false => rfl
  | true =>
    obtain ⟨a, b, c, rfl, _⟩ := nrmB_lim hn
    obtain ⟨_, ⟨ha, hb, hc⟩, _⟩ := nrmB_iff.1 hn
    have : inAll [a, b, c] 30000 = true := List.all_eq_true.2 fun x hx => by
      simp only [List.mem_cons, List.not_mem_nil, or_false] at hx
      unfold inR
      rw [Bool.and_eq_true, decide_eq_true_eq, decide_eq_true_eq]
      rcases hx with rfl | rfl | rfl <;> omega
    rw [this] at h
    simp at h
theorem root_30k {x : Int} (h0 : x ≠ 0) (h1 : -30000 ≤ x) (h2 : x ≤ 30000) : 1 ≤ rootG x ∧ rootG x ≤ 30000 := by
  obtain ⟨c0, e, _, _, r1⟩ := core_small h0
  have h3 := Nat.le_mul_of_pos_left (rootG x * rootG x) (show 0 < (coreG x).natAbs by omega)
  have h4 := Nat.le_mul_of_pos_left (rootG x) r1
  omega
theorem mul_30k {x y : Int} {X Y : Nat} (hx : x.natAbs ≤ X) (hy : y.natAbs ≤ Y) : (x * y).natAbs ≤ X * Y := by rw [Int.natAbs_mul]; exact Nat.mul_le_mul hx hy

/-- what the rounds of normalValid have seen -/
def Seen (a b c : Int) (K : Nat) : Prop := (1 ≤ K → a ≠ 0 ∧ Nat.gcd a.natAbs b.natAbs = 1 ∧ rootG a = 1) ∧ (2 ≤ K → b ≠ 0 ∧ Nat.gcd b.natAbs c.natAbs = 1 ∧ rootG b = 1) ∧ (3 ≤ K → c ≠ 0 ∧ Nat.gcd c.natAbs a.natAbs = 1 ∧ rootG c = 1)
set_option maxRecDepth 100000 in
set_option maxHeartbeats 8000000 in
theorem normalValid_any (v : Value) (xs : List Int) (w : World) (h : Rd w v xs) : Calls Try.prog 34 #[v] w fun e w' => e = .returned (.bool (nrmB xs)) ∧ Below w.heap.size w w' := by
  have HH := hid h
  obtain ⟨wr0, wr1, wr2, wr3, wr4⟩ := wrap5
  cases hv : (inAll xs 30000 && decide ((xs.length : Int) = 3)) with
  | false =>
    have HV := hid hv
    have HR := hid (nrm_range hv)
    obtain ⟨ad, cap, rfl, _⟩ := h.form
    clear hv h
    go_enter Try.func34, Try.ntmps34
    go_wp2_with (go_at_call 44; refine (vectorWithin_any _ xs _ _ (by omega) (by omega) _ HH.out).mono ?_; rw [HV.out]; rintro e w' ⟨rfl, rfl⟩)
    go_ret
    exact ⟨retB HR.out.symm, Below.refl _ _⟩
  | true =>
    have HV := hid hv
    rw [Bool.and_eq_true, decide_eq_true_eq] at hv
    obtain ⟨a, b, c, rfl⟩ := list_three (show xs.length = 3 by omega)
    have hr : ∀ x ∈ [a, b, c], -30000 ≤ x ∧ x ≤ 30000 := fun x hx => by
      have := List.all_eq_true.1 hv.1 x hx
      unfold inR at this
      rwa [Bool.and_eq_true, decide_eq_true_eq, decide_eq_true_eq] at this
    have ha := hr a (by simp)
    have hb := hr b (by simp)
    have hc := hr c (by simp)
    have a1 := ha.1
    have a2 := ha.2
    have b1 := hb.1
    have b2 := hb.2
    have c1 := hc.1
    have c2 := hc.2
    have NO1 : Hid (nrmB [a, b, c] = true → (a ≠ 0 ∧ b ≠ 0 ∧ c ≠ 0) ∧ (rootG a = 1 ∧ rootG b = 1 ∧ rootG c = 1)) := hid (fun h => ⟨(nrmB_iff.1 h).1, (nrmB_iff.1 h).2.2.1⟩)
    have NO2 : Hid (nrmB [a, b, c] = true → Nat.gcd a.natAbs b.natAbs = 1 ∧ Nat.gcd b.natAbs c.natAbs = 1 ∧ Nat.gcd c.natAbs a.natAbs = 1) := hid nrm_gcd
    have END : Hid (Seen a b c 3 → nrmB [a, b, c] = decide ((a * b * c).natAbs ≤ 30000)) := hid (fun h => by
      obtain ⟨s1, s2, s3⟩ := h
      have s1 := s1 (by omega)
      have s2 := s2 (by omega)
      have s3 := s3 (by omega)
      exact nrm_end ha hb hc s1.1 s2.1 s3.1 s1.2.1 s2.2.1 s3.2.1 s1.2.2 s2.2.2 s3.2.2)
    obtain ⟨NB, hNB⟩ : ∃ NB, NB = nrmB [a, b, c] := ⟨_, rfl⟩
    rw [← hNB] at NO1 NO2 END ⊢
    have FALSE : Hid (∀ p : Prop, (NB = true → p) → ¬ p → NB = false) := hid (fun p h1 h2 => by
      cases h : NB with
      | false => rfl
      | true => exact absurd (h1 h) h2)
    obtain ⟨g, o, cap, rfl, k0, k1, k2⟩ := rd_three h
    have HK : Hid (∀ W : World, Below w.heap.size w W → W.cell? ⟨g, o, none⟩ = some (.int .i64 a) ∧ W.cell? ⟨g, o + 1, none⟩ = some (.int .i64 b) ∧ W.cell? ⟨g, o + 2, none⟩ = some (.int .i64 c)) := hid (fun W hW => by
      obtain ⟨g2, o2, cap2, e, j⟩ := rd_three (HH.out.keep hW)
      cases e
      exact j)
    have AB := mul_30k (x := a) (y := b) (X := 30000) (Y := 30000) (by omega) (by omega)
    have ABC := mul_30k (x := a * b) (y := c) (X := 900000000) (Y := 30000) (by omega) (by omega)
    have ab1 : -900000000 ≤ a * b := by omega
    have ab2 : a * b ≤ 900000000 := by omega
    have abc1 : -27000000000000 ≤ a * b * c := by omega
    have abc2 : a * b * c ≤ 27000000000000 := by omega
    clear hv h hr ha hb hc hNB k0 k1 k2 AB ABC
    go_enter Try.func34, Try.ntmps34
    go_wp2_with (go_at_call 44; refine (vectorWithin_any _ [a, b, c] _ _ (by omega) (by omega) _ HH.out).mono ?_; rw [HV.out]; rintro e w' ⟨rfl, rfl⟩)
    go_loopw [3, 13] (fun sp si wr => ∃ (K : Nat) (p : Int), si = .int .i64 K ∧ sp = .int .i64 p ∧ ((K = 0 ∧ p = 1) ∨ (K = 1 ∧ p = a) ∨ (K = 2 ∧ p = a * b) ∨ (K = 3 ∧ p = a * b * c)) ∧ Hid (Seen a b c K) ∧ Hid (Below w.heap.size w wr)) (fun _ si _ => 3 - (intOf si).toNat)
    case atStart => exact ⟨0, 1, rfl, rfl, .inl ⟨rfl, rfl⟩, hid ⟨fun h => by omega, fun h => by omega, fun h => by omega⟩, hid (Below.refl _ _)⟩
    case round =>
      obtain ⟨K, p, rfl, rfl, hK, HS, HB⟩ := hrel
      rename World => wx
      obtain ⟨j0, j1, j2⟩ := HK.out wx HB.out
      have hsx := HB.out.size
      rcases hK with ⟨rfl, rfl⟩ | ⟨rfl, rfl⟩ | ⟨rfl, rfl⟩ | ⟨rfl, rfl⟩
      · by_cases x0 : a = 0
        · have T0 : (a == 0) = true := by rw [beq_iff_eq]; exact x0
          have HR : Hid (NB = false) := hid (FALSE.out _ (fun h => (NO1.out h).1.1) (fun h => h x0))
          clear x0
          go_wp2_with fail
          go_ret
          exact ⟨retB HR.out.symm, HB.out⟩
        · have T0 : (a == 0) = false := by rw [beq_eq_false_iff_ne]; exact x0
          have HX0 := hid x0
          obtain ⟨G, hG⟩ : ∃ G, G = Nat.gcd a.natAbs b.natAbs := ⟨_, rfl⟩
          have HGE : Hid (Nat.gcd a.natAbs b.natAbs = G) := hid hG.symm
          have rx := root_30k x0 a1 a2
          obtain ⟨R, hR⟩ : ∃ R, R = rootG a := ⟨_, rfl⟩
          rw [← hR] at rx
          have rx1 := rx.1
          have rx2 := rx.2
          have HRE : Hid (rootG a = R) := hid hR.symm
          clear hG hR rx x0
          by_cases g1 : G = 1
          · have TG : ((G : Int) != 1) = false := by rw [bne_eq_false_iff_eq]; omega
            have HG1 : Hid (Nat.gcd a.natAbs b.natAbs = 1) := hid (by rw [HGE.out]; exact g1)
            clear g1
            by_cases r1 : R = 1
            · have TR : ((R : Int) != 1) = false := by rw [bne_eq_false_iff_eq]; omega
              have HR1 : Hid (rootG a = 1) := hid (by rw [HRE.out]; exact r1)
              clear r1
              go_wp2_with (first | (go_at_call 40; refine (common_any _ _ (by omega) (by omega) (by omega) (by omega) _).mono ?_; rw [HGE.out]; rintro e w' ⟨rfl, kq, rfl⟩) | (go_at_call 38; refine (numCore_any _ HX0.out (by omega) (by omega) _).mono ?_; rw [HRE.out]; rintro e w3 ⟨rfl, hb3⟩))
              have HB3 := hid ((below_drewN HB.out kq).trans (hb3.mono (below_drewN HB.out kq).size))
              clear hb3
              go_roundw
              case measure => simp only [intOf]; omega
              case rel => exact ⟨1, _, by first | rfl | go_num, rfl, .inr (.inl ⟨rfl, by first | rfl | (simp)⟩), hid ⟨fun h => ⟨HX0.out, HG1.out, HR1.out⟩, fun h => by omega, fun h => by omega⟩, HB3⟩
            · have TR : ((R : Int) != 1) = true := by rw [bne_iff_ne]; omega
              have HR : Hid (NB = false) := hid (FALSE.out _ (fun h => (NO1.out h).2.1) (fun h => r1 (by rw [← HRE.out]; exact h)))
              clear r1
              go_wp2_with (first | (go_at_call 40; refine (common_any _ _ (by omega) (by omega) (by omega) (by omega) _).mono ?_; rw [HGE.out]; rintro e w' ⟨rfl, kq, rfl⟩) | (go_at_call 38; refine (numCore_any _ HX0.out (by omega) (by omega) _).mono ?_; rw [HRE.out]; rintro e w3 ⟨rfl, hb3⟩))
              go_ret
              exact ⟨retB HR.out.symm, (below_drewN HB.out kq).trans (hb3.mono (below_drewN HB.out kq).size)⟩
          · have TG : ((G : Int) != 1) = true := by rw [bne_iff_ne]; omega
            have HR : Hid (NB = false) := hid (FALSE.out _ (fun h => (NO2.out h).1) (fun h => g1 (by rw [← HGE.out]; exact h)))
            clear g1
            go_wp2_with (go_at_call 40; refine (common_any _ _ (by omega) (by omega) (by omega) (by omega) _).mono ?_; rw [HGE.out]; rintro e w' ⟨rfl, kq, rfl⟩)
            go_ret
            exact ⟨retB HR.out.symm, below_drewN HB.out kq⟩
      · by_cases x0 : b = 0
        · have T0 : (b == 0) = true := by rw [beq_iff_eq]; exact x0
          have HR : Hid (NB = false) := hid (FALSE.out _ (fun h => (NO1.out h).1.2.1) (fun h => h x0))
          clear x0
          go_wp2_with fail
          go_ret
          exact ⟨retB HR.out.symm, HB.out⟩
        · have T0 : (b == 0) = false := by rw [beq_eq_false_iff_ne]; exact x0
          have HX0 := hid x0
          obtain ⟨G, hG⟩ : ∃ G, G = Nat.gcd b.natAbs c.natAbs := ⟨_, rfl⟩
          have HGE : Hid (Nat.gcd b.natAbs c.natAbs = G) := hid hG.symm
          have rx := root_30k x0 b1 b2
          obtain ⟨R, hR⟩ : ∃ R, R = rootG b := ⟨_, rfl⟩
          rw [← hR] at rx
          have rx1 := rx.1
          have rx2 := rx.2
          have HRE : Hid (rootG b = R) := hid hR.symm
          clear hG hR rx x0
          by_cases g1 : G = 1
          · have TG : ((G : Int) != 1) = false := by rw [bne_eq_false_iff_eq]; omega
            have HG1 : Hid (Nat.gcd b.natAbs c.natAbs = 1) := hid (by rw [HGE.out]; exact g1)
            clear g1
            by_cases r1 : R = 1
            · have TR : ((R : Int) != 1) = false := by rw [bne_eq_false_iff_eq]; omega
              have HR1 : Hid (rootG b = 1) := hid (by rw [HRE.out]; exact r1)
              clear r1
              go_wp2_with (first | (go_at_call 40; refine (common_any _ _ (by omega) (by omega) (by omega) (by omega) _).mono ?_; rw [HGE.out]; rintro e w' ⟨rfl, kq, rfl⟩) | (go_at_call 38; refine (numCore_any _ HX0.out (by omega) (by omega) _).mono ?_; rw [HRE.out]; rintro e w3 ⟨rfl, hb3⟩))
              have HB3 := hid ((below_drewN HB.out kq).trans (hb3.mono (below_drewN HB.out kq).size))
              clear hb3
              go_roundw
              case measure => simp only [intOf]; omega
              case rel => exact ⟨2, _, by first | rfl | go_num, rfl, .inr (.inr (.inl ⟨rfl, by first | rfl | (simp)⟩)), hid ⟨fun h => HS.out.1 (by omega), fun h => ⟨HX0.out, HG1.out, HR1.out⟩, fun h => by omega⟩, HB3⟩
            · have TR : ((R : Int) != 1) = true := by rw [bne_iff_ne]; omega
              have HR : Hid (NB = false) := hid (FALSE.out _ (fun h => (NO1.out h).2.2.1) (fun h => r1 (by rw [← HRE.out]; exact h)))
              clear r1
              go_wp2_with (first | (go_at_call 40; refine (common_any _ _ (by omega) (by omega) (by omega) (by omega) _).mono ?_; rw [HGE.out]; rintro e w' ⟨rfl, kq, rfl⟩) | (go_at_call 38; refine (numCore_any _ HX0.out (by omega) (by omega) _).mono ?_; rw [HRE.out]; rintro e w3 ⟨rfl, hb3⟩))
              go_ret
              exact ⟨retB HR.out.symm, (below_drewN HB.out kq).trans (hb3.mono (below_drewN HB.out kq).size)⟩
          · have TG : ((G : Int) != 1) = true := by rw [bne_iff_ne]; omega
            have HR : Hid (NB = false) := hid (FALSE.out _ (fun h => (NO2.out h).2.1) (fun h => g1 (by rw [← HGE.out]; exact h)))
            clear g1
            go_wp2_with (go_at_call 40; refine (common_any _ _ (by omega) (by omega) (by omega) (by omega) _).mono ?_; rw [HGE.out]; rintro e w' ⟨rfl, kq, rfl⟩)
            go_ret
            exact ⟨retB HR.out.symm, below_drewN HB.out kq⟩
      · by_cases x0 : c = 0
        · have T0 : (c == 0) = true := by rw [beq_iff_eq]; exact x0
          have HR : Hid (NB = false) := hid (FALSE.out _ (fun h => (NO1.out h).1.2.2) (fun h => h x0))
          clear x0
          go_wp2_with fail
          go_ret
          exact ⟨retB HR.out.symm, HB.out⟩
        · have T0 : (c == 0) = false := by rw [beq_eq_false_iff_ne]; exact x0
          have HX0 := hid x0
          obtain ⟨G, hG⟩ : ∃ G, G = Nat.gcd c.natAbs a.natAbs := ⟨_, rfl⟩
          have HGE : Hid (Nat.gcd c.natAbs a.natAbs = G) := hid hG.symm
          have rx := root_30k x0 c1 c2
          obtain ⟨R, hR⟩ : ∃ R, R = rootG c := ⟨_, rfl⟩
          rw [← hR] at rx
          have rx1 := rx.1
          have rx2 := rx.2
          have HRE : Hid (rootG c = R) := hid hR.symm
          clear hG hR rx x0
          by_cases g1 : G = 1
          · have TG : ((G : Int) != 1) = false := by rw [bne_eq_false_iff_eq]; omega
            have HG1 : Hid (Nat.gcd c.natAbs a.natAbs = 1) := hid (by rw [HGE.out]; exact g1)
            clear g1
            by_cases r1 : R = 1
            · have TR : ((R : Int) != 1) = false := by rw [bne_eq_false_iff_eq]; omega
              have HR1 : Hid (rootG c = 1) := hid (by rw [HRE.out]; exact r1)
              clear r1
              go_wp2_with (first | (go_at_call 40; refine (common_any _ _ (by omega) (by omega) (by omega) (by omega) _).mono ?_; rw [HGE.out]; rintro e w' ⟨rfl, kq, rfl⟩) | (go_at_call 38; refine (numCore_any _ HX0.out (by omega) (by omega) _).mono ?_; rw [HRE.out]; rintro e w3 ⟨rfl, hb3⟩))
              have HB3 := hid ((below_drewN HB.out kq).trans (hb3.mono (below_drewN HB.out kq).size))
              clear hb3
              go_roundw
              case measure => simp only [intOf]; omega
              case rel => exact ⟨3, _, by first | rfl | go_num, rfl, .inr (.inr (.inr (⟨rfl, by first | rfl | (simp)⟩))), hid ⟨fun h => HS.out.1 (by omega), fun h => HS.out.2.1 (by omega), fun h => ⟨HX0.out, HG1.out, HR1.out⟩⟩, HB3⟩
            · have TR : ((R : Int) != 1) = true := by rw [bne_iff_ne]; omega
              have HR : Hid (NB = false) := hid (FALSE.out _ (fun h => (NO1.out h).2.2.2) (fun h => r1 (by rw [← HRE.out]; exact h)))
              clear r1
              go_wp2_with (first | (go_at_call 40; refine (common_any _ _ (by omega) (by omega) (by omega) (by omega) _).mono ?_; rw [HGE.out]; rintro e w' ⟨rfl, kq, rfl⟩) | (go_at_call 38; refine (numCore_any _ HX0.out (by omega) (by omega) _).mono ?_; rw [HRE.out]; rintro e w3 ⟨rfl, hb3⟩))
              go_ret
              exact ⟨retB HR.out.symm, (below_drewN HB.out kq).trans (hb3.mono (below_drewN HB.out kq).size)⟩
          · have TG : ((G : Int) != 1) = true := by rw [bne_iff_ne]; omega
            have HR : Hid (NB = false) := hid (FALSE.out _ (fun h => (NO2.out h).2.2) (fun h => g1 (by rw [← HGE.out]; exact h)))
            clear g1
            go_wp2_with (go_at_call 40; refine (common_any _ _ (by omega) (by omega) (by omega) (by omega) _).mono ?_; rw [HGE.out]; rintro e w' ⟨rfl, kq, rfl⟩)
            go_ret
            exact ⟨retB HR.out.symm, below_drewN HB.out kq⟩
      · have HE := hid (END.out HS.out)
        obtain ⟨S, hS⟩ : ∃ S, S = (a * b * c).natAbs := ⟨_, rfl⟩
        rw [← hS] at HE
        have HSE : Hid ((a * b * c).natAbs = S) := hid hS.symm
        clear hS
        by_cases hle : S ≤ 30000
        · have hi : (S : Int) ≤ 30000 := by omega
          rw [decide_eq_true hle] at HE
          clear hle
          go_wp2_with (go_at_call 35; refine (size_any _ (by omega) (by omega) _).mono ?_; rw [HSE.out]; rintro e w' ⟨rfl, rfl⟩)
          go_ret
          exact ⟨retB HE.out.symm, HB.out⟩
        · have hi : ¬ (S : Int) ≤ 30000 := by omega
          have HDI := hid (decide_eq_false hi)
          rw [decide_eq_false hle] at HE
          clear hle
          go_wp2_with (go_at_call 35; refine (size_any _ (by omega) (by omega) _).mono ?_; rw [HSE.out]; rintro e w' ⟨rfl, rfl⟩)
          go_ret
          exact ⟨retB (by rw [HE.out]; exact HDI.out), HB.out⟩

theorem root_is {q : Int} {X : Nat} (h1 : (X : Int) * X ≤ q) (h2 : ∀ r : Nat, (r : Int) * r ≤ q → r ≤ X) : rootO q = if (X : Int) * X = q then some X else none := by
  by_cases e : (X : Int) * X = q
  · rw [if_pos e]; exact rootO_of e
  · rw [if_neg e]
    refine rootO_none fun z hz => ?_
    have h3 := h2 z (by omega)
    rcases Nat.lt_or_ge z X with h | h
    · have h4 := sq_mono (show z + 1 ≤ X by omega)
      have h5 : ((z + 1 : Nat) : Int) * ((z + 1 : Nat) : Int) = (z : Int) * z + 2 * z + 1 := by push_cast; rw [Int.add_mul, Int.mul_add]; omega
      omega
    · have : z = X := by omega
      subst this
      exact e hz

theorem root_post {q : Int} {e : Ending} (h : RootPost q e) : ∃ (rv : Int) (rok : Bool), e = .returned (.tuple #[.int .i64 rv, .bool rok]) ∧ (rok = true → ∃ z : Nat, rv = z ∧ rootO q = some z) ∧ (rok = false → rootO q = none) := by
  rcases h with ⟨h0, rfl⟩ | ⟨X, h0, rfl, h1, h2⟩
  · refine ⟨0, false, rfl, fun h => (by cases h), fun _ => ?_⟩
    unfold rootO
    rw [if_pos h0]
  · refine ⟨X, _, rfl, fun h => ⟨X, rfl, ?_⟩, fun h => ?_⟩
    · rw [beq_iff_eq] at h
      exact rootO_of h
    · rw [beq_eq_false_iff_ne] at h
      rw [root_is h1 h2, if_neg h]

set_option maxRecDepth 100000 in
set_option maxHeartbeats 4000000 in
theorem zeroSearch_any (v : Value) (xs : List Int) (w : World) (h : Rd w v xs) : Calls Try.prog 11 #[v] w (SearchPost (zsearchO xs) w) := by
  have HH := hid h
  cases hn : nrmB xs with
  | false =>
    have HN := hid hn
    have HR : Hid (zsearchO xs = none) := hid (by unfold zsearchO; rw [hn]; rfl)
    obtain ⟨ad, cap, rfl, _⟩ := h.form
    clear hn h
    go_enter Try.func11, Try.ntmps11
    go_wp2_with (go_at_call 34; refine (normalValid_any _ xs _ HH.out).mono ?_; rw [HN.out]; rintro e w2 ⟨rfl, hb2⟩)
    go_ret2
    refine ⟨_, by rw [HR.out]; rfl, ?_, hb2.alloc hb2.size _⟩
    rw [HR.out]
    exact World.ownsRow_made (size := 1) _ #[] 0 hb2.size (by unfold maxLen; omega) rfl
  | true =>
    have HN := hid hn
    have HR0 : Hid (zsearchO xs = searchO (T3.of xs)) := hid (by unfold zsearchO; rw [hn]; rfl)
    obtain ⟨a, b, c, rfl, hlim⟩ := nrmB_lim hn
    have hn4 := (nrmB_iff.1 hn).2.2.2.1
    rw [Int.natAbs_mul, Int.natAbs_mul] at hn4
    have HR : Hid (zsearchO [a, b, c] = searchO ⟨a, b, c⟩) := hid HR0.out
    obtain ⟨g, o, cap, rfl, k0, k1, k2⟩ := rd_three h
    have HK : Hid (∀ W : World, Below w.heap.size w W → W.cell? ⟨g, o, none⟩ = some (.int .i64 a) ∧ W.cell? ⟨g, o + 1, none⟩ = some (.int .i64 b) ∧ W.cell? ⟨g, o + 2, none⟩ = some (.int .i64 c)) := hid (fun W hW => by
      obtain ⟨g2, o2, cap2, e, j⟩ := rd_three (HH.out.keep hW)
      cases e
      exact j)
    have hlz : (T3.mk a b c).Lim := hlim
    obtain ⟨⟨a0, b0, c0⟩, ha, hb, hc, hbc, hac⟩ := hlz
    dsimp only at a0 b0 c0 ha hb hc hbc hac
    have C0 : (c == 0) = false := by rw [beq_eq_false_iff_ne]; exact c0
    have hAN : a.natAbs * (b * c).natAbs ≤ 30000 := by rw [Int.natAbs_mul, ← Nat.mul_assoc]; exact hn4
    have hBM : b.natAbs * (a * c).natAbs ≤ 30000 := by rw [Int.natAbs_mul, ← Nat.mul_assoc, Nat.mul_comm b.natAbs]; exact hn4
    obtain ⟨N, hN⟩ : ∃ N, N = (b * c).natAbs := ⟨_, rfl⟩
    obtain ⟨M, hM⟩ : ∃ M, M = (a * c).natAbs := ⟨_, rfl⟩
    rw [← hN] at hbc hAN
    rw [← hM] at hac hBM
    have HNE := hid hN
    have HME := hid hM
    have eN : Hid (searchO ⟨a, b, c⟩ = firstO (rowO ⟨a, b, c⟩) N) := hid (by unfold searchO; rw [hN])
    have eM : Hid (∀ x, rowO ⟨a, b, c⟩ x = firstO (hitO ⟨a, b, c⟩ x) M) := hid (fun x => by unfold rowO; rw [hM])
    have n1 : -30000 ≤ b * c := by omega
    have n2 : b * c ≤ 30000 := by omega
    have m1 : -30000 ≤ a * c := by omega
    have m2 : a * c ≤ 30000 := by omega
    clear h hn hlim a0 b0 hN hM hn4 k0 k1 k2
    go_enter Try.func11, Try.ntmps11
    go_wp2_with fail
    refine (normalValid_any _ [a, b, c] _ HH.out).mono ?_
    rw [HN.out]
    rintro e w2 ⟨rfl, hb2⟩
    obtain ⟨j0, j1, j2⟩ := HK.out w2 hb2
    go_wp2_with fail
    go_quiet (fail)
    have HBQ := hid (below_drewN hb2 nq)
    clear hb2 j0 j1 j2
    generalize w2.drewN nq = wq at HBQ ⊢
    have hsq := HBQ.out.size
    go_wp2_with fail
    go_loop [7] (fun sx => ∃ X : Nat, sx = .int .i64 X ∧ X ≤ 1000 ∧ Hid (∀ i, i < X → rowO ⟨a, b, c⟩ i = none)) (fun sx => 1001 - (intOf sx).toNat)
    case atStart => exact ⟨0, rfl, by omega, hid (fun i hi => by omega)⟩
    case round =>
      obtain ⟨X, rfl, hX, HX⟩ := hrel
      have hXX := Nat.mul_le_mul hX hX
      have eXX : (X : Int) * X = ((X * X : Nat) : Int) := by push_cast; rfl
      have x1 : 0 ≤ (X : Int) * X := by rw [eXX]; omega
      have x2 : (X : Int) * X ≤ 1000000 := by rw [eXX]; omega
      by_cases hle : X * X ≤ N
      · have hle' : (X : Int) * X ≤ (N : Int) := by rw [eXX]; omega
        have hXL : X ≤ 999 := by
          refine Classical.byContradiction fun h => ?_
          have := Nat.mul_le_mul (show 1000 ≤ X by omega) (show 1000 ≤ X by omega)
          omega
        have hsx := sqz_mul (Nat.le_refl a.natAbs) hle (by omega)
        have HLE := hid hle
        have ax := hsx.1
        have axx : (a * (X : Int) * (X : Int)).natAbs ≤ 30000 := Nat.le_trans hsx.2 hAN
        have ax1 : -30000000 ≤ a * (X : Int) := by omega
        have ax2 : a * (X : Int) ≤ 30000000 := by omega
        have axx1 : -30000 ≤ a * (X : Int) * (X : Int) := by omega
        have axx2 : a * (X : Int) * (X : Int) ≤ 30000 := by omega
        clear hsx ax axx hle eXX hXX
        go_wp2_with (go_at_call 35; refine (size_any _ (by omega) (by omega) _).mono ?_; rw [← HNE.out]; rintro e w' ⟨rfl, rfl⟩)
        go_loop [8] (fun sy => ∃ Y : Nat, sy = .int .i64 Y ∧ Y ≤ 1000 ∧ Hid (∀ i, i < Y → hitO ⟨a, b, c⟩ X i = none)) (fun sy => 1001 - (intOf sy).toNat)
        case atStart => exact ⟨0, rfl, by omega, hid (fun i hi => by omega)⟩
        case round =>
          obtain ⟨Y, rfl, hY, HY⟩ := hrel
          have hYY := Nat.mul_le_mul hY hY
          have eYY : (Y : Int) * Y = ((Y * Y : Nat) : Int) := by push_cast; rfl
          have y1 : 0 ≤ (Y : Int) * Y := by rw [eYY]; omega
          have y2 : (Y : Int) * Y ≤ 1000000 := by rw [eYY]; omega
          by_cases hle2 : Y * Y ≤ M
          · have hle2' : (Y : Int) * Y ≤ (M : Int) := by rw [eYY]; omega
            have hYL : Y ≤ 999 := by
              refine Classical.byContradiction fun h => ?_
              have := Nat.mul_le_mul (show 1000 ≤ Y by omega) (show 1000 ≤ Y by omega)
              omega
            have hsy := sqz_mul (Nat.le_refl b.natAbs) hle2 (by omega)
            have HLE2 := hid hle2
            have by' := hsy.1
            have byy : (b * (Y : Int) * (Y : Int)).natAbs ≤ 30000 := Nat.le_trans hsy.2 hBM
            have by1 : -30000000 ≤ b * (Y : Int) := by omega
            have by2 : b * (Y : Int) ≤ 30000000 := by omega
            have byy1 : -30000 ≤ b * (Y : Int) * (Y : Int) := by omega
            have byy2 : b * (Y : Int) * (Y : Int) ≤ 30000 := by omega
            have NEXT : Hid (hitO ⟨a, b, c⟩ X Y = none → ∀ i, i < Y + 1 → hitO ⟨a, b, c⟩ X i = none) := hid (fun h i hi => by
              by_cases e : i = Y
              · rw [e]; exact h
              · exact HY.out i (by omega))
            have HT : topI ⟨a, b, c⟩ X Y = -(a * (X : Int) * (X : Int) + b * (Y : Int) * (Y : Int)) := by unfold topI; dsimp only; omega
            have HTH := hid HT
            clear hsy by' byy hle2 eYY hYY HT
            by_cases hd : (a * (X : Int) * (X : Int) + b * (Y : Int) * (Y : Int)).tmod c = 0
            · have T1 : ((a * (X : Int) * (X : Int) + b * (Y : Int) * (Y : Int)).tmod c != 0) = false := by rw [bne_eq_false_iff_eq]; exact hd
              have hd2 : topI ⟨a, b, c⟩ X Y % (T3.mk a b c).c = 0 := by rw [HTH.out]; exact Int.emod_eq_zero_of_dvd (Int.dvd_neg.2 (Int.dvd_of_tmod_eq_zero hd))
              by_cases hz : X = 0 ∧ Y = 0
              · have HN2 := hid (NEXT.out (hit_zero hz))
                obtain ⟨hX0, hY0⟩ := hz
                have X0 : ((X : Int) == 0) = true := by rw [beq_iff_eq]; omega
                have Y0 : ((Y : Int) == 0) = true := by rw [beq_iff_eq]; omega
                clear hd2 hX0 hY0 hd
                go_wp2_with (go_at_call 35; refine (size_any _ (by omega) (by omega) _).mono ?_; rw [← HME.out]; rintro e w' ⟨rfl, rfl⟩)
                go_round
                case measure => simp only [intOf]; omega
                case rel => exact ⟨Y + 1, by go_num, by omega, HN2⟩
              · have hr := hit_root (t := ⟨a, b, c⟩) hz hd2
                rw [HTH.out, show (T3.mk a b c).c = c from rfl] at hr
                have hqb : ((-(a * (X : Int) * (X : Int) + b * (Y : Int) * (Y : Int))).tdiv c).natAbs ≤ 60000 := by
                  rw [Int.natAbs_tdiv]
                  exact Nat.le_trans (Nat.div_le_self _ _) (by omega)
                obtain ⟨q, hq⟩ : ∃ q, q = (-(a * (X : Int) * (X : Int) + b * (Y : Int) * (Y : Int))).tdiv c := ⟨_, rfl⟩
                rw [← hq] at hr hqb
                have hq1 : ((-(a * (X : Int) * (X : Int) + b * (Y : Int) * (Y : Int))).tdiv c) = q := hq.symm
                have hq2 : -((a * (X : Int) * (X : Int) + b * (Y : Int) * (Y : Int)).tdiv c) = q := by rw [hq, Int.neg_tdiv]
                have HRT := hid hr
                have hz2 : ((X : Int) == 0) = true ∧ ((Y : Int) == 0) = false ∨ ((X : Int) == 0) = false := by
                  by_cases hX0 : X = 0
                  · exact .inl ⟨by rw [beq_iff_eq]; omega, by rw [beq_eq_false_iff_ne]; exact fun h => hz ⟨hX0, by omega⟩⟩
                  · exact .inr (by rw [beq_eq_false_iff_ne]; omega)
                clear hd2 hr hz hd hq
                rcases hz2 with ⟨X0, Y0⟩ | X0
                all_goals
                  go_wp2_with (go_at_call 35; refine (size_any _ (by omega) (by omega) _).mono ?_; rw [← HME.out]; rintro e w' ⟨rfl, rfl⟩)
                  refine (squareRoot_any q (by omega) _).mono ?_
                  rintro e w' ⟨hroot, rfl⟩
                  obtain ⟨rv, rok, rfl, hrv⟩ := root_post hroot
                  clear hroot
                  cases rok with
                  | true =>
                    obtain ⟨z, rfl, hzr⟩ := hrv.1 rfl
                    have HS : Hid (zsearchO [a, b, c] = some [(X : Int), (Y : Int), (z : Int)]) := hid (by
                      rw [HR.out, eN.out]
                      refine first_some HX.out HLE.out ?_
                      rw [eM.out]
                      refine first_some HY.out HLE2.out ?_
                      rw [HRT.out, hzr]; rfl)
                    clear hzr hrv
                    go_wp2_with fail
                    go_ret2
                    refine ⟨_, by rw [HS.out]; rfl, ?_, HBQ.out.alloc hsq _⟩
                    rw [HS.out]
                    exact owns_lit [(X : Int), (Y : Int), (z : Int)] _ rfl hsq (by unfold maxLen; simp)
                  | false =>
                    have HN2 := hid (NEXT.out (by rw [HRT.out, hrv.2 rfl]; rfl))
                    clear hrv
                    go_wp2_with fail
                    go_round
                    case measure => simp only [intOf]; omega
                    case rel => exact ⟨Y + 1, by go_num, by omega, HN2⟩
            · have T1 : ((a * (X : Int) * (X : Int) + b * (Y : Int) * (Y : Int)).tmod c != 0) = true := by rw [bne_iff_ne]; exact hd
              have HN2 := hid (NEXT.out (hit_rest (by rw [HTH.out]; exact fun h => hd (Int.tmod_eq_zero_of_dvd (Int.dvd_neg.1 (Int.dvd_of_emod_eq_zero h))))))
              clear hd
              go_wp2_with (go_at_call 35; refine (size_any _ (by omega) (by omega) _).mono ?_; rw [← HME.out]; rintro e w' ⟨rfl, rfl⟩)
              go_round
              case measure => simp only [intOf]; omega
              case rel => exact ⟨Y + 1, by go_num, by omega, HN2⟩
          · have hle2' : ¬ (Y : Int) * Y ≤ (M : Int) := by rw [eYY]; omega
            have HRW : Hid (rowO ⟨a, b, c⟩ X = none) := hid (by rw [eM.out]; exact first_none HY.out hle2)
            clear hle2 eYY hYY
            go_wp2_with (go_at_call 35; refine (size_any _ (by omega) (by omega) _).mono ?_; rw [← HME.out]; rintro e w' ⟨rfl, rfl⟩)
            go_round
            case measure => simp only [intOf]; omega
            case rel => exact ⟨X + 1, by go_num, by omega, hid (fun i hi => by
              by_cases e : i = X
              · rw [e]; exact HRW.out
              · exact HX.out i (by omega))⟩
      · have hle' : ¬ (X : Int) * X ≤ (N : Int) := by rw [eXX]; omega
        have HS : Hid (zsearchO [a, b, c] = none) := hid (by rw [HR.out, eN.out]; exact first_none HX.out hle)
        clear hle eXX hXX
        go_wp2_with (go_at_call 35; refine (size_any _ (by omega) (by omega) _).mono ?_; rw [← HNE.out]; rintro e w' ⟨rfl, rfl⟩)
        go_ret2
        refine ⟨_, by rw [HS.out]; rfl, ?_, HBQ.out.alloc hsq _⟩
        rw [HS.out]
        exact World.ownsRow_made (size := 1) _ #[] 0 hsq (by unfold maxLen; omega) rfl


end Go.Proofs.Ytenibnblibnocac