/-
  Contracts of the program's chapter 4: being alike at a place.
-/
import Derived.Test.YtciajpimpjpnfaaImp4C
set_option linter.unusedVariables false
namespace Go.Proofs.Ytciajpimpjpnfaa
open Go.RowKit

/-- all blocks but two are as they were -/
def Beside2 (m m' : Nat) (w w' : World) : Prop := w.heap.size ≤ w'.heap.size ∧ ∀ k, k < w.heap.size → k ≠ m → k ≠ m' → w'.heap[k]? = w.heap[k]?
theorem Below.beside2 {m m' : Nat} {w w' : World} (h : Below w.heap.size w w') : Beside2 m m' w w' := ⟨h.size, fun k hk _ _ => h.block k hk⟩
theorem Beside.left {m m' : Nat} {w w' : World} (h : Beside m w w') : Beside2 m m' w w' := ⟨h.1, fun k hk h1 _ => h.2 k hk h1⟩
theorem Beside.right {m m' : Nat} {w w' : World} (h : Beside m' w w') : Beside2 m m' w w' := ⟨h.1, fun k hk _ h2 => h.2 k hk h2⟩
theorem Beside2.trans {m m' : Nat} {a b c : World} (h : Beside2 m m' a b) (g : Beside2 m m' b c) : Beside2 m m' a c := ⟨Nat.le_trans h.1 g.1, fun k hk h1 h2 => (g.2 k (Nat.lt_of_lt_of_le hk h.1) h1 h2).trans (h.2 k hk h1 h2)⟩
theorem less_beq (a b : List Int) : (((lessN a : Nat) : Int) == ((lessN b : Nat) : Int)) = (lessN a == lessN b) := by
  rw [Bool.eq_iff_iff, beq_iff_eq, beq_iff_eq]
  omega

set_option maxRecDepth 100000 in
set_option maxHeartbeats 4000000 in
theorem alikeAt_any (va vb : Value) (xs ys : List Int) (q : Int) (m1 m2 n : Nat) (w0 w : World) (hx : Quad w0 w m1 n va xs) (hy : Quad w0 w m2 n vb ys) (hne : m1 ≠ m2) (hq : plI q = true) (hn : n < 9000000) :
    Calls Try.prog 94 #[quadV va m1, quadV vb m2, .int .i64 q] w fun e w' => e = .returned (.bool (alikeB xs ys q)) ∧ Quad w0 w' m1 (n + 1) va xs ∧ Quad w0 w' m2 (n + 1) vb ys ∧ Beside2 m1 m2 w w' := by
  have A0 := hid hx
  have B0 := hid hy
  have HF := hid hx.ok
  have HG := hid hy.ok
  have HNE := hid hne
  have HQ := hid hq
  have hqb := plI_bd hq
  have hq1 := hqb.1
  have hq2 := hqb.2
  have HP := hid (prod_full hx.ok)
  have HR := hid (prod_full hy.ok)
  have hp1 := HP.out.2.1
  have hp2 := HP.out.2.2
  have hr1 := HR.out.2.1
  have hr2 := HR.out.2.2
  have P0 : Hid (prodI xs ≠ 0) := hid HP.out.1
  have R0 : Hid (prodI ys ≠ 0) := hid HR.out.1
  have HSQ := hid (sq_mul HP.out.1 HR.out.1 hq)
  have hcs := cls_small HP.out.1 hq
  have hds := cls_small HR.out.1 hq
  have hcd : ∀ t : Bool, decide (cls (prodI xs) q = cls (prodI ys) q) = t → q ≠ 0 → Hid (alikeB xs ys q = (t && (hasF xs q == hasF ys q))) := fun t h h0 => hid (by unfold alikeB; rw [if_neg h0, HSQ.out, h])
  obtain ⟨p, hp⟩ : ∃ p, p = prodI xs := ⟨_, rfl⟩
  obtain ⟨r, hr⟩ : ∃ r, r = prodI ys := ⟨_, rfl⟩
  have HPE := hid hp.symm
  have HRE := hid hr.symm
  rw [← hp] at hp1 hp2 P0 hcs hcd
  rw [← hr] at hr1 hr2 R0 hds hcd
  clear hx hy hq hqb hp hr hne HP HR HSQ
  by_cases q0 : q = 0
  · subst q0
    have HV : Hid (alikeB xs ys 0 = (((lessN xs : Nat) : Int) == ((lessN ys : Nat) : Int))) := hid (by unfold alikeB; rw [if_pos rfl, less_beq])
    clear hcd hcs hds
    unfold quadV
    go_enter Try.func94, Try.ntmps94
    go_wp2_with fail
    refine (diaLess_any va xs _ _ A0.out.read HF.out).mono ?_
    rintro e w' ⟨rfl, hb⟩
    have A1 := hid (A0.out.step hb)
    have B1 := hid (B0.out.step hb)
    have S1 := hid (Below.beside2 (m := m1) (m' := m2) hb)
    clear hb
    go_wp2_with fail
    refine (diaLess_any vb ys _ _ B1.out.read HG.out).mono ?_
    rintro e w' ⟨rfl, hb⟩
    have A2 := hid (A1.out.step hb)
    have B2 := hid (B1.out.step hb)
    have S2 := hid (S1.out.trans (Below.beside2 (m := m1) (m' := m2) hb))
    clear hb
    go_wp2_with fail
    go_ret
    exact ⟨retB HV.out.symm, A2.out.more (by omega), B2.out.more (by omega), S2.out⟩
  · have T0 : (q == 0) = false := by rw [beq_eq_false_iff_ne]; exact q0
    by_cases hc : cls p q = cls r q
    · have HV := hcd true (decide_eq_true hc) q0
      obtain ⟨c, hce⟩ : ∃ c, c = cls p q := ⟨_, rfl⟩
      have HC1 : Hid (cls p q = c) := hid hce.symm
      have HC2 : Hid (cls r q = c) := hid (by rw [hce, hc])
      obtain ⟨b, hb0⟩ : ∃ b, b = (c.1 == 1) := ⟨_, rfl⟩
      obtain ⟨u, hu⟩ : ∃ u, u = c.2 := ⟨_, rfl⟩
      have HT : Hid (clsT c = .agg #[.bool b, .int .i64 u]) := hid (by unfold clsT; rw [hb0, hu])
      clear hcd hcs hds hc hce q0 hb0 hu
      obtain ⟨hA, hhA⟩ : ∃ z, z = hasF xs q := ⟨_, rfl⟩
      obtain ⟨hB, hhB⟩ : ∃ z, z = hasF ys q := ⟨_, rfl⟩
      have HA := hid hhA.symm
      have HB := hid hhB.symm
      have HV2 : Hid (alikeB xs ys q = (hA == hB)) := hid (by rw [HV.out, hhA, hhB, Bool.true_and])
      clear hhA hhB HV
      unfold quadV
      cases b
      all_goals
        go_enter Try.func94, Try.ntmps94
        go_wp2_with fail
        refine (diaProduct_any va xs _ _ A0.out.read HF.out).mono ?_
        rw [HPE.out]
        rintro e w' ⟨rfl, hb⟩
        have A1 := hid (A0.out.step hb)
        have B1 := hid (B0.out.step hb)
        have S1 := hid (Below.beside2 (m := m1) (m' := m2) hb)
        clear hb
        go_wp2_with fail
        refine (class_any p q P0.out (by omega) (by omega) HQ.out _).mono ?_
        rw [HC1.out, HT.out]
        rintro e w' ⟨rfl, hb⟩
        have A2 := hid (A1.out.step hb)
        have B2 := hid (B1.out.step hb)
        have S2 := hid (S1.out.trans (Below.beside2 (m := m1) (m' := m2) hb))
        clear hb
        go_wp2_with fail
        refine (diaProduct_any vb ys _ _ B2.out.read HG.out).mono ?_
        rw [HRE.out]
        rintro e w' ⟨rfl, hb⟩
        have A3 := hid (A2.out.step hb)
        have B3 := hid (B2.out.step hb)
        have S3 := hid (S2.out.trans (Below.beside2 (m := m1) (m' := m2) hb))
        clear hb
        go_wp2_with fail
        refine (class_any r q R0.out (by omega) (by omega) HQ.out _).mono ?_
        rw [HC2.out, HT.out]
        rintro e w' ⟨rfl, hb⟩
        have A4 := hid (A3.out.step hb)
        have B4 := hid (B3.out.step hb)
        have S4 := hid (S3.out.trans (Below.beside2 (m := m1) (m' := m2) hb))
        clear hb
        go_wp2_with fail
        refine (diaInv_any va xs q m1 n w0 _ A4.out HQ.out hn).mono ?_
        rw [HA.out]
        rintro e w' ⟨rfl, ha, hs⟩
        have A5 := hid ha
        have B5 := hid (B4.out.other hs HNE.out.symm ha.bel)
        have S5 := hid (S4.out.trans hs.left)
        clear ha hs
        go_wp2_with fail
        refine (diaInv_any vb ys q m2 n w0 _ B5.out HQ.out hn).mono ?_
        rw [HB.out]
        rintro e w' ⟨rfl, ha, hs⟩
        have B6 := hid ha
        have A6 := hid (A5.out.other hs HNE.out ha.bel)
        have S6 := hid (S5.out.trans hs.right)
        clear ha hs
        go_wp2_with fail
        go_ret
        exact ⟨retB HV2.out.symm, A6.out, B6.out, S6.out⟩
    · have HV := hcd false (decide_eq_false hc) q0
      have HV2 : Hid (alikeB xs ys q = false) := hid (by rw [HV.out, Bool.false_and])
      obtain ⟨c, hce⟩ : ∃ c, c = cls p q := ⟨_, rfl⟩
      obtain ⟨d, hde⟩ : ∃ d, d = cls r q := ⟨_, rfl⟩
      have HC1 : Hid (cls p q = c) := hid hce.symm
      have HC2 : Hid (cls r q = d) := hid hde.symm
      rw [← hce] at hc hcs
      rw [← hde] at hc hds
      have hT : clsT c ≠ clsT d := fun e => hc (clsT_inj hcs.1 hds.1 e)
      obtain ⟨b, hb0⟩ : ∃ b, b = (c.1 == 1) := ⟨_, rfl⟩
      obtain ⟨b', hb0'⟩ : ∃ b, b = (d.1 == 1) := ⟨_, rfl⟩
      obtain ⟨u, hu⟩ : ∃ u, u = c.2 := ⟨_, rfl⟩
      obtain ⟨u', hu'⟩ : ∃ u, u = d.2 := ⟨_, rfl⟩
      have HT1 : Hid (clsT c = .agg #[.bool b, .int .i64 u]) := hid (by unfold clsT; rw [hb0, hu])
      have HT2 : Hid (clsT d = .agg #[.bool b', .int .i64 u']) := hid (by unfold clsT; rw [hb0', hu'])
      have hT2 : ¬ (b = b' ∧ u = u') := fun e => hT (by rw [HT1.out, HT2.out, e.1, e.2])
      clear hcd hcs hds hc hce hde q0 hb0 hb0' hu hu' hT HV
      unfold quadV
      have hcase : ((b = true ∧ b' = false) ∨ (b = false ∧ b' = true)) ∨ ((b = true ∧ b' = true ∧ (u == u') = false) ∨ (b = false ∧ b' = false ∧ (u == u') = false)) := by
        by_cases e : u = u'
        · cases b <;> cases b' <;> simp_all
        · have T : (u == u') = false := by rw [beq_eq_false_iff_ne]; exact e
          cases b <;> cases b' <;> simp [T]
      clear hT2
      rcases hcase with (⟨rfl, rfl⟩ | ⟨rfl, rfl⟩) | (⟨rfl, rfl, T⟩ | ⟨rfl, rfl, T⟩)
      all_goals
        go_enter Try.func94, Try.ntmps94
        go_wp2_with fail
        refine (diaProduct_any va xs _ _ A0.out.read HF.out).mono ?_
        rw [HPE.out]
        rintro e w' ⟨rfl, hb⟩
        have A1 := hid (A0.out.step hb)
        have B1 := hid (B0.out.step hb)
        have S1 := hid (Below.beside2 (m := m1) (m' := m2) hb)
        clear hb
        go_wp2_with fail
        refine (class_any p q P0.out (by omega) (by omega) HQ.out _).mono ?_
        rw [HC1.out, HT1.out]
        rintro e w' ⟨rfl, hb⟩
        have A2 := hid (A1.out.step hb)
        have B2 := hid (B1.out.step hb)
        have S2 := hid (S1.out.trans (Below.beside2 (m := m1) (m' := m2) hb))
        clear hb
        go_wp2_with fail
        refine (diaProduct_any vb ys _ _ B2.out.read HG.out).mono ?_
        rw [HRE.out]
        rintro e w' ⟨rfl, hb⟩
        have A3 := hid (A2.out.step hb)
        have B3 := hid (B2.out.step hb)
        have S3 := hid (S2.out.trans (Below.beside2 (m := m1) (m' := m2) hb))
        clear hb
        go_wp2_with fail
        refine (class_any r q R0.out (by omega) (by omega) HQ.out _).mono ?_
        rw [HC2.out, HT2.out]
        rintro e w' ⟨rfl, hb⟩
        have A4 := hid (A3.out.step hb)
        have B4 := hid (B3.out.step hb)
        have S4 := hid (S3.out.trans (Below.beside2 (m := m1) (m' := m2) hb))
        clear hb
        go_wp2_with fail
        go_ret
        exact ⟨retB HV2.out.symm, A4.out.more (by omega), B4.out.more (by omega), S4.out⟩

set_option maxRecDepth 100000 in
set_option maxHeartbeats 1000000 in
theorem formAlike_any (va vb : Value) (xs ys : List Int) (q : Int) (w : World) (hx : Rd w va xs) (hy : Rd w vb ys) (l1 : xs.length ≤ 1048576) (l2 : ys.length ≤ 1048576) : Calls Try.prog 57 #[va, vb, .int .i64 q] w fun e w' => e = .returned (.bool (falikeV xs ys q)) ∧ Below w.heap.size w w' := by
  have HX := hid hx
  have HY := hid hy
  have hcall := quadraticsOf_any va vb xs ys w hx hy
  clear hx hy
  cases hb : bothB xs ys with
  | false =>
    have HR : Hid (falikeV xs ys q = false) := hid (by unfold falikeV; rw [hb]; rfl)
    have HC : Hid (Calls Try.prog 93 #[va, vb] w fun e w' => e = .returned (.tuple #[.nilIface, .nilIface, .bool false]) ∧ Below w.heap.size w w') := hid (hcall.mono (by
      rintro e w' (⟨_, h2, h3⟩ | ⟨h, _⟩)
      · exact ⟨h2, h3⟩
      · rw [hb] at h; cases h))
    clear hb hcall
    go_enter Try.func57, Try.ntmps57
    go_wp2_with fail
    refine (HC.out).mono ?_
    rintro e w' ⟨rfl, hb1⟩
    have HB1 := hid hb1
    clear hb1
    go_wp2_with fail
    go_ret
    exact ⟨retB HR.out.symm, HB1.out⟩
  | true =>
    have HC : Hid (Calls Try.prog 93 #[va, vb] w fun e w' => ∃ m1 m2, m1 ≠ m2 ∧ e = .returned (.tuple #[quadV va m1, quadV vb m2, .bool true]) ∧ Quad w w' m1 0 va xs ∧ Quad w w' m2 0 vb ys) := hid (hcall.mono (by
      rintro e w' (⟨h, _⟩ | ⟨_, h⟩)
      · rw [hb] at h; cases h
      · exact h))
    cases hq : plI q with
    | false =>
      have HQ := hid hq
      have HR : Hid (falikeV xs ys q = false) := hid (by unfold falikeV; rw [hq, Bool.false_and, Bool.and_false])
      clear hb hcall hq
      go_enter Try.func57, Try.ntmps57
      go_wp2_with fail
      refine (HC.out).mono ?_
      rintro e w' ⟨m1, m2, hne, rfl, ha, hc⟩
      have A1 := hid ha
      clear ha hc hne
      go_wp2_with fail
      refine (plValid_any q _).mono ?_
      rw [HQ.out]
      rintro e w' ⟨rfl, hb1⟩
      have A2 := hid (A1.out.step hb1)
      clear hb1
      go_wp2_with fail
      go_ret
      exact ⟨retB HR.out.symm, A2.out.bel⟩
    | true =>
      have HQ := hid hq
      have HR : Hid (falikeV xs ys q = alikeB xs ys q) := hid (by unfold falikeV; rw [hb, hq, Bool.true_and, Bool.true_and])
      clear hb hcall hq
      go_enter Try.func57, Try.ntmps57
      go_wp2_with fail
      refine (HC.out).mono ?_
      rintro e w' ⟨m1, m2, hne, rfl, ha, hc⟩
      have A1 := hid ha
      have B1 := hid hc
      have HNE := hid hne
      clear ha hc hne
      go_wp2_with fail
      refine (plValid_any q _).mono ?_
      rw [HQ.out]
      rintro e w' ⟨rfl, hb1⟩
      have A2 := hid (A1.out.step hb1)
      have B2 := hid (B1.out.step hb1)
      clear hb1
      go_wp2_with fail
      refine (alikeAt_any va vb xs ys q m1 m2 0 w _ A2.out B2.out HNE.out HQ.out (by omega)).mono ?_
      rintro e w' ⟨rfl, ha, hc, hs⟩
      have A3 := hid ha
      clear ha hc hs
      go_wp2_with fail
      go_ret
      exact ⟨retB HR.out.symm, A3.out.bel⟩

end Go.Proofs.Ytciajpimpjpnfaa
