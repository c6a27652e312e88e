/-
  Contracts of the model's chapter 5: all vectors, tried one after the other by functions that call themselves.
-/
import Derived.Test.YtenibnblibnocabZm1
import Derived.Test.YtenibnblibnocabVals5b
import Derived.Test.YtenibnblibnocabOwn2
import Derived.Deep.QuietTactic
set_option linter.unusedVariables false
namespace Go.Proofs.Ytenibnblibnocab
open Go.RowKit

/-- a list that has been made longer by one, in new memory -/
def Longer (w wr w2 : World) (v2 : Value) (vs : List Int) (x : Int) : Prop := Owns w2 wr.heap.size v2 (vs ++ [x]) ∧ Below w.heap.size w w2
theorem longer_ok {w wr w1 w2 : World} {v1 v2 : Value} {vs : List Int} {x : Int} (HB : Below w.heap.size w wr) (o1 : Owns w1 wr.heap.size v1 ([] ++ vs)) (g1 : (wr.alloc (.cells #[] 3)).grownBy w1 (some wr.heap.size)) (o2 : Owns w2 wr.heap.size v2 (vs ++ [x])) (g2 : (w1.alloc (.cells #[.int .i64 x] 3)).grownBy w2 v1.ownBlock) : Longer w wr w2 v2 vs x := by
  have hs := HB.size
  have b1 := (HB.alloc hs (.cells #[] 3)).grown g1 (by simp; omega) (fun k e => by cases e; exact hs)
  have b2 := b1.alloc b1.size (.cells #[.int .i64 x] 3)
  exact ⟨o2, b2.grown g2 b2.size (fun k e => Nat.le_trans hs (o1.ge k e))⟩

theorem good_no1 {xs vs : List Int} (h : someB vs = false) : goodB xs vs = false := by unfold goodB; rw [h]; rfl
theorem good_no2 {xs vs : List Int} (h : valI xs vs vs.length ≠ 0) : goodB xs vs = false := by unfold goodB; rw [decide_eq_false h]; simp
theorem good_no3 {xs vs : List Int} (h : plainL vs ≠ vs) : goodB xs vs = false := by unfold goodB; rw [decide_eq_false h]; simp
theorem good_yes {xs vs : List Int} (h : someB vs = true) (h2 : valI xs vs vs.length = 0) (h3 : plainL vs = vs) : goodB xs vs = true := by unfold goodB; rw [h, decide_eq_true h2, decide_eq_true h3]; rfl
theorem manyR_zero (xs : List Int) (n : Int) (vs : List Int) : manyR xs n 0 vs = if goodB xs vs then 1 else 0 := rfl
theorem pow13 {k : Nat} (h : k ≤ 4) : 13 ^ k ≤ 28561 := Nat.pow_le_pow_right (by decide) h
set_option maxRecDepth 100000 in
set_option maxHeartbeats 4000000 in
theorem l5Many_any (xs : List Int) (n : Int) (hf : fvB xs = true) (n1 : 1 ≤ n) (n2 : n ≤ 6) : ∀ (k : Nat) (vf vv : Value) (vs : List Int) (w : World), Rd w vf xs → Rd w vv vs → Firm vv → vs.length + k = xs.length → (∀ v ∈ vs, -n ≤ v ∧ v ≤ n) →
    Calls Try.prog 92 #[vf, vv, .int .i64 n] w fun e w' => e = .returned (.int .i64 (manyR xs n k vs)) ∧ Below w.heap.size w w' := by
  intro k
  induction k with
  | zero =>
    intro vf vv vs w hx hv fv hl hb
    have HX := hid hx
    have HV := hid hv
    obtain ⟨a, cap, rfl, _⟩ := hx.form
    obtain ⟨a', cap', rfl, _⟩ := hv.form
    have hl0 : vs.length = xs.length := by omega
    have hli : (vs.length : Int) = (xs.length : Int) := by omega
    have TL : (((vs.length : Nat) : Int) == ((xs.length : Nat) : Int)) = true := by rw [beq_iff_eq]; exact hli
    have hl4 := (fvB_iff.1 hf).2.2
    have hv4 : vs.length ≤ 4 := by omega
    have H6 : Hid (Vec6 vs) := hid (fun v hv => by have := hb v hv; omega)
    have HF := hid hf
    have HL := hid hl0
    rw [manyR_zero]
    clear hx hv fv hl hb hf hl0 hli
    cases hs : someB vs with
    | false =>
      have HR := hid (good_no1 (xs := xs) hs)
      have HS := hid hs
      rw [HR.out, if_neg (by decide)]
      clear hs
      go_enter Try.func92, Try.ntmps92
      go_wp2_with (go_at_call 98; refine (l5Some_any _ vs _ HV.out hv4).mono ?_; rw [HS.out]; rintro e w' ⟨rfl, rfl⟩)
      go_ret
      exact ⟨rfl, Below.refl _ _⟩
    | true =>
      have HS := hid hs
      have HSM := hid (someB_iff.1 hs)
      by_cases hz : valI xs vs xs.length = 0
      · have hz2 : valI xs vs vs.length = 0 := by rw [HL.out]; exact hz
        have HZ := hid hz
        have HP3 : Hid (plainL vs ≠ vs → (if goodB xs vs then 1 else 0 : Int) = 0) := hid (fun h => by rw [good_no3 h]; rfl)
        have HP4 : Hid (plainL vs = vs → (if goodB xs vs then 1 else 0 : Int) = 1) := hid (fun h => by rw [good_yes hs hz2 h]; rfl)
        obtain ⟨G, hG⟩ : ∃ G : Int, G = if goodB xs vs then 1 else 0 := ⟨_, rfl⟩
        rw [← hG] at HP3 HP4 ⊢
        clear hs hz hz2 hG
        go_enter Try.func92, Try.ntmps92
        go_wp2_with (first | (go_at_call 98; refine (l5Some_any _ vs _ HV.out hv4).mono ?_; rw [HS.out]; rintro e w' ⟨rfl, rfl⟩) | (go_at_call 69; refine (l4Value6_any _ _ xs vs _ HX.out HV.out HF.out H6.out HL.out).mono ?_; rw [HZ.out]; rintro e w' ⟨rfl, kq, rfl⟩))
        refine (l5Plain_any _ vs _ (HV.out.drewN kq) hv4 H6.out HSM.out).mono ?_
        rintro e w2 ⟨u, rfl, ho, hb2⟩
        have HO := hid ho
        have HB2 := hid ((below_drewN (Below.refl w.heap.size w) kq).trans hb2)
        have HV2 := hid (HV.out.keep HB2.out)
        obtain ⟨au, cu, rfl, hfu⟩ := ho.rd.form
        obtain ⟨a2, c2, e2, hfv⟩ := HV2.out.form
        cases e2
        have hpl := plainL_len vs
        rw [hpl] at hfu
        have HFU := hid hfu
        have HFV := hid hfv
        have HPL := hid hpl
        rw [hpl]
        clear ho hb2 hfu hfv hpl
        go_wp2_with fail
        go_loopw [8] (fun si wr => ∃ K : Nat, si = .int .i64 K ∧ K ≤ vs.length ∧ Hid (∀ i, i < K → (plainL vs).getD i 0 = vs.getD i 0) ∧ Hid (∃ q, wr = w2.drewN q)) (fun si _ => vs.length - (intOf si).toNat)
        case atStart => exact ⟨0, rfl, by omega, hid (fun i hi => by omega), hid ⟨0, rfl⟩⟩
        case round =>
          obtain ⟨K, rfl, hK, HE, HW⟩ := hrel
          rename World => wq
          have HBQ : Hid (∀ j, Below w.heap.size w (wq.drewN j)) := hid (fun j => by obtain ⟨q, hq⟩ := HW.out; rw [hq]; exact below_drewN (below_drewN HB2.out q) j)
          by_cases hlt : K < vs.length
          · obtain ⟨b, o, rfl, hml, hc⟩ := HFU.out (by have := HPL.out; omega)
            obtain ⟨b', o', rfl, hml', hc'⟩ := HFV.out (by omega)
            have c1 : wq.cell? ⟨b, o + K, none⟩ = some (.int .i64 ((plainL vs).getD K 0)) := by obtain ⟨q, rfl⟩ := HW.out; exact hc K (by have := HPL.out; omega)
            have c2' : wq.cell? ⟨b', o' + K, none⟩ = some (.int .i64 (vs.getD K 0)) := by obtain ⟨q, rfl⟩ := HW.out; exact hc' K hlt
            obtain ⟨x, hx⟩ : ∃ x, x = (plainL vs).getD K 0 := ⟨_, rfl⟩
            obtain ⟨y, hy⟩ : ∃ y, y = vs.getD K 0 := ⟨_, rfl⟩
            rw [← hx] at c1
            rw [← hy] at c2'
            have HXE := hid hx
            have HYE := hid hy
            have HLT := hid hlt
            have hKi : (K : Int) < (vs.length : Int) := by omega
            clear hx hy hc hc' hml hml' hlt
            by_cases hxy : x = y
            · have T : (x != y) = false := by rw [bne_eq_false_iff_eq]; exact hxy
              have HXY := hid hxy
              clear hxy
              go_wp2_with fail
              go_quiet (fail)
              go_wp2_with fail
              go_roundw
              case measure => simp only [intOf]; have := HLT.out; omega
              case rel => exact ⟨K + 1, by go_num, by have := HLT.out; omega, hid (fun i hi => by
                by_cases e : i = K
                · rw [e, ← HXE.out, ← HYE.out]; exact HXY.out
                · exact HE.out i (by omega)), hid (by obtain ⟨q, hq⟩ := HW.out; exact ⟨q + nq, by rw [hq, World.drewN_drewN]⟩)⟩
            · have T : (x != y) = true := by rw [bne_iff_ne]; exact hxy
              have HG : Hid (G = 0) := hid (HP3.out fun e => hxy (by rw [HXE.out, HYE.out, e]))
              clear hxy
              go_wp2_with fail
              go_quiet (fail)
              go_wp2_with fail
              go_ret
              exact ⟨retI HG.out.symm, HBQ.out nq⟩
          · obtain rfl : K = vs.length := by omega
            have HG : Hid (G = 1) := hid (HP4.out (by
              refine List.ext_getElem HPL.out fun i h1 h2 => ?_
              have := HE.out i h2
              rwa [getD_at _ _ h1, getD_at _ _ h2] at this))
            clear hlt
            go_wp2_with fail
            go_ret
            exact ⟨retI HG.out.symm, HBQ.out 0⟩
      · have HR := hid (good_no2 (xs := xs) (vs := vs) (by rw [HL.out]; exact hz))
        rw [HR.out, if_neg (by decide)]
        obtain ⟨z, hze⟩ : ∃ z, z = valI xs vs xs.length := ⟨_, rfl⟩
        have HZ : Hid (valI xs vs xs.length = z) := hid hze.symm
        rw [← hze] at hz
        have TZ : (z != 0) = true := by rw [bne_iff_ne]; exact hz
        clear hs hz hze
        go_enter Try.func92, Try.ntmps92
        go_wp2_with (first | (go_at_call 98; refine (l5Some_any _ vs _ HV.out hv4).mono ?_; rw [HS.out]; rintro e w' ⟨rfl, rfl⟩) | (go_at_call 69; refine (l4Value6_any _ _ xs vs _ HX.out HV.out HF.out H6.out HL.out).mono ?_; rw [HZ.out]; rintro e w' ⟨rfl, kq, rfl⟩))
        go_ret
        exact ⟨rfl, below_drewN (Below.refl _ _) _⟩
  | succ k ih =>
    intro vf vv vs w hx hv fv hl hb
    have HX := hid hx
    have HV := hid hv
    have HFV := hid fv
    obtain ⟨a, cap, rfl, _⟩ := hx.form
    obtain ⟨a', cap', rfl, _⟩ := hv.form
    have hl4 := (fvB_iff.1 hf).2.2
    have hli : ¬ (vs.length : Int) = (xs.length : Int) := by omega
    have TL : (((vs.length : Nat) : Int) == ((xs.length : Nat) : Int)) = false := by rw [beq_eq_false_iff_ne]; exact hli
    have HB0 := hid hb
    have HL := hid hl
    have IH := hid ih
    obtain ⟨N, rfl⟩ := Int.eq_ofNat_of_zero_le (show 0 ≤ n by omega)
    have hk4 : k ≤ 4 := by omega
    have HMB : Hid (∀ us, 0 ≤ manyR xs N k us ∧ manyR xs N k us ≤ 28561) := hid (fun us => ⟨many_nn xs N k us, by have h1 := many_bd xs (show (0 : Int) ≤ N by omega) n2 k us; have h2 := pow13 hk4; omega⟩)
    have HSB : Hid (∀ K : Nat, 0 ≤ sumZ (fun x => manyR xs N k (vs ++ [x])) (-(N : Int)) K ∧ sumZ (fun x => manyR xs N k (vs ++ [x])) (-(N : Int)) K ≤ 28561 * K) := hid (fun K => ⟨sumZ_nn (fun x => (HMB.out _).1) _, sumZ_bd (fun x => (HMB.out _).2) _⟩)
    have hv4 : vs.length ≤ 3 := by omega
    clear ih hx hv fv hb hl hf hli
    show Calls _ _ _ _ fun e w' => e = .returned (.int .i64 (sumZ (fun x => manyR xs N k (vs ++ [x])) (-(N : Int)) (2 * (N : Int) + 1).toNat)) ∧ _
    go_enter Try.func92, Try.ntmps92
    go_wp2_with fail
    go_loopw [9, 10] (fun ss sx wr => ∃ (K : Nat) (s x : Int), sx = .int .i64 x ∧ Hid (x = -(N : Int) + (K : Int)) ∧ -(N : Int) ≤ x ∧ x ≤ (N : Int) + 1 ∧ ss = .int .i64 s ∧ 0 ≤ s ∧ s ≤ 28561 * K ∧ Hid (s = sumZ (fun x => manyR xs N k (vs ++ [x])) (-(N : Int)) K) ∧ Hid (Below w.heap.size w wr)) (fun _ sx _ => (N + 1 - intOf sx).toNat)
    case atStart => exact ⟨0, 0, -(N : Int), rfl, hid (by omega), by omega, by omega, rfl, by omega, by omega, hid rfl, hid (Below.refl _ _)⟩
    case round =>
      obtain ⟨K, s, x, rfl, HXE, hx1, hx2, rfl, s1, s2, HS, HB⟩ := hrel
      rename World => wr
      by_cases hlt : x ≤ (N : Int)
      · have hxe := HXE.out
        have hKb : K ≤ 12 := by omega
        have hsz := HB.out.size
        have HO0 : Hid (Owns (wr.alloc (.cells #[] 3)) wr.heap.size (.slice (some ⟨wr.heap.size, 0, none⟩) 0 0) []) := hid (World.ownsRow_made (size := 1) wr #[] 0 (Nat.le_refl _) (by unfold maxLen; omega) rfl)
        have HV0 : Hid (Rd (wr.alloc (.cells #[] 3)) (.slice a' vs.length cap') vs) := hid (HV.out.keep (HB.out.alloc hsz _))
        have HSTEP : Hid (sumZ (fun x => manyR xs N k (vs ++ [x])) (-(N : Int)) (K + 1) = s + manyR xs N k (vs ++ [x])) := hid (by rw [HS.out, hxe]; rfl)
        have HBV : Hid (∀ v ∈ vs ++ [x], -(N : Int) ≤ v ∧ v ≤ (N : Int)) := hid (fun v hv => by
          rcases List.mem_append.1 hv with h | h
          · exact HB0.out v h
          · rw [List.mem_singleton] at h; omega)
        have HLN : Hid ((vs ++ [x]).length + k = xs.length) := hid (by rw [List.length_append, List.length_singleton]; have := HL.out; omega)
        have hm := HMB.out (vs ++ [x])
        obtain ⟨M, hM⟩ : ∃ M, M = manyR xs N k (vs ++ [x]) := ⟨_, rfl⟩
        have HM : Hid (manyR xs N k (vs ++ [x]) = M) := hid hM.symm
        rw [← hM] at hm HSTEP
        have m1 := hm.1
        have m2 := hm.2
        clear hM hm hxe
        have F1 : Hid (∀ (v1 : Value) (w1 : World), Owns w1 wr.heap.size v1 ([] ++ vs) → (wr.alloc (.cells #[] 3)).grownBy w1 (some wr.heap.size) → Owns (w1.alloc (.cells #[.int .i64 x] 3)) wr.heap.size v1 vs ∧ wr.heap.size ≤ (w1.alloc (.cells #[.int .i64 x] 3)).heap.size ∧ Rd (w1.alloc (.cells #[.int .i64 x] 3)) (.slice (some ⟨w1.heap.size, 0, none⟩) 1 1) [x]) := hid (fun v1 w1 o1 g1 => by
          refine ⟨(show Owns w1 wr.heap.size v1 vs from o1).alloc _, ?_, (owns_lit (W := w1) (B := w1.heap.size) [x] _ rfl (Nat.le_refl _) (by unfold maxLen; simp)).rd⟩
          have := g1.size
          simp only [World.size_alloc] at this ⊢
          omega)
        have hvl : vs.length + [x].length ≤ 10000000 := by simp; omega
        go_wp2_with (first | (at_builtin; refine append_rd rfl _ _ rfl wr.heap.size _ vs rfl (F1.out _ _ HO1A.out HG1.out).1 _ [x] rfl (F1.out _ _ HO1A.out HG1.out).2.2 (.inr ⟨_, _, _, rfl⟩) hvl (F1.out _ _ HO1A.out HG1.out).2.1 ?_; intro v2 w2 o2 g2; have HL2 := hid (longer_ok HB.out HO1A.out HG1.out o2 g2); clear o2 g2) | (at_builtin; go_loud (refine append_rd rfl _ _ rfl wr.heap.size _ [] rfl HO0.out _ vs rfl HV0.out HFV.out (by simp; omega) (by simp) ?_; intro v1 w1 o1 g1; have HO1A := hid o1; have HG1 : Hid ((wr.alloc (.cells #[] 3)).grownBy w1 (some wr.heap.size)) := hid g1; clear o1 g1)))
        refine (IH.out _ _ (vs ++ [x]) _ (HX.out.keep HL2.out.2) HL2.out.1.rd HL2.out.1.firm HLN.out HBV.out).mono ?_
        rw [HM.out]
        rintro e w3 ⟨rfl, hb3⟩
        have HB3 := hid (HL2.out.2.trans (hb3.mono HL2.out.2.size))
        clear hb3
        go_wp2_with fail
        go_roundw
        case measure => simp only [intOf]; omega
        case rel => exact ⟨K + 1, s + M, x + 1, rfl, hid (by have := HXE.out; omega), by omega, by omega, rfl, by omega, by omega, hid HSTEP.out.symm, HB3⟩
      · have e : K = (2 * (N : Int) + 1).toNat := by have := HXE.out; omega
        have HR : Hid (s = sumZ (fun x => manyR xs N k (vs ++ [x])) (-(N : Int)) (2 * (N : Int) + 1).toNat) := hid (by rw [← e]; exact HS.out)
        clear e
        go_wp2_with fail
        go_ret
        exact ⟨retI HR.out, HB.out⟩

set_option maxRecDepth 100000 in
set_option maxHeartbeats 1000000 in
theorem zeroManyS_any (vf : Value) (xs : List Int) (n : Int) (w : World) (hx : Rd w vf xs) : Calls Try.prog 50 #[vf, .int .i64 n] w fun e w' => e = .returned (.int .i64 (zmanyV xs n)) ∧ Below w.heap.size w w' := by
  have HX := hid hx
  obtain ⟨a, cap, rfl, _⟩ := hx.form
  clear hx
  have hno : zmanyOk xs n = false → zmanyV xs n = -1 := fun h => by unfold zmanyV; rw [h]; rfl
  cases hf : fvB xs with
  | false =>
    have HF := hid hf
    have HR := hid (hno (by unfold zmanyOk; rw [hf]; rfl))
    clear hf hno
    go_enter Try.func50, Try.ntmps50
    go_wp2_with (go_at_call 91; refine (formValidS_any _ xs _ HX.out).mono ?_; rw [HF.out]; rintro e w' ⟨rfl, rfl⟩)
    go_ret
    exact ⟨retI HR.out.symm, Below.refl _ _⟩
  | true =>
    have HF := hid hf
    cases hn : inR n 1 6 with
    | false =>
      have HN := hid hn
      have HR := hid (hno (by unfold zmanyOk; rw [hn, Bool.and_false]))
      clear hf hno hn
      go_enter Try.func50, Try.ntmps50
      go_wp2_with (first | (go_at_call 91; refine (formValidS_any _ xs _ HX.out).mono ?_; rw [HF.out]; rintro e w' ⟨rfl, rfl⟩) | (go_at_call 79; refine (l6In_any _ _ _ _).mono ?_; rw [HN.out]; rintro e w' ⟨rfl, rfl⟩))
      go_ret
      exact ⟨retI HR.out.symm, Below.refl _ _⟩
    | true =>
      have HN := hid hn
      have hnb : 1 ≤ n ∧ n ≤ 6 := by
        unfold inR at hn
        rwa [Bool.and_eq_true, decide_eq_true_eq, decide_eq_true_eq] at hn
      have HR : Hid (zmanyV xs n = manyR xs n xs.length []) := hid (by unfold zmanyV zmanyOk; rw [hf, hn]; rfl)
      have HB0 := hid ((Below.refl w.heap.size w).alloc (Nat.le_refl _) (.cells #[] 3))
      have HO0 : Hid (Owns (w.alloc (.cells #[] 3)) w.heap.size (.slice (some ⟨w.heap.size, 0, none⟩) 0 0) []) := hid (World.ownsRow_made (size := 1) w #[] 0 (Nat.le_refl _) (by unfold maxLen; omega) rfl)
      have HM := hid (l5Many_any xs n hf hnb.1 hnb.2 xs.length _ _ [] _ (HX.out.keep HB0.out) HO0.out.rd HO0.out.firm (by simp) (fun v hv => by cases hv))
      clear hf hno hn hnb
      go_enter Try.func50, Try.ntmps50
      go_wp2_with (first | (go_at_call 91; refine (formValidS_any _ xs _ HX.out).mono ?_; rw [HF.out]; rintro e w' ⟨rfl, rfl⟩) | (go_at_call 79; refine (l6In_any _ _ _ _).mono ?_; rw [HN.out]; rintro e w' ⟨rfl, rfl⟩) | (go_at_call 92; refine (HM.out).mono ?_; rintro e w2 ⟨rfl, hb2⟩))
      go_ret
      exact ⟨retI HR.out.symm, HB0.out.trans (hb2.mono HB0.out.size)⟩

end Go.Proofs.Ytenibnblibnocab
