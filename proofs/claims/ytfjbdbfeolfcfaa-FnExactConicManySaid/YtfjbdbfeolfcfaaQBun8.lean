/-
  Some texts in one file: Fm2 Fm3 Fm4 Fm5.
-/
import Derived.Test.YtfjbdbfeolfcfaaQBun7
import Derived.Deep.QuietTactic
import Derived.Laws.AppendOwnNone
/-! Fm2 -/
set_option linter.unusedVariables false
namespace Go.Proofs.Ytfjbdbfeolfcfaa
open Go.RowKit

set_option maxRecDepth 100000 in
set_option maxHeartbeats 1000000 in
theorem l4Value_any (vf vv : Value) (xs vs : List Int) (w : World) (hx : Rd w vf xs) (hv : Rd w vv vs) (hf : fvB xs = true) (hb : ∀ v ∈ vs, -1000 ≤ v ∧ v ≤ 1000) (hl : vs.length = xs.length) :
    Calls Try.prog 46 #[vf, vv] w fun e w' => e = .returned (.int .i64 (valI xs vs xs.length)) ∧ ∃ k, w' = w.drewN k := by
  obtain ⟨a, cap, rfl, hform⟩ := hx.form
  obtain ⟨a', cap', rfl, hform'⟩ := hv.form
  have HFM := hid hform
  have HFV := hid hform'
  have HF := hid hf
  have HVB := hid hb
  have HL := hid hl
  have hl4 := (fvB_iff.1 hf).2.2
  clear hform hform' hx hv hf hb hl
  go_enter Try.func46, Try.ntmps46
  go_wp2_with fail
  go_loopw [5, 6] (fun so si wr => ∃ K k : Nat, si = .int .i64 K ∧ K ≤ xs.length ∧ so = .int .i64 (valI xs vs K) ∧ wr = w.drewN k) (fun _ si _ => xs.length - (intOf si).toNat)
  case atStart => exact ⟨0, 0, rfl, by omega, rfl, rfl⟩
  case round =>
    obtain ⟨K, k, rfl, hK, rfl, rfl⟩ := hrel
    by_cases hlt : K < xs.length
    · obtain ⟨b, o, rfl, hml, hc⟩ := HFM.out (by omega)
      obtain ⟨b', o', rfl, hml', hc'⟩ := HFV.out (by have := HL.out; omega)
      have hcell := hc K hlt
      have hcell' := hc' K (by have := HL.out; omega)
      have ht := fv_at HF.out hlt
      have hv1 := HVB.out (vs.getD K 0) (by rw [getD_at _ _ (by have := HL.out; omega)]; exact List.getElem_mem _)
      have hbd := term_bd ht.2.1 ht.2.2 hv1.1 hv1.2
      have hvb := valI_bd HF.out HVB.out HL.out K (by omega)
      have hst : valI xs vs (K + 1) = valI xs vs K + xs.getD K 0 * vs.getD K 0 * vs.getD K 0 := rfl
      obtain ⟨x, hx⟩ : ∃ x, x = xs.getD K 0 := ⟨_, rfl⟩
      obtain ⟨y, hy⟩ : ∃ y, y = vs.getD K 0 := ⟨_, rfl⟩
      obtain ⟨s, hs⟩ : ∃ s, s = valI xs vs K := ⟨_, rfl⟩
      rw [← hx] at hcell hst hbd
      rw [← hy] at hcell' hst hbd
      rw [← hs] at hst hvb ⊢
      have hKi : (K : Int) < (xs.length : Int) := by omega
      have hKj : (K : Int) < (vs.length : Int) := by have := HL.out; omega
      have HLT := hid hlt
      have HST := hid hst
      have b1 := hbd.1
      have b2 := hbd.2.1
      have b3 := hbd.2.2.1
      have b4 := hbd.2.2.2
      have s1 := hvb.1
      have s2 := hvb.2
      clear hx hy hs hc hc' hml hml' hlt hbd hvb hst ht hv1
      go_wp2_with fail
      go_quiet (fail)
      go_wp2_with fail
      go_roundw
      case measure => simp only [intOf]; have := HLT.out; omega
      case rel => exact ⟨K + 1, _, by go_num, by have := HLT.out; omega, vI HST.out.symm, by first | rfl | exact World.drewN_drewN ..⟩
    · obtain rfl : K = xs.length := by omega
      clear hlt
      go_wp2_with fail
      go_ret
      exact ⟨rfl, k, rfl⟩

set_option maxRecDepth 100000 in
set_option maxHeartbeats 1000000 in
theorem l4Vector_any (vf vv : Value) (xs vs : List Int) (m : Int) (hm1 : 0 ≤ m) (hm2 : m ≤ 1000000) (w : World) (hx : Rd w vf xs) (hv : Rd w vv vs) :
    Calls Try.prog 44 #[vf, vv, .int .i64 m] w fun e w' => e = .returned (.bool (vecB xs vs m)) ∧ w = w' := by
  have HX := hid hx
  obtain ⟨a0, cap0, rfl, _⟩ := hx.form
  obtain ⟨a, cap, rfl, hform⟩ := hv.form
  have HFM := hid hform
  have hmx : vs.length ≤ maxLen := by
    rcases Nat.eq_zero_or_pos vs.length with e | e
    · rw [e]; exact Nat.zero_le _
    · obtain ⟨_, _, _, hm, _⟩ := hform e; exact hm
  unfold maxLen at hmx
  clear hform hx hv
  go_enter Try.func44, Try.ntmps44
  go_wp2_with fail
  go_loop [7] (fun si => ∃ K : Nat, si = .int .i64 K ∧ K ≤ vs.length ∧ Hid (∀ i, i < K → inR (vs.getD i 0) (-m) m = true)) (fun si => vs.length - (intOf si).toNat)
  case atStart => exact ⟨0, rfl, by omega, hid (fun i hi => by omega)⟩
  case round =>
    obtain ⟨K, rfl, hK, HE⟩ := hrel
    by_cases hlt : K < vs.length
    · obtain ⟨b, o, rfl, hml, hc⟩ := HFM.out (by omega)
      have hcell := hc K hlt
      obtain ⟨x, hx⟩ : ∃ x, x = vs.getD K 0 := ⟨_, rfl⟩
      rw [← hx] at hcell
      have HXE := hid hx
      have HLT := hid hlt
      have hKi : (K : Int) < (vs.length : Int) := by omega
      have HNO : Hid (inR x (-m) m = false → vecB xs vs m = false) := hid (fun e => by
        unfold vecB
        rw [show vs.all (fun v => inR v (-m) m) = false from ?_, Bool.false_and]
        rw [List.all_eq_false]
        exact ⟨x, by rw [hx, getD_at _ _ hlt]; exact List.getElem_mem _, by rw [e]; decide⟩)
      clear hx hc hml hlt
      cases hr : inR x (-m) m with
      | false =>
        have HR := hid (HNO.out hr)
        have HIN := hid hr
        clear hr
        go_wp2_with (go_at_call 56; refine (l6In_any _ _ _ _).mono ?_; rw [HIN.out]; rintro e w' ⟨rfl, rfl⟩)
        go_ret
        exact ⟨retB HR.out.symm, rfl⟩
      | true =>
        have HIN := hid hr
        clear hr
        go_wp2_with (go_at_call 56; refine (l6In_any _ _ _ _).mono ?_; rw [HIN.out]; rintro e w' ⟨rfl, rfl⟩)
        go_round
        case measure => simp only [intOf]; have := HLT.out; omega
        case rel => exact ⟨K + 1, by go_num, by have := HLT.out; omega, hid (fun i hi => by
          by_cases e : i = K
          · rw [e, ← HXE.out]; exact HIN.out
          · exact HE.out i (by omega))⟩
    · obtain rfl : K = vs.length := by omega
      have HR : Hid (vecB xs vs m = (fvB xs && (vs.length == xs.length))) := hid (by
        unfold vecB
        rw [show vs.all (fun v => inR v (-m) m) = true from List.all_eq_true.2 fun x hx => by
          obtain ⟨i, hi, rfl⟩ := List.getElem_of_mem hx
          have := HE.out i hi
          rwa [getD_at _ _ hi] at this, Bool.true_and])
      clear hlt
      cases hf : fvB xs with
      | false =>
        have HF := hid hf
        clear hf
        go_wp2_with (go_at_call 70; refine (formValidS_any _ _ _ HX.out).mono ?_; rw [HF.out]; rintro e w' ⟨rfl, rfl⟩)
        go_ret
        exact ⟨retB (by rw [HR.out, HF.out]; rfl), rfl⟩
      | true =>
        have HF := hid hf
        clear hf
        go_wp2_with (go_at_call 70; refine (formValidS_any _ _ _ HX.out).mono ?_; rw [HF.out]; rintro e w' ⟨rfl, rfl⟩)
        go_ret
        exact ⟨retB (by rw [HR.out, HF.out, Bool.true_and, Bool.eq_iff_iff]; simp; omega), rfl⟩



end Go.Proofs.Ytfjbdbfeolfcfaa

/-! Fm3 -/
set_option linter.unusedVariables false
namespace Go.Proofs.Ytfjbdbfeolfcfaa
open Go.RowKit

theorem Rd.drewN {w : World} {v : Value} {xs : List Int} (h : Rd w v xs) (k : Nat) : Rd (w.drewN k) v xs := h
theorem Rd.keep {w w' : World} {v : Value} {xs : List Int} (h : Rd w v xs) (hb : Below w.heap.size w w') : Rd w' v xs := by
  rcases h with h | ⟨b, o, cap, hv, h0, hm, hc⟩
  · exact .inl h
  · refine .inr ⟨b, o, cap, hv, h0, hm, fun i hi => ?_⟩
    have hci := hc i hi
    obtain ⟨ob, ho, _⟩ := cells_of_cell hci
    have hlt : b < w.heap.size := (Array.getElem?_eq_some_iff.1 ho).1
    rw [hb.cell (p := ⟨b, o + i, none⟩) hlt]
    exact hci
theorem neg_bd {n : Int} (h : -810000 ≤ n ∧ n ≤ 810000) : -810000 ≤ -n ∧ -n ≤ 810000 := by omega





end Go.Proofs.Ytfjbdbfeolfcfaa

/-! Fm4 -/
set_option linter.unusedVariables false
namespace Go.Proofs.Ytfjbdbfeolfcfaa
open Go.RowKit

theorem prG_prod : ∀ {xs : List Int} {x : Nat}, PrG x → x ∣ (prodI xs).natAbs → ∃ t ∈ xs, x ∣ t.natAbs
  | [], x, hp, hd => by
    have h1 := Nat.le_of_dvd (by decide) hd
    have := hp.1
    have e : (prodI []).natAbs = 1 := rfl
    omega
  | t :: xs, x, hp, hd => by
    rw [show prodI (t :: xs) = t * prodI xs from rfl, Int.natAbs_mul] at hd
    rcases prG_mul hp hd with h | h
    · exact ⟨t, List.mem_cons_self .., h⟩
    · obtain ⟨u, hu, hx⟩ := prG_prod hp h
      exact ⟨u, List.mem_cons_of_mem _ hu, hx⟩
/-- a prime that divides a product of small terms is small -/
theorem small_prime {xs : List Int} (h : ∀ x ∈ xs, x ≠ 0 ∧ -30 ≤ x ∧ x ≤ 30) {x : Nat} (hp : PrG x) (hd : x ∣ (prodI xs).natAbs) : x ≤ 30 ∧ primeN x = true := by
  obtain ⟨t, ht, hx⟩ := prG_prod hp hd
  have hb := h t ht
  have := Nat.le_of_dvd (by omega) hx
  exact ⟨by omega, prG_primeN hp (by omega)⟩
theorem places_small {xs : List Int} (h : ∀ x ∈ xs, x ≠ 0 ∧ -30 ≤ x ∧ x ≤ 30) (hn : prodI xs ≠ 0) : ∀ q ∈ placesG (prodI xs), plI q = true := by
  intro q hq
  unfold placesG at hq
  simp only [List.cons_append, List.nil_append, List.mem_cons] at hq
  rcases hq with rfl | rfl | hq
  · rfl
  · rfl
  · have hm := (List.mem_filter.1 hq).1
    unfold natsI at hm
    rw [List.mem_map] at hm
    obtain ⟨x, hx, rfl⟩ := hm
    have hs := (plistG_spec (show 0 < (prodI xs).natAbs by omega)).1 x hx
    have := (small_prime h hs.1 hs.2).2
    unfold plI
    rw [show primeI (x : Int) = true from this, Bool.or_true]
theorem places_fv {xs : List Int} (hf : fvB xs = true) : ∀ q ∈ placesG (prodI xs), plI q = true :=
  places_small (fvB_iff.1 hf).1 (prod_full hf).1
theorem fpl_all {xs : List Int} : (fplL xs).length ≤ 1000000000002 ∧ ∀ q ∈ fplL xs, fvB xs = true ∧ plI q = true := by
  unfold fplL
  cases hf : fvB xs with
  | false => exact ⟨by simp, fun q hq => by simp at hq⟩
  | true =>
    have hp := prod_full hf
    rw [if_pos rfl]
    exact ⟨placesG_len hp.1 (by omega) (by omega), fun q hq => ⟨rfl, places_fv hf q hq⟩⟩





end Go.Proofs.Ytfjbdbfeolfcfaa

/-! Fm5 -/
set_option linter.unusedVariables false
namespace Go.Proofs.Ytfjbdbfeolfcfaa
open Go.RowKit

theorem prod_join {xs ys : List Int} (hf : fvB xs = true) (hg : fvB ys = true) : prodI xs * prodI ys ≠ 0 ∧ -656100000000 ≤ prodI xs * prodI ys ∧ prodI xs * prodI ys ≤ 656100000000 ∧ (∀ q ∈ placesG (prodI xs * prodI ys), plI q = true) := by
  have hp := prod_full hf
  have hr := prod_full hg
  have hn := Int.mul_ne_zero hp.1 hr.1
  have hm : (prodI xs * prodI ys).natAbs ≤ 810000 * 810000 := by rw [Int.natAbs_mul]; exact Nat.mul_le_mul (by omega) (by omega)
  refine ⟨hn, by omega, by omega, ?_⟩
  rw [← prodI_app]
  refine places_small (fun x hx => ?_) (by rw [prodI_app]; exact hn)
  rcases List.mem_append.1 hx with h | h
  · exact (fvB_iff.1 hf).1 x h
  · exact (fvB_iff.1 hg).1 x h


theorem map_take {xs : List Int} {f : Int → Int} {i : Nat} (hi : i < xs.length) : (xs.take (i + 1)).map f = (xs.take i).map f ++ [f (xs.getD i 0)] := by
  rw [take_snoc _ _ hi, List.map_append, getD_at _ _ hi]; rfl




end Go.Proofs.Ytfjbdbfeolfcfaa
