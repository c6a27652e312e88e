/-
  Contracts of the model's chapter 5: zeros, plain ones, heights, pairs.
-/
import Derived.Test.YtjabklpnohfjpabQBun20
import Derived.Test.YtjabklpnohfjpabQVals5
set_option linter.unusedVariables false
namespace Go.Proofs.Ytjabklpnohfjpab
open Go.RowKit

theorem gcdL_zero : ∀ (vs : List Int) (g : Nat), (∀ v ∈ vs, v = 0) → vs.foldl (fun g v => Nat.gcd g v.natAbs) g = g
  | [], _, _ => rfl
  | v :: vs, g, h => by
    rw [List.foldl_cons, h v (List.mem_cons_self ..), Int.natAbs_zero, Nat.gcd_zero_right]
    exact gcdL_zero vs g fun x hx => h x (List.mem_cons_of_mem _ hx)
theorem gcdL_leM {vs : List Int} {m : Nat} (h : ∀ v ∈ vs, v.natAbs ≤ m) : gcdL vs ≤ m := by
  by_cases hs : ∃ v ∈ vs, v ≠ 0
  · exact gcdL_le h hs
  · have : gcdL vs = 0 := gcdL_zero vs 0 fun v hv => Classical.byContradiction fun h0 => hs ⟨v, hv, h0⟩
    omega
theorem takeD_snoc {xs : List Int} {K : Nat} (h : K < xs.length) : xs.take (K + 1) = xs.take K ++ [xs.getD K 0] := by
  rw [List.take_add_one, getD_at _ _ h, List.getElem?_eq_getElem h]; rfl
theorem getD_take_mem {xs : List Int} {K i : Nat} (hi : i < K) (hK : K ≤ xs.length) : xs.getD i 0 ∈ xs.take K := by
  rw [getD_at _ _ (by omega)]
  exact List.mem_take_iff_getElem.2 ⟨i, by omega, rfl⟩
def zerosB (vs : List Int) : Bool := vs.all (fun v => v == 0)
theorem zeros_snoc (vs : List Int) (v : Int) : zerosB (vs ++ [v]) = (zerosB vs && (v == 0)) := by unfold zerosB; simp
theorem sign_zeros : ∀ {vs : List Int}, zerosB vs = true → signL vs = 1
  | [], _ => rfl
  | v :: vs, h => by
    unfold zerosB at h
    rw [List.all_cons, Bool.and_eq_true, beq_iff_eq] at h
    unfold signL
    rw [if_pos h.1]
    exact sign_zeros h.2
theorem sign_snoc : ∀ (vs : List Int) (v : Int), signL (vs ++ [v]) = if zerosB vs then (if v < 0 then -1 else 1) else signL vs
  | [], v => by
    show (if v = 0 then 1 else if v < 0 then -1 else 1) = if v < 0 then -1 else 1
    by_cases h : v = 0
    · rw [if_pos h, h]; rfl
    · rw [if_neg h]
  | w :: vs, v => by
    show (if w = 0 then signL (vs ++ [v]) else if w < 0 then -1 else 1) = if ((w == 0) && zerosB vs) then _ else (if w = 0 then signL vs else if w < 0 then -1 else 1)
    by_cases h : w = 0
    · rw [if_pos h, if_pos h, sign_snoc vs v, h]
      rfl
    · rw [if_neg h, if_neg h, beq_eq_false_iff_ne.2 h]
      rfl

set_option maxRecDepth 100000 in
set_option maxHeartbeats 1000000 in
theorem l4Value6_any (vf vv : Value) (xs vs : List Int) (w : World) (hx : Rd w vf xs) (hv : Rd w vv vs) (hf : fvB xs = true) (hb : Vec6 vs) (hl : vs.length = xs.length) :
    Calls Try.prog 55 #[vf, vv] w fun e w' => e = .returned (.int .i64 (valI xs vs xs.length)) ∧ ∃ k, w' = w.drewN k := by
  obtain ⟨a, cap, rfl, hform⟩ := hx.form
  obtain ⟨a', cap', rfl, hform'⟩ := hv.form
  have HFM := hid hform
  have HFV := hid hform'
  have HF := hid hf
  have HVB := hid hb
  have HL := hid hl
  have hl4 := (fvB_iff.1 hf).2.2
  clear hform hform' hx hv hf hb hl
  go_enter Try.func55, Try.ntmps55
  go_wp2_with fail
  go_loopw [5, 6] (fun so si wr => ∃ K k : Nat, si = .int .i64 K ∧ K ≤ xs.length ∧ so = .int .i64 (valI xs vs K) ∧ wr = w.drewN k) (fun _ si _ => xs.length - (intOf si).toNat)
  case atStart => exact ⟨0, 0, rfl, by omega, rfl, rfl⟩
  case round =>
    obtain ⟨K, k, rfl, hK, rfl, rfl⟩ := hrel
    by_cases hlt : K < xs.length
    · obtain ⟨b, o, rfl, hml, hc⟩ := HFM.out (by omega)
      obtain ⟨b', o', rfl, hml', hc'⟩ := HFV.out (by have := HL.out; omega)
      have hcell := hc K hlt
      have hcell' := hc' K (by have := HL.out; omega)
      have ht := fv_at HF.out hlt
      have hv1 := HVB.out (vs.getD K 0) (by rw [getD_at _ _ (by have := HL.out; omega)]; exact List.getElem_mem _)
      have hbd := term_bd7 ht.2.1 ht.2.2 hv1.1 hv1.2 hv1.1 hv1.2
      have hvb := valI_bd6 HF.out HVB.out HL.out K (by omega)
      have hst : valI xs vs (K + 1) = valI xs vs K + xs.getD K 0 * vs.getD K 0 * vs.getD K 0 := rfl
      obtain ⟨x, hx⟩ : ∃ x, x = xs.getD K 0 := ⟨_, rfl⟩
      obtain ⟨y, hy⟩ : ∃ y, y = vs.getD K 0 := ⟨_, rfl⟩
      obtain ⟨s, hs⟩ : ∃ s, s = valI xs vs K := ⟨_, rfl⟩
      rw [← hx] at hcell hst hbd
      rw [← hy] at hcell' hst hbd
      rw [← hs] at hst hvb ⊢
      have hKi : (K : Int) < (xs.length : Int) := by omega
      have hKj : (K : Int) < (vs.length : Int) := by have := HL.out; omega
      have HLT := hid hlt
      have HST := hid hst
      have b1 := hbd.1
      have b2 := hbd.2.1
      have b3 := hbd.2.2.1
      have b4 := hbd.2.2.2
      have s1 := hvb.1
      have s2 := hvb.2
      clear hx hy hs hc hc' hml hml' hlt hbd hvb hst ht hv1
      go_wp2_with fail
      go_quiet (fail)
      go_wp2_with fail
      go_roundw
      case measure => simp only [intOf]; have := HLT.out; omega
      case rel => exact ⟨K + 1, _, by go_num, by have := HLT.out; omega, vI HST.out.symm, by first | rfl | exact World.drewN_drewN ..⟩
    · obtain rfl : K = xs.length := by omega
      clear hlt
      go_wp2_with fail
      go_ret
      exact ⟨rfl, k, rfl⟩


theorem rd_max {w : World} {v : Value} {xs : List Int} (h : Rd w v xs) : xs.length ≤ 9223372036854775807 := by
  rcases Nat.eq_zero_or_pos xs.length with e | e
  · omega
  · obtain ⟨_, _, _, hform⟩ := h.form
    obtain ⟨_, _, _, hm, _⟩ := hform e
    unfold maxLen at hm
    omega

set_option maxRecDepth 100000 in
set_option maxHeartbeats 1000000 in
theorem l5Some_any (v : Value) (xs : List Int) (w : World) (h : Rd w v xs) (hl : xs.length ≤ 4) : Calls Try.prog 76 #[v] w fun e w' => e = .returned (.bool (someB xs)) ∧ w = w' := by
  obtain ⟨a, cap, rfl, hform⟩ := h.form
  have HFM := hid hform
  clear hform h
  go_enter Try.func76, Try.ntmps76
  go_wp2_with fail
  go_loop [3] (fun si => ∃ K : Nat, si = .int .i64 K ∧ K ≤ xs.length ∧ Hid (∀ i, i < K → xs.getD i 0 = 0)) (fun si => xs.length - (intOf si).toNat)
  case atStart => exact ⟨0, rfl, by omega, hid (fun i hi => by omega)⟩
  case round =>
    obtain ⟨K, rfl, hK, HE⟩ := hrel
    by_cases hlt : K < xs.length
    · obtain ⟨b, o, rfl, hml, hc⟩ := HFM.out (by omega)
      have hcell := hc K hlt
      obtain ⟨x, hx⟩ : ∃ x, x = xs.getD K 0 := ⟨_, rfl⟩
      rw [← hx] at hcell
      have HX := hid hx
      have HLT := hid hlt
      have hKi : (K : Int) < (xs.length : Int) := by omega
      by_cases x0 : x = 0
      · have T : (x != 0) = false := by rw [bne_eq_false_iff_eq]; exact x0
        have HX0 := hid x0
        clear x0 hx hc hml hlt
        go_wp2_with fail
        go_round
        case measure => simp only [intOf]; have := HLT.out; omega
        case rel => exact ⟨K + 1, by go_num, by have := HLT.out; omega, hid (fun i hi => by
          by_cases e : i = K
          · rw [e, ← HX.out]; exact HX0.out
          · exact HE.out i (by omega))⟩
      · have T : (x != 0) = true := by rw [bne_iff_ne]; exact x0
        have HR : Hid (someB xs = true) := hid (someB_iff.2 ⟨x, by rw [hx, getD_at _ _ hlt]; exact List.getElem_mem _, x0⟩)
        clear x0 hx hc hml hlt
        go_wp2_with fail
        go_ret
        exact ⟨retB HR.out.symm, rfl⟩
    · obtain rfl : K = xs.length := by omega
      have HR : Hid (someB xs = false) := hid (by
        cases hs : someB xs with
        | false => rfl
        | true =>
          obtain ⟨x, hx, h0⟩ := someB_iff.1 hs
          obtain ⟨i, hi, rfl⟩ := List.getElem_of_mem hx
          have := HE.out i hi
          rw [getD_at _ _ hi] at this
          exact absurd this h0)
      clear hlt
      go_wp2_with fail
      go_ret
      exact ⟨retB HR.out.symm, rfl⟩

theorem vec6_vecB {xs vs : List Int} {m : Int} (h : vecB xs vs m = true) (hm : m ≤ 1000000) : Vec6 vs := fun v hv => by
  have := (vecB_iff.1 h).1 v hv
  omega


theorem map_snoc {f : Int → Int} {xs : List Int} {K : Nat} (h : K < xs.length) : (xs.take (K + 1)).map f = (xs.take K).map f ++ [f (xs.getD K 0)] := by
  rw [takeD_snoc h, List.map_append]; rfl
theorem plain_bd1 {s x : Int} {g : Nat} (hs : s = 1 ∨ s = -1) (hx1 : -1000000 ≤ x) (hx2 : x ≤ 1000000) : -1000000 ≤ (s * x).tdiv (g : Int) ∧ (s * x).tdiv (g : Int) ≤ 1000000 := by
  have h1 : ((s * x).tdiv (g : Int)).natAbs ≤ 1000000 := by
    rw [Int.natAbs_tdiv]
    refine Nat.le_trans (Nat.div_le_self _ _) ?_
    rcases hs with rfl | rfl <;> omega
  omega
theorem plain_bdW {s x : Int} {g : Nat} (hs : s = 1 ∨ s = -1) (hx1 : -100000000000 ≤ x) (hx2 : x ≤ 100000000000) : -100000000000 ≤ (s * x).tdiv (g : Int) ∧ (s * x).tdiv (g : Int) ≤ 100000000000 := by
  have h1 : ((s * x).tdiv (g : Int)).natAbs ≤ 100000000000 := by
    rw [Int.natAbs_tdiv]
    refine Nat.le_trans (Nat.div_le_self _ _) ?_
    rcases hs with rfl | rfl <;> omega
  omega
set_option maxRecDepth 100000 in
set_option maxHeartbeats 4000000 in
theorem l5PlainW_any (v : Value) (xs : List Int) (w : World) (h : Rd w v xs) (hl : xs.length ≤ 4) (h6 : Vec11 xs) (hs : ∃ x ∈ xs, x ≠ 0) : Calls Try.prog 77 #[v] w fun e w' => ∃ u, e = .returned u ∧ Owns w' w.heap.size u (plainL xs) ∧ Below w.heap.size w w' := by
  obtain ⟨i0, hi, hz0, hz1, hz2⟩ := info_parts infoInt
  have HB0 := hid ((Below.refl w.heap.size w).alloc (Nat.le_refl _) (.cells #[] 3))
  have HO0 : Hid (Owns (w.alloc (.cells #[] 3)) w.heap.size (.slice (some ⟨w.heap.size, 0, none⟩) 0 0) []) := hid (World.ownsRow_made (size := 1) w #[] 0 (Nat.le_refl _) (by unfold maxLen; omega) rfl)
  have HH := hid h
  obtain ⟨ad, cap, rfl, hform⟩ := h.form
  have HFM := hid hform
  have H6 := hid h6
  have HSM := hid hs
  have htk : ∀ K, K ≤ xs.length → gcdL (xs.take K) ≤ 100000000000 := fun K _ => gcdL_leM fun x hx => by
    have := h6 x (List.mem_of_mem_take hx)
    omega
  have HTK := hid htk
  clear h h6 hs htk hform
  go_enter Try.func77, Try.ntmps77
  go_wp2_with fail
  go_loop [3, 4, 5, 6] (fun sg ss sf si => ∃ (K g : Nat) (s : Int) (z : Bool), si = .int .i64 K ∧ K ≤ xs.length ∧ sg = .int .i64 g ∧ g ≤ 100000000000 ∧ ss = .int .i64 s ∧ sf = .bool z ∧ Hid (g = gcdL (xs.take K)) ∧ Hid (s = signL (xs.take K)) ∧ Hid (z = zerosB (xs.take K))) (fun _ _ _ si => xs.length - (intOf si).toNat)
  case atStart => exact ⟨0, 0, 1, true, rfl, by omega, rfl, by omega, rfl, rfl, hid rfl, hid rfl, hid rfl⟩
  case round =>
    obtain ⟨K, g, s, z, rfl, hK, rfl, hg, rfl, rfl, HG, HS, HZ⟩ := hrel
    by_cases hlt : K < xs.length
    · obtain ⟨b, o, rfl, hml, hc⟩ := HFM.out (by omega)
      have hcell := hc K hlt
      have hx6 := H6.out (xs.getD K 0) (by rw [getD_at _ _ hlt]; exact List.getElem_mem _)
      have hg2 := HTK.out (K + 1) hlt
      obtain ⟨x, hx⟩ : ∃ x, x = xs.getD K 0 := ⟨_, rfl⟩
      have hG : gcdL (xs.take (K + 1)) = Nat.gcd g x.natAbs := by rw [takeD_snoc hlt, gcdL_snoc, ← HG.out, ← hx]
      have hS : signL (xs.take (K + 1)) = if z then (if x < 0 then -1 else 1) else s := by rw [takeD_snoc hlt, sign_snoc, ← HZ.out, ← HS.out, ← hx]
      have hZ : zerosB (xs.take (K + 1)) = (z && (x == 0)) := by rw [takeD_snoc hlt, zeros_snoc, ← HZ.out, ← hx]
      have hS1 : z = true → s = 1 := fun e => by rw [HS.out]; exact sign_zeros (by rw [← HZ.out]; exact e)
      rw [← hx] at hcell hx6
      have x1 := hx6.1
      have x2 := hx6.2
      rw [hG] at hg2
      have HGN := hid hG
      have HLT := hid hlt
      have hKi : (K : Int) < (xs.length : Int) := by omega
      have eg : ((g : Int).natAbs) = g := Int.natAbs_natCast g
      clear hx hc hml hlt hx6 hG
      have close : ∀ (s' : Int) (z' : Bool), s' = signL (xs.take (K + 1)) → z' = zerosB (xs.take (K + 1)) → ∃ (K2 g2 : Nat) (s2 : Int) (z2 : Bool), Value.int IntKind.i64 ((K : Int) + 1) = .int .i64 K2 ∧ K2 ≤ xs.length ∧ Value.int IntKind.i64 ((Nat.gcd g x.natAbs : Nat) : Int) = .int .i64 g2 ∧ g2 ≤ 100000000000 ∧ Value.int IntKind.i64 s' = .int .i64 s2 ∧ Value.bool z' = .bool z2 ∧ Hid (g2 = gcdL (xs.take K2)) ∧ Hid (s2 = signL (xs.take K2)) ∧ Hid (z2 = zerosB (xs.take K2)) := fun s' z' e1 e2 =>
        ⟨K + 1, _, s', z', by go_num, by have := HLT.out; omega, rfl, hg2, rfl, rfl, hid HGN.out.symm, hid e1, hid e2⟩
      have HCL := hid close
      clear close
      by_cases x0 : x = 0
      · have T : (x != 0) = false := by rw [bne_eq_false_iff_eq]; exact x0
        rw [beq_iff_eq.2 x0, Bool.and_true] at hZ
        have h1 : signL (xs.take (K + 1)) = s := by
          rw [hS, if_neg (show ¬ x < 0 by omega)]
          cases hz : z with
          | true => rw [if_pos rfl]; exact (hS1 hz).symm
          | false => rfl
        have E1 := hid h1
        have E2 := hid hZ
        clear x0 hS hZ hS1 h1
        go_wp2_with (go_at_call 83; refine (l1Gcd_any _ _ (by omega) (by omega) (by omega) (by omega) _).mono ?_; rw [eg]; rintro e w' ⟨rfl, rfl⟩)
        go_round
        case measure => simp only [intOf]; have := HLT.out; omega
        case rel => exact HCL.out s z E1.out.symm E2.out.symm
      · have T : (x != 0) = true := by rw [bne_iff_ne]; exact x0
        rw [beq_eq_false_iff_ne.2 x0, Bool.and_false] at hZ
        have E2 := hid hZ
        cases z with
        | false =>
          have E1 : Hid (signL (xs.take (K + 1)) = s) := hid (by rw [hS]; rfl)
          clear x0 hS hZ hS1
          go_wp2_with (go_at_call 83; refine (l1Gcd_any _ _ (by omega) (by omega) (by omega) (by omega) _).mono ?_; rw [eg]; rintro e w' ⟨rfl, rfl⟩)
          go_round
          case measure => simp only [intOf]; have := HLT.out; omega
          case rel => exact HCL.out s false E1.out.symm E2.out.symm
        | true =>
          rw [if_pos rfl] at hS
          by_cases xn : x < 0
          · rw [if_pos xn] at hS
            have E1 := hid hS
            clear x0 hS hZ hS1
            go_wp2_with (go_at_call 83; refine (l1Gcd_any _ _ (by omega) (by omega) (by omega) (by omega) _).mono ?_; rw [eg]; rintro e w' ⟨rfl, rfl⟩)
            go_round
            case measure => simp only [intOf]; have := HLT.out; omega
            case rel => exact HCL.out (-1) false E1.out.symm E2.out.symm
          · rw [if_neg xn] at hS
            have E1 : Hid (signL (xs.take (K + 1)) = s) := hid (by rw [hS]; exact (hS1 rfl).symm)
            clear x0 hS hZ hS1
            go_wp2_with (go_at_call 83; refine (l1Gcd_any _ _ (by omega) (by omega) (by omega) (by omega) _).mono ?_; rw [eg]; rintro e w' ⟨rfl, rfl⟩)
            go_round
            case measure => simp only [intOf]; have := HLT.out; omega
            case rel => exact HCL.out s false E1.out.symm E2.out.symm
    · obtain rfl : K = xs.length := by omega
      have hsg := signL_pm xs
      have hgp := gcdL_pos HSM.out
      have eG : g = gcdL xs := by rw [HG.out, List.take_length]
      have eS : s = signL xs := by rw [HS.out, List.take_length]
      rw [← eG] at hgp
      rw [← eS] at hsg
      have HPL : Hid (plainL xs = xs.map (fun x => (s * x).tdiv (g : Int))) := hid (by unfold plainL; rw [← eS, ← eG])
      have HSG := hid hsg
      have Tg : ((g : Int) == 0) = false := by rw [beq_eq_false_iff_ne]; omega
      clear hlt hsg eG eS HG HS HZ
      go_wp2_with fail
      go_loopw [7, 8] (fun so si wr => ∃ K : Nat, si = .int .i64 K ∧ K ≤ xs.length ∧ Hid (Owns wr w.heap.size so ((xs.take K).map (fun x => (s * x).tdiv (g : Int)))) ∧ Hid (Below w.heap.size w wr)) (fun _ si _ => xs.length - (intOf si).toNat)
      case atStart => exact ⟨0, rfl, by omega, hid (by simpa using HO0.out), HB0⟩
      case round =>
        obtain ⟨K, rfl, hK, HO, HB⟩ := hrel
        rename World => wr
        by_cases hlt : K < xs.length
        · obtain ⟨a2, cap2, e2, hform⟩ := (HH.out.keep HB.out).form
          cases e2
          obtain ⟨bb, o, rfl, hml, hc⟩ := hform (by omega)
          have hcell := hc K hlt
          have hx6 := H6.out (xs.getD K 0) (by rw [getD_at _ _ hlt]; exact List.getElem_mem _)
          have HSN : Hid ((xs.take (K + 1)).map (fun x => (s * x).tdiv (g : Int)) = (xs.take K).map (fun x => (s * x).tdiv (g : Int)) ++ [(s * xs.getD K 0).tdiv (g : Int)]) := hid (map_snoc hlt)
          obtain ⟨x, hx⟩ : ∃ x, x = xs.getD K 0 := ⟨_, rfl⟩
          rw [← hx] at hcell hx6 HSN
          have hbd := plain_bdW (g := g) HSG.out hx6.1 hx6.2
          have q1 := hbd.1
          have q2 := hbd.2
          have sx1 : -100000000000 ≤ s * x := by rcases HSG.out with e | e <;> rw [e] <;> omega
          have sx2 : s * x ≤ 100000000000 := by rcases HSG.out with e | e <;> rw [e] <;> omega
          obtain ⟨pre, hpre⟩ : ∃ pre, pre = (xs.take K).map (fun x => (s * x).tdiv (g : Int)) := ⟨_, rfl⟩
          have hprel : pre.length ≤ 4 := by rw [hpre, List.length_map, List.length_take]; omega
          rw [← hpre] at HO HSN
          have hi0 : (K : Int) < (xs.length : Int) := by omega
          have HLT := hid hlt
          have hbs : w.heap.size ≤ wr.heap.size := HB.out.size
          unfold maxLen at hml
          clear hform hc hx hlt hpre hbd hx6
          go_wp2_with (at_builtin; refine wpList_append_own_at _ rfl _ _ 22 rfl w.heap.size 3 i0 (.int .i64 0) 1 8 Try.underlying22 hi hz0 hz1 hz2 rfl (by decide) _ _ _ rfl ((show World.ownsRow _ _ _ _ _ _ _ from HO.out).alloc _) ⟨wr.heap.size, 0, none⟩ 1 1 [.int .i64 ((s * x).tdiv (g : Int))] rfl rfl (cell_one_new _ _ _) (by simp [Value.oneCell']) (by unfold maxLen; omega) (by omega) (by simp; omega) ?_; intro v' w3 hown' hgrow _ hat)
          have hsg := hgrow.size
          simp only [World.size_alloc] at hsg
          go_roundw
          case measure => simp only [intOf]; have := HLT.out; omega
          case rel =>
            refine ⟨K + 1, by go_num, by have := HLT.out; omega, hid ?_, hid (HB.out.alloc hbs _ |>.grown hgrow (by simp; omega) (fun k e => (HO.out.ge k e)))⟩
            rw [HSN.out]
            unfold Owns
            simpa using hown'
        · obtain rfl : K = xs.length := by omega
          have HE : Hid (plainL xs = (xs.take xs.length).map (fun x => (s * x).tdiv (g : Int))) := hid (by rw [List.take_length]; exact HPL.out)
          clear hlt
          go_wp2_with fail
          go_ret
          exact ⟨_, rfl, by rw [HE.out]; exact HO.out, HB.out⟩
theorem l5Plain_any (v : Value) (xs : List Int) (w : World) (h : Rd w v xs) (hl : xs.length ≤ 4) (h6 : Vec6 xs) (hs : ∃ x ∈ xs, x ≠ 0) : Calls Try.prog 77 #[v] w fun e w' => ∃ u, e = .returned u ∧ Owns w' w.heap.size u (plainL xs) ∧ Below w.heap.size w w' := l5PlainW_any v xs w h hl (vec11 h6) hs




end Go.Proofs.Ytjabklpnohfjpab
