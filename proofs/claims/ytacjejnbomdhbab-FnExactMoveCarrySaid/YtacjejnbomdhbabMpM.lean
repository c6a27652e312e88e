/-
  Contracts of the program's chapter 7: is a table square and in lowest terms; images and axes.
-/
import Derived.Test.YtacjejnbomdhbabMpL
set_option linter.unusedVariables false
namespace Go.Proofs.Ytacjejnbomdhbab
open Go.RowKit

def rowB9 (n : Nat) (r : List Int) : Bool := inAll r 1000000 && decide ((r.length : Int) = (n : Int))
def squareB (n : Nat) (R : List (List Int)) (d : Int) : Bool := R.all (rowB9 n) && (decide ((R.length : Int) = (n : Int)) && (decide (1 ≤ d) && decide (d ≤ 10000)))

set_option maxRecDepth 100000 in
set_option maxHeartbeats 2000000 in
theorem square_any (bm n : Nat) (va : Value) (R : List (List Int)) (d : Int) (w : World) (hm : MvAt w bm va d) (hR : RdM w va R) : Calls Try.prog 84 #[.pointer (some ⟨bm, 0, none⟩), .int .i64 (n : Int)] w fun e w' => e = .returned (.bool (squareB n R d)) ∧ w = w' := by
  have HM := hid hR
  obtain ⟨a, cap, rfl⟩ := hR.form
  have c0 := cellB (i := 0) hm
  have c1 := cellB (i := 1) hm
  have hlen : R.length ≤ maxLen := by
    rcases Nat.eq_zero_or_pos R.length with e | e
    · rw [e]; exact Nat.zero_le _
    · obtain ⟨_, _, _, _, _, h, _⟩ := hR
      obtain ⟨_, _, _, h, _⟩ := h e
      exact h
  unfold maxLen at hlen
  clear hm hR
  go_enter Try.func84, Try.ntmps84
  go_wp2_with fail
  go_loop [12] (fun si => ∃ K : Nat, si = .int .i64 K ∧ K ≤ R.length ∧ Hid (∀ k, k < K → rowB9 n (R.getD k []) = true)) (fun si => R.length - (intOf si).toNat)
  case atStart => exact ⟨0, rfl, by omega, hid (fun k hk => by omega)⟩
  case round =>
    obtain ⟨K, rfl, hK, HE⟩ := hrel
    by_cases hlt : K < R.length
    · obtain ⟨b, o, u, rfl, hc, hr⟩ := HM.out.row hlt
      have HNO : Hid (rowB9 n (R.getD K []) = false → squareB n R d = false) := hid (fun e => by
        unfold squareB
        rw [show R.all (rowB9 n) = false from by
          rw [List.all_eq_false]
          exact ⟨R.getD K [], by rw [List.getD_eq_getElem?_getD, List.getElem?_eq_getElem hlt]; exact List.getElem_mem _, by rw [e]; decide⟩]
        rfl)
      obtain ⟨xs, hxs⟩ : ∃ xs, xs = R.getD K [] := ⟨_, rfl⟩
      have HXS := hid hxs
      rw [← hxs] at hr HNO
      have HRX := hid hr
      obtain ⟨ar, cr, rfl, _⟩ := hr.form
      have hKi : (K : Int) < (R.length : Int) := by omega
      have HLT := hid hlt
      clear hr hxs hlt
      cases hb : rowB9 n xs with
      | false =>
        have HR := hid (HNO.out hb)
        have HB : Hid ((inAll xs 1000000 && decide ((xs.length : Int) = (n : Int))) = false) := hid hb
        clear hb
        go_wp2_with (go_at_call 57; refine (vectorWithin_any _ xs _ _ (by omega) (by omega) _ HRX.out).mono ?_; rw [HB.out]; rintro e w' ⟨rfl, rfl⟩)
        go_ret
        exact ⟨retB HR.out.symm, rfl⟩
      | true =>
        have HB : Hid ((inAll xs 1000000 && decide ((xs.length : Int) = (n : Int))) = true) := hid hb
        have HB2 := hid hb
        clear hb
        go_wp2_with (go_at_call 57; refine (vectorWithin_any _ xs _ _ (by omega) (by omega) _ HRX.out).mono ?_; rw [HB.out]; rintro e w' ⟨rfl, rfl⟩)
        go_round
        case measure => simp only [intOf]; have := HLT.out; omega
        case rel => exact ⟨K + 1, by go_num, HLT.out, hid (fun k hk => by
          by_cases e : k = K
          · rw [e, ← HXS.out]; exact HB2.out
          · exact HE.out k (by omega))⟩
    · obtain rfl : K = R.length := by omega
      have HA : Hid (squareB n R d = (decide ((R.length : Int) = (n : Int)) && (decide (1 ≤ d) && decide (d ≤ 10000)))) := hid (by
        unfold squareB
        rw [show R.all (rowB9 n) = true from List.all_eq_true.2 fun r hr => by
          obtain ⟨i, hi, rfl⟩ := List.getElem_of_mem hr
          have := HE.out i hi
          rwa [List.getD_eq_getElem?_getD, List.getElem?_eq_getElem hi] at this, Bool.true_and])
      clear hlt
      by_cases h1 : (R.length : Int) = (n : Int)
      · have T : ((R.length : Int) == (n : Int)) = true := by rw [beq_iff_eq]; exact h1
        have D1 := hid (decide_eq_true h1)
        clear h1
        by_cases h2 : 1 ≤ d
        · by_cases h3 : d ≤ 10000
          · have HF : Hid (squareB n R d = true) := hid (by rw [HA.out, D1.out, decide_eq_true h2, decide_eq_true h3]; rfl)
            go_wp2_with fail
            go_ret
            exact ⟨retB HF.out.symm, rfl⟩
          · have HF : Hid (squareB n R d = false) := hid (by rw [HA.out, D1.out, decide_eq_true h2, decide_eq_false h3]; rfl)
            go_wp2_with fail
            go_ret
            exact ⟨retB (by rw [HF.out]), rfl⟩
        · have HF : Hid (squareB n R d = false) := hid (by rw [HA.out, D1.out, decide_eq_false h2]; rfl)
          go_wp2_with fail
          go_ret
          exact ⟨retB (by rw [HF.out]), rfl⟩
      · have T : ((R.length : Int) == (n : Int)) = false := beq_eq_false_iff_ne.2 h1
        have HF : Hid (squareB n R d = false) := hid (by rw [HA.out, decide_eq_false h1]; rfl)
        clear h1
        go_wp2_with fail
        go_ret
        exact ⟨retB HF.out.symm, rfl⟩

set_option maxRecDepth 100000 in
set_option maxHeartbeats 2000000 in
theorem lowest_any (bm n : Nat) (va : Value) (R : List (List Int)) (d : Int) (w : World) (hm : MvAt w bm va d) (hR : RdM w va R) (hs : Sq n R) (hn1 : 1 ≤ n) (hn3 : n ≤ 3) (hb : ∀ r ∈ R, ∀ x ∈ r, -1000000 ≤ x ∧ x ≤ 1000000) (d1 : 1 ≤ d) (d2 : d ≤ 10000) :
    Calls Try.prog 85 #[.pointer (some ⟨bm, 0, none⟩)] w fun e w' => e = .returned (.bool (decide (gcdL (d :: R.flatten) = 1))) ∧ Below w.heap.size w w' := by
  have HC := hid (fun w h => concatM_any va R n w h hs hn1 hn3)
  have HM := hid hR
  obtain ⟨a, cap, rfl⟩ := hR.form
  have c0 := cellB (i := 0) hm
  have c1 := cellB (i := 1) hm
  have hfl := flat_len (n := n) R hs.2
  have hfl9 : R.flatten.length ≤ 9 := by rw [hfl, hs.1]; exact Nat.mul_le_mul hn3 hn3
  obtain ⟨F, hF⟩ : ∃ F, F = R.flatten := ⟨_, rfl⟩
  have HBD : Hid (∀ x ∈ F, -1000000 ≤ x ∧ x ≤ 1000000) := hid (fun x hx => by
    rw [hF] at hx
    obtain ⟨r, hr, hx⟩ := List.mem_flatten.1 hx
    exact hb r hr x hx)
  rw [← hF] at HC hfl9 ⊢
  clear hm hR hs hb hfl hF
  go_enter Try.func85, Try.ntmps85
  go_wp2_with fail
  refine (HC.out _ HM.out).mono ?_
  rintro e w2 ⟨u, rfl, ho, hb2⟩
  have HRF := hid ho.rd
  have HB2 := hid hb2
  obtain ⟨au, cu, rfl⟩ := ho.reads
  clear ho hb2
  go_wp2_with fail
  go_loopw [3, 16] (fun so si wr => ∃ (K g k : Nat), si = .int .i64 K ∧ K ≤ F.length ∧ so = .int .i64 (g : Int) ∧ g ≤ 10000 ∧ Hid (g = gcdL (d :: F.take K)) ∧ wr = w2.drewN k) (fun _ si _ => F.length - (intOf si).toNat)
  case atStart => exact ⟨0, d.natAbs, 0, rfl, by omega, vI (by omega), by omega, hid (gcd_single d).symm, rfl⟩
  case round =>
    obtain ⟨K, g, k, rfl, hK, rfl, hg, HG, rfl⟩ := hrel
    by_cases hlt : K < F.length
    · obtain ⟨b, o, c, e, hc⟩ := rd_cells (HRF.out.keep (below_drewN (Below.refl _ w2) k)) (by omega)
      cases e
      have c2 := hc K hlt
      have hx := HBD.out (F.getD K 0) (by rw [getD_at _ _ hlt]; exact List.getElem_mem _)
      have HGN : Hid (gcdL (d :: F.take (K + 1)) = Nat.gcd g (F.getD K 0).natAbs) := hid (by rw [takeD_snoc hlt, gcd_snoc2, ← HG.out])
      obtain ⟨x, hxe⟩ : ∃ x, x = F.getD K 0 := ⟨_, rfl⟩
      rw [← hxe] at c2 hx HGN
      have hgl : Nat.gcd g x.natAbs ≤ 10000 := by
        rcases Nat.eq_zero_or_pos g with e | e
        · have : gcdL (d :: F.take K) ≠ 0 := by
            have := gcdL_pos (vs := d :: F.take K) ⟨d, List.mem_cons_self .., by omega⟩
            omega
          exact absurd (HG.out.symm.trans e) this
        · exact Nat.le_trans (Nat.gcd_le_left _ e) hg
      have x1 := hx.1
      have x2 := hx.2
      have hKi : (K : Int) < (F.length : Int) := by omega
      have HLT := hid hlt
      have eg : ((g : Int).natAbs) = g := Int.natAbs_natCast g
      clear hc hxe hx hlt
      go_wp2_with (go_at_call 94; refine (commonG_any _ _ (by omega) (by omega) (by omega) (by omega) _).mono ?_; rw [eg]; rintro e w' ⟨rfl, k2, rfl⟩)
      go_roundw
      case measure => simp only [intOf]; have := HLT.out; omega
      case rel => exact ⟨K + 1, _, _, by go_num, HLT.out, rfl, hgl, hid HGN.out.symm, by first | rfl | exact World.drewN_drewN ..⟩
    · obtain rfl : K = F.length := by omega
      have HE : Hid (g = gcdL (d :: F)) := hid (by rw [HG.out, List.take_length])
      clear hlt
      by_cases h1 : g = 1
      · have T : ((g : Int) == 1) = true := by rw [beq_iff_eq]; omega
        have HD : Hid (decide (gcdL (d :: F) = 1) = true) := hid (decide_eq_true (by rw [← HE.out]; exact h1))
        clear h1
        go_wp2_with fail
        go_ret
        exact ⟨retB HD.out.symm, below_drewN HB2.out _⟩
      · have T : ((g : Int) == 1) = false := beq_eq_false_iff_ne.2 (by omega)
        have HD : Hid (decide (gcdL (d :: F) = 1) = false) := hid (decide_eq_false (by rw [← HE.out]; exact h1))
        clear h1
        go_wp2_with fail
        go_ret
        exact ⟨retB HD.out.symm, below_drewN HB2.out _⟩

end Go.Proofs.Ytacjejnbomdhbab
