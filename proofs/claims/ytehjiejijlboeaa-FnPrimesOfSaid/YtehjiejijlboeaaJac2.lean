/-
  Contract: the program's JacobiOf: a loop over the prime powers whose body calls.
-/
import Derived.Test.YtehjiejijlboeaaJac
set_option linter.unusedVariables false
namespace Go.Proofs.Ytehjiejijlboeaa
open Go.RowKit Go.Shelf
attribute [local go_sem] Oper.semAt_some

theorem others_of_below {W W' : World} (h : Below W.heap.size W W') : KeepsOthers W W' := ⟨h.size, fun k o hk _ => by
  rw [h.block k (Array.getElem?_eq_some_iff.1 hk).1]; exact hk⟩
theorem below_of_drew {W W' : World} (h : Below W.drew.heap.size W.drew W') : Below W.heap.size W W' := ⟨h.os, h.tape, h.output, h.size, h.block⟩
theorem boxed_below {W W' : World} {B : Nat} {t : TypeId} {v : Value} (h : Boxed W B t v) (hb : Below W.heap.size W W') : Boxed W' B t v := (hb.block B h.lt).trans h

def jacP (n : Int) (l : List PP) : Int := jacW n (l.map (·.1))
theorem jacP_snoc (n : Int) (l : List PP) (x : PP) : jacP n (l ++ [x]) = jmW (jacP n l) (resV n (x.1.1 : Int)) x.1.2 := by
  unfold jacP; rw [List.map_append]; exact jacW_step n _ _

set_option maxRecDepth 100000 in
set_option maxHeartbeats 2000000 in
theorem jacobi_yes (n m : Int) (a1 : -5000 ≤ n) (a2 : n ≤ 5000) (c1 : 1 ≤ m) (c2 : m ≤ 5000) (A : okN n = true) (C : inR m 1 5000 = true) (ho : m % 2 = 1) (J : jacOk n m = true) (w : World) :
    Calls Try.prog 45 #[.int .i64 n, .int .i64 m] w fun e w' => e = .returned (.int .i64 (jacV n m)) ∧ Below w.heap.size w w' := by
  have P := hid (jacV_yes J)
  have T : (m % 2 == 0) = false := by rw [beq_eq_false_iff_ne]; omega
  have HJ : Hid (jacW n (ppow m.natAbs) = jacV n m) := by
    show _ = _
    rw [P.out, show m.natAbs = m.toNat by omega]
    exact jac_eq A (by omega) (by omega) (by omega)
  have hmx : (Try.prog).follows .mixedOrders = true := by kernel_rfl
  have hB0 : Below w.heap.size w (((w.alloc (.cells #[.int .i64 n] 3)).alloc (.cells #[.int .i64 1] 3)).alloc (.cells #[.int .i64 m] 44)) := (((Below.refl _ _).alloc (Nat.le_refl _) _).alloc (by simp) _).alloc (by simp; omega) _
  have bN := ((Boxed.new w 3 (.int .i64 n)).alloc (.cells #[.int .i64 1] 3)).alloc (.cells #[.int .i64 m] 44)
  have bP := (Boxed.new (w.alloc (.cells #[.int .i64 n] 3)) 3 (.int .i64 1)).alloc (.cells #[.int .i64 m] 44)
  have bM := Boxed.new ((w.alloc (.cells #[.int .i64 n] 3)).alloc (.cells #[.int .i64 1] 3)) 44 (.int .i64 m)
  simp only [World.size_alloc] at bP bM
  clear ho J
  refine (callsIn_wide (n := 8)).1 ?_
  refine callsIn_of_wp_marks Try.func45 rfl trivial ?_ rfl
  simp only [Try.ntmps45, List.size_toArray, List.length_cons, List.length_nil, Nat.reduceAdd, Nat.reduceSub, Array.replicate_succ, Array.replicate_zero, List.push_toArray, List.append_toArray, List.nil_append, List.cons_append]
  gi_wp2_with (first | (refine ⟨trivial, ?_⟩; gi_at_call 56; refine (callsIn_wide.2 (valid_any _ _)).mono ?_; rintro e w' ⟨rfl, rfl⟩) | (refine ⟨trivial, ?_⟩; gi_at_call 57; refine (callsIn_wide.2 (modulusValid_any _ _)).mono ?_; rintro e w' ⟨rfl, rfl⟩) | (refine ⟨trivial, ?_⟩; gi_at_call 61; refine (callsIn_wide.2 (pp_make _ _)).mono ?_; rintro e w' ⟨rfl, rfl⟩))
  refine wpIn_rangeFunc_ownF rfl (by omega) (gf := 76) (lb := #[.pointer (some ⟨w.heap.size + 1 + 1, 0, none⟩)]) rfl trivial (enters_of Try.func76 (by kernel_rfl) rfl)
    (pp_stops _ (w.heap.size + 1 + 1) m (by omega) (by omega) (by omega) _ (by simp) bM.cell) walksK_t walksK_b (Below.refl _ _) (fun _ => rfl)
    (fun pre W => (Boxed W (w.heap.size + 1) 3 (.int .i64 (jacP n pre)) ∧ Boxed W w.heap.size 3 (.int .i64 n)) ∧ Below w.heap.size w W)
    (fun _ _ _ => False)
    (OwnFrom.and (OwnFrom.and (Own.from (boxed_own (w.heap.size + 1) 3 (fun pre => .int .i64 (jacP n pre))) _) (Own.from (boxed_own w.heap.size 3 (fun _ => .int .i64 n)) _)) (ownFrom_below (Nat.le_refl _) (by simp; omega)))
    (fun _ _ _ _ _ hs _ _ => hs)
    ⟨⟨bP, bN⟩, hB0⟩ ?a1 ?assign ?body ?done ?stop
  case assign =>
    intro l x W K hK
    gi_wp2
    exact hK
  case body =>
    rintro l pre x W ⟨⟨hv, hn⟩, hB⟩ hlt
    obtain ⟨⟨p, k⟩, hp, hk⟩ := x
    dsimp only at hp hk
    obtain ⟨z, hz⟩ : ∃ z, z = jacP n pre := ⟨_, rfl⟩
    rw [← hz] at hv
    have HZ := hid hz
    have HV := hid hv
    have HNB := hid hn
    obtain ⟨r, hr⟩ : ∃ r, r = resV n (p : Int) := ⟨_, rfl⟩
    have HR := hid hr
    clear hz hv hn hr
    gi_wp2
    gi_loopw [26] (fun si wr => ∃ j : Nat, si = .int .i64 j ∧ j ≤ k ∧ Boxed wr (w.heap.size + 1) 3 (.int .i64 (jmW z r j)) ∧ Boxed wr w.heap.size 3 (.int .i64 n) ∧ Hid (KeepsOthers W wr ∧ Below w.heap.size W wr)) (fun si _ => k - (intOf si).toNat)
    case atStart => exact ⟨0, rfl, by omega, HV.out, HNB.out, hid ⟨KeepsOthers.refl _, Below.refl _ _⟩⟩
    case round =>
      obtain ⟨j, rfl, hj, hbx, hbn, HK⟩ := hrel
      have hc := hbx.cell
      have hcn := hbn.cell
      have HB := hid hbx
      have HN2 := hid hbn
      clear hbx hbn
      by_cases hlt2 : j < k
      · gi_wp2
        gi_region_with_o (refine ⟨trivial, ?_⟩; gi_at_call 42; refine (CallsIn.inRound l (callsIn_wide.2 (residueIs_any _ _ _))).mono ?_; rw [← HR.out]; rintro e w2 ⟨rfl, hb2⟩; have hB2 := hid (below_of_drew hb2); have hX2 := hid (boxed_below HB.out hB2.out); have hY2 := hid (boxed_below HN2.out hB2.out); have hc2 := hX2.out.cell; have hf2 := hX2.out.frozen; have hcn2 := hY2.out.cell; clear hb2)
        all_goals
          gi_wp2
          try go_bits
          go_roundw
          case rel => exact ⟨j + 1, by go_num, by omega, hX2.out.set _, hY2.out.other (by omega) _, hid ⟨HK.out.1.trans ((others_of_below hB2.out).trans (KeepsOthers.setCell _ _ _)), HK.out.2.trans ((hB2.out.mono (by have := hB.size; have := HK.out.2.size; omega)).setCell (p := ⟨w.heap.size + 1, 0, none⟩) (by show w.heap.size ≤ w.heap.size + 1; omega) _)⟩⟩
          case measure => simp only [intOf]; omega
      · obtain rfl : j = k := by omega
        gi_wp2
        refine ⟨HK.out.1, HK.out.1.walks, ⟨?_, HN2.out⟩, hB.trans HK.out.2⟩
        rw [jacP_snoc, ← HZ.out, ← HR.out]
        exact HB.out
  case done =>
    rintro D ys W hD hS ⟨⟨hv, _⟩, hB⟩ hK
    have hR : jacP n ys = jacV n m := by unfold jacP; rw [hS]; exact HJ.out
    rw [hR] at hv
    have hc := hv.cell
    clear hR
    gi_wp2
    refine ⟨by simp, .inl ⟨_, _, rfl, run_takeDeferred hK, ?_⟩⟩
    refine ⟨_, results_tmp rfl _ _ _, ?_⟩
    exact ⟨rfl, hB.trans (belowK_b (w := w) (Nat.le_refl _) W D _ _ (by simp at hD; omega) hK rfl rfl)⟩
  case stop =>
    rintro D c pre W _ _ h _
    exact h.elim

theorem jacobi_any (n m : Int) (w : World) : Calls Try.prog 45 #[.int .i64 n, .int .i64 m] w fun e w' => e = .returned (.int .i64 (jacV n m)) ∧ Below w.heap.size w w' := by
  rcases jac_cases n m with ⟨a1, a2, c1, c2, A, C, ho, J⟩ | ⟨A, J⟩ | ⟨A, C, J⟩ | ⟨c1, A, C, ho, J⟩
  · exact jacobi_yes n m a1 a2 c1 c2 A C ho J w
  · have P := hid (jacV_no J)
    have bN := (Boxed.new w 3 (.int .i64 n)).cell
    go_enter Try.func45, Try.ntmps45
    go_wp2_with (first | (go_at_call 56; refine (valid_any _ _).mono ?_; rintro e w' ⟨rfl, rfl⟩))
    go_ret
    exact ⟨retI P.out.symm, (Below.refl _ _).alloc (Nat.le_refl _) _⟩
  · have P := hid (jacV_no J)
    have bN := (Boxed.new w 3 (.int .i64 n)).cell
    go_enter Try.func45, Try.ntmps45
    go_wp2_with (first | (go_at_call 56; refine (valid_any _ _).mono ?_; rintro e w' ⟨rfl, rfl⟩) | (go_at_call 57; refine (modulusValid_any _ _).mono ?_; rintro e w' ⟨rfl, rfl⟩))
    go_ret
    exact ⟨retI P.out.symm, (Below.refl _ _).alloc (Nat.le_refl _) _⟩
  · have P := hid (jacV_no J)
    have bN := (Boxed.new w 3 (.int .i64 n)).cell
    have T : (m % 2 == 0) = true := by rw [beq_iff_eq]; exact ho
    clear ho
    go_enter Try.func45, Try.ntmps45
    go_wp2_with (first | (go_at_call 56; refine (valid_any _ _).mono ?_; rintro e w' ⟨rfl, rfl⟩) | (go_at_call 57; refine (modulusValid_any _ _).mono ?_; rintro e w' ⟨rfl, rfl⟩))
    go_ret
    exact ⟨retI P.out.symm, (Below.refl _ _).alloc (Nat.le_refl _) _⟩

end Go.Proofs.Ytehjiejijlboeaa
