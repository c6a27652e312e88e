/-
  Contract: the program's CoreOf.
-/
import Derived.Test.YtdidmblkknnglaaCore
import Derived.BigRegionIn
set_option linter.unusedVariables false
namespace Go.Proofs.Ytdidmblkknnglaa
open Go.RowKit Go.Shelf
attribute [local go_sem] Oper.semAt_some

def rootP (l : List PP) : Int := rootW (l.map (·.1))
theorem rootP_snoc (l : List PP) (x : PP) : rootP (l ++ [x]) = mulW (rootP l) x.1.1 (x.1.2 / 2) := by simp [rootP, rootW]

theorem tdiv_bd {n m : Int} (h1 : -5000 ≤ n) (h2 : n ≤ 5000) : -5000 ≤ n.tdiv m ∧ n.tdiv m ≤ 5000 := by
  have h := Nat.div_le_self n.natAbs m.natAbs
  rw [← tdiv_natAbs] at h
  omega

set_option maxRecDepth 100000 in
set_option maxHeartbeats 2000000 in
theorem coreOf_any (n : Int) (w : World) : Calls Try.prog 37 #[.int .i64 n] w fun e w' => e = .returned (coreV n) ∧ Below w.heap.size w w' := by
  cases hF : factB n with
  | false =>
    have P := hid (coreV_no hF)
    go_enter Try.func37, Try.ntmps37
    go_wp2_with (go_at_call 55; refine (factored_any _ _).mono ?_; rintro e w' ⟨rfl, rfl⟩)
    go_ret3
    exact ⟨retV P.out.symm, Below.refl _ _⟩
  | true =>
    rcases factB_cases n with ⟨a1, a2, h0, _, _⟩ | ⟨_, h⟩ | ⟨_, _, h⟩
    · have P := hid (coreV_yes hF)
      have HR := hid (rootW_eq (N := n.natAbs) (by omega) (by omega))
      have hB0 : Below w.heap.size w ((w.alloc (.cells #[.int .i64 1] 3)).alloc (.cells #[.int .i64 n] 53)) := ((Below.refl _ _).alloc (Nat.le_refl _) _).alloc (by simp) _
      have bO := (Boxed.new w 3 (.int .i64 1)).alloc (.cells #[.int .i64 n] 53)
      have bN := Boxed.new (w.alloc (.cells #[.int .i64 1] 3)) 53 (.int .i64 n)
      simp only [World.size_alloc] at bN
      have H0 := hid h0
      clear h0
      refine (callsIn_wide (n := 5)).1 ?_
      refine callsIn_of_wp_marks Try.func37 rfl trivial ?_ rfl
      simp only [Try.ntmps37, List.size_toArray, List.length_cons, List.length_nil, Nat.reduceAdd, Nat.reduceSub, Array.replicate_succ, Array.replicate_zero, List.push_toArray, List.append_toArray, List.nil_append, List.cons_append]
      gi_wp2_with (first | (refine ⟨trivial, ?_⟩; gi_at_call 55; refine (callsIn_wide.2 (factored_any _ _)).mono ?_; rintro e w' ⟨rfl, rfl⟩) | (refine ⟨trivial, ?_⟩; gi_at_call 78; refine (callsIn_wide.2 (pp_make _ _)).mono ?_; rintro e w' ⟨rfl, rfl⟩))
      refine wpIn_rangeFunc_ownF rfl (by omega) (gf := 99) (lb := #[.pointer (some ⟨w.heap.size + 1, 0, none⟩)]) rfl trivial (enters_of Try.func99 (by kernel_rfl) rfl)
        (pp_stops _ (w.heap.size + 1) n H0.out (by omega) (by omega) _ (by simp) bN.cell) walksK_t walksK_b (Below.refl _ _) (fun _ => rfl)
        (fun pre W => Boxed W w.heap.size 3 (.int .i64 (rootP pre)) ∧ Below w.heap.size w W)
        (fun _ _ _ => False)
        (OwnFrom.and (Own.from (boxed_own w.heap.size 3 (fun pre => .int .i64 (rootP pre))) _) (ownFrom_below (Nat.le_refl _) (by simp; omega)))
        (fun _ _ _ _ _ hs _ _ => hs)
        ⟨bO, hB0⟩ ?a1 ?assign ?body ?done ?stop
      case assign =>
        intro l x W K hK
        gi_wp2
        exact hK
      case body =>
        rintro l pre x W ⟨hv, hB⟩ hlt
        obtain ⟨⟨p, k⟩, hp, hk⟩ := x
        dsimp only at hp hk
        obtain ⟨r, hr⟩ : ∃ r, r = rootP pre := ⟨_, rfl⟩
        rw [← hr] at hv
        have HRP := hid hr
        have HV := hid hv
        have hk1 : 0 ≤ (k : Int) := by omega
        have hk2 : (k : Int) ≤ 5000 := by omega
        obtain ⟨wo, hwo⟩ : ∃ wo : World, wo = W := ⟨_, rfl⟩
        have HW := hid hwo
        clear hr hv hwo
        gi_wp2
        gi_loopw [17] (fun si wr => ∃ j : Nat, si = .int .i64 j ∧ j ≤ k / 2 ∧ Boxed wr w.heap.size 3 (.int .i64 (mulW r p j)) ∧ Hid (KeepsOthers W wr ∧ Below w.heap.size W wr)) (fun si _ => k / 2 - (intOf si).toNat)
        case atStart => exact ⟨0, rfl, by omega, HV.out, hid ⟨KeepsOthers.refl _, Below.refl _ _⟩⟩
        case round =>
          obtain ⟨j, rfl, hj, hbx, HK⟩ := hrel
          have hc := hbx.cell
          have hf := hbx.frozen
          have HB := hid hbx
          clear hbx
          by_cases hlt2 : j < k / 2
          · gi_wp2
            go_roundw
            case rel => exact ⟨j + 1, by go_num, by omega, HB.out.set _, hid ⟨HK.out.1.trans (KeepsOthers.setCell _ _ _), HK.out.2.setCell (p := ⟨w.heap.size, 0, none⟩) (Nat.le_refl _) _⟩⟩
            case measure => simp only [intOf]; omega
          · obtain rfl : j = k / 2 := by omega
            gi_wp2
            refine ⟨HK.out.1, HK.out.1.walks, ?_, hB.trans HK.out.2⟩
            rw [rootP_snoc, ← HRP.out]
            exact HB.out
      case done =>
        rintro D ys W hD hS ⟨hv, hB⟩ hK
        have hR : rootP ys = (rootN n.natAbs : Int) := by unfold rootP; rw [hS]; exact HR.out.1
        rw [hR] at hv
        obtain ⟨R, hRR⟩ : ∃ R, R = rootN n.natAbs := ⟨_, rfl⟩
        have hR1 : 1 ≤ R := by rw [hRR]; exact HR.out.2.2
        have hR2 : R ≤ 70 := by rw [hRR]; exact HR.out.2.1
        rw [← hRR] at hv
        have HRR := hid hRR
        have hc := hv.cell
        have hmm := mul_bd hR2 hR2
        have hm1 : 1 ≤ (R : Int) * R := by
          have := Nat.mul_le_mul hR1 hR1
          exact_mod_cast this
        have hne : (R : Int) * R ≠ 0 := by omega
        have hT : (((R : Int) * R) == 0) = false := by rw [beq_eq_false_iff_ne]; exact hne
        clear hR hRR hne
        have htd := tdiv_bd (n := n) (m := (R : Int) * R) a1 a2
        have ht1 := htd.1
        have ht2 := htd.2
        clear htd
        have HX : Hid (coreV n = .tuple #[.int .i64 (n.tdiv ((R : Int) * R)), .int .i64 R, .bool true]) := by
          show _ = _
          rw [P.out, HRR.out]
          rfl
        gi_wp2
        gi_region
        all_goals gi_wp2
        have hK' : W.drew.heap[D]? = some (.deferred (some [])) := hK
        refine ⟨by simp, .inl ⟨_, _, rfl, run_takeDeferred hK', ?_⟩⟩
        refine ⟨.tuple #[.int .i64 (n.tdiv ((R : Int) * R)), .int .i64 R, .bool true], by simp [results, Try.f37, go_sem], retV HX.out.symm, ?_⟩
        exact hB.drew.trans (belowK_b (w := w) (Nat.le_refl _) W.drew D _ _ (by simp at hD; omega) hK' rfl rfl)
      case stop =>
        rintro D c pre W _ _ h _
        exact h.elim
    · rw [hF] at h; cases h
    · rw [hF] at h; cases h

end Go.Proofs.Ytdidmblkknnglaa
