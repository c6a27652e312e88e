/-
  The iterator over the prime powers of a number: its contract for every loop body.
-/
import Derived.RangeFuncNested
import Derived.RangeFuncBound
import Derived.RangeFuncCalls
import Derived.RangeFuncLeaves
import Derived.RangeFuncBox
import Derived.Shelf.Abstract
import Derived.Shelf.RegionOpen
import Derived.OwnWalkIn
import Derived.TacticsInMore
import Derived.LoopNIn
import Derived.LoopIn
import Derived.Test.YtdclmjmefkgbbabQBun0
set_option linter.unusedVariables false
namespace Go.Proofs.Ytdclmjmefkgbbab
open Go.RowKit Go.Shelf
attribute [local go_sem] Oper.semAt_some

abbrev encPP (x : Nat × Nat) : Array Value := #[.int .i64 x.1, .int .i64 x.2]

theorem wide_depth (n : Nat) : Fence.wide.depth.isSome = true → 1 ≤ n := fun h => Bool.noConfusion h

set_option maxRecDepth 100000 in
set_option maxHeartbeats 1000000 in
theorem pp_in (n l Bn : Nat) (a : Int) (h0 : a ≠ 0) (ha1 : -5000 ≤ a) (ha2 : a ≤ 5000) (J Jx : List (Nat × Nat) → World → Prop)
    (hY : ∀ pre x W, J pre W → x.1 ≤ 5000 → x.2 ≤ 5000 → pre.length < (ppow a.natAbs).length → YieldAt Fence.wide (n - 1) Try.prog l (encPP x) W fun e W' =>
      (e = .returned (.bool true) ∧ J (pre ++ [x]) W' ∧ KeepsWalks W W') ∨ (e = .returned (.bool false) ∧ Jx (pre ++ [x]) W'))
    (W : World) (hBn : W.cell? ⟨Bn, 0, none⟩ = some (.int .i64 a)) (hJ0 : J [] W) :
    CallsIn Fence.wide n Try.prog 90 #[.func (.yield l) #[] #[], .pointer (some ⟨Bn, 0, none⟩)] W fun e W' => (∃ v, e = .returned v) ∧
      ((∃ ys, ys = ppow a.natAbs ∧ J ys W') ∨ (∃ pre, pre <+: ppow a.natAbs ∧ Jx pre W')) := by
  obtain ⟨N, hN⟩ : ∃ N, N = a.natAbs := ⟨_, rfl⟩
  rw [← hN] at hY ⊢
  have hN1 : 1 ≤ N := by omega
  have hN2 : N ≤ 5000 := by omega
  have HN := hid hN
  clear hN
  refine callsIn_of_wp Try.func90 rfl trivial ?_ rfl
  simp only [Try.ntmps90, List.size_toArray, List.length_cons, List.length_nil, Nat.reduceAdd, Nat.reduceSub, Array.replicate_succ, Array.replicate_zero, List.push_toArray, List.append_toArray, List.nil_append, List.cons_append]
  gi_wp2_with (refine ⟨trivial, wide_depth n, ?_⟩; gi_at_call 91; refine (callsIn_wide.2 (size_any _ (by omega) (by omega) _)).mono ?_; rw [← HN.out]; rintro e w' ⟨rfl, rfl⟩)
  gi_loopw [3, 4] (fun sl sp wr => ∃ (pre : List (Nat × Nat)) (L p f : Nat), sl = .int .i64 L ∧ sp = .int .i64 p ∧ 1 ≤ L ∧ L ≤ 5000 ∧ 2 ≤ p ∧ p ≤ 71 ∧ p + f = 72 ∧ Hid (ppow N = pre ++ ppGo f p L) ∧ J pre wr)
    (fun _ sp _ => (71 - intOf sp).toNat)
  case atStart =>
    exact ⟨[], N, 2, 70, rfl, rfl, hN1, hN2, by omega, by omega, rfl, hid rfl, hJ0⟩
  case round =>
    obtain ⟨pre, L, p, f, rfl, rfl, hL1, hL2, hp2, hp7, hf, HP, hJs⟩ := hrel
    have hKK := mul_bd (show p ≤ 71 by omega) (show p ≤ 71 by omega)
    obtain ⟨g, rfl⟩ : ∃ g, f = g + 1 := ⟨f - 1, by omega⟩
    by_cases hle : (p : Int) * p ≤ L
    · have hle' : p * p ≤ L := by exact_mod_cast hle
      have hp70 := sq_le hle' hL2
      obtain ⟨K, hK⟩ : ∃ K, K = val L p := ⟨_, rfl⟩
      have HK := hid hK
      have HD := hid (val_dvd p hp2 L L (Nat.le_refl _) (by omega))
      have hKb : K ≤ 5000 := by
        rw [hK]; exact Nat.le_trans (val_le p hp2 L L (Nat.le_refl _)) hL2
      clear hK
      by_cases hd : L % p = 0
      · have hKp : 0 < K := by rw [HK.out, val_step hp2 (by omega) hd]; omega
        have HE : Hid (ppGo (g + 1) p L = (p, K) :: ppGo g (p + 1) (L / p ^ K)) := by show _ = _; rw [HK.out]; conv => lhs; unfold ppGo
                                                                                      rw [if_pos hle', if_pos hd]
        have hq1 : 1 ≤ L / p ^ K := Nat.div_pos (Nat.le_of_dvd (by omega) (by rw [HK.out]; exact HD.out)) (Nat.pow_pos (by omega))
        have hq2 : L / p ^ K ≤ 5000 := Nat.le_trans (Nat.div_le_self _ _) hL2
        have hlen : pre.length < (ppow N).length := by rw [HP.out, HE.out]; simp
        clear hd hle'
        obtain ⟨fn, tmps, assign, body, hy, hR⟩ := hY pre (p, K) wr hJs (show p ≤ 5000 by omega) (show K ≤ 5000 by omega) hlen
        dsimp only [encPP] at hy
        gi_wp2_with (refine ⟨trivial, wide_depth n, ?_⟩; gi_at_call 92; refine (callsIn_wide.2 (valuation_any _ _ (by omega) (by omega) (by omega) (by omega) (by omega) _)).mono ?_; rw [show val (Int.natAbs (L : Int)) (Int.toNat (p : Int)) = K from HK.out.symm]; rintro e w' ⟨rfl, rfl⟩)
        gi_loop [3, 19] (fun sl si => ∃ j M : Nat, sl = .int .i64 M ∧ si = .int .i64 j ∧ j ≤ K ∧ M ≤ 5000 ∧ Hid (M = L / p ^ j)) (fun _ si => K - (intOf si).toNat)
        case atStart => exact ⟨0, L, rfl, rfl, by omega, hL2, hid (by simp)⟩
        case round =>
          obtain ⟨j, M, rfl, rfl, hj, hM, HM⟩ := hrel
          have hdd := ediv_bd (b := p) hM
          have hd0 := hdd.1
          have hd1 := hdd.2
          clear hdd
          by_cases hlt : j < K
          · gi_wp2
            go_round
            case rel => exact ⟨j + 1, M / p, vI (by push_cast; rfl), by go_num, by omega, Nat.le_trans (Nat.div_le_self _ _) hM, hid (by rw [HM.out, Nat.div_div_eq_div_mul, Nat.pow_succ])⟩
            case measure => simp only [intOf]; omega
          · obtain rfl : j = K := by omega
            gi_wp2
            refine ⟨wide_depth n, hR.mono ?_⟩
            rintro e W' (⟨rfl, hJ', _⟩ | ⟨rfl, hJx'⟩)
            · gi_wp2
              go_roundw
              case rel => exact ⟨pre ++ [(p, j)], M, p + 1, g, rfl, by go_num, by rw [HM.out]; exact hq1, hM, by omega, by omega, by omega, hid (by rw [HP.out, HE.out, HM.out]; simp), hJ'⟩
              case measure => simp only [intOf]; omega
            · gi_wp2
              refine bodyPost_ret (results_none rfl _ _ _) rfl ?_
              exact ⟨⟨_, rfl⟩, .inr ⟨pre ++ [(p, j)], ⟨ppGo g (p + 1) (L / p ^ j), by rw [HP.out, HE.out]; simp⟩, hJx'⟩⟩
      · have hK0 : K = 0 := by rw [HK.out, val_stop hd]
        have HE : Hid (ppGo (g + 1) p L = ppGo g (p + 1) L) := by show _ = _; conv => lhs; unfold ppGo
                                                                  rw [if_pos hle', if_neg hd]
        have HK0 : Hid (val (Int.natAbs (L : Int)) (Int.toNat (p : Int)) = 0) := hid (by rw [← hK0]; exact HK.out.symm)
        clear hd hle' hK0
        gi_wp2_with (refine ⟨trivial, wide_depth n, ?_⟩; gi_at_call 92; refine (callsIn_wide.2 (valuation_any _ _ (by omega) (by omega) (by omega) (by omega) (by omega) _)).mono ?_; rw [HK0.out]; rintro e w' ⟨rfl, rfl⟩)
        gi_loop [3, 19] (fun sl si => sl = .int .i64 L ∧ si = .int .i64 0) (fun _ si => 0)
        case atStart => exact ⟨rfl, rfl⟩
        case round =>
          obtain ⟨rfl, rfl⟩ := hrel
          gi_wp2
          refine ⟨fun _ h => (by cases h), ?_⟩
          gi_wp2
          go_roundw
          case rel => exact ⟨pre, L, p + 1, g, rfl, by go_num, hL1, hL2, by omega, by omega, by omega, hid (by rw [HP.out, HE.out]), hJs⟩
          case measure => simp only [intOf]; omega
    · have hle' : ¬ p * p ≤ L := fun h => hle (by exact_mod_cast h)
      by_cases hL : 1 < L
      · have HE : Hid (ppGo (g + 1) p L = [(L, 1)]) := by show _ = _; unfold ppGo; rw [if_neg hle', if_pos hL]
        have hlen : pre.length < (ppow N).length := by rw [HP.out, HE.out]; simp
        clear hle'
        obtain ⟨fn, tmps, assign, body, hy, hR⟩ := hY pre (L, 1) wr hJs (show L ≤ 5000 by omega) (show 1 ≤ 5000 by omega) hlen
        dsimp only [encPP] at hy
        rw [show ((1 : Nat) : Int) = 1 from rfl] at hy
        gi_wp2
        refine ⟨wide_depth n, hR.mono ?_⟩
        rintro e W' (⟨rfl, hJ', _⟩ | ⟨rfl, hJx'⟩)
        · gi_wp2
          go_end0
          have HF : J (ppow N) W' := by rw [HP.out, HE.out]; exact hJ'
          first | exact ⟨⟨_, rfl⟩, .inl ⟨_, rfl, HF⟩⟩ | exact ⟨⟨_, rfl⟩, .inl HF⟩
        · gi_wp2
          go_end0
          exact ⟨⟨_, rfl⟩, .inr ⟨_, ⟨[], by rw [HP.out, HE.out]; simp⟩, hJx'⟩⟩
      · have HE : Hid (ppGo (g + 1) p L = []) := by show _ = _; unfold ppGo; rw [if_neg hle', if_neg hL]
        clear hle'
        gi_wp2
        go_end0
        have HF : J (ppow N) wr := by rw [HP.out, HE.out, List.append_nil]; exact hJs
        first | exact ⟨⟨_, rfl⟩, .inl ⟨_, rfl, HF⟩⟩ | exact ⟨⟨_, rfl⟩, .inl HF⟩

/-- n.primePowers(): the receiver is boxed; the function value captures the box. -/
theorem pp_make (a : Int) (w : World) :
    Calls Try.prog 61 #[.int .i64 a] w fun e w' => e = .returned (.func (.func 90) #[] #[.pointer (some ⟨w.heap.size, 0, none⟩)]) ∧ w' = w.alloc (.cells #[.int .i64 a] 48) := by
  go_enter Try.func61, Try.ntmps61
  go_wp2
  go_ret
  exact ⟨rfl, rfl⟩

/-- what a round is handed: bounded numbers -/
abbrev PP := { x : Nat × Nat // x.1 ≤ 5000 ∧ x.2 ≤ 5000 }
abbrev encP (x : PP) : Array Value := #[.int .i64 x.1.1, .int .i64 x.1.2]

theorem pp_stops (n Bn : Nat) (a : Int) (h0 : a ≠ 0) (ha1 : -5000 ≤ a) (ha2 : a ≤ 5000) (w : World) (hBn : Bn < w.heap.size) (hc : w.cell? ⟨Bn, 0, none⟩ = some (.int .i64 a)) :
    SeqStopsK Fence.wide n Try.prog 90 #[.pointer (some ⟨Bn, 0, none⟩)] encP KeepsWalks (fun ys => ys.map (·.1) = ppow a.natAbs) (fun pre => pre.map (·.1) <+: ppow a.natAbs) (ppow a.natAbs).length w := fun l J Jx W hW _ _ hY hJ0 => by
  refine (pp_in n l Bn a h0 ha1 ha2 (fun pre W => ∃ q : List PP, q.map (·.1) = pre ∧ J q W) (fun pre W => ∃ q : List PP, q.map (·.1) = pre ∧ Jx q W) ?_ W ((hW.cell (p := ⟨Bn, 0, none⟩) hBn).trans hc) ⟨[], rfl, hJ0⟩).mono ?_
  · rintro pre x W1 ⟨q, rfl, hq⟩ h1 h2 hl
    obtain ⟨fn, tmps, assign, body, hy, hR⟩ := hY q ⟨x, h1, h2⟩ W1 hq (by simpa using hl)
    refine ⟨fn, tmps, assign, body, hy, hR.mono ?_⟩
    rintro e w' (⟨he, hj, hk⟩ | ⟨he, hj⟩)
    · exact .inl ⟨he, ⟨_, by simp, hj⟩, hk⟩
    · exact .inr ⟨he, ⟨_, by simp, hj⟩⟩
  · rintro e W' ⟨hv, ⟨ys, hys, q, hq, hj⟩ | ⟨pre, hpre, q, hq, hj⟩⟩
    · exact ⟨hv, .inl ⟨q, hq.trans hys, hj⟩⟩
    · exact ⟨hv, .inr ⟨q, by rw [← hq] at hpre; exact hpre, hj⟩⟩

end Go.Proofs.Ytdclmjmefkgbbab
