/-
  The program's test of primes, by its iterator; a loop that breaks at once.
-/
import Derived.Test.YtdidmblkknnglaaIter
import Derived.Test.YtdidmblkknnglaaArith3
set_option linter.unusedVariables false
namespace Go.Proofs.Ytdidmblkknnglaa
open Go.RowKit Go.Shelf
attribute [local go_sem] Oper.semAt_some

theorem head_pre {N : Nat} {x : Nat × Nat} (h2 : 2 ≤ N) (hN : N ≤ 5000) (h : [x] <+: ppow N) : ((x.1 : Int) == (N : Int)) = primeN N := by
  rw [← ppow_prime h2 hN]
  obtain ⟨t, ht⟩ := h
  rw [← ht]
  simp only [List.cons_append, List.head?_cons, Option.map_some]
  rw [Bool.eq_iff_iff, beq_iff_eq, beq_iff_eq, Option.some.injEq]
  omega
theorem head_none {N : Nat} (h2 : 2 ≤ N) (hN : N ≤ 5000) (h : [] = ppow N) : ((0 : Int) == (N : Int)) = primeN N := by
  rw [← ppow_prime h2 hN, ← h]
  simp
  omega
theorem primeI_cast (N : Nat) : primeI (N : Int) = primeN N := rfl

set_option maxRecDepth 100000 in
set_option maxHeartbeats 1000000 in
theorem prime_any (n : Int) (w : World) : Calls Try.prog 72 #[.int .i64 n] w fun e w' => e = .returned (.bool (primeI n)) ∧ Below w.heap.size w w' := by
  rcases inR_cases n 2 5000 with ⟨h1, h2, H⟩ | ⟨h1, H⟩ | ⟨h1, h2, H⟩
  · have O : okN n = true := okN_iff.2 ⟨by omega, by omega⟩
    have T2 : decide (n < 2) = false := decide_eq_false (by omega)
    obtain ⟨N, rfl⟩ := Int.eq_ofNat_of_zero_le (show 0 ≤ n by omega)
    have hB0 : Below w.heap.size w ((w.alloc (.cells #[.int .i64 0] 3)).alloc (.cells #[.int .i64 N] 53)) := ((Below.refl _ _).alloc (Nat.le_refl _) _).alloc (by simp) _
    have bL := (Boxed.new w 3 (.int .i64 0)).alloc (.cells #[.int .i64 N] 53)
    have bN := Boxed.new (w.alloc (.cells #[.int .i64 0] 3)) 53 (.int .i64 N)
    rw [World.size_alloc] at bN
    refine (callsIn_wide (n := 5)).1 ?_
    refine callsIn_of_wp_marks Try.func72 rfl trivial ?_ rfl
    simp only [Try.ntmps72, List.size_toArray, List.length_cons, List.length_nil, Nat.reduceAdd, Nat.reduceSub, Array.replicate_succ, Array.replicate_zero, List.push_toArray, List.append_toArray, List.nil_append, List.cons_append]
    gi_wp2_with (first | (refine ⟨trivial, ?_⟩; gi_at_call 69; refine (callsIn_wide.2 (valid_any _ _)).mono ?_; rintro e w' ⟨rfl, rfl⟩) | (refine ⟨trivial, ?_⟩; gi_at_call 78; refine (callsIn_wide.2 (pp_make _ _)).mono ?_; rintro e w' ⟨rfl, rfl⟩))
    refine wpIn_rangeFunc_ownF rfl (by omega) (gf := 99) (lb := #[.pointer (some ⟨w.heap.size + 1, 0, none⟩)]) rfl trivial (enters_of Try.func99 (by kernel_rfl) rfl)
      (pp_stops _ (w.heap.size + 1) N (by omega) (by omega) (by omega) _ (by simp) bN.cell) walksK_t walksK_b (Below.refl _ _) (fun _ => rfl)
      (fun pre W => (pre = [] ∧ Boxed W w.heap.size 3 (.int .i64 0)) ∧ Below w.heap.size w W)
      (fun c pre W => (c = .exit 0 ∧ ∃ x : PP, pre = [x] ∧ Boxed W w.heap.size 3 (.int .i64 x.1.1)) ∧ Below w.heap.size w W)
      (OwnFrom.and (OwnFrom.and (ownFrom_pure _ _) (Own.from (boxed_own _ _ (fun _ => .int .i64 0)) _)) (ownFrom_below (Nat.le_refl _) (by simp; omega)))
      (fun c => OwnFrom.and (fun s A B row hs hg hr => by obtain ⟨hc, x, hx, hb⟩ := hs; exact ⟨hc, x, hx, (Own.from (boxed_own _ _ (fun _ : Unit => Value.int .i64 x.1.1)) _) () A B row hb hg hr⟩) (ownFrom_below (Nat.le_refl _) (by simp; omega)))
      ⟨⟨rfl, bL⟩, hB0⟩ ?a1 ?assign ?body ?done ?stop
    case assign =>
      intro l x W K hK
      gi_wp2
      exact hK
    case body =>
      rintro l pre x W ⟨⟨rfl, hb⟩, hB⟩ _
      have hc := hb.cell
      have hf := hb.frozen
      gi_wp2
      exact ⟨KeepsOthers.setCell _ _ _, ⟨rfl, x, rfl, hb.set _⟩, hB.setCell (p := ⟨w.heap.size, 0, none⟩) (Nat.le_refl _) _⟩
    case done =>
      rintro D ys W hD hS ⟨⟨h, hb⟩, hB⟩ hK
      have hc := hb.cell
      have hn := hid (head_none (N := N) (by omega) (by omega) (by rw [h] at hS; simpa using hS))
      gi_wp2
      refine ⟨by simp, .inl ⟨_, _, rfl, run_takeDeferred hK, ?_⟩⟩
      refine ⟨_, results_tmp rfl _ _ _, ?_⟩
      exact ⟨retB hn.out, hB.trans (belowK_b (w := w) (Nat.le_refl _) W D _ _ (by simp at hD; omega) hK rfl rfl)⟩
    case stop =>
      rintro D c pre W hD hSp ⟨⟨rfl, x, rfl, hb⟩, hB⟩ hK
      have hc := hb.cell
      have hn := hid (head_pre (N := N) (by omega) (by omega) (by simpa using hSp))
      gi_wp2
      refine ⟨by simp, .inl ⟨_, _, rfl, run_takeDeferred hK, ?_⟩⟩
      refine ⟨_, results_tmp rfl _ _ _, ?_⟩
      exact ⟨retB hn.out, hB.trans (belowK_b (w := w) (Nat.le_refl _) W D _ _ (by simp at hD; omega) hK rfl rfl)⟩
  · have P := hid (primeI_no (n := n) (by omega))
    go_enter Try.func72, Try.ntmps72
    go_wp2
    go_ret
    exact ⟨retB P.out.symm, Below.refl _ _⟩
  · have P := hid (primeI_no (n := n) (by omega))
    have O : okN n = false := okN_no.2 (by omega)
    go_enter Try.func72, Try.ntmps72
    go_wp2_with (go_at_call 69; refine (valid_any _ _).mono ?_; rintro e w' ⟨rfl, rfl⟩)
    go_ret
    exact ⟨retB P.out.symm, Below.refl _ _⟩

end Go.Proofs.Ytdidmblkknnglaa
