/-
  Contracts of the program's chapter 3: how many solve an equation up to a prime.
-/
import Derived.Test.YtdidmblkknnglabImp3J
set_option linter.unusedVariables false
namespace Go.Proofs.Ytdidmblkknnglab
open Go.RowKit Go.Shelf
attribute [local go_sem] Oper.semAt_some

theorem hit_way {a b : Int} {P x y z : Nat} (hx : x < P) (hy : y < P) (hz : z < P) : hitB a b P P x y z = wayB a b P x y z := by
  unfold hitB wayB
  congr 1
  rw [Nat.mod_eq_of_lt hx, Nat.mod_eq_of_lt hy, Nat.mod_eq_of_lt hz, Bool.eq_iff_iff, Bool.or_eq_true, Bool.or_eq_true, bne_iff_ne, bne_iff_ne, bne_iff_ne, decide_eq_true_eq]
  omega
theorem tz_cnt {a b : Int} {P x y : Nat} (hx : x < P) (hy : y < P) : ∀ n, n ≤ P → (tzL a b P P x y n).length = cntZ a b P x y n
  | 0, _ => rfl
  | n + 1, h => by
    unfold tzL cntZ
    rw [List.length_append, tz_cnt hx hy n (by omega), hit_way hx hy (by omega)]
    split <;> rfl
theorem ty_cnt {a b : Int} {P x : Nat} (hx : x < P) : ∀ n, n ≤ P → (tyL a b P P x n).length = cntY a b P x n
  | 0, _ => rfl
  | n + 1, h => by
    unfold tyL cntY
    rw [List.length_append, ty_cnt hx n (by omega), tz_cnt hx (by omega) P (Nat.le_refl _)]
theorem tx_cnt {a b : Int} {P : Nat} : ∀ n, n ≤ P → (txL a b P P n).length = cntX a b P n
  | 0, _ => rfl
  | n + 1, h => by
    unfold txL cntX
    rw [List.length_append, tx_cnt n (by omega), ty_cnt (by omega) P (Nat.le_refl _)]
theorem kpC_set {B C : Nat} (hC : C < B) (W : World) (v : Value) : KpC B W (W.setCell ⟨C, 0, none⟩ v) := fun k h1 _ => Below.heap_setCell _ _ _ k (fun e => by simp at e; omega)

set_option maxRecDepth 100000 in
set_option maxHeartbeats 2000000 in
theorem symbolWays_main (a b : Int) (P : Nat) (hA : factB a = true) (hBB : factB b = true) (hP : primeN P = true) (h31 : P ≤ 31) (w : World) :
    Calls Try.prog 25 #[.int .i64 a, .int .i64 b, .int .i64 P] w fun e w' => e = .returned (.int .i64 ((cntX a b P P : Nat) : Int)) ∧ Below w.heap.size w w' := by
  obtain ⟨a0, a1, a2⟩ := factB_bd hA
  obtain ⟨b0, b1, b2⟩ := factB_bd hBB
  have hp2 := (primeN_bd hP).1
  have hp5 := (primeN_bd hP).2.1
  have HA := hid hA
  have HBB := hid hBB
  have HPR : Hid (primeI (P : Int) = true) := hid hP
  have HL := hid (tx_cnt (a := a) (b := b) (P := P) P (Nat.le_refl _))
  have hlen := trip_len (a := a) (b := b) (P := P) (m := P) (by omega)
  obtain ⟨T, hT⟩ : ∃ T, T = tripL a b P P := ⟨_, rfl⟩
  rw [← hT] at hlen
  have HT := hid hT
  clear a0 b0 hA hBB hP hT
  refine (callsIn_wide (n := 5)).1 ?_
  refine callsIn_of_wp_marks Try.func25 rfl trivial ?_ rfl
  simp only [Try.ntmps25, List.size_toArray, List.length_cons, List.length_nil, Nat.reduceAdd, Nat.reduceSub, Array.replicate_succ, Array.replicate_zero, List.push_toArray, List.append_toArray, List.nil_append, List.cons_append]
  gi_wp2_with (first | (refine ⟨trivial, ?_⟩; gi_at_call 39; refine (callsIn_wide.2 (factored_any _ _)).mono ?_; (first | rw [HA.out] | rw [HBB.out]); rintro e w' ⟨rfl, rfl⟩) | (refine ⟨trivial, ?_⟩; gi_at_call 49; refine (callsIn_wide.2 (prime_any _ _)).mono ?_; rw [HPR.out]; rintro e w2 ⟨rfl, hb2⟩; have bR := Boxed.new w2 3 (.int .i64 0); have cR := bR.cell; have fR := bR.frozen))
  refine ⟨trivial, ?_⟩
  gi_at_call 51
  refine (callsIn_wide.2 (solved_make a b P P _)).mono ?_
  rintro e w' ⟨rfl, rfl⟩
  simp only [World.size_alloc]
  have HB2 := hid (hb2.alloc hb2.size (.cells #[.int .i64 0] 3))
  have hs2 := hb2.size
  have bR2 := boxed_four bR (.cells #[.int .i64 a] 3) (.cells #[.int .i64 b] 3) (.cells #[.int .i64 P] 3) (.cells #[.int .i64 P] 3)
  have HC := capt_new a b P P (w2.alloc (.cells #[.int .i64 0] 3))
  have HB4 := below_four HB2.out (by simp; omega) (.cells #[.int .i64 a] 3) (.cells #[.int .i64 b] 3) (.cells #[.int .i64 P] 3) (.cells #[.int .i64 P] 3)
  simp only [World.size_alloc] at HC
  clear hb2 bR cR fR
  gi_wp2_with fail
  refine wpIn_rangeFunc_ownF rfl (by omega) (gf := 68) (lb := #[.pointer (some ⟨w2.heap.size + 1 + 3, 0, none⟩), .pointer (some ⟨w2.heap.size + 1, 0, none⟩), .pointer (some ⟨w2.heap.size + 1 + 1, 0, none⟩), .pointer (some ⟨w2.heap.size + 1 + 2, 0, none⟩)]) rfl trivial (enters_of Try.func68 (by kernel_rfl) rfl)
    (trip_stops _ (w2.heap.size + 1) a b P P a1 a2 b1 b2 hp2 hp5 (by omega) (by omega) _ (by simp) HC) KpC.trans (kpC_b (by simp)) (Below.refl _ _) (fun _ => rfl)
    (fun (pre : List T3) W => Boxed W w2.heap.size 3 (.int .i64 (pre.length : Nat)) ∧ Below w.heap.size w W)
    (fun _ _ _ => False)
    (OwnFrom.and (Own.from (boxed_own _ _ (fun pre : List T3 => .int .i64 (pre.length : Nat))) _) (ownFrom_below (Nat.le_refl _) (by simp; omega)))
    (fun _ _ _ _ _ hs _ _ => hs)
    ⟨bR2, HB4⟩ ?a1 ?assign ?body ?done ?stop
  case assign =>
    intro l x W K hK
    gi_wp2
    exact hK
  case body =>
    rintro l pre x W ⟨hb, hB⟩ hlt
    have hlt2 : pre.length < 32768 := by have := HT.out; rw [← this] at hlt; omega
    have hc := hb.cell
    have hf := hb.frozen
    clear hlt
    gi_wp2
    exact ⟨KeepsOthers.setCell _ _ _, kpC_set (by omega) _ _, by rw [List.length_append, List.length_singleton, Int.natCast_add]; exact hb.set _, hB.setCell (p := ⟨w2.heap.size, 0, none⟩) hs2 _⟩
  case done =>
    rintro D ys W hD hS ⟨hb, hB⟩ hK
    have hc := hb.cell
    have hn : Hid (ys.length = cntX a b P P) := hid (by
      rw [← HL.out]
      have := congrArg List.length hS
      rw [List.length_map] at this
      exact this)
    gi_wp2
    refine ⟨by simp, .inl ⟨_, _, rfl, run_takeDeferred hK, ?_⟩⟩
    refine ⟨_, results_tmp rfl _ _ _, ?_⟩
    exact ⟨retI (by rw [hn.out]), hB.trans (belowK_b (w := w) (Nat.le_refl _) W D _ _ (by simp at hD; omega) hK rfl rfl)⟩
  case stop =>
    rintro D c pre W _ _ h _
    exact h.elim

set_option maxRecDepth 100000 in
set_option maxHeartbeats 1000000 in
theorem symbolWays_any (a b p : Int) (w : World) :
    Calls Try.prog 25 #[.int .i64 a, .int .i64 b, .int .i64 p] w fun e w' => e = .returned (.int .i64 (swayV a b p)) ∧ Below w.heap.size w w' := by
  cases hA : factB a with
  | false =>
    have HP := hid (swayV_no (show wayOk a b p = false by unfold wayOk okAB; rw [hA]; rfl))
    have HA := hid hA
    clear hA
    go_enter Try.func25, Try.ntmps25
    go_wp2_with (go_at_call 39; refine (factored_any _ _).mono ?_; rw [HA.out]; rintro e w' ⟨rfl, rfl⟩)
    go_ret
    exact ⟨retI HP.out.symm, Below.refl _ _⟩
  | true =>
    cases hBB : factB b with
    | false =>
      have HP := hid (swayV_no (show wayOk a b p = false by unfold wayOk okAB; rw [hA, hBB]; rfl))
      have HA := hid hA
      have HBB := hid hBB
      clear hA hBB
      go_enter Try.func25, Try.ntmps25
      go_wp2_with (go_at_call 39; refine (factored_any _ _).mono ?_; (first | rw [HA.out] | rw [HBB.out]); rintro e w' ⟨rfl, rfl⟩)
      go_ret
      exact ⟨retI HP.out.symm, Below.refl _ _⟩
    | true =>
      cases hPR : primeI p with
      | false =>
        have HP := hid (swayV_no (show wayOk a b p = false by unfold wayOk; rw [hPR, Bool.false_and, Bool.and_false]))
        have HA := hid hA
        have HBB := hid hBB
        have HPR := hid hPR
        clear hA hBB hPR
        go_enter Try.func25, Try.ntmps25
        go_wp2_with (first | (go_at_call 39; refine (factored_any _ _).mono ?_; (first | rw [HA.out] | rw [HBB.out]); rintro e w' ⟨rfl, rfl⟩) | (go_at_call 49; refine (prime_any _ _).mono ?_; rw [HPR.out]; rintro e w2 ⟨rfl, hb2⟩))
        go_ret
        exact ⟨retI HP.out.symm, hb2⟩
      | true =>
        by_cases h31 : p ≤ 31
        · have hp2 := (primeI_bd hPR).1
          obtain ⟨P, rfl⟩ := Int.eq_ofNat_of_zero_le (show 0 ≤ p by omega)
          refine (symbolWays_main a b P hA hBB hPR (by omega) w).mono ?_
          rintro e w' ⟨rfl, hb⟩
          refine ⟨retI ?_, hb⟩
          unfold swayV wayOk okAB
          rw [hA, hBB, hPR, decide_eq_true h31, Int.toNat_natCast]
          rfl
        · have HP := hid (swayV_no (show wayOk a b p = false by unfold wayOk; rw [decide_eq_false h31, Bool.and_false, Bool.and_false]))
          have HA := hid hA
          have HBB := hid hBB
          have HPR := hid hPR
          have hg : (31 : Int) < p := by omega
          clear hA hBB hPR
          go_enter Try.func25, Try.ntmps25
          go_wp2_with (first | (go_at_call 39; refine (factored_any _ _).mono ?_; (first | rw [HA.out] | rw [HBB.out]); rintro e w' ⟨rfl, rfl⟩) | (go_at_call 49; refine (prime_any _ _).mono ?_; rw [HPR.out]; rintro e w2 ⟨rfl, hb2⟩))
          go_ret
          exact ⟨retI HP.out.symm, hb2⟩

end Go.Proofs.Ytdidmblkknnglab
