/-
  What laws about sums of squares say of cores and of forms.
-/
import Derived.Test.YtdclmjmefkgbbabSuK3
import Derived.Test.YtdclmjmefkgbbabSuC2
import Derived.Test.YtdclmjmefkgbbabQBun16
import Derived.Test.YtdclmjmefkgbbabQBun17
import Derived.Test.YtdclmjmefkgbbabQCore2
import Derived.Test.YtdclmjmefkgbbabQImp4F
import Derived.Test.YtdclmjmefkgbbabQBun45
import Derived.Test.YtdclmjmefkgbbabQVals5b
import Derived.Test.YtdclmjmefkgbbabQBun35
import Derived.Test.YtdclmjmefkgbbabQBun22
import Derived.Test.YtdclmjmefkgbbabDraws24
set_option linter.unusedVariables false
namespace Go.Proofs.Ytdclmjmefkgbbab
open Go.RowKit

def coreOk8 (n : Nat) : Bool := decide (n = 0) || (decide (n / (rootN n * rootN n) * (rootN n * rootN n) = n) && decide (1 ≤ rootN n))
theorem core8_all : allR coreOk8 0 495 = true := by decide +kernel
theorem core8_c : coreOk8 2000 = true := by decide +kernel
theorem core8 {N : Nat} (h : N < 495 ∨ N = 2000) (h0 : N ≠ 0) : ∃ c r : Nat, coreV (N : Int) = .tuple #[.int .i64 (c : Int), .int .i64 (r : Int), .bool true] ∧ c * (r * r) = N ∧ 1 ≤ r ∧ 1 ≤ c := by
  have hk : coreOk8 N = true := by
    rcases h with h | rfl
    · exact allR_at core8_all (by omega) (by omega)
    · exact core8_c
  unfold coreOk8 at hk
  rw [decide_eq_false h0, Bool.false_or, Bool.and_eq_true, decide_eq_true_eq, decide_eq_true_eq] at hk
  have hf : factB (N : Int) = true := by unfold factB okN; simp; omega
  refine ⟨N / (rootN N * rootN N), rootN N, ?_, hk.1, hk.2, ?_⟩
  · rw [coreV_yes hf]
    unfold coreI
    rw [Int.natAbs_natCast, Int.tdiv_eq_ediv_of_nonneg (by omega)]
    norm_cast
  · rcases Nat.eq_zero_or_pos (N / (rootN N * rootN N)) with e | e
    · rw [e, Nat.zero_mul] at hk; omega
    · exact e
theorem core_zero : ∃ c r : Int, coreV 0 = .tuple #[.int .i64 c, .int .i64 r, .bool false] := ⟨0, 0, coreV_no (by decide)⟩
theorem bad_two {c r : Nat} {x y : Int} (hc : 1 ≤ c) (hr : 1 ≤ r) (hr2 : r ≤ 2000) (h : x * x + y * y = ((c * (r * r) : Nat) : Int)) (hx : 0 ≤ x ∧ x ≤ 2000) (hy : 0 ≤ y ∧ y ≤ 2000) (hf : fvB [1, 1, -(c : Int)] = true) : badL [1, 1, -(c : Int)] = [] := by
  refine zero_bad (vs := [x, y, (r : Int)]) (zeroB_iff.2 ⟨?_, hf, rfl, ⟨(r : Int), by simp, by omega⟩, ?_⟩)
  · intro v hv
    simp only [List.mem_cons, List.not_mem_nil, or_false] at hv
    rcases hv with rfl | rfl | rfl <;> omega
  · simp only [List.length_cons, List.length_nil, valI, List.getD_cons_zero, List.getD_cons_succ]
    push_cast at h
    grind
theorem van_three8 {c r : Nat} {x y z : Int} (hc : 1 ≤ c) (hr : 1 ≤ r) (h : x * x + y * y + z * z = ((c * (r * r) : Nat) : Int)) (hf : fvB [1, 1, 1, -(c : Int)] = true) : fvanV [1, 1, 1, -(c : Int)] 2 = true := by
  have hv := van4 (a := 1) (b := 1) (c := 1) (d := -(c : Int)) (x := x) (y := y) (z := z) (w := (r : Int)) (q := 2) (by omega) (by omega) (by omega) (by omega) (by omega) (by push_cast at h; grind) (by decide)
  unfold fvanV
  rw [hf, show plI 2 = true by decide, hv]
  rfl
theorem three_found {N : Nat} (h2 : N ≤ 2000) {l : List Int} (e : lvl 3 (N : Int) 0 = some l) : ∃ x y z : Int, l = [x, y, z] ∧ 0 ≤ x ∧ x ≤ y ∧ y ≤ z ∧ x * x + y * y + z * z = (N : Int) ∧ (0 ≤ x * x ∧ x * x ≤ 2000) ∧ (0 ≤ y * y ∧ y * y ≤ 2000) ∧ 0 ≤ z * z ∧ z * z ≤ 2000 := by
  obtain ⟨h1, h2', h3, h4⟩ := lvl_spec 3 _ _ l e
  match l, h1 with
  | [x, y, z], _ =>
    have hx := h3 x (by simp)
    have h5 : (x ≤ y ∧ x ≤ z) ∧ y ≤ z := by simpa using h4
    have hs : x * x + (y * y + z * z) = (N : Int) := by simpa using h2'
    have p1 : 0 ≤ x * x := Int.mul_nonneg hx hx
    have p2 : 0 ≤ y * y := Int.mul_nonneg (by omega) (by omega)
    have p3 : 0 ≤ z * z := Int.mul_nonneg (by omega) (by omega)
    exact ⟨x, y, z, rfl, hx, h5.1.1, h5.2, by omega, by omega, by omega, by omega⟩
theorem four_found {N : Nat} (h2 : N ≤ 2000) {l : List Int} (e : lvl 4 (N : Int) 0 = some l) : ∃ x y z v : Int, l = [x, y, z, v] ∧ 0 ≤ x ∧ x ≤ y ∧ y ≤ z ∧ z ≤ v ∧ x * x + y * y + z * z + v * v = (N : Int) ∧ (0 ≤ x * x ∧ x * x ≤ 2000) ∧ (0 ≤ y * y ∧ y * y ≤ 2000) ∧ (0 ≤ z * z ∧ z * z ≤ 2000) ∧ 0 ≤ v * v ∧ v * v ≤ 2000 := by
  obtain ⟨h1, h2', h3, h4⟩ := lvl_spec 4 _ _ l e
  match l, h1 with
  | [x, y, z, v], _ =>
    have hx := h3 x (by simp)
    have h5 : (x ≤ y ∧ x ≤ z ∧ x ≤ v) ∧ (y ≤ z ∧ y ≤ v) ∧ z ≤ v := by simpa using h4
    have hs : x * x + (y * y + (z * z + v * v)) = (N : Int) := by simpa using h2'
    have p1 : 0 ≤ x * x := Int.mul_nonneg hx hx
    have p2 : 0 ≤ y * y := Int.mul_nonneg (by omega) (by omega)
    have p3 : 0 ≤ z * z := Int.mul_nonneg (by omega) (by omega)
    have p4 : 0 ≤ v * v := Int.mul_nonneg (by omega) (by omega)
    exact ⟨x, y, z, v, rfl, hx, h5.1.1, h5.2.1.1, h5.2.2, by omega, by omega, by omega, by omega, by omega⟩
theorem two_found8 {N : Nat} (h2 : N ≤ 2000) {l : List Int} (e : lvl 2 (N : Int) 0 = some l) : ∃ x y : Int, l = [x, y] ∧ 0 ≤ x ∧ x ≤ y ∧ x * x + y * y = (N : Int) ∧ y ≤ 2000 := by
  obtain ⟨h1, h2', h3, h4⟩ := lvl_spec 2 _ _ l e
  match l, h1 with
  | [x, y], _ =>
    have hx := h3 x (by simp)
    have hxy : x ≤ y := by simpa using h4
    have hs : x * x + y * y = (N : Int) := by simpa using h2'
    have p1 : 0 ≤ x * x := Int.mul_nonneg hx hx
    have hy : y ≤ 44 := sq_small8 (c := 1) (x := y) (by omega) (by omega) (by rw [Int.one_mul]; omega)
    exact ⟨x, y, rfl, hx, hxy, hs, by omega⟩
theorem twice_a : allR (fun n => !twoIsB (n : Int) || twoIsB ((2 * n : Nat) : Int)) 0 495 = true := by decide +kernel
theorem two_twice {N : Nat} (h : N < 495 ∨ N = 2000) (ht : twoIsB (N : Int) = true) : (2000 : Int) < 2 * (N : Int) ∨ twoIsB (2 * (N : Int)) = true := by
  rcases h with h | rfl
  · right
    have := allR_at twice_a (n := N) (by omega) (by omega)
    rw [ht] at this
    simp only [Bool.not_true, Bool.false_or] at this
    rw [show 2 * (N : Int) = ((2 * N : Nat) : Int) by push_cast; rfl]
    exact this
  · left; decide
theorem three_times {N : Nat} (ht : threeIsB (N : Int) = true) : (2000 : Int) < 4 * (N : Int) ∨ threeIsB (4 * (N : Int)) = true := by
  by_cases h : (2000 : Int) < 4 * (N : Int)
  · exact .inl h
  · right
    rw [show 4 * (N : Int) = ((4 * N : Nat) : Int) by push_cast; rfl]
    have hs : sumB ((4 * N : Nat) : Int) = true := by unfold sumB inR; simp; omega
    have hs2 : sumB (N : Int) = true := by unfold sumB inR; simp; omega
    rw [threeIs_yes hs]
    rw [threeIs_yes hs2] at ht
    rcases Nat.eq_zero_or_pos N with e | e
    · subst e; rfl
    · rw [strip_step (n := 4 * N) (by omega) (by omega), show 4 * N / 4 = N by omega]; exact ht
theorem sum_cases8 {n : Int} (h : DrawnS n) : sumB n = false ∨ ∃ N : Nat, n = (N : Int) ∧ sumB n = true ∧ (N < 495 ∨ N = 2000) := by
  rcases sumB_cases n with ⟨a, b, c⟩ | ⟨_, c⟩ | ⟨_, _, c⟩
  · obtain ⟨N, rfl⟩ := Int.eq_ofNat_of_zero_le a
    exact .inr ⟨N, rfl, c, by unfold DrawnS at h; omega⟩
  · exact .inl c
  · exact .inl c
theorem many_yes8 {c : Nat} {n : Int} {w w' : World} {e : Ending} {l : List Int} (h : sumB n = true) (hl : lvl c n 0 = some l) (hp : ManyPost c n w e w') : ∃ v, e = .returned (.tuple #[v, .bool true]) ∧ Owns w' w.heap.size v l ∧ Below w.heap.size w w' := by
  have em : manyO c n = some l := by unfold manyO; rw [if_pos h, hl]
  unfold ManyPost at hp
  rw [em] at hp
  exact hp
theorem many_no8 {c : Nat} {n : Int} {w w' : World} {e : Ending} (h : manyO c n = none) (hp : ManyPost c n w e w') : ∃ v, e = .returned (.tuple #[v, .bool false]) ∧ Owns w' w.heap.size v [] ∧ Below w.heap.size w w' := by
  unfold ManyPost at hp
  rw [h] at hp
  exact hp
theorem dec_same (l : List Int) : decide (l = l) = true := by simp

set_option maxRecDepth 100000 in
set_option maxHeartbeats 2000000 in
theorem threeIsE_any (n : Int) (w : World) : Calls Try.prog 29 #[.int .i64 n] w fun e w' => e = .returned (.bool (threeIsB n)) ∧ w = w' := by
  have HS0 := hid (fun w : World => summed_any n w)
  rcases sumB_cases n with ⟨n0, n2, H⟩ | ⟨n0, H⟩ | ⟨n0, n2, H⟩
  · rw [H] at HS0
    obtain ⟨N, rfl⟩ := Int.eq_ofNat_of_zero_le n0
    have HF := hid (threeIs_yes H)
    have hN2 : N ≤ 2000 := by omega
    clear H
    go_enter Try.func29, Try.ntmps29
    go_wp2_with (go_at_call 60; refine (HS0.out _).mono ?_; rintro e w' ⟨rfl, rfl⟩)
    go_loop [3] (fun sn => ∃ M : Nat, sn = .int .i64 M ∧ M ≤ 2000 ∧ Hid (stripN M = stripN N)) (fun sn => (intOf sn).toNat)
    case atStart => exact ⟨N, rfl, hN2, hid rfl⟩
    case round =>
      obtain ⟨M, rfl, hM, HS⟩ := hrel
      by_cases hc : 0 < M ∧ M % 4 = 0
      · have T := mod4_is hc.2
        have hp : 0 < (M : Int) := by omega
        have HD := hid ((strip_step hc.1 hc.2).symm.trans HS.out)
        have hq : M / 4 < M := by omega
        clear hc
        go_wp2
        go_round
        case measure => simp only [intOf]; omega
        case rel => exact ⟨M / 4, by go_num, by omega, HD⟩
      · have HE := hid (three_end HS.out hc)
        rcases Nat.eq_zero_or_pos M with e | e
        · subst e
          go_wp2
          go_ret
          exact ⟨retB (by rw [HF.out]; exact HE.out), rfl⟩
        · have T := mod4_not (D := M) (k := 0) (by omega)
          have hp : 0 < (M : Int) := by omega
          clear hc
          go_wp2
          go_ret
          exact ⟨retB (by rw [HF.out]; exact HE.out), rfl⟩
  all_goals
    rw [H] at HS0
    have HF := hid (threeIs_no H)
    clear H
    go_enter Try.func29, Try.ntmps29
    go_wp2_with (go_at_call 60; refine (HS0.out _).mono ?_; rintro e w' ⟨rfl, rfl⟩)
    go_ret
    exact ⟨retB HF.out.symm, rfl⟩

end Go.Proofs.Ytdclmjmefkgbbab
