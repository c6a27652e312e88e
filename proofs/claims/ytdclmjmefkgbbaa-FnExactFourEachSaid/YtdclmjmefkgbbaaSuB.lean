/-
  Contracts of the model's chapter 8: sums of squares.
-/
import Derived.Test.YtdclmjmefkgbbaaSuA
import Derived.Test.YtdclmjmefkgbbaaQBun3
import Derived.Maps.AppendAt
import Derived.Shelf.Abstract
set_option linter.unusedVariables false
namespace Go.Proofs.Ytdclmjmefkgbbaa
open Go.RowKit

theorem sumB_cases (n : Int) : (0 ≤ n ∧ n ≤ 2000 ∧ sumB n = true) ∨ (n < 0 ∧ sumB n = false) ∨ (0 ≤ n ∧ 2000 < n ∧ sumB n = false) := inR_cases n 0 2000
theorem sum1_cases (n : Int) : (1 ≤ n ∧ n ≤ 2000 ∧ sum1 n = true) ∨ (n < 1 ∧ sum1 n = false) ∨ (1 ≤ n ∧ 2000 < n ∧ sum1 n = false) := inR_cases n 1 2000
def rtV (n : Int) : Int := (rtO n).elim (-1) (fun z : Nat => (z : Int))
theorem rtV_some {n : Int} {z : Nat} (h : rtO n = some z) : rtV n = (z : Int) := by unfold rtV; rw [h]; rfl
theorem rtV_none {n : Int} (h : rtO n = none) : rtV n = -1 := by unfold rtV; rw [h]; rfl
theorem mul2_eq (x : Int) : 2 * x * x = 2 * (x * x) := Int.mul_assoc 2 x x
theorem mul3_eq (x : Int) : 3 * x * x = 3 * (x * x) := Int.mul_assoc 3 x x
theorem mul4_eq (x : Int) : 4 * x * x = 4 * (x * x) := Int.mul_assoc 4 x x
theorem lvlF_some {c : Nat} {n x : Int} {l : List Int} (h : ((c : Int) + 1) * x * x ≤ n) (hl : lvl c (n - x * x) x = some l) : lvlF c n x = some (x :: l) := by rw [lvlF_yes h, hl]; rfl
theorem lvlF_none {c : Nat} {n x : Int} (h : ((c : Int) + 1) * x * x ≤ n) (hl : lvl c (n - x * x) x = none) : lvlF c n x = none := by rw [lvlF_yes h, hl]; rfl
theorem one_some {m x : Int} {z : Nat} (hx : 0 ≤ x) (h : x * x ≤ m) (hm : m ≤ 2000) (hz : rtO m = some z) : lvl 1 m x = some [(z : Int)] := by rw [lvl_one hx h hm, hz]; rfl
theorem one_none {m x : Int} (hx : 0 ≤ x) (h : x * x ≤ m) (hm : m ≤ 2000) (hz : rtO m = none) : lvl 1 m x = none := by rw [lvl_one hx h hm, hz]; rfl
def TwoFPost (n : Int) (e : Ending) : Prop := e = .returned (twoFindV n)
theorem twoF_some {n x y : Int} (h : sumB n = true) (hl : lvl 2 n 0 = some [x, y]) : Ending.returned (.tuple #[.int .i64 x, .int .i64 y, .bool true]) = .returned (twoFindV n) := by
  unfold twoFindV; rw [if_pos h, hl]; rfl
theorem twoF_none {n : Int} (hl : lvl 2 n 0 = none) : Ending.returned (.tuple #[.int .i64 0, .int .i64 0, .bool false]) = .returned (twoFindV n) := by
  unfold twoFindV
  split
  · rw [hl]
  · rfl
theorem twoF_out {n : Int} (h : sumB n = false) : Ending.returned (.tuple #[.int .i64 0, .int .i64 0, .bool false]) = .returned (twoFindV n) := by
  unfold twoFindV; rw [h]; rfl
theorem world_row9 (w : World) (cs : Array Value) (l : List Int) (hc : cs.toList = l.map (Value.int .i64)) (hm : l.length ≤ 1000) : Owns (w.alloc (.cells cs 3)) w.heap.size (.slice (some ⟨w.heap.size, 0, none⟩) l.length l.length) l := by
  have hs : cs.size = l.length := by rw [← Array.length_toList, hc, List.length_map]
  unfold Owns
  rw [← hc]
  exact ⟨by rw [Array.length_toList, hs, Nat.mul_one], .inr ⟨w.heap.size, l.length, cs, rfl, Nat.le_refl _, heap_alloc_new w _, Nat.le_refl _, by unfold maxLen; omega, by rw [hs, Nat.mul_one], by rw [Nat.mul_one, ← hs, ← Array.length_toList, List.take_length]⟩⟩
def ManyPost (c : Nat) (n : Int) (w : World) (e : Ending) (w' : World) : Prop := ∃ v, e = .returned (.tuple #[v, .bool (manyO c n).isSome]) ∧ Owns w' w.heap.size v ((manyO c n).getD []) ∧ Below w.heap.size w w'
theorem many_some {c : Nat} {n : Int} {l : List Int} {w : World} {cs : Array Value} (h : sumB n = true) (hl : lvl c n 0 = some l) (hc : cs.toList = l.map (Value.int .i64)) (hm : l.length ≤ 1000) :
    ManyPost c n w (.returned (.tuple #[.slice (some ⟨w.heap.size, 0, none⟩) l.length l.length, .bool true])) (w.alloc (.cells cs 3)) := by
  have e : manyO c n = some l := by unfold manyO; rw [if_pos h, hl]
  unfold ManyPost
  rw [e]
  refine ⟨_, rfl, ?_, (Below.refl _ _).alloc (Nat.le_refl _) _⟩
  exact world_row9 w cs l hc hm
theorem many_none {c : Nat} {n : Int} {w : World} (h : manyO c n = none) :
    ManyPost c n w (.returned (.tuple #[.slice (some ⟨w.heap.size, 0, none⟩) 0 0, .bool false])) (w.alloc (.cells #[] 3)) := by
  unfold ManyPost
  rw [h]
  exact ⟨_, rfl, World.ownsRow_made (size := 1) w #[] 0 (Nat.le_refl _) (by unfold maxLen; omega) rfl, (Below.refl _ _).alloc (Nat.le_refl _) _⟩
theorem manyO_no {c : Nat} {n : Int} (h : sumB n = false) : manyO c n = none := by unfold manyO; rw [h]; rfl
theorem manyO_none {c : Nat} {n : Int} (h : lvl c n 0 = none) : manyO c n = none := by unfold manyO; split; exact h; rfl

theorem l8Sum_any (n low : Int) (w : World) : Calls Try.prog 49 #[.int .i64 n, .int .i64 low] w fun e w' => e = .returned (.bool (inR n low 2000)) ∧ w = w' := by
  go_enter Try.func49, Try.ntmps49
  go_wp2_with (go_at_call 63; refine (l6In_any _ _ _ _).mono ?_; rintro e w' ⟨rfl, rfl⟩)
  go_ret
  exact ⟨rfl, rfl⟩

set_option maxRecDepth 100000 in
set_option maxHeartbeats 1000000 in
theorem l5RootL_any (n : Int) (n0 : 0 ≤ n) (n1 : n ≤ 2000) (w : World) : Calls Try.prog 54 #[.int .i64 n] w fun e w' => e = .returned (.int .i64 (rtV n)) ∧ w = w' := by
  go_enter Try.func54, Try.ntmps54
  go_wp2
  go_loop [3, 4] (fun sl sh => ∃ L H : Nat, sl = .int .i64 L ∧ sh = .int .i64 H ∧ L ≤ H ∧ H ≤ 1048576 ∧ Hid (∀ r : Nat, r < L → (r : Int) * r < n) ∧ Hid (n ≤ (H : Int) * H)) (fun sl sh => (intOf sh - intOf sl).toNat)
  case atStart => exact ⟨0, 1048576, rfl, rfl, by omega, by omega, hid (fun r hr => by omega), hid (by omega)⟩
  case round =>
    obtain ⟨L, H, rfl, rfl, hLH, hH, HL, HH⟩ := hrel
    by_cases hlt : L < H
    · have hi : (L : Int) < (H : Int) := by omega
      obtain ⟨M, hM⟩ : ∃ M, M = (L + H) / 2 := ⟨_, rfl⟩
      have eM : ((L : Int) + (H : Int)) / 2 = (M : Int) := by omega
      have eM2 : ((L : Int) + (H : Int)).tdiv 2 = (M : Int) := by rw [Int.tdiv_eq_ediv_of_nonneg (by omega)]; exact eM
      have hM1 : L ≤ M := by omega
      have hM2 : M < H := by omega
      have hMM := mul_bd (show M ≤ 1048576 by omega) (show M ≤ 1048576 by omega)
      clear hM
      by_cases hm : (M : Int) * M < n
      · have HM := hid hm
        go_wp2
        go_round
        case measure => simp only [intOf]; omega
        case rel => exact ⟨M + 1, H, by go_num, rfl, by omega, hH, hid (fun r hr => by
          have := sq_mono (show r ≤ M by omega)
          have := HM.out
          omega), HH⟩
      · have HM := hid hm
        go_wp2
        go_round
        case measure => simp only [intOf]; omega
        case rel => exact ⟨L, M, rfl, rfl, hM1, by omega, HL, hid (by have := HM.out; omega)⟩
    · obtain rfl : L = H := by omega
      have hMM := mul_bd (show L ≤ 1048576 by omega) (show L ≤ 1048576 by omega)
      by_cases he : (L : Int) * L = n
      · have T : ((L : Int) * L == n) = true := by rw [beq_iff_eq]; exact he
        have HR := hid (rtV_some (rtO_of he))
        clear he
        go_wp2
        go_ret
        exact ⟨retI HR.out.symm, rfl⟩
      · have T : ((L : Int) * L == n) = false := by rw [beq_eq_false_iff_ne]; exact he
        have HR : Hid (rtV n = -1) := hid (rtV_none (rtO_none fun z hz => by
          rcases Nat.lt_trichotomy z L with h | h | h
          · have := HL.out z h; omega
          · subst h; exact he hz
          · have h2 := sq_mono (Nat.le_of_lt h)
            have := HH.out
            omega))
        clear he
        go_wp2
        go_ret
        exact ⟨retI HR.out.symm, rfl⟩

set_option maxRecDepth 100000 in
set_option maxHeartbeats 2000000 in
theorem twoFindS_any (n : Int) (w : World) : Calls Try.prog 19 #[.int .i64 n] w fun e w' => e = .returned (twoFindV n) ∧ Below w.heap.size w w' := by
  rcases sumB_cases n with ⟨n0, n2, H⟩ | ⟨n0, H⟩ | ⟨n0, n2, H⟩
  · have HS0 := hid (fun w : World => l8Sum_any n 0 w)
    rw [show inR n 0 2000 = true from H] at HS0
    have HH := hid H
    clear H
    go_enter Try.func19, Try.ntmps19
    go_wp2
    go_loop [5] (fun sx => ∃ K f : Nat, sx = .int .i64 K ∧ K + f = 64 ∧ K ≤ 45 ∧ Hid (lvl 2 n 0 = scanO (lvlF 1 n) f K)) (fun sx => 50 - (intOf sx).toNat)
    case atStart => exact ⟨0, 64, rfl, rfl, by omega, hid (lvl_succ 1 n 0)⟩
    case round =>
      obtain ⟨K, f, rfl, hf, hK, HS⟩ := hrel
      obtain ⟨g, rfl⟩ : ∃ g, f = g + 1 := ⟨f - 1, by omega⟩
      have hKK := mul_bd (show K ≤ 45 by omega) (show K ≤ 45 by omega)
      have hm := mul2_eq (K : Int)
      by_cases hc : 2 * (K : Int) * K ≤ n
      · have hc1 : (((1 : Nat) : Int) + 1) * (K : Int) * K ≤ n := hc
        have h44 := sq_small (c := 2) (x := (K : Int)) (by omega) (by omega) (by omega)
        have b1 : 0 ≤ 2 * (K : Int) * K := by omega
        have b2 : n - (K : Int) * K ≤ 2000 := by omega
        have b3 : 0 ≤ n - (K : Int) * K := by omega
        have HR := hid (fun w : World => l5RootL_any (n - (K : Int) * K) b3 b2 w)
        cases e : rtO (n - (K : Int) * K) with
        | some z =>
          rw [rtV_some e] at HR
          have HF := hid (twoF_some HH.out (HS.out.trans (scan_some (lvlF_some hc1 (one_some (by omega) (by omega) b2 e)))))
          clear e hc1 hm
          go_wp2_with (first | (go_at_call 54; refine (HR.out _).mono ?_; rintro e w' ⟨rfl, rfl⟩) | (go_at_call 49; refine (HS0.out _).mono ?_; rintro e w' ⟨rfl, rfl⟩))
          go_ret3
          exact ⟨HF.out, Below.refl _ _⟩
        | none =>
          rw [rtV_none e] at HR
          have HF := hid (HS.out.trans (scan_skip (lvlF_none hc1 (one_none (by omega) (by omega) b2 e))))
          clear e hc1 hm
          go_wp2_with (first | (go_at_call 54; refine (HR.out _).mono ?_; rintro e w' ⟨rfl, rfl⟩) | (go_at_call 49; refine (HS0.out _).mono ?_; rintro e w' ⟨rfl, rfl⟩))
          go_round
          case measure => simp only [intOf]; omega
          case rel => exact ⟨K + 1, g, by go_num, by omega, by omega, hid (by rw [HF.out]; rfl)⟩
      · have b1 : 0 ≤ 2 * (K : Int) * K ∧ 2 * (K : Int) * K ≤ 4050 := by omega
        have HF := hid (twoF_none (HS.out.trans (scan_none _ _ (lvlF_stop (c := 1) (by omega) hc))))
        clear hm
        go_wp2
        go_ret3
        exact ⟨HF.out, Below.refl _ _⟩
  · have HF := hid (twoF_out H)
    go_enter Try.func19, Try.ntmps19
    go_wp2
    go_loop [5] (fun sx => sx = .int .i64 0) (fun _ => 0)
    case atStart => rfl
    case round =>
      subst hrel
      go_wp2
      go_ret3
      exact ⟨HF.out, Below.refl _ _⟩
  · have HF := hid (twoF_out H)
    have HS0 := hid (fun w : World => l8Sum_any n 0 w)
    rw [show inR n 0 2000 = false from H] at HS0
    go_enter Try.func19, Try.ntmps19
    go_wp2
    go_loop [5] (fun sx => sx = .int .i64 0) (fun _ => 0)
    case atStart => rfl
    case round =>
      subst hrel
      go_wp2_with (go_at_call 49; refine (HS0.out _).mono ?_; rintro e w' ⟨rfl, rfl⟩)
      go_ret3
      exact ⟨HF.out, Below.refl _ _⟩

set_option maxRecDepth 100000 in
set_option maxHeartbeats 4000000 in
theorem threeFindS_any (n : Int) (w : World) : Calls Try.prog 27 #[.int .i64 n] w fun e w' => ManyPost 3 n w e w' := by
  rcases sumB_cases n with ⟨n0, n2, H⟩ | ⟨n0, H⟩ | ⟨n0, n2, H⟩
  · have HS8 := hid (fun w : World => l8Sum_any n 0 w)
    rw [show inR n 0 2000 = true from H] at HS8
    have HH := hid H
    clear H
    go_enter Try.func27, Try.ntmps27
    go_wp2
    go_loop [4] (fun sx => ∃ X f : Nat, sx = .int .i64 X ∧ X + f = 0 + 64 ∧ X ≤ 45 ∧ Hid (lvl 3 (n) 0 = scanO (lvlF 2 (n)) f X)) (fun sx => 50 - (intOf sx).toNat)
    case atStart => exact ⟨0, 64, rfl, by omega, by omega, hid (lvl_succ 2 (n) 0)⟩
    case round =>
      obtain ⟨X, f0, rfl, hf0, hXb, HS0⟩ := hrel
      obtain ⟨g0, rfl⟩ : ∃ g, f0 = g + 1 := ⟨f0 - 1, by omega⟩
      have hq0 := mul_bd (show X ≤ 45 by omega) (show X ≤ 45 by omega)
      have hm0 := mul3_eq (X : Int)
      by_cases hc0 : 3 * (X : Int) * X ≤ n
      · have hd0 : (((2 : Nat) : Int) + 1) * (X : Int) * X ≤ n := hc0
        have h440 := sq_small (c := 3) (x := (X : Int)) (by omega) (by omega) (by omega)
        have b10 : 0 ≤ 3 * (X : Int) * X := by omega
        have b20 : n - (X : Int) * X ≤ 2000 := by omega
        have b30 : 0 ≤ n - (X : Int) * X := by omega
        have b40 : (X : Int) * X ≤ n - (X : Int) * X := by omega
        have HD0 := hid hd0
        clear hd0 hm0
        go_wp2_with (first | (go_at_call 49; refine (HS8.out _).mono ?_; rintro e w' ⟨rfl, rfl⟩))
        go_loop [5] (fun sx => ∃ Y f : Nat, sx = .int .i64 Y ∧ Y + f = X + 64 ∧ Y ≤ 45 ∧ X ≤ Y ∧ Hid (lvl 2 (n - (X : Int) * X) (X : Int) = scanO (lvlF 1 (n - (X : Int) * X)) f Y)) (fun sx => 50 - (intOf sx).toNat)
        case atStart => exact ⟨X, 64, rfl, by omega, by omega, Nat.le_refl _, hid (lvl_succ 1 (n - (X : Int) * X) (X : Int))⟩
        case round =>
          obtain ⟨Y, f1, rfl, hf1, hYb, hYl, HS1⟩ := hrel
          obtain ⟨g1, rfl⟩ : ∃ g, f1 = g + 1 := ⟨f1 - 1, by omega⟩
          have hq1 := mul_bd (show Y ≤ 45 by omega) (show Y ≤ 45 by omega)
          have hm1 := mul2_eq (Y : Int)
          by_cases hc1 : 2 * (Y : Int) * Y ≤ n - (X : Int) * X
          · have hd1 : (((1 : Nat) : Int) + 1) * (Y : Int) * Y ≤ n - (X : Int) * X := hc1
            have h441 := sq_small (c := 2) (x := (Y : Int)) (by omega) (by omega) (by omega)
            have b11 : 0 ≤ 2 * (Y : Int) * Y := by omega
            have b21 : n - (X : Int) * X - (Y : Int) * Y ≤ 2000 := by omega
            have b31 : 0 ≤ n - (X : Int) * X - (Y : Int) * Y := by omega
            have b41 : (Y : Int) * Y ≤ n - (X : Int) * X - (Y : Int) * Y := by omega
            have HD1 := hid hd1
            clear hd1 hm1
            have HR := hid (fun w : World => l5RootL_any (n - (X : Int) * X - (Y : Int) * Y) b31 b21 w)
            cases e : rtO (n - (X : Int) * X - (Y : Int) * Y) with
            | some z =>
              rw [rtV_some e] at HR
              have HF := hid (many_some (w := w) (cs := #[.int .i64 X, .int .i64 Y, .int .i64 z]) HH.out (HS0.out.trans (scan_some (lvlF_some HD0.out (HS1.out.trans (scan_some (lvlF_some HD1.out (one_some (by omega) b41 b21 e))))))) rfl (by simp))
              clear e
              go_wp2_with (first | (go_at_call 54; refine (HR.out _).mono ?_; rintro e w' ⟨rfl, rfl⟩) | (go_at_call 49; refine (HS8.out _).mono ?_; rintro e w' ⟨rfl, rfl⟩))
              go_ret2
              exact HF.out
            | none =>
              rw [rtV_none e] at HR
              have HF := hid (HS1.out.trans (scan_skip (lvlF_none HD1.out (one_none (by omega) b41 b21 e))))
              clear e
              go_wp2_with (first | (go_at_call 54; refine (HR.out _).mono ?_; rintro e w' ⟨rfl, rfl⟩) | (go_at_call 49; refine (HS8.out _).mono ?_; rintro e w' ⟨rfl, rfl⟩))
              go_round
              case measure => simp only [intOf]; omega
              case rel => exact ⟨Y + 1, g1, by go_num, by omega, by omega, by omega, hid (by rw [HF.out]; rfl)⟩
          · have b11 : 0 ≤ 2 * (Y : Int) * Y ∧ 2 * (Y : Int) * Y ≤ 8100 := by omega
            have HN1 := hid (HS1.out.trans (scan_none _ _ (lvlF_stop (c := 1) (by omega) hc1)))
            clear hm1
            have HF := hid (HS0.out.trans (scan_skip (lvlF_none HD0.out HN1.out)))
            go_wp2
            go_round
            case measure => simp only [intOf]; omega
            case rel => exact ⟨X + 1, g0, by go_num, by omega, by omega, hid (by rw [HF.out]; rfl)⟩
      · have b10 : 0 ≤ 3 * (X : Int) * X ∧ 3 * (X : Int) * X ≤ 8100 := by omega
        have HN0 := hid (HS0.out.trans (scan_none _ _ (lvlF_stop (c := 2) (by omega) hc0)))
        clear hm0
        have HF := hid (many_none (w := w) (manyO_none HN0.out))
        go_wp2
        go_ret2
        exact HF.out
  · have HF := hid (many_none (w := w) (manyO_no (c := 3) H))
    go_enter Try.func27, Try.ntmps27
    go_wp2
    go_loop [4] (fun sx => sx = .int .i64 0) (fun _ => 0)
    case atStart => rfl
    case round =>
      subst hrel
      go_wp2
      go_ret2
      exact HF.out
  · have HF := hid (many_none (w := w) (manyO_no (c := 3) H))
    have HS8 := hid (fun w : World => l8Sum_any n 0 w)
    rw [show inR n 0 2000 = false from H] at HS8
    go_enter Try.func27, Try.ntmps27
    go_wp2
    go_loop [4] (fun sx => sx = .int .i64 0) (fun _ => 0)
    case atStart => rfl
    case round =>
      subst hrel
      go_wp2_with (go_at_call 49; refine (HS8.out _).mono ?_; rintro e w' ⟨rfl, rfl⟩)
      go_ret2
      exact HF.out

set_option maxRecDepth 100000 in
set_option maxHeartbeats 4000000 in
theorem fourFindS_any (n : Int) (w : World) : Calls Try.prog 36 #[.int .i64 n] w fun e w' => ManyPost 4 n w e w' := by
  rcases sumB_cases n with ⟨n0, n2, H⟩ | ⟨n0, H⟩ | ⟨n0, n2, H⟩
  · have HS8 := hid (fun w : World => l8Sum_any n 0 w)
    rw [show inR n 0 2000 = true from H] at HS8
    have HH := hid H
    clear H
    go_enter Try.func36, Try.ntmps36
    go_wp2
    go_loop [4] (fun sx => ∃ X f : Nat, sx = .int .i64 X ∧ X + f = 0 + 64 ∧ X ≤ 45 ∧ Hid (lvl 4 (n) 0 = scanO (lvlF 3 (n)) f X)) (fun sx => 50 - (intOf sx).toNat)
    case atStart => exact ⟨0, 64, rfl, by omega, by omega, hid (lvl_succ 3 (n) 0)⟩
    case round =>
      obtain ⟨X, f0, rfl, hf0, hXb, HS0⟩ := hrel
      obtain ⟨g0, rfl⟩ : ∃ g, f0 = g + 1 := ⟨f0 - 1, by omega⟩
      have hq0 := mul_bd (show X ≤ 45 by omega) (show X ≤ 45 by omega)
      have hm0 := mul4_eq (X : Int)
      by_cases hc0 : 4 * (X : Int) * X ≤ n
      · have hd0 : (((3 : Nat) : Int) + 1) * (X : Int) * X ≤ n := hc0
        have h440 := sq_small (c := 4) (x := (X : Int)) (by omega) (by omega) (by omega)
        have b10 : 0 ≤ 4 * (X : Int) * X := by omega
        have b20 : n - (X : Int) * X ≤ 2000 := by omega
        have b30 : 0 ≤ n - (X : Int) * X := by omega
        have b40 : (X : Int) * X ≤ n - (X : Int) * X := by omega
        have HD0 := hid hd0
        clear hd0 hm0
        go_wp2_with (first | (go_at_call 49; refine (HS8.out _).mono ?_; rintro e w' ⟨rfl, rfl⟩))
        go_loop [5] (fun sx => ∃ Y f : Nat, sx = .int .i64 Y ∧ Y + f = X + 64 ∧ Y ≤ 45 ∧ X ≤ Y ∧ Hid (lvl 3 (n - (X : Int) * X) (X : Int) = scanO (lvlF 2 (n - (X : Int) * X)) f Y)) (fun sx => 50 - (intOf sx).toNat)
        case atStart => exact ⟨X, 64, rfl, by omega, by omega, Nat.le_refl _, hid (lvl_succ 2 (n - (X : Int) * X) (X : Int))⟩
        case round =>
          obtain ⟨Y, f1, rfl, hf1, hYb, hYl, HS1⟩ := hrel
          obtain ⟨g1, rfl⟩ : ∃ g, f1 = g + 1 := ⟨f1 - 1, by omega⟩
          have hq1 := mul_bd (show Y ≤ 45 by omega) (show Y ≤ 45 by omega)
          have hm1 := mul3_eq (Y : Int)
          by_cases hc1 : 3 * (Y : Int) * Y ≤ n - (X : Int) * X
          · have hd1 : (((2 : Nat) : Int) + 1) * (Y : Int) * Y ≤ n - (X : Int) * X := hc1
            have h441 := sq_small (c := 3) (x := (Y : Int)) (by omega) (by omega) (by omega)
            have b11 : 0 ≤ 3 * (Y : Int) * Y := by omega
            have b21 : n - (X : Int) * X - (Y : Int) * Y ≤ 2000 := by omega
            have b31 : 0 ≤ n - (X : Int) * X - (Y : Int) * Y := by omega
            have b41 : (Y : Int) * Y ≤ n - (X : Int) * X - (Y : Int) * Y := by omega
            have HD1 := hid hd1
            clear hd1 hm1
            go_wp2_with (first | (go_at_call 49; refine (HS8.out _).mono ?_; rintro e w' ⟨rfl, rfl⟩))
            go_loop [6] (fun sx => ∃ Z f : Nat, sx = .int .i64 Z ∧ Z + f = Y + 64 ∧ Z ≤ 45 ∧ Y ≤ Z ∧ Hid (lvl 2 (n - (X : Int) * X - (Y : Int) * Y) (Y : Int) = scanO (lvlF 1 (n - (X : Int) * X - (Y : Int) * Y)) f Z)) (fun sx => 50 - (intOf sx).toNat)
            case atStart => exact ⟨Y, 64, rfl, by omega, by omega, Nat.le_refl _, hid (lvl_succ 1 (n - (X : Int) * X - (Y : Int) * Y) (Y : Int))⟩
            case round =>
              obtain ⟨Z, f2, rfl, hf2, hZb, hZl, HS2⟩ := hrel
              obtain ⟨g2, rfl⟩ : ∃ g, f2 = g + 1 := ⟨f2 - 1, by omega⟩
              have hq2 := mul_bd (show Z ≤ 45 by omega) (show Z ≤ 45 by omega)
              have hm2 := mul2_eq (Z : Int)
              by_cases hc2 : 2 * (Z : Int) * Z ≤ n - (X : Int) * X - (Y : Int) * Y
              · have hd2 : (((1 : Nat) : Int) + 1) * (Z : Int) * Z ≤ n - (X : Int) * X - (Y : Int) * Y := hc2
                have h442 := sq_small (c := 2) (x := (Z : Int)) (by omega) (by omega) (by omega)
                have b12 : 0 ≤ 2 * (Z : Int) * Z := by omega
                have b22 : n - (X : Int) * X - (Y : Int) * Y - (Z : Int) * Z ≤ 2000 := by omega
                have b32 : 0 ≤ n - (X : Int) * X - (Y : Int) * Y - (Z : Int) * Z := by omega
                have b42 : (Z : Int) * Z ≤ n - (X : Int) * X - (Y : Int) * Y - (Z : Int) * Z := by omega
                have HD2 := hid hd2
                clear hd2 hm2
                have HR := hid (fun w : World => l5RootL_any (n - (X : Int) * X - (Y : Int) * Y - (Z : Int) * Z) b32 b22 w)
                cases e : rtO (n - (X : Int) * X - (Y : Int) * Y - (Z : Int) * Z) with
                | some z =>
                  rw [rtV_some e] at HR
                  have HF := hid (many_some (w := w) (cs := #[.int .i64 X, .int .i64 Y, .int .i64 Z, .int .i64 z]) HH.out (HS0.out.trans (scan_some (lvlF_some HD0.out (HS1.out.trans (scan_some (lvlF_some HD1.out (HS2.out.trans (scan_some (lvlF_some HD2.out (one_some (by omega) b42 b22 e)))))))))) rfl (by simp))
                  clear e
                  go_wp2_with (first | (go_at_call 54; refine (HR.out _).mono ?_; rintro e w' ⟨rfl, rfl⟩) | (go_at_call 49; refine (HS8.out _).mono ?_; rintro e w' ⟨rfl, rfl⟩))
                  go_ret2
                  exact HF.out
                | none =>
                  rw [rtV_none e] at HR
                  have HF := hid (HS2.out.trans (scan_skip (lvlF_none HD2.out (one_none (by omega) b42 b22 e))))
                  clear e
                  go_wp2_with (first | (go_at_call 54; refine (HR.out _).mono ?_; rintro e w' ⟨rfl, rfl⟩) | (go_at_call 49; refine (HS8.out _).mono ?_; rintro e w' ⟨rfl, rfl⟩))
                  go_round
                  case measure => simp only [intOf]; omega
                  case rel => exact ⟨Z + 1, g2, by go_num, by omega, by omega, by omega, hid (by rw [HF.out]; rfl)⟩
              · have b12 : 0 ≤ 2 * (Z : Int) * Z ∧ 2 * (Z : Int) * Z ≤ 8100 := by omega
                have HN2 := hid (HS2.out.trans (scan_none _ _ (lvlF_stop (c := 1) (by omega) hc2)))
                clear hm2
                have HF := hid (HS1.out.trans (scan_skip (lvlF_none HD1.out HN2.out)))
                go_wp2
                go_round
                case measure => simp only [intOf]; omega
                case rel => exact ⟨Y + 1, g1, by go_num, by omega, by omega, by omega, hid (by rw [HF.out]; rfl)⟩
          · have b11 : 0 ≤ 3 * (Y : Int) * Y ∧ 3 * (Y : Int) * Y ≤ 8100 := by omega
            have HN1 := hid (HS1.out.trans (scan_none _ _ (lvlF_stop (c := 2) (by omega) hc1)))
            clear hm1
            have HF := hid (HS0.out.trans (scan_skip (lvlF_none HD0.out HN1.out)))
            go_wp2
            go_round
            case measure => simp only [intOf]; omega
            case rel => exact ⟨X + 1, g0, by go_num, by omega, by omega, hid (by rw [HF.out]; rfl)⟩
      · have b10 : 0 ≤ 4 * (X : Int) * X ∧ 4 * (X : Int) * X ≤ 8100 := by omega
        have HN0 := hid (HS0.out.trans (scan_none _ _ (lvlF_stop (c := 3) (by omega) hc0)))
        clear hm0
        have HF := hid (many_none (w := w) (manyO_none HN0.out))
        go_wp2
        go_ret2
        exact HF.out
  · have HF := hid (many_none (w := w) (manyO_no (c := 4) H))
    go_enter Try.func36, Try.ntmps36
    go_wp2
    go_loop [4] (fun sx => sx = .int .i64 0) (fun _ => 0)
    case atStart => rfl
    case round =>
      subst hrel
      go_wp2
      go_ret2
      exact HF.out
  · have HF := hid (many_none (w := w) (manyO_no (c := 4) H))
    have HS8 := hid (fun w : World => l8Sum_any n 0 w)
    rw [show inR n 0 2000 = false from H] at HS8
    go_enter Try.func36, Try.ntmps36
    go_wp2
    go_loop [4] (fun sx => sx = .int .i64 0) (fun _ => 0)
    case atStart => rfl
    case round =>
      subst hrel
      go_wp2_with (go_at_call 49; refine (HS8.out _).mono ?_; rintro e w' ⟨rfl, rfl⟩)
      go_ret2
      exact HF.out

end Go.Proofs.Ytdclmjmefkgbbaa
