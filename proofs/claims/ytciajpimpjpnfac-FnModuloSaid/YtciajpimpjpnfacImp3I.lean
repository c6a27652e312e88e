/-
  The program's triples that solve an equation up to a power of a prime: an iterator of three loops, its contract for every loop body.
-/
import Derived.Test.YtciajpimpjpnfacBun24
set_option linter.unusedVariables false
namespace Go.Proofs.Ytciajpimpjpnfac
open Go.RowKit Go.Shelf
attribute [local go_sem] Oper.semAt_some

/-- the triples, one after the other -/
def tzL (a b : Int) (P m x y : Nat) : Nat → List (Nat × Nat × Nat)
  | 0 => []
  | Z + 1 => tzL a b P m x y Z ++ (if hitB a b P m x y Z then [(x, y, Z)] else [])
def tyL (a b : Int) (P m x : Nat) : Nat → List (Nat × Nat × Nat)
  | 0 => []
  | Y + 1 => tyL a b P m x Y ++ tzL a b P m x Y m
def txL (a b : Int) (P m : Nat) : Nat → List (Nat × Nat × Nat)
  | 0 => []
  | X + 1 => txL a b P m X ++ tyL a b P m X m
def tripL (a b : Int) (P m : Nat) : List (Nat × Nat × Nat) := txL a b P m m
theorem tz_mono (a b : Int) (P m x y k : Nat) : ∀ n, k ≤ n → tzL a b P m x y k <+: tzL a b P m x y n
  | 0, h => by rw [show k = 0 by omega]; exact List.prefix_refl _
  | n + 1, h => by
    by_cases e : k = n + 1
    · rw [e]; exact List.prefix_refl _
    · exact (tz_mono a b P m x y k n (by omega)).trans (List.prefix_append _ _)
theorem ty_mono (a b : Int) (P m x k : Nat) : ∀ n, k ≤ n → tyL a b P m x k <+: tyL a b P m x n
  | 0, h => by rw [show k = 0 by omega]; exact List.prefix_refl _
  | n + 1, h => by
    by_cases e : k = n + 1
    · rw [e]; exact List.prefix_refl _
    · exact (ty_mono a b P m x k n (by omega)).trans (List.prefix_append _ _)
theorem tx_mono (a b : Int) (P m k : Nat) : ∀ n, k ≤ n → txL a b P m k <+: txL a b P m n
  | 0, h => by rw [show k = 0 by omega]; exact List.prefix_refl _
  | n + 1, h => by
    by_cases e : k = n + 1
    · rw [e]; exact List.prefix_refl _
    · exact (tx_mono a b P m k n (by omega)).trans (List.prefix_append _ _)
theorem trip_pre {a b : Int} {P m X Y Z : Nat} (hX : X < m) (hY : Y < m) (hZ : Z < m) (h : hitB a b P m X Y Z = true) : (txL a b P m X ++ tyL a b P m X Y ++ tzL a b P m X Y Z) ++ [(X, Y, Z)] <+: tripL a b P m := by
  have e1 : tzL a b P m X Y Z ++ [(X, Y, Z)] = tzL a b P m X Y (Z + 1) := by
    show _ = tzL a b P m X Y Z ++ (if hitB a b P m X Y Z then [(X, Y, Z)] else [])
    rw [h, if_pos rfl]
  have p1 := tz_mono a b P m X Y (Z + 1) m (by omega)
  have p2 := ty_mono a b P m X (Y + 1) m (by omega)
  have p3 := tx_mono a b P m (X + 1) m (by omega)
  rw [List.append_assoc, e1]
  have q1 : txL a b P m X ++ tyL a b P m X Y ++ tzL a b P m X Y (Z + 1) <+: txL a b P m X ++ tyL a b P m X (Y + 1) := by
    rw [List.append_assoc]
    exact (List.prefix_append_right_inj _).2 ((List.prefix_append_right_inj _).2 p1)
  have q2 : txL a b P m X ++ tyL a b P m X (Y + 1) <+: txL a b P m (X + 1) := (List.prefix_append_right_inj _).2 p2
  exact q1.trans (q2.trans p3)
theorem tz_len (a b : Int) (P m x y : Nat) : ∀ n, (tzL a b P m x y n).length ≤ n
  | 0 => Nat.le_refl _
  | n + 1 => by
    have := tz_len a b P m x y n
    unfold tzL
    rw [List.length_append]
    split <;> simp <;> omega
theorem ty_len (a b : Int) (P m x : Nat) : ∀ n, (tyL a b P m x n).length ≤ n * m
  | 0 => Nat.zero_le _
  | n + 1 => by
    have h1 := ty_len a b P m x n
    have h2 := tz_len a b P m x n m
    unfold tyL
    rw [List.length_append, Nat.succ_mul]
    omega
theorem tx_len (a b : Int) (P m : Nat) : ∀ n, (txL a b P m n).length ≤ n * (m * m)
  | 0 => Nat.zero_le _
  | n + 1 => by
    have h1 := tx_len a b P m n
    have h2 := ty_len a b P m n m
    unfold txL
    rw [List.length_append, Nat.succ_mul]
    omega
theorem trip_len {a b : Int} {P m : Nat} (hm : m ≤ 32) : (tripL a b P m).length ≤ 32768 := by
  have h := tx_len a b P m m
  have h2 := Nat.mul_le_mul hm (Nat.mul_le_mul hm hm)
  unfold tripL
  omega

theorem solve_eqz {V z : Int} {m : Nat} (hm : 0 < m) : ((z - V).tmod (m : Int) == 0) = ((V - z) % (m : Int) == 0) := by
  rw [Bool.eq_iff_iff, beq_iff_eq, beq_iff_eq]
  constructor
  · intro h
    have h1 := Int.dvd_of_tmod_eq_zero h
    have h2 : (m : Int) ∣ V - z := by
      have := Int.dvd_neg.2 h1
      rwa [Int.neg_sub] at this
    exact Int.emod_eq_zero_of_dvd h2
  · intro h
    have h1 := Int.dvd_of_emod_eq_zero h
    have h2 : (m : Int) ∣ z - V := by
      have := Int.dvd_neg.2 h1
      rwa [Int.neg_sub] at this
    exact Int.tmod_eq_zero_of_dvd h2
theorem modz {x P : Nat} : ((x : Int) % (P : Int) == 0) = (x % P == 0) := by
  rw [Bool.eq_iff_iff, beq_iff_eq, beq_iff_eq]
  omega

/-- what a round must keep: the four captured variables -/
def KpC (B : Nat) (W W' : World) : Prop := ∀ k, B ≤ k → k < B + 4 → W'.heap[k]? = W.heap[k]?
theorem KpC.refl (B : Nat) (W : World) : KpC B W W := fun _ _ _ => rfl
theorem KpC.trans {B : Nat} {W1 W2 W3 : World} (h : KpC B W1 W2) (k : KpC B W2 W3) : KpC B W1 W3 := fun j h1 h2 => (k j h1 h2).trans (h j h1 h2)
abbrev T3 := { t : Nat × Nat × Nat // t.1 ≤ 32 ∧ t.2.1 ≤ 32 ∧ t.2.2 ≤ 32 }
abbrev enc3 (t : Nat × Nat × Nat) : Array Value := #[.agg #[.int .i64 t.1, .int .i64 t.2.1, .int .i64 t.2.2]]
/-- the captured variables -/
def Capt (B : Nat) (a b : Int) (P m : Nat) (W : World) : Prop := Boxed W B 3 (.int .i64 a) ∧ Boxed W (B + 1) 3 (.int .i64 b) ∧ Boxed W (B + 2) 3 (.int .i64 P) ∧ Boxed W (B + 3) 3 (.int .i64 m)
theorem Capt.keep {B : Nat} {a b : Int} {P m : Nat} {W W' : World} (h : Capt B a b P m W) (hk : KpC B W W') : Capt B a b P m W' :=
  ⟨(hk B (Nat.le_refl _) (by omega)).trans h.1, (hk (B + 1) (by omega) (by omega)).trans h.2.1, (hk (B + 2) (by omega) (by omega)).trans h.2.2.1, (hk (B + 3) (by omega) (by omega)).trans h.2.2.2⟩

theorem solved_make (a b : Int) (P m : Nat) (w : World) :
    Calls Try.prog 56 #[.int .i64 a, .int .i64 b, .int .i64 P, .int .i64 m] w fun e w' => e = .returned (.func (.func 73) #[] #[.pointer (some ⟨w.heap.size + 3, 0, none⟩), .pointer (some ⟨w.heap.size, 0, none⟩), .pointer (some ⟨w.heap.size + 1, 0, none⟩), .pointer (some ⟨w.heap.size + 2, 0, none⟩)]) ∧
      w' = (((w.alloc (.cells #[.int .i64 a] 3)).alloc (.cells #[.int .i64 b] 3)).alloc (.cells #[.int .i64 P] 3)).alloc (.cells #[.int .i64 m] 3) := by
  go_enter Try.func56, Try.ntmps56
  go_wp2
  go_ret
  exact ⟨rfl, rfl⟩

set_option maxRecDepth 100000 in
set_option maxHeartbeats 8000000 in
theorem trip_in (n l B : Nat) (a b : Int) (P m : Nat) (a1 : -5000 ≤ a) (a2 : a ≤ 5000) (b1 : -5000 ≤ b) (b2 : b ≤ 5000) (hP1 : 2 ≤ P) (hP2 : P ≤ 5000) (hm1 : 1 ≤ m) (hm2 : m ≤ 32) (J Jx : List (Nat × Nat × Nat) → World → Prop)
    (hY : ∀ pre x W, J pre W → x.1 ≤ 32 → x.2.1 ≤ 32 → x.2.2 ≤ 32 → pre.length < (tripL a b P m).length → YieldAt Fence.wide (n - 1) Try.prog l (enc3 x) W fun e W' =>
      (e = .returned (.bool true) ∧ J (pre ++ [x]) W' ∧ KpC B W W') ∨ (e = .returned (.bool false) ∧ Jx (pre ++ [x]) W'))
    (W : World) (hC : Capt B a b P m W) (hJ0 : J [] W) :
    CallsIn Fence.wide n Try.prog 73 #[.func (.yield l) #[] #[], .pointer (some ⟨B + 3, 0, none⟩), .pointer (some ⟨B, 0, none⟩), .pointer (some ⟨B + 1, 0, none⟩), .pointer (some ⟨B + 2, 0, none⟩)] W fun e W' => (∃ v, e = .returned v) ∧
      ((∃ ys, ys = tripL a b P m ∧ J ys W') ∨ (∃ pre, pre <+: tripL a b P m ∧ Jx pre W')) := by
  have HC0 := hid hC
  have HJ0 := hid hJ0
  have HYY := hid hY
  have cm0 := hC.2.2.2.cell
  clear hC hJ0 hY
  refine callsIn_of_wp Try.func73 rfl trivial ?_ rfl
  simp only [Try.ntmps73, List.size_toArray, List.length_cons, List.length_nil, Nat.reduceAdd, Nat.reduceSub, Array.replicate_succ, Array.replicate_zero, List.push_toArray, List.append_toArray, List.nil_append, List.cons_append]
  gi_wp2
  gi_loopw [12] (fun sx wr => ∃ X : Nat, sx = .int .i64 X ∧ X ≤ m ∧ Hid (J (txL a b P m X) wr) ∧ Hid (Capt B a b P m wr)) (fun sx _ => m - (intOf sx).toNat)
  case atStart => exact ⟨0, rfl, by omega, HJ0, HC0⟩
  case round =>
    obtain ⟨X, rfl, hX, HJX, HCX⟩ := hrel
    rename World => wX
    by_cases hXm : X < m
    · have hXi : (X : Int) < (m : Int) := by omega
      have cm1 := HCX.out.2.2.2.cell
      have hx1 := tri_bd a1 a2 (show X ≤ m by omega) hm2
      have hx2 := hx1.1
      have hx3 := hx1.2.1
      have hx4 := hx1.2.2.1
      have hx5 := hx1.2.2.2
      clear hx1
      gi_wp2
      gi_loopw [16] (fun sy wr => ∃ Y : Nat, sy = .int .i64 Y ∧ Y ≤ m ∧ Hid (J (txL a b P m X ++ tyL a b P m X Y) wr) ∧ Hid (Capt B a b P m wr)) (fun sy _ => m - (intOf sy).toNat)
      case atStart => exact ⟨0, rfl, by omega, hid (by show J (txL a b P m X ++ []) wX; rw [List.append_nil]; exact HJX.out), HCX⟩
      case round =>
        obtain ⟨Y, rfl, hYm0, HJY, HCY⟩ := hrel
        rename World => wY
        by_cases hYm : Y < m
        · have hYi : (Y : Int) < (m : Int) := by omega
          have ca2 := HCY.out.1.cell
          have cb2 := HCY.out.2.1.cell
          have cp2 := HCY.out.2.2.1.cell
          have cm2 := HCY.out.2.2.2.cell
          have hy1 := tri_bd b1 b2 (show Y ≤ m by omega) hm2
          have hy2 := hy1.1
          have hy3 := hy1.2.1
          have hy4 := hy1.2.2.1
          have hy5 := hy1.2.2.2
          clear hy1
          have hbx := modz (x := X) (P := P)
          have hby := modz (x := Y) (P := P)
          cases hdx : (X % P == 0) with
          | false =>
            rw [hdx] at hbx
            clear hby
            gi_wp2
            gi_loopw [41] (fun sz wr => ∃ Z : Nat, sz = .int .i64 Z ∧ Z ≤ m ∧ Hid (J (txL a b P m X ++ tyL a b P m X Y ++ tzL a b P m X Y Z) wr) ∧ Hid (Capt B a b P m wr)) (fun sz _ => m - (intOf sz).toNat)
            case atStart => exact ⟨0, rfl, by omega, hid (by show J (txL a b P m X ++ tyL a b P m X Y ++ []) wY; rw [List.append_nil]; exact HJY.out), HCY⟩
            case round =>
              obtain ⟨Z, rfl, hZm0, HJZ, HCZ⟩ := hrel
              rename World => wZ
              by_cases hZm : Z < m
              · have hZi : (Z : Int) < (m : Int) := by omega
                have cp3 := HCZ.out.2.2.1.cell
                have cm3 := HCZ.out.2.2.2.cell
                have hzz := mul_bd (show Z ≤ 32 by omega) (show Z ≤ 32 by omega)
                have hsol := solve_eqz (V := a * (X : Int) * (X : Int) + b * (Y : Int) * (Y : Int)) (z := (Z : Int) * (Z : Int)) (m := m) (by omega)
                have hbz := modz (x := Z) (P := P)
                cases hs : ((a * (X : Int) * (X : Int) + b * (Y : Int) * (Y : Int) - (Z : Int) * (Z : Int)) % (m : Int) == 0) with
                | false =>
                  have T : (((Z : Int) * (Z : Int) - (a * (X : Int) * (X : Int) + b * (Y : Int) * (Y : Int))).tmod (m : Int) != 0) = true := by show (!(_ == (0 : Int))) = true; rw [hsol, hs]; rfl
                  clear hbz hsol
                  have HE : Hid (tzL a b P m X Y (Z + 1) = tzL a b P m X Y Z) := hid (by
                    show tzL a b P m X Y Z ++ (if hitB a b P m X Y Z then [(X, Y, Z)] else []) = _
                    rw [show hitB a b P m X Y Z = false from by unfold hitB; rw [hs, Bool.and_false], if_neg (by decide), List.append_nil])
                  clear hs
                  gi_wp2
                  go_roundw
                  case rel => exact ⟨Z + 1, by go_num, by omega, hid (by rw [HE.out]; exact HJZ.out), HCZ⟩
                  case measure => simp only [intOf]; omega
                | true =>
                  have T : (((Z : Int) * (Z : Int) - (a * (X : Int) * (X : Int) + b * (Y : Int) * (Y : Int))).tmod (m : Int) != 0) = false := by show (!(_ == (0 : Int))) = false; rw [hsol, hs]; rfl
                  clear hsol
                  clear hbz
                  have hh : hitB a b P m X Y Z = true := by unfold hitB; rw [hs, show (X % P != 0) = true from by show (!(X % P == 0)) = true; rw [hdx]; rfl]; rfl
                  have HP := hid (trip_pre hXm hYm hZm hh)
                  have HE : Hid (tzL a b P m X Y (Z + 1) = tzL a b P m X Y Z ++ [(X, Y, Z)]) := hid (by
                    show tzL a b P m X Y Z ++ (if hitB a b P m X Y Z then [(X, Y, Z)] else []) = _
                    rw [hh, if_pos rfl])
                  have hlen := HP.out.length_le
                  rw [List.length_append, List.length_singleton] at hlen
                  obtain ⟨fn, tmps, assign, body, hy, hR⟩ := HYY.out (txL a b P m X ++ tyL a b P m X Y ++ tzL a b P m X Y Z) (X, Y, Z) wZ HJZ.out (show X ≤ 32 by omega) (show Y ≤ 32 by omega) (show Z ≤ 32 by omega) (by omega)
                  dsimp only [enc3] at hy
                  clear hlen hh hs
                  gi_wp2
                  refine ⟨wide_depth n, hR.mono ?_⟩
                  rintro e W' (⟨rfl, hJ', hK⟩ | ⟨rfl, hJx'⟩)
                  · gi_wp2
                    go_roundw
                    case rel => exact ⟨Z + 1, by go_num, by omega, hid (by rw [HE.out, ← List.append_assoc]; exact hJ'), hid (HCZ.out.keep hK)⟩
                    case measure => simp only [intOf]; omega
                  · gi_wp2
                    refine bodyPost_ret (results_none rfl _ _ _) rfl ?_
                    exact ⟨⟨_, rfl⟩, .inr ⟨_, HP.out, hJx'⟩⟩
              · have e : Z = m := by omega
                have HJm : Hid (J (txL a b P m X ++ tyL a b P m X (Y + 1)) wZ) := hid (by
                  have h := HJZ.out
                  rw [e, List.append_assoc] at h
                  exact h)
                clear e
                gi_wp2
                go_roundw
                case rel => exact ⟨Y + 1, by go_num, by omega, HJm, HCZ⟩
                case measure => simp only [intOf]; omega
          | true =>
            rw [hdx] at hbx
            cases hdy : (Y % P == 0) with
            | false =>
              rw [hdy] at hby
              gi_wp2
              gi_loopw [41] (fun sz wr => ∃ Z : Nat, sz = .int .i64 Z ∧ Z ≤ m ∧ Hid (J (txL a b P m X ++ tyL a b P m X Y ++ tzL a b P m X Y Z) wr) ∧ Hid (Capt B a b P m wr)) (fun sz _ => m - (intOf sz).toNat)
              case atStart => exact ⟨0, rfl, by omega, hid (by show J (txL a b P m X ++ tyL a b P m X Y ++ []) wY; rw [List.append_nil]; exact HJY.out), HCY⟩
              case round =>
                obtain ⟨Z, rfl, hZm0, HJZ, HCZ⟩ := hrel
                rename World => wZ
                by_cases hZm : Z < m
                · have hZi : (Z : Int) < (m : Int) := by omega
                  have cp3 := HCZ.out.2.2.1.cell
                  have cm3 := HCZ.out.2.2.2.cell
                  have hzz := mul_bd (show Z ≤ 32 by omega) (show Z ≤ 32 by omega)
                  have hsol := solve_eqz (V := a * (X : Int) * (X : Int) + b * (Y : Int) * (Y : Int)) (z := (Z : Int) * (Z : Int)) (m := m) (by omega)
                  have hbz := modz (x := Z) (P := P)
                  cases hs : ((a * (X : Int) * (X : Int) + b * (Y : Int) * (Y : Int) - (Z : Int) * (Z : Int)) % (m : Int) == 0) with
                  | false =>
                    have T : (((Z : Int) * (Z : Int) - (a * (X : Int) * (X : Int) + b * (Y : Int) * (Y : Int))).tmod (m : Int) != 0) = true := by show (!(_ == (0 : Int))) = true; rw [hsol, hs]; rfl
                    clear hbz hsol
                    have HE : Hid (tzL a b P m X Y (Z + 1) = tzL a b P m X Y Z) := hid (by
                      show tzL a b P m X Y Z ++ (if hitB a b P m X Y Z then [(X, Y, Z)] else []) = _
                      rw [show hitB a b P m X Y Z = false from by unfold hitB; rw [hs, Bool.and_false], if_neg (by decide), List.append_nil])
                    clear hs
                    gi_wp2
                    go_roundw
                    case rel => exact ⟨Z + 1, by go_num, by omega, hid (by rw [HE.out]; exact HJZ.out), HCZ⟩
                    case measure => simp only [intOf]; omega
                  | true =>
                    have T : (((Z : Int) * (Z : Int) - (a * (X : Int) * (X : Int) + b * (Y : Int) * (Y : Int))).tmod (m : Int) != 0) = false := by show (!(_ == (0 : Int))) = false; rw [hsol, hs]; rfl
                    clear hsol
                    clear hbz
                    have hh : hitB a b P m X Y Z = true := by unfold hitB; rw [hs, show (Y % P != 0) = true from by show (!(Y % P == 0)) = true; rw [hdy]; rfl, Bool.true_or, Bool.or_true]; rfl
                    have HP := hid (trip_pre hXm hYm hZm hh)
                    have HE : Hid (tzL a b P m X Y (Z + 1) = tzL a b P m X Y Z ++ [(X, Y, Z)]) := hid (by
                      show tzL a b P m X Y Z ++ (if hitB a b P m X Y Z then [(X, Y, Z)] else []) = _
                      rw [hh, if_pos rfl])
                    have hlen := HP.out.length_le
                    rw [List.length_append, List.length_singleton] at hlen
                    obtain ⟨fn, tmps, assign, body, hy, hR⟩ := HYY.out (txL a b P m X ++ tyL a b P m X Y ++ tzL a b P m X Y Z) (X, Y, Z) wZ HJZ.out (show X ≤ 32 by omega) (show Y ≤ 32 by omega) (show Z ≤ 32 by omega) (by omega)
                    dsimp only [enc3] at hy
                    clear hlen hh hs
                    gi_wp2
                    refine ⟨wide_depth n, hR.mono ?_⟩
                    rintro e W' (⟨rfl, hJ', hK⟩ | ⟨rfl, hJx'⟩)
                    · gi_wp2
                      go_roundw
                      case rel => exact ⟨Z + 1, by go_num, by omega, hid (by rw [HE.out, ← List.append_assoc]; exact hJ'), hid (HCZ.out.keep hK)⟩
                      case measure => simp only [intOf]; omega
                    · gi_wp2
                      refine bodyPost_ret (results_none rfl _ _ _) rfl ?_
                      exact ⟨⟨_, rfl⟩, .inr ⟨_, HP.out, hJx'⟩⟩
                · have e : Z = m := by omega
                  have HJm : Hid (J (txL a b P m X ++ tyL a b P m X (Y + 1)) wZ) := hid (by
                    have h := HJZ.out
                    rw [e, List.append_assoc] at h
                    exact h)
                  clear e
                  gi_wp2
                  go_roundw
                  case rel => exact ⟨Y + 1, by go_num, by omega, HJm, HCZ⟩
                  case measure => simp only [intOf]; omega
            | true =>
              rw [hdy] at hby
              gi_wp2
              gi_loopw [41] (fun sz wr => ∃ Z : Nat, sz = .int .i64 Z ∧ Z ≤ m ∧ Hid (J (txL a b P m X ++ tyL a b P m X Y ++ tzL a b P m X Y Z) wr) ∧ Hid (Capt B a b P m wr)) (fun sz _ => m - (intOf sz).toNat)
              case atStart => exact ⟨0, rfl, by omega, hid (by show J (txL a b P m X ++ tyL a b P m X Y ++ []) wY; rw [List.append_nil]; exact HJY.out), HCY⟩
              case round =>
                obtain ⟨Z, rfl, hZm0, HJZ, HCZ⟩ := hrel
                rename World => wZ
                by_cases hZm : Z < m
                · have hZi : (Z : Int) < (m : Int) := by omega
                  have cp3 := HCZ.out.2.2.1.cell
                  have cm3 := HCZ.out.2.2.2.cell
                  have hzz := mul_bd (show Z ≤ 32 by omega) (show Z ≤ 32 by omega)
                  have hsol := solve_eqz (V := a * (X : Int) * (X : Int) + b * (Y : Int) * (Y : Int)) (z := (Z : Int) * (Z : Int)) (m := m) (by omega)
                  have hbz := modz (x := Z) (P := P)
                  cases hs : ((a * (X : Int) * (X : Int) + b * (Y : Int) * (Y : Int) - (Z : Int) * (Z : Int)) % (m : Int) == 0) with
                  | false =>
                    have T : (((Z : Int) * (Z : Int) - (a * (X : Int) * (X : Int) + b * (Y : Int) * (Y : Int))).tmod (m : Int) != 0) = true := by show (!(_ == (0 : Int))) = true; rw [hsol, hs]; rfl
                    clear hbz hsol
                    have HE : Hid (tzL a b P m X Y (Z + 1) = tzL a b P m X Y Z) := hid (by
                      show tzL a b P m X Y Z ++ (if hitB a b P m X Y Z then [(X, Y, Z)] else []) = _
                      rw [show hitB a b P m X Y Z = false from by unfold hitB; rw [hs, Bool.and_false], if_neg (by decide), List.append_nil])
                    clear hs
                    gi_wp2
                    go_roundw
                    case rel => exact ⟨Z + 1, by go_num, by omega, hid (by rw [HE.out]; exact HJZ.out), HCZ⟩
                    case measure => simp only [intOf]; omega
                  | true =>
                    have T : (((Z : Int) * (Z : Int) - (a * (X : Int) * (X : Int) + b * (Y : Int) * (Y : Int))).tmod (m : Int) != 0) = false := by show (!(_ == (0 : Int))) = false; rw [hsol, hs]; rfl
                    clear hsol
                    cases hdz : (Z % P == 0) with
                    | false =>
                      rw [hdz] at hbz
                      have hh : hitB a b P m X Y Z = true := by unfold hitB; rw [hs, show (Z % P != 0) = true from by show (!(Z % P == 0)) = true; rw [hdz]; rfl, Bool.or_true, Bool.or_true]; rfl
                      have HP := hid (trip_pre hXm hYm hZm hh)
                      have HE : Hid (tzL a b P m X Y (Z + 1) = tzL a b P m X Y Z ++ [(X, Y, Z)]) := hid (by
                        show tzL a b P m X Y Z ++ (if hitB a b P m X Y Z then [(X, Y, Z)] else []) = _
                        rw [hh, if_pos rfl])
                      have hlen := HP.out.length_le
                      rw [List.length_append, List.length_singleton] at hlen
                      obtain ⟨fn, tmps, assign, body, hy, hR⟩ := HYY.out (txL a b P m X ++ tyL a b P m X Y ++ tzL a b P m X Y Z) (X, Y, Z) wZ HJZ.out (show X ≤ 32 by omega) (show Y ≤ 32 by omega) (show Z ≤ 32 by omega) (by omega)
                      dsimp only [enc3] at hy
                      clear hlen hh hs hdz
                      gi_wp2
                      refine ⟨wide_depth n, hR.mono ?_⟩
                      rintro e W' (⟨rfl, hJ', hK⟩ | ⟨rfl, hJx'⟩)
                      · gi_wp2
                        go_roundw
                        case rel => exact ⟨Z + 1, by go_num, by omega, hid (by rw [HE.out, ← List.append_assoc]; exact hJ'), hid (HCZ.out.keep hK)⟩
                        case measure => simp only [intOf]; omega
                      · gi_wp2
                        refine bodyPost_ret (results_none rfl _ _ _) rfl ?_
                        exact ⟨⟨_, rfl⟩, .inr ⟨_, HP.out, hJx'⟩⟩
                    | true =>
                      rw [hdz] at hbz
                      have HE : Hid (tzL a b P m X Y (Z + 1) = tzL a b P m X Y Z) := hid (by
                        show tzL a b P m X Y Z ++ (if hitB a b P m X Y Z then [(X, Y, Z)] else []) = _
                        rw [show hitB a b P m X Y Z = false from by unfold hitB; rw [show (X % P != 0) = false from by show (!(X % P == 0)) = false; rw [hdx]; rfl, show (Y % P != 0) = false from by show (!(Y % P == 0)) = false; rw [hdy]; rfl, show (Z % P != 0) = false from by show (!(Z % P == 0)) = false; rw [hdz]; rfl]; rfl, if_neg (by decide), List.append_nil])
                      clear hs hdz
                      gi_wp2
                      go_roundw
                      case rel => exact ⟨Z + 1, by go_num, by omega, hid (by rw [HE.out]; exact HJZ.out), HCZ⟩
                      case measure => simp only [intOf]; omega
                · have e : Z = m := by omega
                  have HJm : Hid (J (txL a b P m X ++ tyL a b P m X (Y + 1)) wZ) := hid (by
                    have h := HJZ.out
                    rw [e, List.append_assoc] at h
                    exact h)
                  clear e
                  gi_wp2
                  go_roundw
                  case rel => exact ⟨Y + 1, by go_num, by omega, HJm, HCZ⟩
                  case measure => simp only [intOf]; omega
        · have e : Y = m := by omega
          have HJm : Hid (J (txL a b P m (X + 1)) wY) := hid (by
            have h := HJY.out
            rw [e] at h
            exact h)
          clear e
          gi_wp2
          go_roundw
          case rel => exact ⟨X + 1, by go_num, by omega, HJm, HCY⟩
          case measure => simp only [intOf]; omega
    · have e : X = m := by omega
      have HF : J (tripL a b P m) wX := by
        have h := HJX.out
        rw [e] at h
        exact h
      clear e
      gi_wp2
      go_end0
      first | exact ⟨⟨_, rfl⟩, .inl ⟨_, rfl, HF⟩⟩ | exact ⟨⟨_, rfl⟩, .inl HF⟩

theorem trip_stops (n B : Nat) (a b : Int) (P m : Nat) (a1 : -5000 ≤ a) (a2 : a ≤ 5000) (b1 : -5000 ≤ b) (b2 : b ≤ 5000) (hP1 : 2 ≤ P) (hP2 : P ≤ 5000) (hm1 : 1 ≤ m) (hm2 : m ≤ 32) (w : World) (hBn : B + 3 < w.heap.size) (hc : Capt B a b P m w) :
    SeqStopsK Fence.wide n Try.prog 73 #[.pointer (some ⟨B + 3, 0, none⟩), .pointer (some ⟨B, 0, none⟩), .pointer (some ⟨B + 1, 0, none⟩), .pointer (some ⟨B + 2, 0, none⟩)] (fun (x : T3) => enc3 x.1) (KpC B) (fun ys => ys.map (·.1) = tripL a b P m) (fun pre => pre.map (·.1) <+: tripL a b P m) (tripL a b P m).length w := fun l J Jx W hW _ _ hY hJ0 => by
  refine (trip_in n l B a b P m a1 a2 b1 b2 hP1 hP2 hm1 hm2 (fun pre W => ∃ q : List T3, q.map (·.1) = pre ∧ J q W) (fun pre W => ∃ q : List T3, q.map (·.1) = pre ∧ Jx q W) ?_ W (hc.keep (fun k h1 h2 => hW.block k (by omega))) ⟨[], rfl, hJ0⟩).mono ?_
  · rintro pre x W1 ⟨q, rfl, hq⟩ h1 h2 h3 hl
    obtain ⟨fn, tmps, assign, body, hy, hR⟩ := hY q ⟨x, h1, h2, h3⟩ W1 hq (by simpa using hl)
    refine ⟨fn, tmps, assign, body, hy, hR.mono ?_⟩
    rintro e w' (⟨he, hj, hk⟩ | ⟨he, hj⟩)
    · exact .inl ⟨he, ⟨_, by simp, hj⟩, hk⟩
    · exact .inr ⟨he, ⟨_, by simp, hj⟩⟩
  · rintro e W' ⟨hv, ⟨ys, hys, q, hq, hj⟩ | ⟨pre, hpre, q, hq, hj⟩⟩
    · exact ⟨hv, .inl ⟨q, hq.trans hys, hj⟩⟩
    · exact ⟨hv, .inr ⟨q, by rw [← hq] at hpre; exact hpre, hj⟩⟩

end Go.Proofs.Ytciajpimpjpnfac
