/-
  Contracts of the loops of chapter 1 (program and model).
-/
import Derived.Test.YtdidmblkknnglaaNum
import Derived.Test.YtdidmblkknnglaaMath
set_option linter.unusedVariables false
namespace Go.Proofs.Ytdidmblkknnglaa
open Go.RowKit

theorem tdiv_natAbs (a b : Int) : (a.tdiv b).natAbs = a.natAbs / b.natAbs := Int.natAbs_tdiv a b
theorem tmod_eqz {L p : Int} (hp : 2 ≤ p) : (L.tmod p == 0) = decide (L.natAbs % p.toNat = 0) := by
  rw [Bool.eq_iff_iff, beq_iff_eq, decide_eq_true_iff, ← Nat.dvd_iff_mod_eq_zero, ← Int.dvd_iff_tmod_eq_zero, ← Int.natAbs_dvd_natAbs, show p.natAbs = p.toNat by omega]

set_option maxHeartbeats 400000 in
theorem valuation_any (n p : Int) (h0 : n ≠ 0) (h1 : -1000000 ≤ n) (h2 : n ≤ 1000000) (hp : 2 ≤ p) (hp2 : p ≤ 1000000) (w : World) :
    Calls Try.prog 101 #[.int .i64 n, .int .i64 p] w fun e w' => e = .returned (.int .i64 (val n.natAbs p.toNat)) ∧ w = w' := by
  go_enter Try.func101, Try.ntmps101
  go_wp2
  go_loop [5, 6] (fun k l => ∃ (K : Nat) (L : Int), k = .int .i64 K ∧ l = .int .i64 L ∧ L ≠ 0 ∧ -1000000 ≤ L ∧ L ≤ 1000000 ∧ K + L.natAbs ≤ n.natAbs ∧ Hid (val L.natAbs p.toNat + K = val n.natAbs p.toNat)) (fun _ l => (intOf l).natAbs)
  case atStart => exact ⟨0, n, rfl, rfl, h0, h1, h2, by omega, hid (by simp)⟩
  case round =>
    obtain ⟨K, L, rfl, rfl, hl0, hl1, hl2, hK, HV⟩ := hrel
    have T := tmod_eqz (L := L) hp
    by_cases hd : L.natAbs % p.toNat = 0
    · rw [decide_eq_true hd] at T
      have hs := hid (val_step (n := L.natAbs) (p := p.toNat) (by omega) (by omega) hd)
      have hA : L.natAbs / p.toNat < L.natAbs := Nat.div_lt_self (by omega) (by omega)
      have hB : 0 < L.natAbs / p.toNat := Nat.div_pos (Nat.le_of_dvd (by omega) (Nat.dvd_of_mod_eq_zero hd)) (by omega)
      have hq : (L.tdiv p).natAbs = L.natAbs / p.toNat := by rw [tdiv_natAbs, show p.natAbs = p.toNat by omega]
      have hq1 : (L.tdiv p).natAbs < L.natAbs := by omega
      have hq2 : L.tdiv p ≠ 0 := by omega
      have hq3 : -1000000 ≤ L.tdiv p := by omega
      have hq4 : L.tdiv p ≤ 1000000 := by omega
      have HQ := hid hq
      clear hq hd hA hB
      go_wp2
      go_round
      case rel => exact ⟨K + 1, L.tdiv p, by go_num, rfl, hq2, hq3, hq4, by omega, hid (by rw [HQ.out]; have := hs.out; have := HV.out; omega)⟩
      case measure => simp only [intOf]; omega
    · rw [decide_eq_false hd] at T
      have hs := hid (val_stop hd)
      clear hd
      go_wp2
      go_ret
      exact ⟨retI (by have := hs.out; have := HV.out; omega), rfl⟩

theorem ret2 {a b c d : Int} (h : a = b) (h' : c = d) : Ending.returned (.tuple #[.int .i64 a, .int .i64 c]) = .returned (.tuple #[.int .i64 b, .int .i64 d]) := by rw [h, h']

theorem mul_bd {a b m : Nat} (ha : a ≤ m) (hb : b ≤ m) : 0 ≤ (a : Int) * b ∧ (a : Int) * b ≤ (m : Int) * m := by
  have := Nat.mul_le_mul ha hb
  constructor
  · exact_mod_cast Nat.zero_le _
  · exact_mod_cast this

theorem ediv_bd {a b : Nat} (h : a ≤ 5000) : 0 ≤ (a : Int) / b ∧ (a : Int) / b ≤ 5000 := by
  have h1 := Nat.div_le_self a b
  have e : (a : Int) / b = ((a / b : Nat) : Int) := by push_cast; rfl
  rw [e]
  exact ⟨Int.natCast_nonneg _, Int.ofNat_le.2 (Nat.le_trans h1 h)⟩

set_option maxHeartbeats 400000 in
theorem power_any (n e m : Int) (h1 : -1000000 ≤ n) (h2 : n ≤ 1000000) (he : 0 ≤ e) (he2 : e ≤ 1000000) (hm : 1 ≤ m) (hm2 : m ≤ 1000000) (w : World) :
    Calls Try.prog 106 #[.int .i64 n, .int .i64 e, .int .i64 m] w fun en w' => en = .returned (.int .i64 (pw (n % m).toNat e.toNat m.toNat : Nat)) ∧ w = w' := by
  obtain ⟨M, rfl⟩ := Int.eq_ofNat_of_zero_le (show 0 ≤ m by omega)
  obtain ⟨E, rfl⟩ := Int.eq_ofNat_of_zero_le he
  obtain ⟨B, hB⟩ := Int.eq_ofNat_of_zero_le (Int.emod_nonneg n (show (M : Int) ≠ 0 by omega))
  have hBm : B < M := by have := Int.emod_lt_of_pos n (show (0 : Int) < M by omega); omega
  have HB := hid hB
  rw [hB]
  simp only [Int.toNat_natCast]
  clear hB
  go_enter Try.func106, Try.ntmps106
  go_wp2_with (go_at_call 94; refine (rest_any _ _ (by omega) (by omega) (by omega) (by omega) _).mono ?_; rw [HB.out]; rintro e w' ⟨rfl, rfl⟩)
  go_loop [1, 7, 8] (fun es rs bs => ∃ (e r b : Nat), es = .int .i64 e ∧ rs = .int .i64 r ∧ bs = .int .i64 b ∧ e ≤ E ∧ r < M ∧ b < M ∧ Hid (r * b ^ e % M = pw B E M)) (fun es _ _ => (intOf es).toNat)
  case atStart => exact ⟨E, 1 % M, B, rfl, vI (by push_cast; rfl), rfl, by omega, Nat.mod_lt _ (by omega), hBm, hid (pw_start B E M)⟩
  case round =>
    obtain ⟨e, r, b, rfl, rfl, rfl, hE, hr, hb, HV⟩ := hrel
    have hrb := mul_bd (Nat.le_of_lt hr) (Nat.le_of_lt hb)
    have hbb := mul_bd (Nat.le_of_lt hb) (Nat.le_of_lt hb)
    have hMM := mul_bd (show M ≤ 1000000 by omega) (show M ≤ 1000000 by omega)
    by_cases h0 : 0 < e
    · by_cases ho : e % 2 = 1
      · have T : ((e : Int) % 2 == 1) = true := by rw [beq_iff_eq]; omega
        have hE2 : e / 2 * 2 + 1 = e := by omega
        have HS := hid (pw_step_odd r b e M)
        have HE2 := hid hE2
        clear hE2 ho
        go_wp2
        go_round
        case rel => exact ⟨e / 2, r * b % M, b * b % M, vI (by push_cast; rfl), vI (by push_cast; rfl), vI (by push_cast; rfl), by omega, Nat.mod_lt _ (by omega), Nat.mod_lt _ (by omega), hid (by rw [HS.out, HE2.out]; exact HV.out)⟩
        case measure => simp only [intOf]; omega
      · have T : ((e : Int) % 2 == 1) = false := by rw [beq_eq_false_iff_ne]; omega
        have hE2 : e / 2 * 2 = e := by omega
        have HS := hid (pw_step_even r b e M)
        have HE2 := hid hE2
        clear hE2 ho
        go_wp2
        go_round
        case rel => exact ⟨e / 2, r, b * b % M, vI (by push_cast; rfl), rfl, vI (by push_cast; rfl), by omega, hr, Nat.mod_lt _ (by omega), hid (by rw [HS.out, HE2.out]; exact HV.out)⟩
        case measure => simp only [intOf]; omega
    · obtain rfl : e = 0 := by omega
      go_wp2
      go_ret
      exact ⟨retI (by rw [← HV.out]; simp [Nat.mod_eq_of_lt hr]), rfl⟩

theorem l1Mod_any (n m : Int) (h1 : -4611686018427387904 ≤ n) (h2 : n ≤ 4611686018427387904) (hm : 1 ≤ m) (hm2 : m ≤ 1000000000) (w : World) :
    Calls Try.prog 77 #[.int .i64 n, .int .i64 m] w fun e w' => e = .returned (.int .i64 (n % m)) ∧ w = w' := by
  have hb := tmod_lt_abs n m hm
  have H := hid (tmod_add_emod n m hm)
  have hb0 : 0 ≤ n.tmod m + m := by omega
  by_cases h : 0 ≤ n
  · have e1 : n.tmod m = n % m := Int.tmod_eq_emod_of_nonneg h
    rw [e1] at hb hb0
    have H2 : Hid ((n % m + m) % m = n % m) := by show _ = _; simp
    clear e1 H
    go_enter Try.func77, Try.ntmps77
    go_wp2
    go_ret
    exact ⟨retI H2.out, rfl⟩
  · have H2 : Hid ((n.tmod m + m) % m = n % m) := by show _ = _; rw [← Int.tmod_eq_emod_of_nonneg hb0]; exact H.out
    go_enter Try.func77, Try.ntmps77
    go_wp2
    go_ret
    exact ⟨retI (by have h3 := H2.out; simpa using h3), rfl⟩


set_option maxHeartbeats 400000 in
theorem l1Power_any (n e m : Int) (h1 : -1000000000000000 ≤ n) (h2 : n ≤ 1000000000000000) (he : 0 ≤ e) (he2 : e ≤ 1000000) (hm : 1 ≤ m) (hm2 : m ≤ 1000000) (w : World) :
    Calls Try.prog 104 #[.int .i64 n, .int .i64 e, .int .i64 m] w fun en w' => en = .returned (.int .i64 (pw (n % m).toNat e.toNat m.toNat : Nat)) ∧ w = w' := by
  obtain ⟨M, rfl⟩ := Int.eq_ofNat_of_zero_le (show 0 ≤ m by omega)
  obtain ⟨E, rfl⟩ := Int.eq_ofNat_of_zero_le he
  obtain ⟨B, hB⟩ := Int.eq_ofNat_of_zero_le (Int.emod_nonneg n (show (M : Int) ≠ 0 by omega))
  have hBm : B < M := by have := Int.emod_lt_of_pos n (show (0 : Int) < M by omega); omega
  have HB := hid hB
  rw [hB]
  simp only [Int.toNat_natCast]
  clear hB
  go_enter Try.func104, Try.ntmps104
  go_wp2_with (go_at_call 77; refine (l1Mod_any _ _ (by omega) (by omega) (by omega) (by omega) _).mono ?_; rw [HB.out]; rintro e w' ⟨rfl, rfl⟩)
  go_loop [1, 7, 0] (fun es rs bs => ∃ (e r b : Nat), es = .int .i64 e ∧ rs = .int .i64 r ∧ bs = .int .i64 b ∧ e ≤ E ∧ r < M ∧ b < M ∧ Hid (r * b ^ e % M = pw B E M)) (fun es _ _ => (intOf es).toNat)
  case atStart => exact ⟨E, 1 % M, B, rfl, vI (by push_cast; rfl), rfl, by omega, Nat.mod_lt _ (by omega), hBm, hid (pw_start B E M)⟩
  case round =>
    obtain ⟨e, r, b, rfl, rfl, rfl, hE, hr, hb, HV⟩ := hrel
    have hrb := mul_bd (Nat.le_of_lt hr) (Nat.le_of_lt hb)
    have hbb := mul_bd (Nat.le_of_lt hb) (Nat.le_of_lt hb)
    have hMM := mul_bd (show M ≤ 1000000 by omega) (show M ≤ 1000000 by omega)
    by_cases h0 : 0 < e
    · by_cases ho : e % 2 = 1
      · have T : ((e : Int) % 2 == 1) = true := by rw [beq_iff_eq]; omega
        have hE2 : e / 2 * 2 + 1 = e := by omega
        have HS := hid (pw_step_odd r b e M)
        have HE2 := hid hE2
        clear hE2 ho
        go_wp2
        go_round
        case rel => exact ⟨e / 2, r * b % M, b * b % M, vI (by push_cast; rfl), vI (by push_cast; rfl), vI (by push_cast; rfl), by omega, Nat.mod_lt _ (by omega), Nat.mod_lt _ (by omega), hid (by rw [HS.out, HE2.out]; exact HV.out)⟩
        case measure => simp only [intOf]; omega
      · have T : ((e : Int) % 2 == 1) = false := by rw [beq_eq_false_iff_ne]; omega
        have hE2 : e / 2 * 2 = e := by omega
        have HS := hid (pw_step_even r b e M)
        have HE2 := hid hE2
        clear hE2 ho
        go_wp2
        go_round
        case rel => exact ⟨e / 2, r, b * b % M, vI (by push_cast; rfl), rfl, vI (by push_cast; rfl), by omega, hr, Nat.mod_lt _ (by omega), hid (by rw [HS.out, HE2.out]; exact HV.out)⟩
        case measure => simp only [intOf]; omega
    · obtain rfl : e = 0 := by omega
      go_wp2
      go_ret
      exact ⟨retI (by rw [← HV.out]; simp [Nat.mod_eq_of_lt hr]), rfl⟩

theorem l1Size_any (n : Int) (h1 : -4611686018427387904 ≤ n) (h2 : n ≤ 4611686018427387904) (w : World) : Calls Try.prog 107 #[.int .i64 n] w fun e w' => e = .returned (.int .i64 n.natAbs) ∧ w = w' := by
  by_cases h : n < 0
  · have hn : (n.natAbs : Int) = -n := by omega
    have HN := hid hn; clear hn
    go_enter Try.func107, Try.ntmps107
    go_wp2
    go_ret
    exact ⟨retI (by rw [HN.out]), rfl⟩
  · have hn : (n.natAbs : Int) = n := by omega
    have HN := hid hn; clear hn
    go_enter Try.func107, Try.ntmps107
    go_wp2
    go_ret
    exact ⟨retI (by rw [HN.out]), rfl⟩

set_option maxHeartbeats 400000 in
theorem l1Valuation_any (n p : Int) (h0 : n ≠ 0) (h1 : -1000000000000000 ≤ n) (h2 : n ≤ 1000000000000000) (hp : 2 ≤ p) (hp2 : p ≤ 1000000) (w : World) :
    Calls Try.prog 92 #[.int .i64 n, .int .i64 p] w fun e w' => e = .returned (.tuple #[.int .i64 (val n.natAbs p.toNat), .int .i64 (n.tdiv (p ^ val n.natAbs p.toNat))]) ∧ w = w' := by
  go_enter Try.func92, Try.ntmps92
  go_wp2
  go_loop [6, 0] (fun k l => ∃ (K : Nat) (L : Int), k = .int .i64 K ∧ l = .int .i64 L ∧ L ≠ 0 ∧ -1000000000000000 ≤ L ∧ L ≤ 1000000000000000 ∧ K + L.natAbs ≤ n.natAbs ∧ Hid (val L.natAbs p.toNat + K = val n.natAbs p.toNat ∧ L * p ^ K = n)) (fun _ l => (intOf l).natAbs)
  case atStart => exact ⟨0, n, rfl, rfl, h0, h1, h2, by omega, hid (by simp)⟩
  case round =>
    obtain ⟨K, L, rfl, rfl, hl0, hl1, hl2, hK, HV⟩ := hrel
    have T := tmod_eqz (L := L) hp
    by_cases hd : L.natAbs % p.toNat = 0
    · rw [decide_eq_true hd] at T
      have hs := hid (val_step (n := L.natAbs) (p := p.toNat) (by omega) (by omega) hd)
      have hA : L.natAbs / p.toNat < L.natAbs := Nat.div_lt_self (by omega) (by omega)
      have hB : 0 < L.natAbs / p.toNat := Nat.div_pos (Nat.le_of_dvd (by omega) (Nat.dvd_of_mod_eq_zero hd)) (by omega)
      have hq : (L.tdiv p).natAbs = L.natAbs / p.toNat := by rw [tdiv_natAbs, show p.natAbs = p.toNat by omega]
      have hq1 : (L.tdiv p).natAbs < L.natAbs := by omega
      have hq2 : L.tdiv p ≠ 0 := by omega
      have hq3 : -1000000000000000 ≤ L.tdiv p := by omega
      have hq4 : L.tdiv p ≤ 1000000000000000 := by omega
      have hdv : p ∣ L := by rw [← Int.natAbs_dvd_natAbs, show p.natAbs = p.toNat by omega]; exact Nat.dvd_of_mod_eq_zero hd
      have HM := hid (Int.tdiv_mul_cancel hdv)
      have HQ := hid hq
      clear hq hd hA hB hdv
      go_wp2
      go_round
      case rel => exact ⟨K + 1, L.tdiv p, by go_num, rfl, hq2, hq3, hq4, by omega, hid ⟨by rw [HQ.out]; have := hs.out; have := HV.out.1; omega, by rw [Int.pow_succ, Int.mul_comm (p ^ K), ← Int.mul_assoc, HM.out]; exact HV.out.2⟩⟩
      case measure => simp only [intOf]; omega
    · rw [decide_eq_false hd] at T
      have hs := hid (val_stop hd)
      clear hd
      go_wp2
      go_ret2
      have hk : K = val n.natAbs p.toNat := by have := hs.out; have := HV.out.1; omega
      exact ⟨ret2 (congrArg _ hk) (by rw [← hk]; conv => rhs; rw [← HV.out.2]
                                      rw [Int.mul_tdiv_cancel _ (by have : 0 < p ^ K := Int.pow_pos (by omega); omega)]), rfl⟩

/-- Is it the square of an integer? -/
def sqB (n : Int) : Bool := (List.range 72).any (fun x => ((x : Int) * x == n))
theorem sq_mono {a b : Nat} (h : a ≤ b) : (a : Int) * a ≤ (b : Int) * b := by exact_mod_cast Nat.mul_le_mul h h
theorem sqB_at {n : Int} {k : Nat} (hn : n ≤ 5000) (h1 : n ≤ (k : Int) * k) (h2 : ∀ j : Nat, j < k → (j : Int) * j < n) : ((k : Int) * k == n) = sqB n := by
  rw [Bool.eq_iff_iff, beq_iff_eq]
  unfold sqB
  rw [List.any_eq_true]
  constructor
  · intro h
    refine ⟨k, ?_, by simpa using h⟩
    rw [List.mem_range]
    by_cases hk : k < 72
    · exact hk
    · have := sq_mono (show 72 ≤ k by omega)
      omega
  · rintro ⟨j, _, hj⟩
    rw [beq_iff_eq] at hj
    by_cases hjk : j < k
    · have := h2 j hjk
      omega
    · have := sq_mono (show k ≤ j by omega)
      omega



/-- what PowerMod answers -/
def pmB (n e m : Int) : Bool := okN n && (inR e 0 5000 && inR m 1 5000)
def pmV (n e m : Int) : Value := if pmB n e m then .tuple #[.int .i64 (pw (n % m).toNat e.toNat m.toNat : Nat), .bool true] else .tuple #[.int .i64 0, .bool false]
theorem pmV_yes {n e m : Int} (h : pmB n e m = true) : pmV n e m = .tuple #[.int .i64 (pw (n % m).toNat e.toNat m.toNat : Nat), .bool true] := by unfold pmV; rw [if_pos h]
theorem pmV_no {n e m : Int} (h : pmB n e m = false) : pmV n e m = .tuple #[.int .i64 0, .bool false] := by unfold pmV; rw [if_neg (by rw [h]; decide)]

end Go.Proofs.Ytdidmblkknnglaa
