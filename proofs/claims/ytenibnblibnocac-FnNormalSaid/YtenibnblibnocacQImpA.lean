/-
  Contracts of the program's chapter 2: the class of a number at a place.
-/
import Derived.Test.YtenibnblibnocacQBun10
import Derived.Test.YtenibnblibnocacQRes2
import Derived.Laws.StructEq
import Derived.Laws.ResultCell
set_option linter.unusedVariables false
namespace Go.Proofs.Ytenibnblibnocac
open Go.RowKit

set_option maxHeartbeats 400000 in
theorem valuation2_any (n p : Int) (h0 : n ≠ 0) (h1 : -1000000000 ≤ n) (h2 : n ≤ 1000000000) (hp : 2 ≤ p) (hp2 : p ≤ 1000000) (w : World) :
    Calls Try.prog 76 #[.int .i64 n, .int .i64 p] w fun e w' => e = .returned (.int .i64 (val n.natAbs p.toNat)) ∧ w = w' := by
  go_enter Try.func76, Try.ntmps76
  go_wp2
  go_loop [5, 6] (fun k l => ∃ (K : Nat) (L : Int), k = .int .i64 K ∧ l = .int .i64 L ∧ L ≠ 0 ∧ -1000000000 ≤ L ∧ L ≤ 1000000000 ∧ K + L.natAbs ≤ n.natAbs ∧ Hid (val L.natAbs p.toNat + K = val n.natAbs p.toNat)) (fun _ l => (intOf l).natAbs)
  case atStart => exact ⟨0, n, rfl, rfl, h0, h1, h2, by omega, hid (by simp)⟩
  case round =>
    obtain ⟨K, L, rfl, rfl, hl0, hl1, hl2, hK, HV⟩ := hrel
    have T := tmod_eqz (L := L) hp
    by_cases hd : L.natAbs % p.toNat = 0
    · rw [decide_eq_true hd] at T
      have hs := hid (val_step (n := L.natAbs) (p := p.toNat) (by omega) (by omega) hd)
      have hA : L.natAbs / p.toNat < L.natAbs := Nat.div_lt_self (by omega) (by omega)
      have hB : 0 < L.natAbs / p.toNat := Nat.div_pos (Nat.le_of_dvd (by omega) (Nat.dvd_of_mod_eq_zero hd)) (by omega)
      have hq : (L.tdiv p).natAbs = L.natAbs / p.toNat := by rw [tdiv_natAbs, show p.natAbs = p.toNat by omega]
      have hq1 : (L.tdiv p).natAbs < L.natAbs := by omega
      have hq2 : L.tdiv p ≠ 0 := by omega
      have hq3 : -1000000000 ≤ L.tdiv p := by omega
      have hq4 : L.tdiv p ≤ 1000000000 := by omega
      have HQ := hid hq
      clear hq hd hA hB
      go_wp2
      go_round
      case rel => exact ⟨K + 1, L.tdiv p, by go_num, rfl, hq2, hq3, hq4, by omega, hid (by rw [HQ.out]; have := hs.out; have := HV.out; omega)⟩
      case measure => simp only [intOf]; omega
    · rw [decide_eq_false hd] at T
      have hs := hid (val_stop hd)
      clear hd
      go_wp2
      go_ret
      exact ⟨retI (by have := hs.out; have := HV.out; omega), rfl⟩

theorem tdiv_tdiv_nat (n : Int) (a b : Nat) : (n.tdiv (a : Int)).tdiv (b : Int) = n.tdiv ((a * b : Nat) : Int) := by
  rcases Int.natAbs_eq n with h | h
  · rw [h, ← Int.ofNat_tdiv, ← Int.ofNat_tdiv, ← Int.ofNat_tdiv, Nat.div_div_eq_div_mul]
  · rw [h, Int.neg_tdiv, Int.neg_tdiv, Int.neg_tdiv, ← Int.ofNat_tdiv, ← Int.ofNat_tdiv, ← Int.ofNat_tdiv, Nat.div_div_eq_div_mul]
theorem tdiv_step (n : Int) {p : Int} (hp : 2 ≤ p) (i : Nat) : (n.tdiv (p ^ i)).tdiv p = n.tdiv (p ^ (i + 1)) := by
  obtain ⟨P, rfl⟩ := Int.eq_ofNat_of_zero_le (show 0 ≤ p by omega)
  have e : ∀ k, ((P : Int) ^ k) = ((P ^ k : Nat) : Int) := fun k => by push_cast; rfl
  rw [e, e, tdiv_tdiv_nat, Nat.pow_succ]

theorem splitAt_any (n p : Int) (h0 : n ≠ 0) (h1 : -1000000000 ≤ n) (h2 : n ≤ 1000000000) (hp : 2 ≤ p) (hp2 : p ≤ 1000000) (w : World) :
    Calls Try.prog 82 #[.int .i64 n, .int .i64 p] w fun e w' => e = .returned (.tuple #[.int .i64 (unitI n p), .int .i64 (val n.natAbs p.toNat)]) ∧ w = w' := by
  have H0 := hid h0
  obtain ⟨V, hV⟩ : ∃ V, V = val n.natAbs p.toNat := ⟨_, rfl⟩
  have hv2 := val_le p.toNat (by omega) _ n.natAbs (Nat.le_refl _)
  have HU : Hid (n.tdiv (p ^ V) = unitI n p) := hid (by rw [hV]; rfl)
  rw [← hV] at hv2
  have HV := hid hV
  clear hV h0
  go_enter Try.func82, Try.ntmps82
  go_wp2_with (go_at_call 76; refine (valuation2_any _ _ H0.out h1 h2 hp hp2 _).mono ?_; rw [← HV.out]; rintro e w' ⟨rfl, rfl⟩)
  go_loop [0, 11] (fun l k => ∃ (K : Nat) (L : Int), k = .int .i64 K ∧ l = .int .i64 L ∧ K ≤ V ∧ -1000000000 ≤ L ∧ L ≤ 1000000000 ∧ Hid (L = n.tdiv (p ^ K))) (fun _ k => V - (intOf k).toNat)
  case atStart => exact ⟨0, n, rfl, rfl, by omega, h1, h2, hid (by rw [Int.pow_zero, Int.tdiv_one])⟩
  case round =>
    obtain ⟨K, L, rfl, rfl, hK, hl1, hl2, HL⟩ := hrel
    by_cases hlt : K < V
    · have hq : (L.tdiv p).natAbs = L.natAbs / p.toNat := by rw [tdiv_natAbs, show p.natAbs = p.toNat by omega]
      have hq5 := Nat.div_le_self L.natAbs p.toNat
      have hq3 : -1000000000 ≤ L.tdiv p := by omega
      have hq4 : L.tdiv p ≤ 1000000000 := by omega
      have hi0 : (K : Int) < (V : Int) := by omega
      have HS := hid (tdiv_step n hp K)
      clear hq hq5
      go_wp2
      go_round
      case rel => exact ⟨K + 1, L.tdiv p, by go_num, rfl, by omega, hq3, hq4, hid (by rw [HL.out, HS.out])⟩
      case measure => simp only [intOf]; omega
    · obtain rfl : K = V := by omega
      clear hlt
      go_wp2
      go_ret2
      exact ⟨ret2 (by rw [HL.out, HU.out]) (by rw [← HV.out]), rfl⟩

theorem odd_beq (V : Nat) : ((V : Int) % 2 == 1) = (V % 2 == 1) := by
  rw [Bool.eq_iff_iff, beq_iff_eq, beq_iff_eq]; omega
def clsT (c : Nat × Int) : Value := .agg #[.bool (c.1 == 1), .int .i64 c.2]

theorem class_any (n q : Int) (h0 : n ≠ 0) (h1 : -1000000000 ≤ n) (h2 : n ≤ 1000000000) (hq : plI q = true) (w : World) :
    Calls Try.prog 77 #[.int .i64 q, .int .i64 n] w fun e w' => e = .returned (clsT (cls n q)) ∧ Below w.heap.size w w' := by
  have H0 := hid h0
  rcases plI_cases hq with rfl | rfl | ⟨P, rfl, hP, h3, h5⟩
  · have hc := cls_zero n
    by_cases h : n < 0
    · rw [if_neg (by omega)] at hc
      have HC := hid hc
      clear hc h0
      go_enter Try.func77, Try.ntmps77
      go_wp2
      refine bodyPost_ret (results_cell_row rfl _ _ w.heap.size 93 #[.bool false, .int .i64 (-1)] (0, 0) _ rfl (heap_alloc_new _ _) Try.underlying93 rfl (by kernel_rfl)) rfl ?_
      exact ⟨by rw [HC.out]; rfl, (Below.refl _ _).alloc (Nat.le_refl _) _⟩
    · rw [if_pos (by omega)] at hc
      have HC := hid hc
      clear hc h0
      go_enter Try.func77, Try.ntmps77
      go_wp2
      refine bodyPost_ret (results_cell_row rfl _ _ w.heap.size 93 #[.bool false, .int .i64 1] (0, 0) _ rfl (heap_alloc_new _ _) Try.underlying93 rfl (by kernel_rfl)) rfl ?_
      exact ⟨by rw [HC.out]; rfl, (Below.refl _ _).alloc (Nat.le_refl _) _⟩
  · have hc := cls_two n
    have hu := unit_bd n 2
    obtain ⟨V, hV⟩ : ∃ V, V = val n.natAbs 2 := ⟨_, rfl⟩
    obtain ⟨U, hU⟩ : ∃ U, U = unitI n 2 := ⟨_, rfl⟩
    have hv2 := val_le 2 (by omega) _ n.natAbs (Nat.le_refl _)
    rw [← hU, ← hV] at hc
    rw [← hU] at hu
    rw [← hV] at hv2
    have HC := hid hc
    have HV : Hid (val n.natAbs (2 : Int).toNat = V) := hid hV.symm
    have HU := hid hU.symm
    clear hc h0 hV hU
    go_enter Try.func77, Try.ntmps77
    go_wp2_with (first | (go_at_call 82; refine (splitAt_any _ _ H0.out h1 h2 (by omega) (by omega) _).mono ?_; rw [HV.out, HU.out]; rintro e w' ⟨rfl, rfl⟩) | (go_at_call 86; refine (rest_any _ _ (by omega) (by omega) (by omega) (by omega) _).mono ?_; rintro e w' ⟨rfl, rfl⟩))
    refine bodyPost_ret (results_cell_row rfl _ _ w.heap.size 93 #[.bool ((V : Int) % 2 == 1), .int .i64 (U % 8)] (0, 0) _ rfl (heap_alloc2_old _ _ _) Try.underlying93 rfl (by kernel_rfl)) rfl ?_
    exact ⟨by rw [HC.out]; unfold clsT; rw [odd_beq], ((Below.refl _ _).alloc (Nat.le_refl _) _).alloc (by simp) _⟩
  · have hc := cls_odd h3 n
    have hu := unit_bd n P
    obtain ⟨V, hV⟩ : ∃ V, V = val n.natAbs P := ⟨_, rfl⟩
    obtain ⟨U, hU⟩ : ∃ U, U = unitI n (P : Int) := ⟨_, rfl⟩
    have hv2 := val_le P (by omega) _ n.natAbs (Nat.le_refl _)
    rw [← hU, ← hV] at hc
    rw [← hU] at hu
    rw [← hV] at hv2
    have HC := hid hc
    have HV : Hid (val n.natAbs (P : Int).toNat = V) := hid hV.symm
    have HU := hid hU.symm
    clear hc h0 hV hU
    go_enter Try.func77, Try.ntmps77
    go_wp2_with (first | (go_at_call 82; refine (splitAt_any _ _ H0.out h1 h2 (by omega) (by omega) _).mono ?_; rw [HV.out, HU.out]; rintro e w' ⟨rfl, rfl⟩) | (go_at_call 86; refine (rest_any _ _ (by omega) (by omega) (by omega) (by omega) _).mono ?_; rintro e w' ⟨rfl, rfl⟩))
    go_at_call 87
    refine (residueIs_any _ _ _).mono ?_
    rintro e w5 ⟨rfl, hb⟩
    obtain ⟨r, hr⟩ : ∃ r, r = resV (U % (P : Int)) (P : Int) := ⟨_, rfl⟩
    rw [← hr]
    have hs5 := hb.size
    have e0 := (hb.block w.heap.size (by simp; omega)).trans (heap_alloc2_old _ _ _)
    have e1 := (hb.block (w.heap.size + 1) (by simp)).trans (heap_alloc2_new _ _ _)
    have HB := hid hb
    have HR := hid hr
    clear hb hr
    have c00 : w5.cell? ⟨w.heap.size, 0, none⟩ = some (.bool false) := by simp [World.cell?, e0]
    have c01 : w5.cell? ⟨w.heap.size, 1, none⟩ = some (.int .i64 0) := by simp [World.cell?, e0]
    have c10 : w5.cell? ⟨w.heap.size + 1, 0, none⟩ = some (.bool ((V : Int) % 2 == 1)) := by simp [World.cell?, e1]
    have c11 : w5.cell? ⟨w.heap.size + 1, 1, none⟩ = some (.int .i64 0) := by simp [World.cell?, e1]
    have f0 : ∀ i, w5.frozen? ⟨w.heap.size, i, none⟩ = false := fun i => by simp [World.frozen?, e0]
    have f1 : ∀ i, w5.frozen? ⟨w.heap.size + 1, i, none⟩ = false := fun i => by simp [World.frozen?, e1]
    go_wp2
    have HRV : Hid (resN (U % (P : Int)).toNat P = r) := hid (by
      have m1 := Int.emod_nonneg U (show (P : Int) ≠ 0 by omega)
      have m2 := Int.emod_lt_of_pos U (show (0 : Int) < (P : Int) by omega)
      rw [HR.out, resV_yes (okN_iff.2 ⟨by omega, by omega⟩) (oddP_nat hP h3), Int.toNat_natCast, Int.emod_emod_of_dvd _ (Int.dvd_refl _)])
    refine bodyPost_ret (v := .agg #[.bool ((V : Int) % 2 == 1), .int .i64 r]) (by simp [results, Try.results77, go_sem]; go_simp) rfl ?_
    exact ⟨by rw [HC.out, HRV.out]; unfold clsT; rw [odd_beq], ((((((Below.refl w.heap.size w).alloc (Nat.le_refl _) _).alloc (by simp) _).trans (HB.out.mono (by simp; omega))).setCell (by simp) _).setCell (by simp) _).setCell (by simp) _⟩

end Go.Proofs.Ytenibnblibnocac
