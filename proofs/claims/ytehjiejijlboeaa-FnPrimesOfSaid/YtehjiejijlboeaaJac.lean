/-
  Contracts: Jacobi's symbol (program and model).
-/
import Derived.Test.YtehjiejijlboeaaRes2
import Derived.Test.YtehjiejijlboeaaLists
import Derived.BigRegionIn
set_option linter.unusedVariables false
namespace Go.Proofs.Ytehjiejijlboeaa
open Go.RowKit Go.Shelf
attribute [local go_sem] Oper.semAt_some

/-- what the list of prime powers is -/
def ppOk (N : Nat) : Bool := decide (N = 0) || (ppow N).all (fun x => primeN x.1 && (decide (1 ≤ x.2) && ((x.2 == val N x.1) && decide (N % x.1 = 0))))
theorem ppOk_all : (List.range 5001).all ppOk = true := by decide +kernel
theorem pp_mem {N : Nat} (h1 : 1 ≤ N) (h2 : N ≤ 5000) {x : Nat × Nat} (hx : x ∈ ppow N) : primeN x.1 = true ∧ 1 ≤ x.2 ∧ x.2 = val N x.1 ∧ N % x.1 = 0 := by
  have := List.all_eq_true.1 ppOk_all N (List.mem_range.2 (by omega))
  unfold ppOk at this
  rw [decide_eq_false (by omega)] at this
  simp only [Bool.false_or] at this
  have := List.all_eq_true.1 this x hx
  simp only [Bool.and_eq_true, beq_iff_eq, decide_eq_true_eq] at this
  exact ⟨this.1, this.2.1, this.2.2.1, this.2.2.2⟩

def jm (a r : Int) : Nat → Int
  | 0 => a
  | k + 1 => jm a r k * r
def jmW (a r : Int) : Nat → Int
  | 0 => a
  | k + 1 => wrap64 (jmW a r k * r)
def jacF (n : Int) (l : List (Nat × Nat)) : Int := l.foldl (fun a x => jm a (resN (n % (x.1 : Int)).toNat x.1) x.2) 1
def jacW (n : Int) (l : List (Nat × Nat)) : Int := l.foldl (fun a x => jmW a (resV n (x.1 : Int)) x.2) 1

theorem small_mul {a r : Int} (h1 : -1 ≤ a) (h2 : a ≤ 1) (h3 : -1 ≤ r) (h4 : r ≤ 1) : -1 ≤ a * r ∧ a * r ≤ 1 := by
  have ha : a = -1 ∨ a = 0 ∨ a = 1 := by omega
  rcases ha with rfl | rfl | rfl <;> omega
theorem jm_small {r : Int} (h3 : -1 ≤ r) (h4 : r ≤ 1) : ∀ (k : Nat) {a : Int}, -1 ≤ a → a ≤ 1 → -1 ≤ jm a r k ∧ jm a r k ≤ 1
  | 0, _, h1, h2 => ⟨h1, h2⟩
  | k + 1, a, h1, h2 => by
    have := jm_small h3 h4 k h1 h2
    exact small_mul this.1 this.2 h3 h4
theorem wrap_small {a : Int} (h1 : -1 ≤ a) (h2 : a ≤ 1) : wrap64 a = a := IntWalk.wrap64_in a (by omega)
theorem jmW_eq {r : Int} (h3 : -1 ≤ r) (h4 : r ≤ 1) : ∀ (k : Nat) {a : Int}, -1 ≤ a → a ≤ 1 → jmW a r k = jm a r k
  | 0, _, _, _ => rfl
  | k + 1, a, h1, h2 => by
    have h5 := jm_small h3 h4 k h1 h2
    have h6 := small_mul h5.1 h5.2 h3 h4
    unfold jmW jm
    rw [jmW_eq h3 h4 k h1 h2, wrap_small h6.1 h6.2]
theorem resN_small {p : Nat} (h : primeN p = true) (h3 : 3 ≤ p) (r : Nat) : -1 ≤ resN r p ∧ resN r p ≤ 1 := by
  rw [← res_same h h3]
  unfold resM
  split
  · omega
  · split <;> omega
theorem jacF_step (n : Int) (l : List (Nat × Nat)) (x : Nat × Nat) : jacF n (l ++ [x]) = jm (jacF n l) (resN (n % (x.1 : Int)).toNat x.1) x.2 := by simp [jacF]
theorem jacW_step (n : Int) (l : List (Nat × Nat)) (x : Nat × Nat) : jacW n (l ++ [x]) = jmW (jacW n l) (resV n (x.1 : Int)) x.2 := by simp [jacW]
theorem oddP_nat {p : Nat} (h : primeN p = true) (h3 : 3 ≤ p) : oddP (p : Int) = true := by
  have e : primeI (p : Int) = true := h
  unfold oddP
  rw [e]
  simp
  omega
theorem jac_same (n : Int) (hn : okN n = true) : ∀ l : List (Nat × Nat), (∀ x ∈ l, primeN x.1 = true ∧ 3 ≤ x.1) → ∀ a : Int, -1 ≤ a → a ≤ 1 →
    l.foldl (fun a x => jmW a (resV n (x.1 : Int)) x.2) a = l.foldl (fun a x => jm a (resN (n % (x.1 : Int)).toNat x.1) x.2) a ∧ -1 ≤ l.foldl (fun a x => jm a (resN (n % (x.1 : Int)).toNat x.1) x.2) a ∧ l.foldl (fun a x => jm a (resN (n % (x.1 : Int)).toNat x.1) x.2) a ≤ 1
  | [], _, a, h1, h2 => ⟨rfl, h1, h2⟩
  | x :: l, hl, a, h1, h2 => by
    obtain ⟨hp, h3⟩ := hl x (by simp)
    have hr := resN_small hp h3 (n % (x.1 : Int)).toNat
    have hj := jm_small hr.1 hr.2 x.2 h1 h2
    have e : resV n (x.1 : Int) = resN (n % (x.1 : Int)).toNat x.1 := by rw [resV_yes hn (oddP_nat hp h3)]; rfl
    simp only [List.foldl_cons]
    rw [e, jmW_eq hr.1 hr.2 x.2 h1 h2]
    exact jac_same n hn l (fun y hy => hl y (by simp [hy])) _ hj.1 hj.2
theorem odd_pp {m : Nat} (h1 : 1 ≤ m) (h2 : m ≤ 5000) (ho : m % 2 = 1) : ∀ x ∈ ppow m, primeN x.1 = true ∧ 3 ≤ x.1 := by
  intro x hx
  obtain ⟨hp, _, _, hd⟩ := pp_mem h1 h2 hx
  refine ⟨hp, ?_⟩
  have := (primeN_bd hp).1
  by_cases e : x.1 = 2
  · rw [e] at hd; omega
  · omega
theorem jac_eq {n : Int} {m : Nat} (hn : okN n = true) (h1 : 1 ≤ m) (h2 : m ≤ 5000) (ho : m % 2 = 1) : jacW n (ppow m) = jacF n (ppow m) :=
  (jac_same n hn _ (odd_pp h1 h2 ho) 1 (by omega) (by omega)).1
theorem jacF_small {n : Int} {m : Nat} (hn : okN n = true) (h1 : 1 ≤ m) (h2 : m ≤ 5000) (ho : m % 2 = 1) {l : List (Nat × Nat)} (hl : l <+: ppow m) : -1 ≤ jacF n l ∧ jacF n l ≤ 1 := by
  obtain ⟨t, ht⟩ := hl
  refine (jac_same n hn l (fun x hx => odd_pp h1 h2 ho x ?_) 1 (by omega) (by omega)).2
  rw [← ht]; simp [hx]

/-- what JacobiOf answers -/
def jacOk (n m : Int) : Bool := okN n && (inR m 1 5000 && decide (m % 2 = 1))
def jacV (n m : Int) : Int := if jacOk n m then jacF n (ppow m.toNat) else -2
theorem jacV_yes {n m : Int} (h : jacOk n m = true) : jacV n m = jacF n (ppow m.toNat) := by unfold jacV; rw [if_pos h]
theorem jacV_no {n m : Int} (h : jacOk n m = false) : jacV n m = -2 := by unfold jacV; rw [if_neg (by rw [h]; decide)]
theorem jac_cases (n m : Int) : (-5000 ≤ n ∧ n ≤ 5000 ∧ 1 ≤ m ∧ m ≤ 5000 ∧ okN n = true ∧ inR m 1 5000 = true ∧ m % 2 = 1 ∧ jacOk n m = true) ∨ (okN n = false ∧ jacOk n m = false) ∨ (okN n = true ∧ inR m 1 5000 = false ∧ jacOk n m = false) ∨ (1 ≤ m ∧ okN n = true ∧ inR m 1 5000 = true ∧ m % 2 = 0 ∧ jacOk n m = false) := by
  rcases okN_cases n with ⟨a1, a2, A⟩ | ⟨a1, A⟩ | ⟨a1, a2, A⟩
  · rcases inR_cases m 1 5000 with ⟨c1, c2, C⟩ | ⟨c1, C⟩ | ⟨c1, c2, C⟩
    · by_cases h : m % 2 = 1
      · exact .inl ⟨a1, a2, c1, c2, A, C, h, by simp [jacOk, A, C, h]⟩
      · exact .inr (.inr (.inr ⟨c1, A, C, by omega, by simp [jacOk, h]⟩))
    · exact .inr (.inr (.inl ⟨A, C, by simp [jacOk, C]⟩))
    · exact .inr (.inr (.inl ⟨A, C, by simp [jacOk, C]⟩))
  · exact .inr (.inl ⟨A, by simp [jacOk, A]⟩)
  · exact .inr (.inl ⟨A, by simp [jacOk, A]⟩)

theorem take_step {l : List (Nat × Nat)} {i : Nat} (h : i < l.length) : l.take (i + 1) = l.take i ++ [l[i]] := by
  rw [List.take_succ_eq_append_getElem h]

set_option maxRecDepth 100000 in
set_option maxHeartbeats 2000000 in
theorem jacobiS_any (n m : Int) (w : World) : Calls Try.prog 46 #[.int .i64 n, .int .i64 m] w fun e w' => e = .returned (.int .i64 (jacV n m)) ∧ Below w.heap.size w w' := by
  rcases jac_cases n m with ⟨a1, a2, c1, c2, A, C, ho, J⟩ | ⟨A, J⟩ | ⟨A, C, J⟩ | ⟨c1, A, C, ho, J⟩
  · have P := hid (jacV_yes J)
    obtain ⟨M, rfl⟩ := Int.eq_ofNat_of_zero_le (show 0 ≤ m by omega)
    have T : ((M : Int) % 2 == 0) = false := by rw [beq_eq_false_iff_ne]; omega
    have hoN : M % 2 = 1 := by omega
    have HO := hid hoN
    have HA := hid A
    obtain ⟨L, hL⟩ : ∃ L, L = ppow M := ⟨_, rfl⟩
    have HL := hid hL
    have hlen : L.length ≤ 70 := by rw [hL]; exact ppow_len M
    have Hmem : Hid (∀ x ∈ L, primeN x.1 = true ∧ x.2 = val M x.1 ∧ 3 ≤ x.1 ∧ x.1 ≤ 5000 ∧ x.2 ≤ 5000) := by
      intro x hx
      rw [hL] at hx
      obtain ⟨q1, q2, q3, q4⟩ := pp_mem (by omega) (by omega) hx
      have := odd_pp (by omega) (by omega) hoN x hx
      refine ⟨q1, q3, this.2, (primeN_bd q1).2.1, ?_⟩
      rw [q3]
      have := val_le x.1 (by omega) M M (Nat.le_refl _)
      omega
    simp only [Int.toNat_natCast] at P
    rw [← hL] at P
    clear hL hoN ho J
    go_enter Try.func46, Try.ntmps46
    go_wp2_with (first | (go_at_call 63; refine (l1Number_any _ _).mono ?_; rintro e w' ⟨rfl, rfl⟩) | (go_at_call 55; refine (l6In_any _ _ _ _).mono ?_; rintro e w' ⟨rfl, rfl⟩) | (go_at_call 64; refine (l1Primes_any _ (by omega) (by omega) (by omega) _).mono ?_; rintro e w1 ⟨v, rfl, hv, hb⟩))
    have hnl : natsI (plist (Int.natAbs (M : Int))) = L.map (fun x => (x.1 : Int)) := by
      rw [Int.natAbs_natCast, plist_eq, HL.out]; simp [natsI]
    rw [hnl] at hv
    have hrd := hv.rd
    have hform : ∃ a cap, v = .slice a L.length cap := by
      rcases hrd with ⟨a, cap, rfl, h0⟩ | ⟨b, o, cap, rfl, _⟩
      · have : L.length = 0 := by have := congrArg List.length h0; simpa using this
        rw [this]; exact ⟨_, _, rfl⟩
      · rw [List.length_map]; exact ⟨_, _, rfl⟩
    have hcell : ∀ i, (h : i < L.length) → ∃ b o cap, v = .slice (some ⟨b, o, none⟩) L.length cap ∧ w1.cell? ⟨b, o + i, none⟩ = some (.int .i64 (L[i].1 : Nat)) := by
      intro i hi
      rcases hrd with ⟨a, cap, rfl, h0⟩ | ⟨b, o, cap, rfl, _, _, hc⟩
      · have : L.length = 0 := by have := congrArg List.length h0; simpa using this
        omega
      · refine ⟨b, o, cap, by rw [List.length_map], ?_⟩
        rw [hc i (by simpa using hi)]
        simp [List.getD, List.getElem?_eq_getElem hi]
    obtain ⟨a, cap, rfl⟩ := hform
    have HC := hid hcell
    clear hv hrd hcell hnl
    go_wp2
    go_loop [5, 7] (fun so si => ∃ (i : Nat) (z : Int), so = .int .i64 z ∧ si = .int .i64 i ∧ i ≤ L.length ∧ -1 ≤ z ∧ z ≤ 1 ∧ Hid (z = jacF n (L.take i))) (fun _ si => L.length - (intOf si).toNat)
    case atStart => exact ⟨0, 1, rfl, rfl, by omega, by omega, by omega, hid rfl⟩
    case round =>
      obtain ⟨i, z, rfl, rfl, hi, hz1, hz2, HZ⟩ := hrel
      by_cases hlt : i < L.length
      · obtain ⟨b, o, cap', hv, hc⟩ := HC.out i hlt
        obtain ⟨hp, hx2, hx3, hx5, hk5⟩ := Hmem.out L[i] (List.getElem_mem hlt)
        obtain ⟨p, hpp⟩ : ∃ p, p = L[i].1 := ⟨_, rfl⟩
        obtain ⟨k, hkk⟩ : ∃ k, k = L[i].2 := ⟨_, rfl⟩
        rw [← hpp] at hc hp hx3 hx5 hx2
        rw [← hkk] at hx2 hk5
        have HT : Hid (L.take (i + 1) = L.take i ++ [(p, k)]) := by
          show _ = _
          rw [take_step hlt]
          congr 2
          rw [hpp, hkk]
        obtain ⟨rfl, rfl⟩ : a = some ⟨b, o, none⟩ ∧ cap = cap' := by
          simp only [Value.slice.injEq, true_and] at hv
          exact hv
        have HX2 := hid hx2
        have hi2 : (i : Int) < (L.length : Int) := by omega
        have hrs := resN_small hp hx3 (n % (p : Int)).toNat
        obtain ⟨r, hr⟩ : ∃ r, r = resN (n % (p : Int)).toNat p := ⟨_, rfl⟩
        rw [← hr] at hrs
        have hr1 := hrs.1
        have hr2 := hrs.2
        have HR := hid hr
        clear hpp hkk hv hx2 hrs hr hp
        go_wp2_with (go_at_call 67; refine (l1Valuation_any _ _ (by omega) (by omega) (by omega) (by omega) (by omega) _).mono ?_; rw [show val (Int.natAbs (M : Int)) (Int.toNat (p : Int)) = k from HX2.out.symm]; rintro e w' ⟨rfl, rfl⟩)
        go_loop [5, 10] (fun so sk => ∃ (j : Nat) (y : Int), so = .int .i64 y ∧ sk = .int .i64 j ∧ j ≤ k ∧ -1 ≤ y ∧ y ≤ 1 ∧ Hid (y = jm z r j)) (fun _ sk => k - (intOf sk).toNat)
        case atStart => exact ⟨0, z, rfl, rfl, by omega, hz1, hz2, hid rfl⟩
        case round =>
          obtain ⟨j, y, rfl, rfl, hj, hy1, hy2, HY⟩ := hrel
          have hyr := small_mul hy1 hy2 hr1 hr2
          have hyr1 := hyr.1
          have hyr2 := hyr.2
          clear hyr
          by_cases hlt2 : j < k
          · go_wp2_with (go_at_call 74; refine (l1Residue_any _ _ (by omega) (by omega) (by omega) (by omega) _).mono ?_; rw [show resN (n % (p : Int)).toNat (Int.toNat (p : Int)) = r from HR.out.symm]; rintro e w' ⟨rfl, rfl⟩)
            go_round
            case rel => exact ⟨j + 1, y * r, rfl, by go_num, by omega, hyr1, hyr2, hid (by rw [HY.out]; rfl)⟩
            case measure => simp only [intOf]; omega
          · obtain rfl : j = k := by omega
            go_wp2
            go_round
            case rel => exact ⟨i + 1, y, rfl, by go_num, by omega, hy1, hy2, hid (by rw [HT.out, jacF_step, ← HZ.out, ← HR.out]; exact HY.out)⟩
            case measure => simp only [intOf]; omega
      · obtain rfl : i = L.length := by omega
        go_wp2
        go_ret
        exact ⟨retI (by rw [P.out, HZ.out, List.take_length]), hb⟩
  · have P := hid (jacV_no J)
    go_enter Try.func46, Try.ntmps46
    go_wp2_with (first | (go_at_call 63; refine (l1Number_any _ _).mono ?_; rintro e w' ⟨rfl, rfl⟩))
    go_ret
    exact ⟨retI P.out.symm, Below.refl _ _⟩
  · have P := hid (jacV_no J)
    go_enter Try.func46, Try.ntmps46
    go_wp2_with (first | (go_at_call 63; refine (l1Number_any _ _).mono ?_; rintro e w' ⟨rfl, rfl⟩) | (go_at_call 55; refine (l6In_any _ _ _ _).mono ?_; rintro e w' ⟨rfl, rfl⟩))
    go_ret
    exact ⟨retI P.out.symm, Below.refl _ _⟩
  · have P := hid (jacV_no J)
    have T : (m % 2 == 0) = true := by rw [beq_iff_eq]; exact ho
    clear ho
    go_enter Try.func46, Try.ntmps46
    go_wp2_with (first | (go_at_call 63; refine (l1Number_any _ _).mono ?_; rintro e w' ⟨rfl, rfl⟩) | (go_at_call 55; refine (l6In_any _ _ _ _).mono ?_; rintro e w' ⟨rfl, rfl⟩))
    go_ret
    exact ⟨retI P.out.symm, Below.refl _ _⟩

end Go.Proofs.Ytehjiejijlboeaa
