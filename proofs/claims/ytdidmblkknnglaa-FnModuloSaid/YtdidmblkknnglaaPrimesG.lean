/-
  Contracts: the model's primes of a large number; its places.
-/
import Derived.Test.YtdidmblkknnglaaLoc2
set_option linter.unusedVariables false
namespace Go.Proofs.Ytdidmblkknnglaa
open Go.RowKit

/-- the primes by trial, for whatever number -/
def plistG (n : Nat) : List Nat := plGo (n + 1) 2 n
theorem sq_le6 {p n : Nat} (h : p * p ≤ n) (hn : n ≤ 1000000000000) : p ≤ 1000000 := by
  by_cases hp : p ≤ 1000000
  · exact hp
  · have := Nat.mul_le_mul (show 1000001 ≤ p by omega) (show 1000001 ≤ p by omega)
    omega
theorem ediv_bdG {a b : Nat} (h : a ≤ 1000000000000) : 0 ≤ (a : Int) / b ∧ (a : Int) / b ≤ 1000000000000 := by
  have h1 : (a : Int) / b = ((a / b : Nat) : Int) := by push_cast; rfl
  have h2 := Nat.div_le_self a b
  rw [h1]
  exact ⟨Int.natCast_nonneg _, by omega⟩

set_option maxRecDepth 100000 in
set_option maxHeartbeats 2000000 in
theorem l1PrimesG_any (n : Int) (h0 : n ≠ 0) (a1 : -1000000000000 ≤ n) (a2 : n ≤ 1000000000000) (w : World) :
    Calls Try.prog 97 #[.int .i64 n] w fun e w' => ∃ v, e = .returned v ∧ Owns w' w.heap.size v (natsI (plistG n.natAbs)) ∧ Below w.heap.size w w' := by
  obtain ⟨i0, hi, hz0, hz1, hz2⟩ := info_parts infoInt
  obtain ⟨N, hN⟩ : ∃ N, N = n.natAbs := ⟨_, rfl⟩
  rw [← hN]
  have hN1 : 1 ≤ N := by omega
  have hN2 : N ≤ 1000000000000 := by omega
  have HN := hid hN
  clear hN
  go_enter Try.func97, Try.ntmps97
  go_wp2_with (go_at_call 107; refine (l1Size_any _ (by omega) (by omega) _).mono ?_; rw [← HN.out]; rintro e w' ⟨rfl, rfl⟩)
  go_loopw [0, 3, 4] (fun sl so sp wr => ∃ (pre : List Nat) (L p f : Nat), sl = .int .i64 L ∧ sp = .int .i64 p ∧ 1 ≤ L ∧ L ≤ N ∧ 2 ≤ p ∧ p ≤ 1000001 ∧ p ≤ N + 2 ∧ p + f = N + 3 ∧ pre.length ≤ p ∧ Hid (plistG N = pre ++ plGo f p L) ∧ wr.ownsRow w.heap.size 3 1 so pre.length ((natsI pre).map (Value.int .i64)) ∧ Below w.heap.size w wr)
    (fun _ _ sp _ => N + 3 - (intOf sp).toNat)
  case atStart =>
    refine ⟨[], N, 2, N + 1, rfl, rfl, hN1, Nat.le_refl _, by omega, by omega, by omega, by omega, by simp, hid rfl, ?_, (Below.refl _ _).alloc (Nat.le_refl _) _⟩
    exact World.ownsRow_made (size := 1) w #[] 0 (Nat.le_refl _) (by unfold maxLen; omega) rfl
  case round =>
    obtain ⟨pre, L, p, f, rfl, rfl, hL1, hL2, hp2, hp7, hpN, hf, hpl, HP, hown, hB⟩ := hrel
    have hKK := mul_bd hp7 hp7
    obtain ⟨g, rfl⟩ : ∃ g, f = g + 1 := ⟨f - 1, by omega⟩
    by_cases hle : (p : Int) * p ≤ L
    · have hle' : p * p ≤ L := by exact_mod_cast hle
      have hp70 := sq_le6 hle' (show L ≤ 1000000000000 by omega)
      have hpL : p ≤ L := Nat.le_trans (Nat.le_mul_of_pos_left p (by omega)) hle'
      by_cases hd : L % p = 0
      · have T : ((L : Int) % p == 0) = true := by rw [beq_iff_eq]; exact_mod_cast hd
        have HE := hid (plGo_some (f := g) hle' hd)
        have HD := hid (val_dvd p hp2 L L (Nat.le_refl _) (by omega))
        clear hd hle'
        go_wp2_with (at_builtin; refine wpList_append_own _ rfl _ _ 28 rfl w.heap.size 3 i0 (.int .i64 0) 1 8 Try.underlying28 hi hz0 hz1 hz2 rfl (by decide) _ _ _ rfl (hown.alloc _) ⟨wr.heap.size, 0, none⟩ 1 1 [.int .i64 p] rfl rfl (cell_one_new _ _ _) (by simp [Value.oneCell']) (by unfold maxLen; omega) (by omega) (by have := hB.size; simp; omega) ?_; intro v' w1 hown' hgrow _)
        have hB1 : Below w.heap.size w w1 := (hB.alloc hB.size _).grown hgrow (by have := hB.size; simp; omega) (fun k e => (hown.lt k e).1)
        go_loop [0] (fun sl => ∃ M j : Nat, sl = .int .i64 M ∧ 1 ≤ M ∧ M ≤ L ∧ Hid (val M p + j = val L p ∧ M * p ^ j = L)) (fun sl => (intOf sl).toNat)
        case atStart => exact ⟨L, 0, rfl, hL1, Nat.le_refl _, hid ⟨rfl, by simp⟩⟩
        case round =>
          obtain ⟨M, j, rfl, hM1, hM2, HM⟩ := hrel
          have hdd := ediv_bdG (b := p) (show M ≤ 1000000000000 by omega)
          have hd0 := hdd.1
          have hd1 := hdd.2
          clear hdd
          by_cases hm : M % p = 0
          · have T2 : ((M : Int) % p == 0) = true := by rw [beq_iff_eq]; exact_mod_cast hm
            have hdv := Nat.dvd_of_mod_eq_zero hm
            have hq1 : 1 ≤ M / p := Nat.div_pos (Nat.le_of_dvd (by omega) hdv) (by omega)
            have hq2 : M / p < M := Nat.div_lt_self (by omega) (by omega)
            have HS := hid (val_step hp2 (show 0 < M by omega) hm)
            have HV := hid (Nat.div_mul_cancel hdv)
            clear hm hdv
            go_wp2
            go_round
            case rel => exact ⟨M / p, j + 1, vI (by push_cast; rfl), hq1, by omega, hid ⟨by have := HM.out.1; have := HS.out; omega, by rw [Nat.pow_succ, Nat.mul_comm (p ^ j), ← Nat.mul_assoc, HV.out]; exact HM.out.2⟩⟩
            case measure =>
              simp only [intOf]
              have e : (M : Int) / p = ((M / p : Nat) : Int) := by push_cast; rfl
              rw [e]
              exact Int.toNat_lt_toNat (by omega) |>.2 (Int.ofNat_lt.2 hq2)
          · have T2 : ((M : Int) % p == 0) = false := by rw [beq_eq_false_iff_ne]; exact_mod_cast hm
            have HS := hid (val_stop hm)
            have HJ : Hid (M = L / p ^ val L p) := by
              show _ = _
              have h1 := HM.out.1
              rw [HS.out, Nat.zero_add] at h1
              rw [← h1]
              conv => rhs; lhs; rw [← HM.out.2]
              rw [Nat.mul_div_cancel _ (Nat.pow_pos (by omega))]
            clear hm
            go_wp2
            go_roundw
            case rel =>
              refine ⟨pre ++ [p], M, p + 1, g, rfl, by go_num, hM1, by omega, by omega, by omega, by omega, by omega, by simp; omega, hid (by rw [HP.out, HE.out, HJ.out]; simp), ?_, hB1⟩
              have := hown'
              simpa [natsI] using this
            case measure => simp only [intOf]; omega
      · have T : ((L : Int) % p == 0) = false := by rw [beq_eq_false_iff_ne]; exact_mod_cast hd
        have HE := hid (plGo_none (f := g) hle' hd)
        clear hd hle'
        go_wp2
        go_loop [0] (fun sl => sl = .int .i64 L) (fun sl => 0)
        case atStart => rfl
        case round =>
          obtain rfl := hrel
          go_wp2
          go_roundw
          case rel => exact ⟨pre, L, p + 1, g, rfl, by go_num, hL1, hL2, by omega, by omega, by omega, by omega, by omega, hid (by rw [HP.out, HE.out]), hown, hB⟩
          case measure => simp only [intOf]; omega
    · have hle' : ¬ p * p ≤ L := fun h => hle (by exact_mod_cast h)
      have HE := hid (plGo_end (f := g) hle')
      clear hle'
      by_cases hL : 1 < L
      · have HF : Hid (plistG N = pre ++ [L]) := by show _ = _; rw [HP.out, HE.out, if_pos hL]
        go_wp2_with (at_builtin; refine wpList_append_own _ rfl _ _ 28 rfl w.heap.size 3 i0 (.int .i64 0) 1 8 Try.underlying28 hi hz0 hz1 hz2 rfl (by decide) _ _ _ rfl (hown.alloc _) ⟨wr.heap.size, 0, none⟩ 1 1 [.int .i64 L] rfl rfl (cell_one_new _ _ _) (by simp [Value.oneCell']) (by unfold maxLen; omega) (by omega) (by have := hB.size; simp; omega) ?_; intro v' w1 hown' hgrow _)
        have hB1 : Below w.heap.size w w1 := (hB.alloc hB.size _).grown hgrow (by have := hB.size; simp; omega) (fun k e => (hown.lt k e).1)
        go_ret
        exact ⟨_, rfl, by unfold Owns; rw [HF.out]; simpa [natsI] using hown', hB1⟩
      · have HF : Hid (plistG N = pre) := by show _ = _; rw [HP.out, HE.out, if_neg hL, List.append_nil]
        go_wp2
        go_ret
        exact ⟨_, rfl, by unfold Owns; rw [HF.out]; simpa [natsI] using hown, hB⟩

/-- no number from 2 on below p divides L -/
def NoLess (p L : Nat) : Prop := ∀ d, 2 ≤ d → d < p → L % d ≠ 0
/-- a number from 2 on that only 1 and itself divide -/
def PrG (x : Nat) : Prop := 2 ≤ x ∧ ∀ d, d ∣ x → d = 1 ∨ d = x
theorem prG_of {p L : Nat} (h : NoLess p L) (hL : 1 < L) (hle : ¬ p * p ≤ L) (hp : 2 ≤ p) : PrG L := by
  refine ⟨hL, fun d hd => ?_⟩
  obtain ⟨e, he⟩ := hd
  by_cases h1 : d = 1
  · exact .inl h1
  · right
    have hd0 : d ≠ 0 := by rintro rfl; omega
    have he0 : e ≠ 0 := by rintro rfl; omega
    have hdp : p ≤ d := by
      by_cases hc : p ≤ d
      · exact hc
      · exact absurd (by rw [he]; exact Nat.mul_mod_right d e) (h d (by omega) (by omega))
    by_cases he1 : e = 1
    · rw [he, he1, Nat.mul_one]
    · have hep : p ≤ e := by
        by_cases hc : p ≤ e
        · exact hc
        · exact absurd (by rw [he]; exact Nat.mul_mod_left d e) (h e (by omega) (by omega))
      exact absurd (by rw [he]; exact Nat.mul_le_mul hdp hep) hle
theorem prG_small {p L : Nat} (h : NoLess p L) (hd : L % p = 0) (hp : 2 ≤ p) : PrG p := by
  refine ⟨hp, fun d hdp => ?_⟩
  by_cases h1 : d = 1
  · exact .inl h1
  · right
    have hd0 : d ≠ 0 := by rintro rfl; rw [Nat.zero_dvd] at hdp; omega
    have hle := Nat.le_of_dvd (by omega) hdp
    by_cases hc : d = p
    · exact hc
    · exact absurd (Nat.mod_eq_zero_of_dvd (Nat.dvd_trans hdp (Nat.dvd_of_mod_eq_zero hd))) (h d (by omega) (by omega))
theorem noLess_div {p L M : Nat} (h : NoLess p L) (hM : M ∣ L) : NoLess p M := fun d h2 hp hm =>
  h d h2 hp (Nat.mod_eq_zero_of_dvd (Nat.dvd_trans (Nat.dvd_of_mod_eq_zero hm) hM))
theorem noLess_succ {p M : Nat} (h : NoLess p M) (hm : M % p ≠ 0) : NoLess (p + 1) M := fun d h2 hp => by
  by_cases e : d = p
  · rw [e]; exact hm
  · exact h d h2 (by omega)
theorem div_val {p L : Nat} (hp : 2 ≤ p) (hL : 0 < L) : L / p ^ val L p ∣ L ∧ 0 < L / p ^ val L p ∧ (L / p ^ val L p) % p ≠ 0 := by
  have hd := val_dvd p hp L L (Nat.le_refl _) hL
  refine ⟨Nat.div_dvd_of_dvd hd, Nat.div_pos (Nat.le_of_dvd hL hd) (Nat.pow_pos (by omega)), ?_⟩
  have key : ∀ (k n : Nat), n ≤ k → 0 < n → (n / p ^ val n p) % p ≠ 0 := by
    intro k
    induction k with
    | zero => intro n h h0; omega
    | succ k ih =>
      intro n h h0
      by_cases hn : n % p = 0
      · have h1 : n / p < n := Nat.div_lt_self h0 (by omega)
        have h2 : 0 < n / p := Nat.div_pos (Nat.le_of_dvd h0 (Nat.dvd_of_mod_eq_zero hn)) (by omega)
        rw [val_step hp h0 hn, Nat.pow_succ, Nat.mul_comm, ← Nat.div_div_eq_div_mul]
        exact ih (n / p) (by omega) h2
      · rw [val_stop hn, Nat.pow_zero, Nat.div_one]; exact hn
  exact key L L (Nat.le_refl _) hL

theorem plGo_step {f p L : Nat} : plGo (f + 1) p L = if p * p ≤ L then (if L % p = 0 then p :: plGo f (p + 1) (L / p ^ val L p) else plGo f (p + 1) L) else if 1 < L then [L] else [] := by
  conv => lhs; unfold plGo
theorem plGo_one {p L : Nat} (hp : 2 ≤ p) (hn : NoLess p L) (h : L = 1) (f : Nat) (hf : 1 ≤ f) : plGo f p L = [] := by
  obtain ⟨g, rfl⟩ : ∃ g, f = g + 1 := ⟨f - 1, by omega⟩
  have hpp := Nat.mul_le_mul hp hp
  rw [plGo_step, if_neg (by omega), if_neg (by omega)]
theorem fuel_less {p f : Nat} (h : 1 ≤ f) : ∀ L : Nat, p * p ≤ L → L < (p + f) * (p + f) → 1 ≤ f := fun _ _ _ => h

/-- what the list of primes holds: exactly the primes that divide, ascending -/
theorem plGo_spec : ∀ (f p L : Nat), 2 ≤ p → 0 < L → NoLess p L → L + 1 ≤ p + f ∨ (L < p * p ∧ 1 ≤ f) →
    (∀ x ∈ plGo f p L, PrG x ∧ x ∣ L ∧ p ≤ x) ∧ (plGo f p L).Pairwise (· < ·) ∧ (∀ x, PrG x → x ∣ L → x ∈ plGo f p L)
  | 0, p, L, hp, hL, hn, hb => by
    have h1 : L + 1 ≤ p := by omega
    have hL1 : L = 1 := by
      by_cases h : L = 1
      · exact h
      · exact absurd (Nat.mod_self L) (hn L (by omega) (by omega))
    subst hL1
    refine ⟨fun x hx => by simp [plGo] at hx, by simp [plGo], fun x hx hd => ?_⟩
    have := Nat.le_of_dvd (by omega) hd
    have := hx.1
    omega
  | f + 1, p, L, hp, hL, hn, hb => by
    rw [plGo_step]
    by_cases hle : p * p ≤ L
    · have hpL : p ≤ L := Nat.le_trans (Nat.le_mul_of_pos_left p (by omega)) hle
      rw [if_pos hle]
      by_cases hd : L % p = 0
      · rw [if_pos hd]
        obtain ⟨m1, m2, m3⟩ := div_val hp hL
        obtain ⟨M, hM⟩ : ∃ M, M = L / p ^ val L p := ⟨_, rfl⟩
        rw [← hM] at m1 m2 m3 ⊢
        have hML := Nat.le_of_dvd hL m1
        have hnM := noLess_succ (noLess_div hn m1) m3
        obtain ⟨i1, i2, i3⟩ := plGo_spec f (p + 1) M (by omega) m2 hnM (by omega)
        refine ⟨fun x hx => ?_, List.pairwise_cons.2 ⟨fun x hx => ?_, i2⟩, fun x hx hxd => ?_⟩
        · rcases List.mem_cons.1 hx with rfl | hx
          · exact ⟨prG_small hn hd hp, Nat.dvd_of_mod_eq_zero hd, Nat.le_refl _⟩
          · obtain ⟨a, b, c⟩ := i1 x hx
            exact ⟨a, Nat.dvd_trans b m1, by omega⟩
        · have := (i1 x hx).2.2
          omega
        · by_cases e : x = p
          · rw [e]; exact List.mem_cons_self
          · refine List.mem_cons_of_mem _ (i3 x hx ?_)
            -- x divides L = p^v * M and x is no p
            have hL2 : L = p ^ val L p * M := by
              rw [hM]
              have hdv := val_dvd p hp L L (Nat.le_refl _) hL
              rw [Nat.mul_comm]; exact (Nat.div_mul_cancel hdv).symm
            have hco : ∀ k, Nat.Coprime x (p ^ k) := fun k => by
              refine Nat.Coprime.pow_right k ?_
              have hg : Nat.gcd x p ∣ x := Nat.gcd_dvd_left x p
              have hg2 : Nat.gcd x p ∣ p := Nat.gcd_dvd_right x p
              rcases hx.2 _ hg with h | h
              · exact h
              · rw [h] at hg2
                rcases (prG_small hn hd hp).2 x hg2 with h2 | h2
                · have := hx.1; omega
                · exact absurd h2 e
            rw [hL2] at hxd
            exact (hco _).dvd_of_dvd_mul_left hxd
      · rw [if_neg hd]
        obtain ⟨i1, i2, i3⟩ := plGo_spec f (p + 1) L (by omega) hL (noLess_succ hn hd) (by omega)
        exact ⟨fun x hx => by obtain ⟨a, b, c⟩ := i1 x hx; exact ⟨a, b, by omega⟩, i2, i3⟩
    · rw [if_neg hle]
      by_cases h1 : 1 < L
      · rw [if_pos h1]
        have hpr := prG_of hn h1 hle hp
        have hpl : p ≤ L := by
          by_cases hc : p ≤ L
          · exact hc
          · exact absurd (Nat.mod_self L) (hn L (by omega) (by omega))
        refine ⟨fun x hx => ?_, by simp, fun x hx hd => ?_⟩
        · rw [List.mem_singleton] at hx
          rw [hx]
          exact ⟨hpr, Nat.dvd_refl _, hpl⟩
        · rcases hpr.2 x hd with h | h
          · have := hx.1; omega
          · rw [h]; exact List.mem_singleton.2 rfl
      · rw [if_neg h1]
        have hL1 : L = 1 := by omega
        subst hL1
        refine ⟨fun x hx => (by cases hx), List.Pairwise.nil, fun x hx hd => ?_⟩
        have := Nat.le_of_dvd (by omega) hd
        have := hx.1
        omega
theorem plistG_spec {n : Nat} (h : 0 < n) : (∀ x ∈ plistG n, PrG x ∧ x ∣ n) ∧ (plistG n).Pairwise (· < ·) ∧ (∀ x, PrG x → x ∣ n → x ∈ plistG n) := by
  obtain ⟨a, b, c⟩ := plGo_spec (n + 1) 2 n (Nat.le_refl _) h (fun d h2 hp => by omega) (by omega)
  exact ⟨fun x hx => ⟨(a x hx).1, (a x hx).2.1⟩, b, c⟩

end Go.Proofs.Ytdidmblkknnglaa
