/-
  Some texts in one file: PrimesG CoreG CoreI ImpA.
-/
import Derived.Test.YtciajpimpjpnfacBun7
import Derived.Test.YtciajpimpjpnfacBun3
import Derived.Test.YtciajpimpjpnfacRes2
import Derived.Laws.StructEq
import Derived.Laws.ResultCell
/-! PrimesG -/
set_option linter.unusedVariables false
namespace Go.Proofs.Ytciajpimpjpnfac
open Go.RowKit

/-- the primes by trial, for whatever number -/
def plistG (n : Nat) : List Nat := plGo (n + 1) 2 n
theorem sq_le6 {p n : Nat} (h : p * p ≤ n) (hn : n ≤ 1000000000000) : p ≤ 1000000 := by
  by_cases hp : p ≤ 1000000
  · exact hp
  · have := Nat.mul_le_mul (show 1000001 ≤ p by omega) (show 1000001 ≤ p by omega)
    omega
theorem ediv_bdG {a b : Nat} (h : a ≤ 1000000000000) : 0 ≤ (a : Int) / b ∧ (a : Int) / b ≤ 1000000000000 := by
  have h1 : (a : Int) / b = ((a / b : Nat) : Int) := by push_cast; rfl
  have h2 := Nat.div_le_self a b
  rw [h1]
  exact ⟨Int.natCast_nonneg _, by omega⟩

set_option maxRecDepth 100000 in
set_option maxHeartbeats 2000000 in
theorem l1PrimesG_any (n : Int) (h0 : n ≠ 0) (a1 : -1000000000000 ≤ n) (a2 : n ≤ 1000000000000) (w : World) :
    Calls Try.prog 63 #[.int .i64 n] w fun e w' => ∃ v, e = .returned v ∧ Owns w' w.heap.size v (natsI (plistG n.natAbs)) ∧ Below w.heap.size w w' := by
  obtain ⟨i0, hi, hz0, hz1, hz2⟩ := info_parts infoInt
  obtain ⟨N, hN⟩ : ∃ N, N = n.natAbs := ⟨_, rfl⟩
  rw [← hN]
  have hN1 : 1 ≤ N := by omega
  have hN2 : N ≤ 1000000000000 := by omega
  have HN := hid hN
  clear hN
  go_enter Try.func63, Try.ntmps63
  go_wp2_with (go_at_call 71; refine (l1Size_any _ (by omega) (by omega) _).mono ?_; rw [← HN.out]; rintro e w' ⟨rfl, rfl⟩)
  go_loopw [0, 3, 4] (fun sl so sp wr => ∃ (pre : List Nat) (L p f : Nat), sl = .int .i64 L ∧ sp = .int .i64 p ∧ 1 ≤ L ∧ L ≤ N ∧ 2 ≤ p ∧ p ≤ 1000001 ∧ p ≤ N + 2 ∧ p + f = N + 3 ∧ pre.length ≤ p ∧ Hid (plistG N = pre ++ plGo f p L) ∧ wr.ownsRow w.heap.size 3 1 so pre.length ((natsI pre).map (Value.int .i64)) ∧ Below w.heap.size w wr)
    (fun _ _ sp _ => N + 3 - (intOf sp).toNat)
  case atStart =>
    refine ⟨[], N, 2, N + 1, rfl, rfl, hN1, Nat.le_refl _, by omega, by omega, by omega, by omega, by simp, hid rfl, ?_, (Below.refl _ _).alloc (Nat.le_refl _) _⟩
    exact World.ownsRow_made (size := 1) w #[] 0 (Nat.le_refl _) (by unfold maxLen; omega) rfl
  case round =>
    obtain ⟨pre, L, p, f, rfl, rfl, hL1, hL2, hp2, hp7, hpN, hf, hpl, HP, hown, hB⟩ := hrel
    have hKK := mul_bd hp7 hp7
    obtain ⟨g, rfl⟩ : ∃ g, f = g + 1 := ⟨f - 1, by omega⟩
    by_cases hle : (p : Int) * p ≤ L
    · have hle' : p * p ≤ L := by exact_mod_cast hle
      have hp70 := sq_le6 hle' (show L ≤ 1000000000000 by omega)
      have hpL : p ≤ L := Nat.le_trans (Nat.le_mul_of_pos_left p (by omega)) hle'
      by_cases hd : L % p = 0
      · have T : ((L : Int) % p == 0) = true := by rw [beq_iff_eq]; exact_mod_cast hd
        have HE := hid (plGo_some (f := g) hle' hd)
        have HD := hid (val_dvd p hp2 L L (Nat.le_refl _) (by omega))
        clear hd hle'
        go_wp2_with (at_builtin; refine wpList_append_own _ rfl _ _ 22 rfl w.heap.size 3 i0 (.int .i64 0) 1 8 Try.underlying22 hi hz0 hz1 hz2 rfl (by decide) _ _ _ rfl (hown.alloc _) ⟨wr.heap.size, 0, none⟩ 1 1 [.int .i64 p] rfl rfl (cell_one_new _ _ _) (by simp [Value.oneCell']) (by unfold maxLen; omega) (by omega) (by have := hB.size; simp; omega) ?_; intro v' w1 hown' hgrow _)
        have hB1 : Below w.heap.size w w1 := (hB.alloc hB.size _).grown hgrow (by have := hB.size; simp; omega) (fun k e => (hown.lt k e).1)
        go_loop [0] (fun sl => ∃ M j : Nat, sl = .int .i64 M ∧ 1 ≤ M ∧ M ≤ L ∧ Hid (val M p + j = val L p ∧ M * p ^ j = L)) (fun sl => (intOf sl).toNat)
        case atStart => exact ⟨L, 0, rfl, hL1, Nat.le_refl _, hid ⟨rfl, by simp⟩⟩
        case round =>
          obtain ⟨M, j, rfl, hM1, hM2, HM⟩ := hrel
          have hdd := ediv_bdG (b := p) (show M ≤ 1000000000000 by omega)
          have hd0 := hdd.1
          have hd1 := hdd.2
          clear hdd
          by_cases hm : M % p = 0
          · have T2 : ((M : Int) % p == 0) = true := by rw [beq_iff_eq]; exact_mod_cast hm
            have hdv := Nat.dvd_of_mod_eq_zero hm
            have hq1 : 1 ≤ M / p := Nat.div_pos (Nat.le_of_dvd (by omega) hdv) (by omega)
            have hq2 : M / p < M := Nat.div_lt_self (by omega) (by omega)
            have HS := hid (val_step hp2 (show 0 < M by omega) hm)
            have HV := hid (Nat.div_mul_cancel hdv)
            clear hm hdv
            go_wp2
            go_round
            case rel => exact ⟨M / p, j + 1, vI (by push_cast; rfl), hq1, by omega, hid ⟨by have := HM.out.1; have := HS.out; omega, by rw [Nat.pow_succ, Nat.mul_comm (p ^ j), ← Nat.mul_assoc, HV.out]; exact HM.out.2⟩⟩
            case measure =>
              simp only [intOf]
              have e : (M : Int) / p = ((M / p : Nat) : Int) := by push_cast; rfl
              rw [e]
              exact Int.toNat_lt_toNat (by omega) |>.2 (Int.ofNat_lt.2 hq2)
          · have T2 : ((M : Int) % p == 0) = false := by rw [beq_eq_false_iff_ne]; exact_mod_cast hm
            have HS := hid (val_stop hm)
            have HJ : Hid (M = L / p ^ val L p) := by
              show _ = _
              have h1 := HM.out.1
              rw [HS.out, Nat.zero_add] at h1
              rw [← h1]
              conv => rhs; lhs; rw [← HM.out.2]
              rw [Nat.mul_div_cancel _ (Nat.pow_pos (by omega))]
            clear hm
            go_wp2
            go_roundw
            case rel =>
              refine ⟨pre ++ [p], M, p + 1, g, rfl, by go_num, hM1, by omega, by omega, by omega, by omega, by omega, by simp; omega, hid (by rw [HP.out, HE.out, HJ.out]; simp), ?_, hB1⟩
              have := hown'
              simpa [natsI] using this
            case measure => simp only [intOf]; omega
      · have T : ((L : Int) % p == 0) = false := by rw [beq_eq_false_iff_ne]; exact_mod_cast hd
        have HE := hid (plGo_none (f := g) hle' hd)
        clear hd hle'
        go_wp2
        go_loop [0] (fun sl => sl = .int .i64 L) (fun sl => 0)
        case atStart => rfl
        case round =>
          obtain rfl := hrel
          go_wp2
          go_roundw
          case rel => exact ⟨pre, L, p + 1, g, rfl, by go_num, hL1, hL2, by omega, by omega, by omega, by omega, by omega, hid (by rw [HP.out, HE.out]), hown, hB⟩
          case measure => simp only [intOf]; omega
    · have hle' : ¬ p * p ≤ L := fun h => hle (by exact_mod_cast h)
      have HE := hid (plGo_end (f := g) hle')
      clear hle'
      by_cases hL : 1 < L
      · have HF : Hid (plistG N = pre ++ [L]) := by show _ = _; rw [HP.out, HE.out, if_pos hL]
        go_wp2_with (at_builtin; refine wpList_append_own _ rfl _ _ 22 rfl w.heap.size 3 i0 (.int .i64 0) 1 8 Try.underlying22 hi hz0 hz1 hz2 rfl (by decide) _ _ _ rfl (hown.alloc _) ⟨wr.heap.size, 0, none⟩ 1 1 [.int .i64 L] rfl rfl (cell_one_new _ _ _) (by simp [Value.oneCell']) (by unfold maxLen; omega) (by omega) (by have := hB.size; simp; omega) ?_; intro v' w1 hown' hgrow _)
        have hB1 : Below w.heap.size w w1 := (hB.alloc hB.size _).grown hgrow (by have := hB.size; simp; omega) (fun k e => (hown.lt k e).1)
        go_ret
        exact ⟨_, rfl, by unfold Owns; rw [HF.out]; simpa [natsI] using hown', hB1⟩
      · have HF : Hid (plistG N = pre) := by show _ = _; rw [HP.out, HE.out, if_neg hL, List.append_nil]
        go_wp2
        go_ret
        exact ⟨_, rfl, by unfold Owns; rw [HF.out]; simpa [natsI] using hown, hB⟩

/-- no number from 2 on below p divides L -/
def NoLess (p L : Nat) : Prop := ∀ d, 2 ≤ d → d < p → L % d ≠ 0
/-- a number from 2 on that only 1 and itself divide -/
def PrG (x : Nat) : Prop := 2 ≤ x ∧ ∀ d, d ∣ x → d = 1 ∨ d = x
theorem prG_of {p L : Nat} (h : NoLess p L) (hL : 1 < L) (hle : ¬ p * p ≤ L) (hp : 2 ≤ p) : PrG L := by
  refine ⟨hL, fun d hd => ?_⟩
  obtain ⟨e, he⟩ := hd
  by_cases h1 : d = 1
  · exact .inl h1
  · right
    have hd0 : d ≠ 0 := by rintro rfl; omega
    have he0 : e ≠ 0 := by rintro rfl; omega
    have hdp : p ≤ d := by
      by_cases hc : p ≤ d
      · exact hc
      · exact absurd (by rw [he]; exact Nat.mul_mod_right d e) (h d (by omega) (by omega))
    by_cases he1 : e = 1
    · rw [he, he1, Nat.mul_one]
    · have hep : p ≤ e := by
        by_cases hc : p ≤ e
        · exact hc
        · exact absurd (by rw [he]; exact Nat.mul_mod_left d e) (h e (by omega) (by omega))
      exact absurd (by rw [he]; exact Nat.mul_le_mul hdp hep) hle
theorem prG_small {p L : Nat} (h : NoLess p L) (hd : L % p = 0) (hp : 2 ≤ p) : PrG p := by
  refine ⟨hp, fun d hdp => ?_⟩
  by_cases h1 : d = 1
  · exact .inl h1
  · right
    have hd0 : d ≠ 0 := by rintro rfl; rw [Nat.zero_dvd] at hdp; omega
    have hle := Nat.le_of_dvd (by omega) hdp
    by_cases hc : d = p
    · exact hc
    · exact absurd (Nat.mod_eq_zero_of_dvd (Nat.dvd_trans hdp (Nat.dvd_of_mod_eq_zero hd))) (h d (by omega) (by omega))
theorem noLess_div {p L M : Nat} (h : NoLess p L) (hM : M ∣ L) : NoLess p M := fun d h2 hp hm =>
  h d h2 hp (Nat.mod_eq_zero_of_dvd (Nat.dvd_trans (Nat.dvd_of_mod_eq_zero hm) hM))
theorem noLess_succ {p M : Nat} (h : NoLess p M) (hm : M % p ≠ 0) : NoLess (p + 1) M := fun d h2 hp => by
  by_cases e : d = p
  · rw [e]; exact hm
  · exact h d h2 (by omega)
theorem div_val {p L : Nat} (hp : 2 ≤ p) (hL : 0 < L) : L / p ^ val L p ∣ L ∧ 0 < L / p ^ val L p ∧ (L / p ^ val L p) % p ≠ 0 := by
  have hd := val_dvd p hp L L (Nat.le_refl _) hL
  refine ⟨Nat.div_dvd_of_dvd hd, Nat.div_pos (Nat.le_of_dvd hL hd) (Nat.pow_pos (by omega)), ?_⟩
  have key : ∀ (k n : Nat), n ≤ k → 0 < n → (n / p ^ val n p) % p ≠ 0 := by
    intro k
    induction k with
    | zero => intro n h h0; omega
    | succ k ih =>
      intro n h h0
      by_cases hn : n % p = 0
      · have h1 : n / p < n := Nat.div_lt_self h0 (by omega)
        have h2 : 0 < n / p := Nat.div_pos (Nat.le_of_dvd h0 (Nat.dvd_of_mod_eq_zero hn)) (by omega)
        rw [val_step hp h0 hn, Nat.pow_succ, Nat.mul_comm, ← Nat.div_div_eq_div_mul]
        exact ih (n / p) (by omega) h2
      · rw [val_stop hn, Nat.pow_zero, Nat.div_one]; exact hn
  exact key L L (Nat.le_refl _) hL

theorem plGo_step {f p L : Nat} : plGo (f + 1) p L = if p * p ≤ L then (if L % p = 0 then p :: plGo f (p + 1) (L / p ^ val L p) else plGo f (p + 1) L) else if 1 < L then [L] else [] := by
  conv => lhs; unfold plGo
theorem plGo_one {p L : Nat} (hp : 2 ≤ p) (hn : NoLess p L) (h : L = 1) (f : Nat) (hf : 1 ≤ f) : plGo f p L = [] := by
  obtain ⟨g, rfl⟩ : ∃ g, f = g + 1 := ⟨f - 1, by omega⟩
  have hpp := Nat.mul_le_mul hp hp
  rw [plGo_step, if_neg (by omega), if_neg (by omega)]
theorem fuel_less {p f : Nat} (h : 1 ≤ f) : ∀ L : Nat, p * p ≤ L → L < (p + f) * (p + f) → 1 ≤ f := fun _ _ _ => h

/-- what the list of primes holds: exactly the primes that divide, ascending -/
theorem plGo_spec : ∀ (f p L : Nat), 2 ≤ p → 0 < L → NoLess p L → L + 1 ≤ p + f ∨ (L < p * p ∧ 1 ≤ f) →
    (∀ x ∈ plGo f p L, PrG x ∧ x ∣ L ∧ p ≤ x) ∧ (plGo f p L).Pairwise (· < ·) ∧ (∀ x, PrG x → x ∣ L → x ∈ plGo f p L)
  | 0, p, L, hp, hL, hn, hb => by
    have h1 : L + 1 ≤ p := by omega
    have hL1 : L = 1 := by
      by_cases h : L = 1
      · exact h
      · exact absurd (Nat.mod_self L) (hn L (by omega) (by omega))
    subst hL1
    refine ⟨fun x hx => by simp [plGo] at hx, by simp [plGo], fun x hx hd => ?_⟩
    have := Nat.le_of_dvd (by omega) hd
    have := hx.1
    omega
  | f + 1, p, L, hp, hL, hn, hb => by
    rw [plGo_step]
    by_cases hle : p * p ≤ L
    · have hpL : p ≤ L := Nat.le_trans (Nat.le_mul_of_pos_left p (by omega)) hle
      rw [if_pos hle]
      by_cases hd : L % p = 0
      · rw [if_pos hd]
        obtain ⟨m1, m2, m3⟩ := div_val hp hL
        obtain ⟨M, hM⟩ : ∃ M, M = L / p ^ val L p := ⟨_, rfl⟩
        rw [← hM] at m1 m2 m3 ⊢
        have hML := Nat.le_of_dvd hL m1
        have hnM := noLess_succ (noLess_div hn m1) m3
        obtain ⟨i1, i2, i3⟩ := plGo_spec f (p + 1) M (by omega) m2 hnM (by omega)
        refine ⟨fun x hx => ?_, List.pairwise_cons.2 ⟨fun x hx => ?_, i2⟩, fun x hx hxd => ?_⟩
        · rcases List.mem_cons.1 hx with rfl | hx
          · exact ⟨prG_small hn hd hp, Nat.dvd_of_mod_eq_zero hd, Nat.le_refl _⟩
          · obtain ⟨a, b, c⟩ := i1 x hx
            exact ⟨a, Nat.dvd_trans b m1, by omega⟩
        · have := (i1 x hx).2.2
          omega
        · by_cases e : x = p
          · rw [e]; exact List.mem_cons_self
          · refine List.mem_cons_of_mem _ (i3 x hx ?_)
            -- x divides L = p^v * M and x is no p
            have hL2 : L = p ^ val L p * M := by
              rw [hM]
              have hdv := val_dvd p hp L L (Nat.le_refl _) hL
              rw [Nat.mul_comm]; exact (Nat.div_mul_cancel hdv).symm
            have hco : ∀ k, Nat.Coprime x (p ^ k) := fun k => by
              refine Nat.Coprime.pow_right k ?_
              have hg : Nat.gcd x p ∣ x := Nat.gcd_dvd_left x p
              have hg2 : Nat.gcd x p ∣ p := Nat.gcd_dvd_right x p
              rcases hx.2 _ hg with h | h
              · exact h
              · rw [h] at hg2
                rcases (prG_small hn hd hp).2 x hg2 with h2 | h2
                · have := hx.1; omega
                · exact absurd h2 e
            rw [hL2] at hxd
            exact (hco _).dvd_of_dvd_mul_left hxd
      · rw [if_neg hd]
        obtain ⟨i1, i2, i3⟩ := plGo_spec f (p + 1) L (by omega) hL (noLess_succ hn hd) (by omega)
        exact ⟨fun x hx => by obtain ⟨a, b, c⟩ := i1 x hx; exact ⟨a, b, by omega⟩, i2, i3⟩
    · rw [if_neg hle]
      by_cases h1 : 1 < L
      · rw [if_pos h1]
        have hpr := prG_of hn h1 hle hp
        have hpl : p ≤ L := by
          by_cases hc : p ≤ L
          · exact hc
          · exact absurd (Nat.mod_self L) (hn L (by omega) (by omega))
        refine ⟨fun x hx => ?_, by simp, fun x hx hd => ?_⟩
        · rw [List.mem_singleton] at hx
          rw [hx]
          exact ⟨hpr, Nat.dvd_refl _, hpl⟩
        · rcases hpr.2 x hd with h | h
          · have := hx.1; omega
          · rw [h]; exact List.mem_singleton.2 rfl
      · rw [if_neg h1]
        have hL1 : L = 1 := by omega
        subst hL1
        refine ⟨fun x hx => (by cases hx), List.Pairwise.nil, fun x hx hd => ?_⟩
        have := Nat.le_of_dvd (by omega) hd
        have := hx.1
        omega
theorem plistG_spec {n : Nat} (h : 0 < n) : (∀ x ∈ plistG n, PrG x ∧ x ∣ n) ∧ (plistG n).Pairwise (· < ·) ∧ (∀ x, PrG x → x ∣ n → x ∈ plistG n) := by
  obtain ⟨a, b, c⟩ := plGo_spec (n + 1) 2 n (Nat.le_refl _) h (fun d h2 hp => by omega) (by omega)
  exact ⟨fun x hx => ⟨(a x hx).1, (a x hx).2.1⟩, b, c⟩

end Go.Proofs.Ytciajpimpjpnfac

/-! CoreG -/
set_option linter.unusedVariables false
namespace Go.Proofs.Ytciajpimpjpnfac
open Go.RowKit

/-- no square from 4 on divides it -/
def SqFree (c : Nat) : Prop := ∀ d, 2 ≤ d → ¬ d * d ∣ c
structure IsCore (c : Int) (r : Nat) (n : Int) : Prop where
  eq : c * ((r : Int) * r) = n
  pos : 1 ≤ r
  free : SqFree c.natAbs
theorem IsCore.ne {c : Int} {r : Nat} {n : Int} (h : IsCore c r n) (hn : n ≠ 0) : c ≠ 0 := by
  rintro rfl
  exact hn (by rw [← h.eq, Int.zero_mul])
theorem isCore_root {c c' : Int} {r r' : Nat} {n : Int} (hn : n ≠ 0) (h : IsCore c r n) (h' : IsCore c' r' n) : r' ∣ r := by
  obtain ⟨g, hg⟩ : ∃ g, g = Nat.gcd r' r := ⟨_, rfl⟩
  have hg0 : 0 < g := by rw [hg]; exact Nat.gcd_pos_of_pos_left _ (by have := h'.pos; omega)
  obtain ⟨a, ha⟩ : g ∣ r' := by rw [hg]; exact Nat.gcd_dvd_left _ _
  obtain ⟨b, hb⟩ : g ∣ r := by rw [hg]; exact Nat.gcd_dvd_right _ _
  have hco : Nat.gcd a b = 1 := by
    have e : g * Nat.gcd a b = g * 1 := by rw [← Nat.gcd_mul_left, ← ha, ← hb, ← hg, Nat.mul_one]
    exact Nat.eq_of_mul_eq_mul_left hg0 e
  have e1 : c.natAbs * (r * r) = n.natAbs := by rw [← h.eq, Int.natAbs_mul, Int.natAbs_mul, Int.natAbs_natCast]
  have e2 : c'.natAbs * (r' * r') = n.natAbs := by rw [← h'.eq, Int.natAbs_mul, Int.natAbs_mul, Int.natAbs_natCast]
  have e3 : c.natAbs * (b * b) = c'.natAbs * (a * a) := by
    refine Nat.eq_of_mul_eq_mul_left (Nat.mul_pos hg0 hg0) ?_
    rw [hb] at e1
    rw [ha] at e2
    have x1 : g * g * (c.natAbs * (b * b)) = c.natAbs * (g * b * (g * b)) := by
      simp only [Nat.mul_assoc, Nat.mul_comm, Nat.mul_left_comm]
    have x2 : g * g * (c'.natAbs * (a * a)) = c'.natAbs * (g * a * (g * a)) := by
      simp only [Nat.mul_assoc, Nat.mul_comm, Nat.mul_left_comm]
    rw [x1, x2, e1, e2]
  have hd : a * a ∣ c.natAbs * (b * b) := by rw [e3]; exact Nat.dvd_mul_left _ _
  have hcop : Nat.Coprime (a * a) (b * b) := by
    have h1 : Nat.Coprime a b := hco
    exact (h1.mul_left h1).mul_right (h1.mul_left h1)
  have hdc : a * a ∣ c.natAbs := hcop.dvd_of_dvd_mul_right hd
  have ha1 : a = 1 := by
    have ha0 : a ≠ 0 := by rintro rfl; have := h'.pos; omega
    by_cases h2 : 2 ≤ a
    · exact absurd hdc (h.free a h2)
    · omega
  rw [ha, ha1, Nat.mul_one, hb]
  exact Nat.dvd_mul_right _ _
theorem isCore_uniq {c c' : Int} {r r' : Nat} {n : Int} (hn : n ≠ 0) (h : IsCore c r n) (h' : IsCore c' r' n) : c = c' ∧ r = r' := by
  have e := Nat.dvd_antisymm (isCore_root hn h' h) (isCore_root hn h h')
  subst e
  refine ⟨?_, rfl⟩
  have h1 := h.eq
  rw [← h'.eq] at h1
  have : (r : Int) * r ≠ 0 := Int.mul_ne_zero (by have := h.pos; omega) (by have := h.pos; omega)
  exact Int.eq_of_mul_eq_mul_right this h1

/-- the root part: the greatest number whose square divides -/
def rootG (n : Int) : Nat := ((List.range (n.natAbs + 1)).filter (fun r => decide (1 ≤ r) && decide (n.natAbs % (r * r) = 0))).foldl max 1
def coreG (n : Int) : Int := n.tdiv ((rootG n : Int) * (rootG n : Int))
theorem foldl_max : ∀ (l : List Nat) (a : Nat), a ≤ l.foldl max a ∧ (∀ x ∈ l, x ≤ l.foldl max a) ∧ (l.foldl max a = a ∨ l.foldl max a ∈ l)
  | [], a => ⟨Nat.le_refl _, fun x hx => (by cases hx), Or.inl rfl⟩
  | y :: l, a => by
    obtain ⟨h1, h2, h3⟩ := foldl_max l (max a y)
    rw [List.foldl_cons]
    refine ⟨by omega, fun x hx => ?_, ?_⟩
    · rcases List.mem_cons.1 hx with rfl | hx
      · omega
      · exact h2 x hx
    · rcases h3 with h3 | h3
      · rw [h3]
        by_cases h : a ≤ y
        · right; rw [Nat.max_eq_right h]; exact List.mem_cons_self ..
        · left; rw [Nat.max_eq_left (by omega)]
      · exact .inr (List.mem_cons_of_mem _ h3)
theorem core_is {n : Int} (hn : n ≠ 0) : IsCore (coreG n) (rootG n) n := by
  obtain ⟨h1, h2, h3⟩ := foldl_max ((List.range (n.natAbs + 1)).filter (fun r => decide (1 ≤ r) && decide (n.natAbs % (r * r) = 0))) 1
  have hm : 1 ≤ rootG n ∧ rootG n * rootG n ∣ n.natAbs := by
    rcases h3 with h3 | h3
    · have : rootG n = 1 := h3
      rw [this]; exact ⟨Nat.le_refl _, Nat.one_dvd _⟩
    · have h4 := (List.mem_filter.1 h3).2
      rw [Bool.and_eq_true, decide_eq_true_eq, decide_eq_true_eq] at h4
      exact ⟨h4.1, Nat.dvd_of_mod_eq_zero h4.2⟩
  have hd : ((rootG n : Int) * (rootG n : Int)) ∣ n := by
    rw [← Int.natAbs_dvd_natAbs, Int.natAbs_mul, Int.natAbs_natCast]; exact hm.2
  have he : coreG n * ((rootG n : Int) * (rootG n : Int)) = n := by unfold coreG; exact Int.tdiv_mul_cancel hd
  refine ⟨he, hm.1, fun d hd2 hdd => ?_⟩
  obtain ⟨e, he2⟩ := hdd
  have hen : n.natAbs = e * ((d * rootG n) * (d * rootG n)) := by
    conv => lhs; rw [← he]
    rw [Int.natAbs_mul, Int.natAbs_mul, Int.natAbs_natCast, he2]
    simp only [Nat.mul_assoc, Nat.mul_comm, Nat.mul_left_comm]
  have hle : d * rootG n ≤ n.natAbs := by
    have h5 : 0 < d * rootG n := Nat.mul_pos (by omega) (by omega)
    have h6 : 0 < e := by
      rcases Nat.eq_zero_or_pos e with h | h
      · rw [h, Nat.zero_mul] at hen; omega
      · exact h
    rw [hen]
    exact Nat.le_trans (Nat.le_mul_of_pos_left _ h5) (Nat.le_mul_of_pos_left _ h6)
  have := h2 (d * rootG n) (List.mem_filter.2 ⟨List.mem_range.2 (by omega), by
    rw [Bool.and_eq_true, decide_eq_true_eq, decide_eq_true_eq]
    exact ⟨Nat.mul_pos (by omega) (by omega), by rw [hen]; exact Nat.mul_mod_left _ _⟩⟩)
  have h7 : d * rootG n ≤ rootG n := this
  have h8 := Nat.mul_le_mul hd2 (Nat.le_refl (rootG n))
  omega
theorem core_eq {n c : Int} {r : Nat} (hn : n ≠ 0) (h : IsCore c r n) : coreG n = c ∧ rootG n = r := isCore_uniq hn (core_is hn) h

/-- two numbers have one core exactly if their product is a square -/
theorem core_same {a b : Int} (ha : a ≠ 0) (hb : b ≠ 0) (h : coreG a = coreG b) : ∃ t : Int, t ≠ 0 ∧ a * b = t * t := by
  have h1 := core_is ha
  have h2 := core_is hb
  have hc := h1.ne ha
  refine ⟨coreG a * ((rootG a : Int) * (rootG b : Int)), Int.mul_ne_zero hc (Int.mul_ne_zero (by have := h1.pos; omega) (by have := h2.pos; omega)), ?_⟩
  conv => lhs; rw [← h1.eq, ← h2.eq, ← h]
  simp only [Int.mul_assoc, Int.mul_comm, Int.mul_left_comm]

theorem sq_le12 {p n : Nat} (h : p * p ≤ n) (hn : n ≤ 1000000000000) : p ≤ 1000000 := sq_le6 h hn
/-- what the loop hands on -/
structure CoreInv (n L : Int) (R p : Nat) : Prop where
  ne : L ≠ 0
  pos : 1 ≤ R
  eq : L * ((R : Int) * R) = n
  less : ∀ d, 2 ≤ d → d < p → ¬ d * d ∣ L.natAbs
theorem CoreInv.core {n L : Int} {R p : Nat} (h : CoreInv n L R p) (hp : ¬ p * p ≤ L.natAbs) : IsCore L R n := by
  refine ⟨h.eq, h.pos, fun d hd hdd => ?_⟩
  by_cases hlt : d < p
  · exact h.less d hd hlt hdd
  · have h1 := Nat.le_of_dvd (by have := h.ne; omega) hdd
    have h2 := Nat.mul_le_mul (show p ≤ d by omega) (show p ≤ d by omega)
    omega
theorem CoreInv.div {n L : Int} {R p : Nat} (hp : 2 ≤ p) (h : CoreInv n L R p) (hd : (p : Int) * p ∣ L) : CoreInv n (L.tdiv ((p : Int) * p)) (R * p) p := by
  have hc := Int.tdiv_mul_cancel hd
  have hn0 : L.tdiv ((p : Int) * p) ≠ 0 := by
    intro e
    rw [e, Int.zero_mul] at hc
    exact h.ne hc.symm
  refine ⟨hn0, Nat.mul_pos h.pos (by omega), ?_, fun d h2 hlt hdd => h.less d h2 hlt ?_⟩
  · rw [← h.eq]
    conv => rhs; rw [← hc]
    push_cast
    simp only [Int.mul_assoc, Int.mul_comm, Int.mul_left_comm]
  · refine Nat.dvd_trans hdd ?_
    rw [Int.natAbs_dvd_natAbs]
    exact ⟨(p : Int) * p, hc.symm⟩
theorem CoreInv.next {n L : Int} {R p : Nat} (h : CoreInv n L R p) (hd : ¬ (p : Int) * p ∣ L) : CoreInv n L R (p + 1) := by
  refine ⟨h.ne, h.pos, h.eq, fun d h2 hlt hdd => ?_⟩
  by_cases e : d = p
  · subst e
    exact hd (by rw [← Int.natAbs_dvd_natAbs, Int.natAbs_mul, Int.natAbs_natCast]; exact hdd)
  · exact h.less d h2 (by omega) hdd
theorem CoreInv.root {n L : Int} {R p : Nat} (h : CoreInv n L R p) (hn : n.natAbs ≤ 1000000000000) : R ≤ 1000000 := by
  have e : n.natAbs = L.natAbs * (R * R) := by rw [← h.eq, Int.natAbs_mul, Int.natAbs_mul, Int.natAbs_natCast]
  have h1 : R * R ≤ n.natAbs := by rw [e]; exact Nat.le_mul_of_pos_left _ (by have := h.ne; omega)
  exact sq_le12 h1 hn

set_option maxRecDepth 100000 in
set_option maxHeartbeats 1000000 in
theorem l1CoreG_any (n : Int) (h0 : n ≠ 0) (a1 : -1000000000000 ≤ n) (a2 : n ≤ 1000000000000) (w : World) :
    Calls Try.prog 49 #[.int .i64 n] w fun e w' => e = .returned (.tuple #[.int .i64 (coreG n), .int .i64 (rootG n : Nat)]) ∧ w = w' := by
  have HN := hid h0
  have hn12 : n.natAbs ≤ 1000000000000 := by omega
  clear h0
  go_enter Try.func49, Try.ntmps49
  go_wp2
  go_loop [0, 4, 5] (fun sn sr sp => ∃ (L : Int) (R p : Nat), sn = .int .i64 L ∧ sr = .int .i64 R ∧ sp = .int .i64 p ∧ -1000000000000 ≤ L ∧ L ≤ 1000000000000 ∧ R ≤ 1000000 ∧ 2 ≤ p ∧ p ≤ 1000001 ∧ Hid (CoreInv n L R p)) (fun _ _ sp => (1000002 - intOf sp).toNat)
  case atStart => exact ⟨n, 1, 2, rfl, rfl, rfl, a1, a2, by omega, by omega, by omega, hid ⟨HN.out, by omega, by simp, fun d h1 h2 => by omega⟩⟩
  case round =>
    obtain ⟨L, R, p, rfl, rfl, rfl, hL1, hL2, hR, hp2, hp7, HV⟩ := hrel
    have hKK := Nat.mul_le_mul (show p ≤ 1000001 by omega) (show p ≤ 1000001 by omega)
    have ePP : (p : Int) * p = ((p * p : Nat) : Int) := by push_cast; rfl
    have pp1 : 0 ≤ (p : Int) * p := by rw [ePP]; omega
    have pp2 : (p : Int) * p ≤ 1000002000001 := by rw [ePP]; omega
    obtain ⟨A, hA⟩ : ∃ A, A = L.natAbs := ⟨_, rfl⟩
    have HA := hid hA
    by_cases hle : (p : Int) * p ≤ (A : Int)
    · have hle' : p * p ≤ A := by rw [ePP] at hle; omega
      have hp70 := sq_le12 hle' (by omega)
      have hz2 : (2 : Int) ≤ (p : Int) * p := by
        have := Nat.mul_le_mul hp2 hp2
        rw [ePP]; omega
      clear hA hle' ePP
      go_wp2_with (go_at_call 71; refine (l1Size_any _ (by omega) (by omega) _).mono ?_; rw [← HA.out]; rintro e w' ⟨rfl, rfl⟩)
      go_loop [0, 4] (fun sn sr => ∃ (M : Int) (S : Nat), sn = .int .i64 M ∧ sr = .int .i64 S ∧ -1000000000000 ≤ M ∧ M ≤ 1000000000000 ∧ S ≤ 1000000 ∧ Hid (CoreInv n M S p)) (fun sn _ => (intOf sn).natAbs)
      case atStart => exact ⟨L, R, rfl, rfl, hL1, hL2, hR, HV⟩
      case round =>
        obtain ⟨M, S, rfl, rfl, hM1, hM2, hS, HM⟩ := hrel
        have T := tmod_eqz (L := M) hz2
        rw [sq_toNat] at T
        by_cases hd : M.natAbs % (p * p) = 0
        · rw [decide_eq_true hd] at T
          have hdv : (p : Int) * p ∣ M := by
            rw [← Int.natAbs_dvd_natAbs, Int.natAbs_mul, Int.natAbs_natCast]; exact Nat.dvd_of_mod_eq_zero hd
          have hm0 := HM.out.ne
          have hpp : 2 ≤ p * p := Nat.le_trans hp2 (Nat.le_mul_of_pos_left p (by omega))
          have hq : (M.tdiv ((p : Int) * p)).natAbs = M.natAbs / (p * p) := by rw [tdiv_natAbs, Int.natAbs_mul]; simp
          have hlt : M.natAbs / (p * p) < M.natAbs := Nat.div_lt_self (by omega) (by omega)
          have hq1 : (M.tdiv ((p : Int) * p)).natAbs < M.natAbs := by omega
          have hq3 : -1000000000000 ≤ M.tdiv ((p : Int) * p) := by omega
          have hq4 : M.tdiv ((p : Int) * p) ≤ 1000000000000 := by omega
          have HC := hid (HM.out.div hp2 hdv)
          have hSp := HC.out.root hn12
          have eSp : (S : Int) * (p : Int) = ((S * p : Nat) : Int) := by push_cast; rfl
          have sp1 : 0 ≤ (S : Int) * (p : Int) := by rw [eSp]; omega
          have sp2 : (S : Int) * (p : Int) ≤ 1000000 := by rw [eSp]; omega
          have HES := hid eSp
          clear hd hdv hm0 hpp hq hlt eSp
          go_wp2
          go_round
          case rel => exact ⟨M.tdiv ((p : Int) * p), S * p, rfl, vI HES.out, hq3, hq4, hSp, HC⟩
          case measure => simp only [intOf]; exact hq1
        · rw [decide_eq_false hd] at T
          have HC := hid (HM.out.next (by
            rw [← Int.natAbs_dvd_natAbs, Int.natAbs_mul, Int.natAbs_natCast]
            exact fun h => hd (Nat.mod_eq_zero_of_dvd h)))
          clear hd
          go_wp2
          go_round
          case rel => exact ⟨M, S, p + 1, rfl, rfl, by go_num, hM1, hM2, hS, by omega, by omega, HC⟩
          case measure => simp only [intOf]; omega
    · have hle' : ¬ p * p ≤ L.natAbs := by rw [← hA]; intro h; apply hle; rw [ePP]; omega
      have hcore := core_eq HN.out (HV.out.core hle')
      have HC1 := hid hcore.1
      have HC2 := hid hcore.2
      clear hA hle' hcore ePP
      go_wp2_with (go_at_call 71; refine (l1Size_any _ (by omega) (by omega) _).mono ?_; rw [← HA.out]; rintro e w' ⟨rfl, rfl⟩)
      go_ret2
      exact ⟨ret2 HC1.out.symm (by rw [HC2.out]), rfl⟩

end Go.Proofs.Ytciajpimpjpnfac

/-! CoreI -/
set_option linter.unusedVariables false
namespace Go.Proofs.Ytciajpimpjpnfac
open Go.RowKit

theorem coreInv_go {n : Int} : ∀ (k L R p : Nat), L ≤ k → 2 ≤ p → CoreInv n (L : Int) R p → 0 < L → CoreInv n ((L / (p * p) ^ val L (p * p) : Nat) : Int) (R * p ^ val L (p * p)) (p + 1) ∧ 0 < L / (p * p) ^ val L (p * p) ∧ L / (p * p) ^ val L (p * p) ≤ L
  | 0, L, R, p, hk, _, _, h0 => by omega
  | k + 1, L, R, p, hk, hp, h, h0 => by
    have hq : 2 * 2 ≤ p * p := Nat.mul_le_mul hp hp
    by_cases hd : L % (p * p) = 0
    · have hv := val_step (n := L) (p := p * p) (by omega) h0 hd
      have hdv := Nat.dvd_of_mod_eq_zero hd
      have hlt : L / (p * p) < L := Nat.div_lt_self h0 (by omega)
      have hpos : 0 < L / (p * p) := Nat.div_pos (Nat.le_of_dvd h0 hdv) (by omega)
      have hi := h.div hp (by rw [← Int.natCast_mul]; exact Int.natCast_dvd_natCast.2 hdv)
      rw [← Int.natCast_mul, ← Int.ofNat_tdiv] at hi
      obtain ⟨g1, g2, g3⟩ := coreInv_go k (L / (p * p)) (R * p) p (by omega) hp hi hpos
      have e1 : L / (p * p) ^ val L (p * p) = L / (p * p) / (p * p) ^ val (L / (p * p)) (p * p) := by rw [hv, Nat.pow_succ', Nat.div_div_eq_div_mul]
      have e2 : R * p ^ val L (p * p) = R * p * p ^ val (L / (p * p)) (p * p) := by rw [hv, Nat.pow_succ', Nat.mul_assoc]
      rw [e1, e2]
      exact ⟨g1, g2, by omega⟩
    · rw [val_stop hd, Nat.pow_zero, Nat.pow_zero, Nat.div_one, Nat.mul_one]
      refine ⟨h.next (fun hdd => hd ?_), h0, Nat.le_refl _⟩
      rw [← Int.natCast_mul] at hdd
      exact Nat.mod_eq_zero_of_dvd (Int.natCast_dvd_natCast.1 hdd)
theorem coreGo_is {n : Int} : ∀ (f p L R : Nat), CoreInv n (L : Int) R p → 0 < L → L ≤ 5000 → 2 ≤ p → 72 ≤ p + f → IsCore ((coreGo f p L R).1 : Int) (coreGo f p L R).2 n
  | 0, p, L, R, h, h0, h5, hp, hf => by
    refine h.core ?_
    have := Nat.mul_le_mul (show 72 ≤ p by omega) (show 72 ≤ p by omega)
    rw [Int.natAbs_natCast]
    omega
  | f + 1, p, L, R, h, h0, h5, hp, hf => by
    unfold coreGo
    by_cases hle : p * p ≤ L
    · rw [if_pos hle]
      obtain ⟨g1, g2, g3⟩ := coreInv_go L L R p (Nat.le_refl _) hp h h0
      exact coreGo_is f (p + 1) _ _ g1 g2 (by omega) (by omega) (by omega)
    · rw [if_neg hle]
      exact h.core (by rw [Int.natAbs_natCast]; exact hle)
theorem rootN_is {N : Nat} (h1 : 1 ≤ N) (h2 : N ≤ 5000) : ∃ c : Nat, IsCore (c : Int) (rootN N) (N : Int) :=
  ⟨(coreGo 70 2 N 1).1, coreGo_is 70 2 N 1 ⟨by omega, Nat.le_refl _, by simp, fun d hd hlt => by omega⟩ (by omega) h2 (Nat.le_refl _) (by decide)⟩
theorem coreI_G {n : Int} (h : factB n = true) : coreI n = coreG n ∧ (rootN n.natAbs : Nat) = rootG n := by
  rcases factB_cases n with ⟨b1, b2, h0, _, _⟩ | ⟨_, hf⟩ | ⟨_, _, hf⟩
  · obtain ⟨c, hc⟩ := rootN_is (N := n.natAbs) (by omega) (by omega)
    have hr := hc.pos
    obtain ⟨r, hre⟩ : ∃ r, r = rootN n.natAbs := ⟨_, rfl⟩
    rw [← hre] at hc hr
    have he : n.natAbs = c * (r * r) := by have := hc.eq; exact_mod_cast this.symm
    have hrr : 0 < r * r := Nat.mul_pos hr hr
    have hdv : ((r * r : Nat) : Int) ∣ n := Int.ofNat_dvd_left.2 ⟨c, by rw [he, Nat.mul_comm]⟩
    have hI : coreI n = n.tdiv ((r * r : Nat) : Int) := by unfold coreI; rw [← hre, Int.natCast_mul]
    have habs : (coreI n).natAbs = c := by rw [hI, tdiv_natAbs, Int.natAbs_natCast, he, Nat.mul_div_cancel _ hrr]
    have := core_eq h0 (c := coreI n) (r := r) ⟨by rw [hI, ← Int.natCast_mul]; exact Int.tdiv_mul_cancel hdv, hr, by rw [habs]; have := hc.free; rwa [Int.natAbs_natCast] at this⟩
    exact ⟨this.1.symm, by rw [← hre]; exact this.2.symm⟩
  · rw [h] at hf; cases hf
  · rw [h] at hf; cases hf
theorem coreV_G {n : Int} (h : factB n = true) : coreV n = .tuple #[.int .i64 (coreG n), .int .i64 (rootG n : Nat), .bool true] := by
  rw [coreV_yes h, (coreI_G h).1, (coreI_G h).2]

end Go.Proofs.Ytciajpimpjpnfac

/-! ImpA -/
set_option linter.unusedVariables false
namespace Go.Proofs.Ytciajpimpjpnfac
open Go.RowKit

set_option maxHeartbeats 400000 in
theorem valuation2_any (n p : Int) (h0 : n ≠ 0) (h1 : -1000000000 ≤ n) (h2 : n ≤ 1000000000) (hp : 2 ≤ p) (hp2 : p ≤ 1000000) (w : World) :
    Calls Try.prog 85 #[.int .i64 n, .int .i64 p] w fun e w' => e = .returned (.int .i64 (val n.natAbs p.toNat)) ∧ w = w' := by
  go_enter Try.func85, Try.ntmps85
  go_wp2
  go_loop [5, 6] (fun k l => ∃ (K : Nat) (L : Int), k = .int .i64 K ∧ l = .int .i64 L ∧ L ≠ 0 ∧ -1000000000 ≤ L ∧ L ≤ 1000000000 ∧ K + L.natAbs ≤ n.natAbs ∧ Hid (val L.natAbs p.toNat + K = val n.natAbs p.toNat)) (fun _ l => (intOf l).natAbs)
  case atStart => exact ⟨0, n, rfl, rfl, h0, h1, h2, by omega, hid (by simp)⟩
  case round =>
    obtain ⟨K, L, rfl, rfl, hl0, hl1, hl2, hK, HV⟩ := hrel
    have T := tmod_eqz (L := L) hp
    by_cases hd : L.natAbs % p.toNat = 0
    · rw [decide_eq_true hd] at T
      have hs := hid (val_step (n := L.natAbs) (p := p.toNat) (by omega) (by omega) hd)
      have hA : L.natAbs / p.toNat < L.natAbs := Nat.div_lt_self (by omega) (by omega)
      have hB : 0 < L.natAbs / p.toNat := Nat.div_pos (Nat.le_of_dvd (by omega) (Nat.dvd_of_mod_eq_zero hd)) (by omega)
      have hq : (L.tdiv p).natAbs = L.natAbs / p.toNat := by rw [tdiv_natAbs, show p.natAbs = p.toNat by omega]
      have hq1 : (L.tdiv p).natAbs < L.natAbs := by omega
      have hq2 : L.tdiv p ≠ 0 := by omega
      have hq3 : -1000000000 ≤ L.tdiv p := by omega
      have hq4 : L.tdiv p ≤ 1000000000 := by omega
      have HQ := hid hq
      clear hq hd hA hB
      go_wp2
      go_round
      case rel => exact ⟨K + 1, L.tdiv p, by go_num, rfl, hq2, hq3, hq4, by omega, hid (by rw [HQ.out]; have := hs.out; have := HV.out; omega)⟩
      case measure => simp only [intOf]; omega
    · rw [decide_eq_false hd] at T
      have hs := hid (val_stop hd)
      clear hd
      go_wp2
      go_ret
      exact ⟨retI (by have := hs.out; have := HV.out; omega), rfl⟩

theorem tdiv_tdiv_nat (n : Int) (a b : Nat) : (n.tdiv (a : Int)).tdiv (b : Int) = n.tdiv ((a * b : Nat) : Int) := by
  rcases Int.natAbs_eq n with h | h
  · rw [h, ← Int.ofNat_tdiv, ← Int.ofNat_tdiv, ← Int.ofNat_tdiv, Nat.div_div_eq_div_mul]
  · rw [h, Int.neg_tdiv, Int.neg_tdiv, Int.neg_tdiv, ← Int.ofNat_tdiv, ← Int.ofNat_tdiv, ← Int.ofNat_tdiv, Nat.div_div_eq_div_mul]
theorem tdiv_step (n : Int) {p : Int} (hp : 2 ≤ p) (i : Nat) : (n.tdiv (p ^ i)).tdiv p = n.tdiv (p ^ (i + 1)) := by
  obtain ⟨P, rfl⟩ := Int.eq_ofNat_of_zero_le (show 0 ≤ p by omega)
  have e : ∀ k, ((P : Int) ^ k) = ((P ^ k : Nat) : Int) := fun k => by push_cast; rfl
  rw [e, e, tdiv_tdiv_nat, Nat.pow_succ]

theorem splitAt_any (n p : Int) (h0 : n ≠ 0) (h1 : -1000000000 ≤ n) (h2 : n ≤ 1000000000) (hp : 2 ≤ p) (hp2 : p ≤ 1000000) (w : World) :
    Calls Try.prog 78 #[.int .i64 n, .int .i64 p] w fun e w' => e = .returned (.tuple #[.int .i64 (unitI n p), .int .i64 (val n.natAbs p.toNat)]) ∧ w = w' := by
  have H0 := hid h0
  obtain ⟨V, hV⟩ : ∃ V, V = val n.natAbs p.toNat := ⟨_, rfl⟩
  have hv2 := val_le p.toNat (by omega) _ n.natAbs (Nat.le_refl _)
  have HU : Hid (n.tdiv (p ^ V) = unitI n p) := hid (by rw [hV]; rfl)
  rw [← hV] at hv2
  have HV := hid hV
  clear hV h0
  go_enter Try.func78, Try.ntmps78
  go_wp2_with (go_at_call 85; refine (valuation2_any _ _ H0.out h1 h2 hp hp2 _).mono ?_; rw [← HV.out]; rintro e w' ⟨rfl, rfl⟩)
  go_loop [0, 11] (fun l k => ∃ (K : Nat) (L : Int), k = .int .i64 K ∧ l = .int .i64 L ∧ K ≤ V ∧ -1000000000 ≤ L ∧ L ≤ 1000000000 ∧ Hid (L = n.tdiv (p ^ K))) (fun _ k => V - (intOf k).toNat)
  case atStart => exact ⟨0, n, rfl, rfl, by omega, h1, h2, hid (by rw [Int.pow_zero, Int.tdiv_one])⟩
  case round =>
    obtain ⟨K, L, rfl, rfl, hK, hl1, hl2, HL⟩ := hrel
    by_cases hlt : K < V
    · have hq : (L.tdiv p).natAbs = L.natAbs / p.toNat := by rw [tdiv_natAbs, show p.natAbs = p.toNat by omega]
      have hq5 := Nat.div_le_self L.natAbs p.toNat
      have hq3 : -1000000000 ≤ L.tdiv p := by omega
      have hq4 : L.tdiv p ≤ 1000000000 := by omega
      have hi0 : (K : Int) < (V : Int) := by omega
      have HS := hid (tdiv_step n hp K)
      clear hq hq5
      go_wp2
      go_round
      case rel => exact ⟨K + 1, L.tdiv p, by go_num, rfl, by omega, hq3, hq4, hid (by rw [HL.out, HS.out])⟩
      case measure => simp only [intOf]; omega
    · obtain rfl : K = V := by omega
      clear hlt
      go_wp2
      go_ret2
      exact ⟨ret2 (by rw [HL.out, HU.out]) (by rw [← HV.out]), rfl⟩

theorem odd_beq (V : Nat) : ((V : Int) % 2 == 1) = (V % 2 == 1) := by
  rw [Bool.eq_iff_iff, beq_iff_eq, beq_iff_eq]; omega
def clsT (c : Nat × Int) : Value := .agg #[.bool (c.1 == 1), .int .i64 c.2]

theorem class_any (n q : Int) (h0 : n ≠ 0) (h1 : -1000000000 ≤ n) (h2 : n ≤ 1000000000) (hq : plI q = true) (w : World) :
    Calls Try.prog 70 #[.int .i64 q, .int .i64 n] w fun e w' => e = .returned (clsT (cls n q)) ∧ Below w.heap.size w w' := by
  have H0 := hid h0
  rcases plI_cases hq with rfl | rfl | ⟨P, rfl, hP, h3, h5⟩
  · have hc := cls_zero n
    by_cases h : n < 0
    · rw [if_neg (by omega)] at hc
      have HC := hid hc
      clear hc h0
      go_enter Try.func70, Try.ntmps70
      go_wp2
      refine bodyPost_ret (results_cell_row rfl _ _ w.heap.size 82 #[.bool false, .int .i64 (-1)] (0, 0) _ rfl (heap_alloc_new _ _) Try.underlying82 rfl (by kernel_rfl)) rfl ?_
      exact ⟨by rw [HC.out]; rfl, (Below.refl _ _).alloc (Nat.le_refl _) _⟩
    · rw [if_pos (by omega)] at hc
      have HC := hid hc
      clear hc h0
      go_enter Try.func70, Try.ntmps70
      go_wp2
      refine bodyPost_ret (results_cell_row rfl _ _ w.heap.size 82 #[.bool false, .int .i64 1] (0, 0) _ rfl (heap_alloc_new _ _) Try.underlying82 rfl (by kernel_rfl)) rfl ?_
      exact ⟨by rw [HC.out]; rfl, (Below.refl _ _).alloc (Nat.le_refl _) _⟩
  · have hc := cls_two n
    have hu := unit_bd n 2
    obtain ⟨V, hV⟩ : ∃ V, V = val n.natAbs 2 := ⟨_, rfl⟩
    obtain ⟨U, hU⟩ : ∃ U, U = unitI n 2 := ⟨_, rfl⟩
    have hv2 := val_le 2 (by omega) _ n.natAbs (Nat.le_refl _)
    rw [← hU, ← hV] at hc
    rw [← hU] at hu
    rw [← hV] at hv2
    have HC := hid hc
    have HV : Hid (val n.natAbs (2 : Int).toNat = V) := hid hV.symm
    have HU := hid hU.symm
    clear hc h0 hV hU
    go_enter Try.func70, Try.ntmps70
    go_wp2_with (first | (go_at_call 78; refine (splitAt_any _ _ H0.out h1 h2 (by omega) (by omega) _).mono ?_; rw [HV.out, HU.out]; rintro e w' ⟨rfl, rfl⟩) | (go_at_call 86; refine (rest_any _ _ (by omega) (by omega) (by omega) (by omega) _).mono ?_; rintro e w' ⟨rfl, rfl⟩))
    refine bodyPost_ret (results_cell_row rfl _ _ w.heap.size 82 #[.bool ((V : Int) % 2 == 1), .int .i64 (U % 8)] (0, 0) _ rfl (heap_alloc2_old _ _ _) Try.underlying82 rfl (by kernel_rfl)) rfl ?_
    exact ⟨by rw [HC.out]; unfold clsT; rw [odd_beq], ((Below.refl _ _).alloc (Nat.le_refl _) _).alloc (by simp) _⟩
  · have hc := cls_odd h3 n
    have hu := unit_bd n P
    obtain ⟨V, hV⟩ : ∃ V, V = val n.natAbs P := ⟨_, rfl⟩
    obtain ⟨U, hU⟩ : ∃ U, U = unitI n (P : Int) := ⟨_, rfl⟩
    have hv2 := val_le P (by omega) _ n.natAbs (Nat.le_refl _)
    rw [← hU, ← hV] at hc
    rw [← hU] at hu
    rw [← hV] at hv2
    have HC := hid hc
    have HV : Hid (val n.natAbs (P : Int).toNat = V) := hid hV.symm
    have HU := hid hU.symm
    clear hc h0 hV hU
    go_enter Try.func70, Try.ntmps70
    go_wp2_with (first | (go_at_call 78; refine (splitAt_any _ _ H0.out h1 h2 (by omega) (by omega) _).mono ?_; rw [HV.out, HU.out]; rintro e w' ⟨rfl, rfl⟩) | (go_at_call 86; refine (rest_any _ _ (by omega) (by omega) (by omega) (by omega) _).mono ?_; rintro e w' ⟨rfl, rfl⟩))
    go_at_call 87
    refine (residueIs_any _ _ _).mono ?_
    rintro e w5 ⟨rfl, hb⟩
    obtain ⟨r, hr⟩ : ∃ r, r = resV (U % (P : Int)) (P : Int) := ⟨_, rfl⟩
    rw [← hr]
    have hs5 := hb.size
    have e0 := (hb.block w.heap.size (by simp; omega)).trans (heap_alloc2_old _ _ _)
    have e1 := (hb.block (w.heap.size + 1) (by simp)).trans (heap_alloc2_new _ _ _)
    have HB := hid hb
    have HR := hid hr
    clear hb hr
    have c00 : w5.cell? ⟨w.heap.size, 0, none⟩ = some (.bool false) := by simp [World.cell?, e0]
    have c01 : w5.cell? ⟨w.heap.size, 1, none⟩ = some (.int .i64 0) := by simp [World.cell?, e0]
    have c10 : w5.cell? ⟨w.heap.size + 1, 0, none⟩ = some (.bool ((V : Int) % 2 == 1)) := by simp [World.cell?, e1]
    have c11 : w5.cell? ⟨w.heap.size + 1, 1, none⟩ = some (.int .i64 0) := by simp [World.cell?, e1]
    have f0 : ∀ i, w5.frozen? ⟨w.heap.size, i, none⟩ = false := fun i => by simp [World.frozen?, e0]
    have f1 : ∀ i, w5.frozen? ⟨w.heap.size + 1, i, none⟩ = false := fun i => by simp [World.frozen?, e1]
    go_wp2
    have HRV : Hid (resN (U % (P : Int)).toNat P = r) := hid (by
      have m1 := Int.emod_nonneg U (show (P : Int) ≠ 0 by omega)
      have m2 := Int.emod_lt_of_pos U (show (0 : Int) < (P : Int) by omega)
      rw [HR.out, resV_yes (okN_iff.2 ⟨by omega, by omega⟩) (oddP_nat hP h3), Int.toNat_natCast, Int.emod_emod_of_dvd _ (Int.dvd_refl _)])
    refine bodyPost_ret (v := .agg #[.bool ((V : Int) % 2 == 1), .int .i64 r]) (by simp [results, Try.results70, go_sem]; go_simp) rfl ?_
    exact ⟨by rw [HC.out, HRV.out]; unfold clsT; rw [odd_beq], ((((((Below.refl w.heap.size w).alloc (Nat.le_refl _) _).alloc (by simp) _).trans (HB.out.mono (by simp; omega))).setCell (by simp) _).setCell (by simp) _).setCell (by simp) _⟩

end Go.Proofs.Ytciajpimpjpnfac
