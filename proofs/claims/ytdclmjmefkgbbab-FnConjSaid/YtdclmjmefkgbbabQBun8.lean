/-
  Some texts in one file: Sym2 Loc2 PrimesG PlacesG Vals3.
-/
import Derived.Test.YtdclmjmefkgbbabQBun7
/-! Sym2 -/
set_option linter.unusedVariables false
namespace Go.Proofs.Ytdclmjmefkgbbab
open Go.RowKit

/-- the kind of a place: the real one, 2, a prime 1 more than a multiple of 4, another odd prime -/
def kOf (q : Int) : Nat := if q = 0 then 0 else if q = 2 then 1 else if (q - 1) / 2 % 2 = 0 then 2 else 3
def listK (k : Nat) : List (Nat × Int) := if k = 0 then [(0, 1), (0, -1)] else if k = 1 then [(0, 1), (0, 3), (0, 5), (0, 7), (1, 1), (1, 3), (1, 5), (1, 7)] else [(0, 1), (0, -1), (1, 1), (1, -1)]
def combK (k : Nat) (a b : Nat × Int) : Nat × Int := ((a.1 + b.1) % 2, if k = 1 then a.2 * b.2 % 8 else a.2 * b.2)
def symK (k : Nat) (c d : Nat × Int) : Int :=
  if k = 0 then (if c.2 = -1 ∧ d.2 = -1 then -1 else 1)
  else if k = 1 then halfI ((c.2 - 1) / 2 * ((d.2 - 1) / 2) + (c.1 : Int) * ((d.2 * d.2 - 1) / 8) + (d.1 : Int) * ((c.2 * c.2 - 1) / 8))
  else halfI ((c.1 : Int) * (d.1 : Int) * ((k : Int) - 2)) * (if d.1 = 1 then c.2 else 1) * (if c.1 = 1 then d.2 else 1)
def minusK (k : Nat) : Nat × Int := if k = 1 then (0, 7) else if k = 2 then (0, 1) else (0, -1)
theorem kOf_lt (q : Int) : kOf q < 4 := by unfold kOf; split; (· decide); (· split; (· decide); (· split <;> decide))
theorem kOf_zero (q : Int) : kOf q = 0 ↔ q = 0 := by
  unfold kOf; split
  · simp [*]
  · split
    · simp [*]
    · split <;> simp [*]
theorem kOf_one (q : Int) : kOf q = 1 ↔ q = 2 := by
  unfold kOf; split
  · constructor
    · intro h; cases h
    · intro h; omega
  · split
    · simp [*]
    · split <;> simp [*]
theorem clsList_k (q : Int) : clsList q = listK (kOf q) := by
  unfold clsList listK
  by_cases h0 : q = 0
  · rw [if_pos h0, if_pos ((kOf_zero q).2 h0)]
  · rw [if_neg h0, if_neg (fun h => h0 ((kOf_zero q).1 h))]
    by_cases h2 : q = 2
    · rw [if_pos h2, if_pos ((kOf_one q).2 h2)]
    · rw [if_neg h2, if_neg (fun h => h2 ((kOf_one q).1 h))]
theorem comb_k (q : Int) : comb q = combK (kOf q) := by
  funext a b
  unfold comb combK
  by_cases h2 : q = 2
  · rw [if_pos h2, if_pos ((kOf_one q).2 h2)]
  · rw [if_neg h2, if_neg (fun h => h2 ((kOf_one q).1 h))]
theorem sym_k (q : Int) (c d : Nat × Int) : symC q c d = symK (kOf q) c d := by
  unfold symC symK
  by_cases h0 : q = 0
  · rw [if_pos h0, if_pos ((kOf_zero q).2 h0)]
  · rw [if_neg h0, if_neg (fun h => h0 ((kOf_zero q).1 h))]
    by_cases h2 : q = 2
    · rw [if_pos h2, if_pos ((kOf_one q).2 h2)]
    · rw [if_neg h2, if_neg (fun h => h2 ((kOf_one q).1 h))]
      congr 2
      refine halfI_congr ?_
      rw [Int.mul_emod, Int.mul_emod _ ((kOf q : Int) - 2)]
      congr 2
      unfold kOf
      rw [if_neg h0, if_neg h2]
      split
      · next h => rw [h]; rfl
      · next h => rw [show (q - 1) / 2 % 2 = 1 by omega]; rfl

theorem K_all {Q : Nat → (Nat × Int) → (Nat × Int) → (Nat × Int) → Bool} (h : (List.range 4).all (fun k => (listK k).all (fun c => (listK k).all (fun d => (listK k).all (fun e => Q k c d e)))) = true)
    {q : Int} {c d e : Nat × Int} (hc : c ∈ clsList q) (hd : d ∈ clsList q) (he : e ∈ clsList q) : Q (kOf q) c d e = true := by
  rw [clsList_k] at hc hd he
  have h1 := List.all_eq_true.1 h (kOf q) (List.mem_range.2 (kOf_lt q))
  exact List.all_eq_true.1 (List.all_eq_true.1 (List.all_eq_true.1 h1 c hc) d hd) e he

theorem sym_val {q : Int} {c d : Nat × Int} (hc : c ∈ clsList q) (hd : d ∈ clsList q) : symC q c d = 1 ∨ symC q c d = -1 := by
  rw [sym_k]
  have := K_all (Q := fun k c d _ => symK k c d == 1 || symK k c d == -1) (by decide +kernel) hc hd hd
  rw [Bool.or_eq_true, beq_iff_eq, beq_iff_eq] at this
  exact this
theorem sym_comm {q : Int} {c d : Nat × Int} (hc : c ∈ clsList q) (hd : d ∈ clsList q) : symC q c d = symC q d c := by
  rw [sym_k, sym_k]
  have := K_all (Q := fun k c d _ => symK k c d == symK k d c) (by decide +kernel) hc hd hd
  exact beq_iff_eq.1 this
theorem sym_mul {q : Int} {c d e : Nat × Int} (hc : c ∈ clsList q) (hd : d ∈ clsList q) (he : e ∈ clsList q) : symC q c (comb q d e) = symC q c d * symC q c e := by
  rw [sym_k, sym_k, sym_k, comb_k]
  have := K_all (Q := fun k c d e => symK k c (combK k d e) == symK k c d * symK k c e) (by decide +kernel) hc hd he
  exact beq_iff_eq.1 this
theorem sym_one {q : Int} {c : Nat × Int} (hc : c ∈ clsList q) : symC q c (0, 1) = 1 := by
  rw [sym_k]
  have := K_all (Q := fun k c _ _ => symK k c (0, 1) == 1) (by decide +kernel) hc hc hc
  exact beq_iff_eq.1 this
theorem sym_minus {q : Int} {c : Nat × Int} (hc : c ∈ clsList q) : symC q c (comb q (minusK (kOf q)) c) = 1 := by
  rw [sym_k, comb_k]
  have := K_all (Q := fun k c _ _ => symK k c (combK k (minusK k) c) == 1) (by decide +kernel) hc hc hc
  exact beq_iff_eq.1 this

theorem pwm {P : Nat} (h : 2 ≤ P) : ∀ k, pw (P - 1) k P = if k % 2 = 0 then 1 else P - 1
  | 0 => by unfold pw; rw [Nat.pow_zero, Nat.mod_eq_of_lt (by omega)]; rfl
  | k + 1 => by
    rw [pw_succ, pwm h k]
    by_cases e : k % 2 = 0
    · rw [if_pos e, if_neg (by omega), Nat.one_mul, Nat.mod_eq_of_lt (by omega)]
    · rw [if_neg e, if_pos (by omega)]
      obtain ⟨q, rfl⟩ : ∃ q, P = q + 2 := ⟨P - 2, by omega⟩
      have e2 : (q + 2 - 1) * (q + 2 - 1) = 1 + (q + 2) * q := by
        rw [show q + 2 - 1 = q + 1 by omega]
        simp only [Nat.add_mul, Nat.mul_add]
        omega
      rw [e2, Nat.add_mul_mod_self_left, Nat.mod_eq_of_lt (show 1 < q + 2 by omega)]
theorem cls_minus {q : Int} (hq : plI q = true) : cls (-1) q = minusK (kOf q) := by
  rcases plI_cases hq with rfl | rfl | ⟨P, rfl, hP, h3, h5⟩
  · rfl
  · decide
  · have hd : ¬ P ∣ (-1 : Int).natAbs := by
      intro hd
      have := Nat.le_of_dvd (by decide) hd
      have : (-1 : Int).natAbs = 1 := rfl
      omega
    have hodd : P % 2 = 1 := by
      have := primeN_no hP (Nat.le_refl 2)
      by_cases h : P % 2 = 0
      · exact absurd h (this (by omega))
      · omega
    obtain ⟨a, b⟩ := unit_self hP hd (by decide)
    rw [cls_odd h3, a, b]
    have em : ((-1 : Int) % (P : Int)).toNat = P - 1 := by
      have : (-1 : Int) % (P : Int) = (P : Int) - 1 := by
        rw [← Int.add_emod_right (-1) (P : Int), Int.emod_eq_of_lt (by omega) (by omega)]; omega
      rw [this]; omega
    rw [em]
    by_cases h4 : (P - 1) / 2 % 2 = 0
    · have hk : kOf (P : Int) = 2 := by unfold kOf; rw [if_neg (by omega), if_neg (by omega), if_pos (by omega)]
      rw [hk]
      unfold resN
      rw [pwm (by omega), if_pos h4, if_neg (by omega)]
      rfl
    · have hk : kOf (P : Int) = 3 := by unfold kOf; rw [if_neg (by omega), if_neg (by omega), if_neg (by omega)]
      rw [hk]
      unfold resN
      rw [pwm (by omega), if_neg h4, if_pos rfl]
      rfl
theorem minus_mem {q : Int} (hq : plI q = true) : minusK (kOf q) ∈ clsList q := by rw [← cls_minus hq]; exact cls_mem (by decide) hq

/-- numbers -/
theorem symV_val {a b q : Int} (ha : a ≠ 0) (hb : b ≠ 0) (hq : plI q = true) : symV a b q = 1 ∨ symV a b q = -1 := sym_val (cls_mem ha hq) (cls_mem hb hq)
theorem symV_comm {a b q : Int} (ha : a ≠ 0) (hb : b ≠ 0) (hq : plI q = true) : symV a b q = symV b a q := sym_comm (cls_mem ha hq) (cls_mem hb hq)
theorem symV_mul {a b c q : Int} (ha : a ≠ 0) (hb : b ≠ 0) (hc : c ≠ 0) (hq : plI q = true) : symV a (b * c) q = symV a b q * symV a c q := by
  unfold symV
  rw [cls_mul hb hc hq]
  exact sym_mul (cls_mem ha hq) (cls_mem hb hq) (cls_mem hc hq)
theorem symV_minus {a q : Int} (ha : a ≠ 0) (hq : plI q = true) : symV a (-a) q = 1 := by
  unfold symV
  rw [show -a = -1 * a by omega, cls_mul (by decide) ha hq, cls_minus hq]
  exact sym_minus (cls_mem ha hq)
theorem symV_congr {a b c d q : Int} (h1 : cls a q = cls c q) (h2 : cls b q = cls d q) : symV a b q = symV c d q := by unfold symV; rw [h1, h2]
theorem symV_sq {a b q : Int} (ha : a ≠ 0) (hq : plI q = true) (h : sqAt b q = true) : symV a b q = 1 := by
  unfold symV sqAt at *
  rw [beq_iff_eq] at h
  rw [h]
  exact sym_one (cls_mem ha hq)

end Go.Proofs.Ytdclmjmefkgbbab

/-! Loc2 -/
set_option linter.unusedVariables false
namespace Go.Proofs.Ytdclmjmefkgbbab
open Go.RowKit

/-- a slice that reads as these numbers, by its address -/
theorem Rd.form {W : World} {v : Value} {xs : List Int} (h : Rd W v xs) : ∃ a cap, v = .slice a xs.length cap ∧
    (0 < xs.length → ∃ b o, a = some ⟨b, o, none⟩ ∧ xs.length ≤ maxLen ∧ ∀ i, i < xs.length → W.cell? ⟨b, o + i, none⟩ = some (.int .i64 (xs.getD i 0))) := by
  rcases h with ⟨a, cap, rfl, rfl⟩ | ⟨b, o, cap, rfl, h0, hm, hc⟩
  · exact ⟨a, cap, rfl, fun h => by simp at h⟩
  · exact ⟨_, cap, rfl, fun _ => ⟨b, o, rfl, hm, hc⟩⟩
theorem Rd.room {W : World} {a : Option Addr} {n cap : Nat} {xs : List Int} (h : Rd W (.slice a n cap) xs) : n ≤ cap := by
  rcases h with ⟨_, _, e, _⟩ | ⟨_, _, _, e, h0, _⟩
  · cases e; exact Nat.zero_le _
  · cases e; exact h0.2
theorem take_snoc {α : Type} (l : List α) (i : Nat) (h : i < l.length) : l.take (i + 1) = l.take i ++ [l[i]] := by
  rw [List.take_add_one, List.getElem?_eq_getElem h]; rfl
theorem filter_step {l : List Int} {f : Int → Bool} {i : Nat} (h : i < l.length) : (l.take (i + 1)).filter f = (l.take i).filter f ++ if f (l.getD i 0) then [l.getD i 0] else [] := by
  rw [take_snoc _ _ h, List.filter_append, getD_at _ _ h]
  congr 1
  by_cases e : f l[i] = true
  · rw [if_pos e]; simp [e]
  · rw [if_neg e]; simp [e]
theorem filter_len {l : List Int} {f : Int → Bool} {i : Nat} (h : i ≤ l.length) : ((l.take i).filter f).length ≤ i :=
  Nat.le_trans (List.length_filter_le _ _) (by rw [List.length_take]; omega)


end Go.Proofs.Ytdclmjmefkgbbab

/-! PrimesG -/
set_option linter.unusedVariables false
namespace Go.Proofs.Ytdclmjmefkgbbab
open Go.RowKit

/-- the primes by trial, for whatever number -/
def plistG (n : Nat) : List Nat := plGo (n + 1) 2 n
theorem sq_le6 {p n : Nat} (h : p * p ≤ n) (hn : n ≤ 1000000000000) : p ≤ 1000000 := by
  by_cases hp : p ≤ 1000000
  · exact hp
  · have := Nat.mul_le_mul (show 1000001 ≤ p by omega) (show 1000001 ≤ p by omega)
    omega
theorem ediv_bdG {a b : Nat} (h : a ≤ 1000000000000) : 0 ≤ (a : Int) / b ∧ (a : Int) / b ≤ 1000000000000 := by
  have h1 : (a : Int) / b = ((a / b : Nat) : Int) := by push_cast; rfl
  have h2 := Nat.div_le_self a b
  rw [h1]
  exact ⟨Int.natCast_nonneg _, by omega⟩

set_option maxRecDepth 100000 in
set_option maxHeartbeats 2000000 in
theorem l1PrimesG_any (n : Int) (h0 : n ≠ 0) (a1 : -1000000000000 ≤ n) (a2 : n ≤ 1000000000000) (w : World) :
    Calls Try.prog 93 #[.int .i64 n] w fun e w' => ∃ v, e = .returned v ∧ Owns w' w.heap.size v (natsI (plistG n.natAbs)) ∧ Below w.heap.size w w' := by
  obtain ⟨i0, hi, hz0, hz1, hz2⟩ := info_parts infoInt
  obtain ⟨N, hN⟩ : ∃ N, N = n.natAbs := ⟨_, rfl⟩
  rw [← hN]
  have hN1 : 1 ≤ N := by omega
  have hN2 : N ≤ 1000000000000 := by omega
  have HN := hid hN
  clear hN
  go_enter Try.func93, Try.ntmps93
  go_wp2_with (go_at_call 98; refine (l1Size_any _ (by omega) (by omega) _).mono ?_; rw [← HN.out]; rintro e w' ⟨rfl, rfl⟩)
  go_loopw [0, 3, 4] (fun sl so sp wr => ∃ (pre : List Nat) (L p f : Nat), sl = .int .i64 L ∧ sp = .int .i64 p ∧ 1 ≤ L ∧ L ≤ N ∧ 2 ≤ p ∧ p ≤ 1000001 ∧ p ≤ N + 2 ∧ p + f = N + 3 ∧ pre.length ≤ p ∧ Hid (plistG N = pre ++ plGo f p L) ∧ wr.ownsRow w.heap.size 3 1 so pre.length ((natsI pre).map (Value.int .i64)) ∧ Below w.heap.size w wr)
    (fun _ _ sp _ => N + 3 - (intOf sp).toNat)
  case atStart =>
    refine ⟨[], N, 2, N + 1, rfl, rfl, hN1, Nat.le_refl _, by omega, by omega, by omega, by omega, by simp, hid rfl, ?_, (Below.refl _ _).alloc (Nat.le_refl _) _⟩
    exact World.ownsRow_made (size := 1) w #[] 0 (Nat.le_refl _) (by unfold maxLen; omega) rfl
  case round =>
    obtain ⟨pre, L, p, f, rfl, rfl, hL1, hL2, hp2, hp7, hpN, hf, hpl, HP, hown, hB⟩ := hrel
    have hKK := mul_bd hp7 hp7
    obtain ⟨g, rfl⟩ : ∃ g, f = g + 1 := ⟨f - 1, by omega⟩
    by_cases hle : (p : Int) * p ≤ L
    · have hle' : p * p ≤ L := by exact_mod_cast hle
      have hp70 := sq_le6 hle' (show L ≤ 1000000000000 by omega)
      have hpL : p ≤ L := Nat.le_trans (Nat.le_mul_of_pos_left p (by omega)) hle'
      by_cases hd : L % p = 0
      · have T : ((L : Int) % p == 0) = true := by rw [beq_iff_eq]; exact_mod_cast hd
        have HE := hid (plGo_some (f := g) hle' hd)
        have HD := hid (val_dvd p hp2 L L (Nat.le_refl _) (by omega))
        clear hd hle'
        go_wp2_with (at_builtin; refine wpList_append_own _ rfl _ _ 27 rfl w.heap.size 3 i0 (.int .i64 0) 1 8 Try.underlying27 hi hz0 hz1 hz2 rfl (by decide) _ _ _ rfl (hown.alloc _) ⟨wr.heap.size, 0, none⟩ 1 1 [.int .i64 p] rfl rfl (cell_one_new _ _ _) (by simp [Value.oneCell']) (by unfold maxLen; omega) (by omega) (by have := hB.size; simp; omega) ?_; intro v' w1 hown' hgrow _)
        have hB1 : Below w.heap.size w w1 := (hB.alloc hB.size _).grown hgrow (by have := hB.size; simp; omega) (fun k e => (hown.lt k e).1)
        go_loop [0] (fun sl => ∃ M j : Nat, sl = .int .i64 M ∧ 1 ≤ M ∧ M ≤ L ∧ Hid (val M p + j = val L p ∧ M * p ^ j = L)) (fun sl => (intOf sl).toNat)
        case atStart => exact ⟨L, 0, rfl, hL1, Nat.le_refl _, hid ⟨rfl, by simp⟩⟩
        case round =>
          obtain ⟨M, j, rfl, hM1, hM2, HM⟩ := hrel
          have hdd := ediv_bdG (b := p) (show M ≤ 1000000000000 by omega)
          have hd0 := hdd.1
          have hd1 := hdd.2
          clear hdd
          by_cases hm : M % p = 0
          · have T2 : ((M : Int) % p == 0) = true := by rw [beq_iff_eq]; exact_mod_cast hm
            have hdv := Nat.dvd_of_mod_eq_zero hm
            have hq1 : 1 ≤ M / p := Nat.div_pos (Nat.le_of_dvd (by omega) hdv) (by omega)
            have hq2 : M / p < M := Nat.div_lt_self (by omega) (by omega)
            have HS := hid (val_step hp2 (show 0 < M by omega) hm)
            have HV := hid (Nat.div_mul_cancel hdv)
            clear hm hdv
            go_wp2
            go_round
            case rel => exact ⟨M / p, j + 1, vI (by push_cast; rfl), hq1, by omega, hid ⟨by have := HM.out.1; have := HS.out; omega, by rw [Nat.pow_succ, Nat.mul_comm (p ^ j), ← Nat.mul_assoc, HV.out]; exact HM.out.2⟩⟩
            case measure =>
              simp only [intOf]
              have e : (M : Int) / p = ((M / p : Nat) : Int) := by push_cast; rfl
              rw [e]
              exact Int.toNat_lt_toNat (by omega) |>.2 (Int.ofNat_lt.2 hq2)
          · have T2 : ((M : Int) % p == 0) = false := by rw [beq_eq_false_iff_ne]; exact_mod_cast hm
            have HS := hid (val_stop hm)
            have HJ : Hid (M = L / p ^ val L p) := by
              show _ = _
              have h1 := HM.out.1
              rw [HS.out, Nat.zero_add] at h1
              rw [← h1]
              conv => rhs; lhs; rw [← HM.out.2]
              rw [Nat.mul_div_cancel _ (Nat.pow_pos (by omega))]
            clear hm
            go_wp2
            go_roundw
            case rel =>
              refine ⟨pre ++ [p], M, p + 1, g, rfl, by go_num, hM1, by omega, by omega, by omega, by omega, by omega, by simp; omega, hid (by rw [HP.out, HE.out, HJ.out]; simp), ?_, hB1⟩
              have := hown'
              simpa [natsI] using this
            case measure => simp only [intOf]; omega
      · have T : ((L : Int) % p == 0) = false := by rw [beq_eq_false_iff_ne]; exact_mod_cast hd
        have HE := hid (plGo_none (f := g) hle' hd)
        clear hd hle'
        go_wp2
        go_loop [0] (fun sl => sl = .int .i64 L) (fun sl => 0)
        case atStart => rfl
        case round =>
          obtain rfl := hrel
          go_wp2
          go_roundw
          case rel => exact ⟨pre, L, p + 1, g, rfl, by go_num, hL1, hL2, by omega, by omega, by omega, by omega, by omega, hid (by rw [HP.out, HE.out]), hown, hB⟩
          case measure => simp only [intOf]; omega
    · have hle' : ¬ p * p ≤ L := fun h => hle (by exact_mod_cast h)
      have HE := hid (plGo_end (f := g) hle')
      clear hle'
      by_cases hL : 1 < L
      · have HF : Hid (plistG N = pre ++ [L]) := by show _ = _; rw [HP.out, HE.out, if_pos hL]
        go_wp2_with (at_builtin; refine wpList_append_own _ rfl _ _ 27 rfl w.heap.size 3 i0 (.int .i64 0) 1 8 Try.underlying27 hi hz0 hz1 hz2 rfl (by decide) _ _ _ rfl (hown.alloc _) ⟨wr.heap.size, 0, none⟩ 1 1 [.int .i64 L] rfl rfl (cell_one_new _ _ _) (by simp [Value.oneCell']) (by unfold maxLen; omega) (by omega) (by have := hB.size; simp; omega) ?_; intro v' w1 hown' hgrow _)
        have hB1 : Below w.heap.size w w1 := (hB.alloc hB.size _).grown hgrow (by have := hB.size; simp; omega) (fun k e => (hown.lt k e).1)
        go_ret
        exact ⟨_, rfl, by unfold Owns; rw [HF.out]; simpa [natsI] using hown', hB1⟩
      · have HF : Hid (plistG N = pre) := by show _ = _; rw [HP.out, HE.out, if_neg hL, List.append_nil]
        go_wp2
        go_ret
        exact ⟨_, rfl, by unfold Owns; rw [HF.out]; simpa [natsI] using hown, hB⟩

/-- no number from 2 on below p divides L -/
def NoLess (p L : Nat) : Prop := ∀ d, 2 ≤ d → d < p → L % d ≠ 0
/-- a number from 2 on that only 1 and itself divide -/
def PrG (x : Nat) : Prop := 2 ≤ x ∧ ∀ d, d ∣ x → d = 1 ∨ d = x
theorem prG_of {p L : Nat} (h : NoLess p L) (hL : 1 < L) (hle : ¬ p * p ≤ L) (hp : 2 ≤ p) : PrG L := by
  refine ⟨hL, fun d hd => ?_⟩
  obtain ⟨e, he⟩ := hd
  by_cases h1 : d = 1
  · exact .inl h1
  · right
    have hd0 : d ≠ 0 := by rintro rfl; omega
    have he0 : e ≠ 0 := by rintro rfl; omega
    have hdp : p ≤ d := by
      by_cases hc : p ≤ d
      · exact hc
      · exact absurd (by rw [he]; exact Nat.mul_mod_right d e) (h d (by omega) (by omega))
    by_cases he1 : e = 1
    · rw [he, he1, Nat.mul_one]
    · have hep : p ≤ e := by
        by_cases hc : p ≤ e
        · exact hc
        · exact absurd (by rw [he]; exact Nat.mul_mod_left d e) (h e (by omega) (by omega))
      exact absurd (by rw [he]; exact Nat.mul_le_mul hdp hep) hle
theorem prG_small {p L : Nat} (h : NoLess p L) (hd : L % p = 0) (hp : 2 ≤ p) : PrG p := by
  refine ⟨hp, fun d hdp => ?_⟩
  by_cases h1 : d = 1
  · exact .inl h1
  · right
    have hd0 : d ≠ 0 := by rintro rfl; rw [Nat.zero_dvd] at hdp; omega
    have hle := Nat.le_of_dvd (by omega) hdp
    by_cases hc : d = p
    · exact hc
    · exact absurd (Nat.mod_eq_zero_of_dvd (Nat.dvd_trans hdp (Nat.dvd_of_mod_eq_zero hd))) (h d (by omega) (by omega))
theorem noLess_div {p L M : Nat} (h : NoLess p L) (hM : M ∣ L) : NoLess p M := fun d h2 hp hm =>
  h d h2 hp (Nat.mod_eq_zero_of_dvd (Nat.dvd_trans (Nat.dvd_of_mod_eq_zero hm) hM))
theorem noLess_succ {p M : Nat} (h : NoLess p M) (hm : M % p ≠ 0) : NoLess (p + 1) M := fun d h2 hp => by
  by_cases e : d = p
  · rw [e]; exact hm
  · exact h d h2 (by omega)
theorem div_val {p L : Nat} (hp : 2 ≤ p) (hL : 0 < L) : L / p ^ val L p ∣ L ∧ 0 < L / p ^ val L p ∧ (L / p ^ val L p) % p ≠ 0 := by
  have hd := val_dvd p hp L L (Nat.le_refl _) hL
  refine ⟨Nat.div_dvd_of_dvd hd, Nat.div_pos (Nat.le_of_dvd hL hd) (Nat.pow_pos (by omega)), ?_⟩
  have key : ∀ (k n : Nat), n ≤ k → 0 < n → (n / p ^ val n p) % p ≠ 0 := by
    intro k
    induction k with
    | zero => intro n h h0; omega
    | succ k ih =>
      intro n h h0
      by_cases hn : n % p = 0
      · have h1 : n / p < n := Nat.div_lt_self h0 (by omega)
        have h2 : 0 < n / p := Nat.div_pos (Nat.le_of_dvd h0 (Nat.dvd_of_mod_eq_zero hn)) (by omega)
        rw [val_step hp h0 hn, Nat.pow_succ, Nat.mul_comm, ← Nat.div_div_eq_div_mul]
        exact ih (n / p) (by omega) h2
      · rw [val_stop hn, Nat.pow_zero, Nat.div_one]; exact hn
  exact key L L (Nat.le_refl _) hL

theorem plGo_step {f p L : Nat} : plGo (f + 1) p L = if p * p ≤ L then (if L % p = 0 then p :: plGo f (p + 1) (L / p ^ val L p) else plGo f (p + 1) L) else if 1 < L then [L] else [] := by
  conv => lhs; unfold plGo
theorem plGo_one {p L : Nat} (hp : 2 ≤ p) (hn : NoLess p L) (h : L = 1) (f : Nat) (hf : 1 ≤ f) : plGo f p L = [] := by
  obtain ⟨g, rfl⟩ : ∃ g, f = g + 1 := ⟨f - 1, by omega⟩
  have hpp := Nat.mul_le_mul hp hp
  rw [plGo_step, if_neg (by omega), if_neg (by omega)]
theorem fuel_less {p f : Nat} (h : 1 ≤ f) : ∀ L : Nat, p * p ≤ L → L < (p + f) * (p + f) → 1 ≤ f := fun _ _ _ => h

/-- what the list of primes holds: exactly the primes that divide, ascending -/
theorem plGo_spec : ∀ (f p L : Nat), 2 ≤ p → 0 < L → NoLess p L → L + 1 ≤ p + f ∨ (L < p * p ∧ 1 ≤ f) →
    (∀ x ∈ plGo f p L, PrG x ∧ x ∣ L ∧ p ≤ x) ∧ (plGo f p L).Pairwise (· < ·) ∧ (∀ x, PrG x → x ∣ L → x ∈ plGo f p L)
  | 0, p, L, hp, hL, hn, hb => by
    have h1 : L + 1 ≤ p := by omega
    have hL1 : L = 1 := by
      by_cases h : L = 1
      · exact h
      · exact absurd (Nat.mod_self L) (hn L (by omega) (by omega))
    subst hL1
    refine ⟨fun x hx => by simp [plGo] at hx, by simp [plGo], fun x hx hd => ?_⟩
    have := Nat.le_of_dvd (by omega) hd
    have := hx.1
    omega
  | f + 1, p, L, hp, hL, hn, hb => by
    rw [plGo_step]
    by_cases hle : p * p ≤ L
    · have hpL : p ≤ L := Nat.le_trans (Nat.le_mul_of_pos_left p (by omega)) hle
      rw [if_pos hle]
      by_cases hd : L % p = 0
      · rw [if_pos hd]
        obtain ⟨m1, m2, m3⟩ := div_val hp hL
        obtain ⟨M, hM⟩ : ∃ M, M = L / p ^ val L p := ⟨_, rfl⟩
        rw [← hM] at m1 m2 m3 ⊢
        have hML := Nat.le_of_dvd hL m1
        have hnM := noLess_succ (noLess_div hn m1) m3
        obtain ⟨i1, i2, i3⟩ := plGo_spec f (p + 1) M (by omega) m2 hnM (by omega)
        refine ⟨fun x hx => ?_, List.pairwise_cons.2 ⟨fun x hx => ?_, i2⟩, fun x hx hxd => ?_⟩
        · rcases List.mem_cons.1 hx with rfl | hx
          · exact ⟨prG_small hn hd hp, Nat.dvd_of_mod_eq_zero hd, Nat.le_refl _⟩
          · obtain ⟨a, b, c⟩ := i1 x hx
            exact ⟨a, Nat.dvd_trans b m1, by omega⟩
        · have := (i1 x hx).2.2
          omega
        · by_cases e : x = p
          · rw [e]; exact List.mem_cons_self
          · refine List.mem_cons_of_mem _ (i3 x hx ?_)
            -- x divides L = p^v * M and x is no p
            have hL2 : L = p ^ val L p * M := by
              rw [hM]
              have hdv := val_dvd p hp L L (Nat.le_refl _) hL
              rw [Nat.mul_comm]; exact (Nat.div_mul_cancel hdv).symm
            have hco : ∀ k, Nat.Coprime x (p ^ k) := fun k => by
              refine Nat.Coprime.pow_right k ?_
              have hg : Nat.gcd x p ∣ x := Nat.gcd_dvd_left x p
              have hg2 : Nat.gcd x p ∣ p := Nat.gcd_dvd_right x p
              rcases hx.2 _ hg with h | h
              · exact h
              · rw [h] at hg2
                rcases (prG_small hn hd hp).2 x hg2 with h2 | h2
                · have := hx.1; omega
                · exact absurd h2 e
            rw [hL2] at hxd
            exact (hco _).dvd_of_dvd_mul_left hxd
      · rw [if_neg hd]
        obtain ⟨i1, i2, i3⟩ := plGo_spec f (p + 1) L (by omega) hL (noLess_succ hn hd) (by omega)
        exact ⟨fun x hx => by obtain ⟨a, b, c⟩ := i1 x hx; exact ⟨a, b, by omega⟩, i2, i3⟩
    · rw [if_neg hle]
      by_cases h1 : 1 < L
      · rw [if_pos h1]
        have hpr := prG_of hn h1 hle hp
        have hpl : p ≤ L := by
          by_cases hc : p ≤ L
          · exact hc
          · exact absurd (Nat.mod_self L) (hn L (by omega) (by omega))
        refine ⟨fun x hx => ?_, by simp, fun x hx hd => ?_⟩
        · rw [List.mem_singleton] at hx
          rw [hx]
          exact ⟨hpr, Nat.dvd_refl _, hpl⟩
        · rcases hpr.2 x hd with h | h
          · have := hx.1; omega
          · rw [h]; exact List.mem_singleton.2 rfl
      · rw [if_neg h1]
        have hL1 : L = 1 := by omega
        subst hL1
        refine ⟨fun x hx => (by cases hx), List.Pairwise.nil, fun x hx hd => ?_⟩
        have := Nat.le_of_dvd (by omega) hd
        have := hx.1
        omega
theorem plistG_spec {n : Nat} (h : 0 < n) : (∀ x ∈ plistG n, PrG x ∧ x ∣ n) ∧ (plistG n).Pairwise (· < ·) ∧ (∀ x, PrG x → x ∣ n → x ∈ plistG n) := by
  obtain ⟨a, b, c⟩ := plGo_spec (n + 1) 2 n (Nat.le_refl _) h (fun d h2 hp => by omega) (by omega)
  exact ⟨fun x hx => ⟨(a x hx).1, (a x hx).2.1⟩, b, c⟩

end Go.Proofs.Ytdclmjmefkgbbab

/-! PlacesG -/
set_option linter.unusedVariables false
namespace Go.Proofs.Ytdclmjmefkgbbab
open Go.RowKit

def placesG (n : Int) : List Int := [0, 2] ++ (natsI (plistG n.natAbs)).filter (fun x => decide (2 < x))
theorem asc_len : ∀ (l : List Nat) (a b : Nat), l.Pairwise (· < ·) → (∀ x ∈ l, a ≤ x ∧ x ≤ b) → l.length ≤ b + 1 - a
  | [], a, b, _, _ => Nat.zero_le _
  | x :: t, a, b, h, hx => by
    rw [List.pairwise_cons] at h
    have h1 := hx x List.mem_cons_self
    have := asc_len t (a + 1) b h.2 (fun y hy => ⟨by have := h.1 y hy; omega, (hx y (List.mem_cons_of_mem _ hy)).2⟩)
    rw [List.length_cons]
    omega
theorem plistG_ok {n : Int} (h0 : n ≠ 0) (h1 : -1000000000000 ≤ n) (h2 : n ≤ 1000000000000) : (plistG n.natAbs).length ≤ 1000000000000 ∧ ∀ x ∈ plistG n.natAbs, x ≤ 1000000000000 := by
  obtain ⟨a, b, c⟩ := plistG_spec (show 0 < n.natAbs by omega)
  have hb : ∀ x ∈ plistG n.natAbs, 1 ≤ x ∧ x ≤ 1000000000000 := fun x hx => by
    have h3 := Nat.le_of_dvd (show 0 < n.natAbs by omega) (a x hx).2
    have h4 := (a x hx).1.1
    omega
  refine ⟨?_, fun x hx => (hb x hx).2⟩
  have := asc_len _ _ _ b hb
  omega


theorem primeGo_of : ∀ f p n, (∀ d, p ≤ d → d * d ≤ n → n % d ≠ 0) → primeGo f p n = true
  | 0, _, _, _ => rfl
  | f + 1, p, n, h => by
    unfold primeGo
    by_cases h1 : p * p ≤ n
    · rw [if_pos h1, if_neg (h p (Nat.le_refl _) h1)]
      exact primeGo_of f (p + 1) n (fun d hd hdd => h d (by omega) hdd)
    · rw [if_neg h1]
theorem prG_primeN {x : Nat} (h : PrG x) (h5 : x ≤ 5000) : primeN x = true := by
  unfold primeN
  rw [decide_eq_true h.1, decide_eq_true h5, primeGo_of]
  · rfl
  · intro d hd hdd hm
    have h1 := h.1
    rcases h.2 d (Nat.dvd_of_mod_eq_zero hm) with e | e
    · omega
    · rw [e] at hdd
      have := Nat.mul_le_mul h1 (Nat.le_refl x)
      omega
theorem primeN_prG {x : Nat} (h : primeN x = true) : PrG x := ⟨(primeN_bd h).1, fun d hd => primeN_dvd h hd⟩
theorem prG_mul {x a b : Nat} (h : PrG x) (hd : x ∣ a * b) : x ∣ a ∨ x ∣ b := by
  by_cases hc : Nat.Coprime x a
  · exact .inr (hc.dvd_of_dvd_mul_left hd)
  · left
    have h1 := h.2 _ (Nat.gcd_dvd_left x a)
    rcases h1 with e | e
    · exact absurd e hc
    · rw [← e]; exact Nat.gcd_dvd_right x a
/-- the places of a product of two numbers are places -/
theorem placesG_pl {a b : Int} (a0 : a ≠ 0) (b0 : b ≠ 0) (a1 : -5000 ≤ a) (a2 : a ≤ 5000) (b1 : -5000 ≤ b) (b2 : b ≤ 5000) : ∀ q ∈ placesG (a * b), plI q = true := by
  have hab := Int.mul_ne_zero a0 b0
  obtain ⟨s1, _, _⟩ := plistG_spec (show 0 < (a * b).natAbs by omega)
  intro q hq
  unfold placesG at hq
  simp only [List.cons_append, List.nil_append, List.mem_cons] at hq
  rcases hq with rfl | rfl | hq
  · rfl
  · rfl
  · have hm := (List.mem_filter.1 hq).1
    unfold natsI at hm
    rw [List.mem_map] at hm
    obtain ⟨x, hx, rfl⟩ := hm
    obtain ⟨p1, p2⟩ := s1 x hx
    rw [Int.natAbs_mul] at p2
    have h5 : x ≤ 5000 := by
      rcases prG_mul p1 p2 with h | h
      · have := Nat.le_of_dvd (show 0 < a.natAbs by omega) h; omega
      · have := Nat.le_of_dvd (show 0 < b.natAbs by omega) h; omega
    unfold plI
    rw [show primeI (x : Int) = true from prG_primeN p1 h5, Bool.or_true]

end Go.Proofs.Ytdclmjmefkgbbab

/-! Vals3 -/
set_option linter.unusedVariables false
namespace Go.Proofs.Ytdclmjmefkgbbab
open Go.RowKit

def okAB (a b : Int) : Bool := factB a && factB b
theorem okAB_cases (a b : Int) : (-5000 ≤ a ∧ a ≤ 5000 ∧ a ≠ 0 ∧ -5000 ≤ b ∧ b ≤ 5000 ∧ b ≠ 0 ∧ okAB a b = true) ∨ okAB a b = false := by
  unfold okAB
  rcases factB_cases a with ⟨h1, h2, h0, _, hF⟩ | ⟨_, hF⟩ | ⟨_, _, hF⟩
  · rcases factB_cases b with ⟨k1, k2, k0, _, kF⟩ | ⟨_, kF⟩ | ⟨_, _, kF⟩
    · left; exact ⟨h1, h2, h0, k1, k2, k0, by rw [hF, kF]; rfl⟩
    · right; rw [kF, Bool.and_false]
    · right; rw [kF, Bool.and_false]
  · right; rw [hF]; rfl
  · right; rw [hF]; rfl
def symOfV (a b q : Int) : Int := if okAB a b && plI q then symV a b q else 0
def splL (a b : Int) : List Int := if okAB a b then (placesG (a * b)).filter (fun q => decide (symV a b q = -1)) else []
theorem placesG_len {n : Int} (h0 : n ≠ 0) (h1 : -1000000000000 ≤ n) (h2 : n ≤ 1000000000000) : (placesG n).length ≤ 1000000000002 := by
  have h3 := (plistG_ok h0 h1 h2).1
  unfold placesG
  have h4 := List.length_filter_le (fun x : Int => decide (2 < x)) (natsI (plistG n.natAbs))
  have h5 : (natsI (plistG n.natAbs)).length = (plistG n.natAbs).length := by unfold natsI; rw [List.length_map]
  rw [List.length_append]
  simp only [List.length_cons, List.length_nil]
  omega

theorem splL_len {a b : Int} : (splL a b).length ≤ 1000000000002 := by
  rcases okAB_cases a b with ⟨a1, a2, a0, b1, b2, b0, O⟩ | O
  · unfold splL
    rw [O, if_pos rfl]
    have hmb := mul_bdI a1 a2 b1 b2
    exact Nat.le_trans (List.length_filter_le _ _) (placesG_len (Int.mul_ne_zero a0 b0) (by omega) (by omega))
  · unfold splL; rw [O]; simp
def sgnV (a b : Int) : Int := if okAB a b then halfI ((splL a b).length : Nat) else 0
def spltV (a b : Int) : Bool := okAB a b && ((splL a b).length == 0)
def normC (a q : Int) : Nat := ((namesOf q).filter (fun m => decide (symV a m q = 1))).length
def normV (a q : Int) : Int := if okAt a q then (normC a q : Nat) else -1

theorem sym_some {q : Int} {c : Nat × Int} (hc : c ∈ clsList q) (hne : c ≠ (0, 1)) : ∃ d ∈ clsList q, symC q c d = -1 := by
  have := K_all (Q := fun k c _ _ => c == (0, 1) || (listK k).any (fun d => symK k c d == -1)) (by decide +kernel) hc hc hc
  rw [Bool.or_eq_true] at this
  rcases this with h | h
  · exact absurd (beq_iff_eq.1 h) hne
  · obtain ⟨d, hd, e⟩ := List.any_eq_true.1 h
    refine ⟨d, by rw [clsList_k]; exact hd, ?_⟩
    rw [sym_k]
    exact beq_iff_eq.1 e
/-- where the first name with the symbol -1 stands -/
def findI (a q : Int) : Nat := (namesOf q).findIdx (fun m => decide (symV a m q ≠ 1))
theorem findI_lt {a q : Int} (h0 : a ≠ 0) (hq : plI q = true) (hs : sqAt a q = false) : findI a q < (namesOf q).length := by
  have hne : cls a q ≠ (0, 1) := by
    unfold sqAt at hs
    rw [beq_eq_false_iff_ne] at hs
    exact hs
  obtain ⟨d, hd, e⟩ := sym_some (cls_mem h0 hq) hne
  rw [← names_cls hq, List.mem_map] at hd
  obtain ⟨m, hm, rfl⟩ := hd
  unfold findI
  refine List.findIdx_lt_length_of_exists ⟨m, hm, decide_eq_true ?_⟩
  unfold symV
  rw [e]
  decide
theorem findI_at {a q : Int} (h : findI a q < (namesOf q).length) : symV a ((namesOf q).getD (findI a q) 0) q ≠ 1 := by
  have := List.findIdx_getElem (w := h)
  rw [getD_at _ _ h]
  exact of_decide_eq_true this
theorem findI_below {a q : Int} {i : Nat} (h : i < findI a q) (hl : i < (namesOf q).length) : symV a ((namesOf q).getD i 0) q = 1 := by
  have := List.not_of_lt_findIdx h
  rw [getD_at _ _ hl]
  simpa using this
def sfindV (a q : Int) : Value := if okAt a q && !sqAt a q then .tuple #[.int .i64 ((namesOf q).getD (findI a q) 0), .bool true] else .tuple #[.int .i64 0, .bool false]

def sol3 (a b x y z : Int) : Bool := okAB a b && (okN x && (okN y && (okN z && ((!(decide (x = 0) && (decide (y = 0) && decide (z = 0)))) && decide (z * z = a * x * x + b * y * y)))))
theorem cube_bd {a x : Int} (a1 : -5000 ≤ a) (a2 : a ≤ 5000) (x1 : -5000 ≤ x) (x2 : x ≤ 5000) : -25000000 ≤ a * x ∧ a * x ≤ 25000000 ∧ -125000000000 ≤ a * x * x ∧ a * x * x ≤ 125000000000 := by
  have h1 : (a * x).natAbs ≤ 5000 * 5000 := by rw [Int.natAbs_mul]; exact Nat.mul_le_mul (by omega) (by omega)
  have h2 : (a * x * x).natAbs ≤ 5000 * 5000 * 5000 := by rw [Int.natAbs_mul]; exact Nat.mul_le_mul h1 (by omega)
  omega
def sym4 (a b c d : Int) : Bool := okAB a b && (okAB c d && decide (splL a b = splL c d))

def hitB (a b : Int) (P m x y z : Nat) : Bool := (x % P != 0 || (y % P != 0 || z % P != 0)) && ((a * (x : Int) * (x : Int) + b * (y : Int) * (y : Int) - (z : Int) * (z : Int)) % (m : Int) == 0)
def anyHit (a b : Int) (P m : Nat) : Bool := (List.range m).any (fun x => (List.range m).any (fun y => (List.range m).any (fun z => hitB a b P m x y z)))
theorem anyHit_yes {a b : Int} {P m x y z : Nat} (hx : x < m) (hy : y < m) (hz : z < m) (h : hitB a b P m x y z = true) : anyHit a b P m = true :=
  List.any_eq_true.2 ⟨x, List.mem_range.2 hx, List.any_eq_true.2 ⟨y, List.mem_range.2 hy, List.any_eq_true.2 ⟨z, List.mem_range.2 hz, h⟩⟩⟩
/-- none has been met yet -/
def NoHit (a b : Int) (P m X Y Z : Nat) : Prop := ∀ u v t, u < m → v < m → t < m → (u < X ∨ (u = X ∧ (v < Y ∨ (v = Y ∧ t < Z)))) → hitB a b P m u v t = false
theorem anyHit_no {a b : Int} {P m : Nat} (h : NoHit a b P m m 0 0) : anyHit a b P m = false := by
  cases hh : anyHit a b P m with
  | false => rfl
  | true =>
    obtain ⟨x, hx, h1⟩ := List.any_eq_true.1 hh
    obtain ⟨y, hy, h2⟩ := List.any_eq_true.1 h1
    obtain ⟨z, hz, h3⟩ := List.any_eq_true.1 h2
    rw [h x y z (List.mem_range.1 hx) (List.mem_range.1 hy) (List.mem_range.1 hz) (.inl (List.mem_range.1 hx))] at h3
    cases h3
theorem noHit_z {a b : Int} {P m X Y Z : Nat} (h : NoHit a b P m X Y Z) (hz : hitB a b P m X Y Z = false) : NoHit a b P m X Y (Z + 1) := fun u v t hu hv ht hc => by
  by_cases e : u = X ∧ v = Y ∧ t = Z
  · rw [e.1, e.2.1, e.2.2]; exact hz
  · exact h u v t hu hv ht (by omega)
theorem noHit_y {a b : Int} {P m X Y : Nat} (h : NoHit a b P m X Y m) : NoHit a b P m X (Y + 1) 0 := fun u v t hu hv ht hc => h u v t hu hv ht (by omega)
theorem noHit_x {a b : Int} {P m X : Nat} (h : NoHit a b P m X m 0) : NoHit a b P m (X + 1) 0 0 := fun u v t hu hv ht hc => h u v t hu hv ht (by omega)
theorem tri_bd {a : Int} {x m : Nat} (a1 : -5000 ≤ a) (a2 : a ≤ 5000) (hx : x ≤ m) (hm : m ≤ 32) : -160000 ≤ a * (x : Int) ∧ a * (x : Int) ≤ 160000 ∧ -5120000 ≤ a * (x : Int) * (x : Int) ∧ a * (x : Int) * (x : Int) ≤ 5120000 := by
  have h1 : (a * (x : Int)).natAbs ≤ 5000 * 32 := by rw [Int.natAbs_mul]; exact Nat.mul_le_mul (by omega) (by omega)
  have h2 : (a * (x : Int) * (x : Int)).natAbs ≤ 5000 * 32 * 32 := by rw [Int.natAbs_mul]; exact Nat.mul_le_mul h1 (by omega)
  omega
def modOk (a b p k : Int) : Bool := okAB a b && (primeI p && (decide (p ≤ 31) && inR k 1 5))
def smodV (a b p k : Int) : Bool := modOk a b p k && (decide (p.toNat ^ k.toNat ≤ 32) && anyHit a b p.toNat (p.toNat ^ k.toNat))
theorem smodV_no {a b p k : Int} (h : modOk a b p k = false) : smodV a b p k = false := by unfold smodV; rw [h, Bool.false_and]

def wayB (a b : Int) (P x y z : Nat) : Bool := decide (0 < x + y + z) && ((a * (x : Int) * (x : Int) + b * (y : Int) * (y : Int) - (z : Int) * (z : Int)) % (P : Int) == 0)
def cntZ (a b : Int) (P x y : Nat) : Nat → Nat
  | 0 => 0
  | Z + 1 => cntZ a b P x y Z + (if wayB a b P x y Z then 1 else 0)
def cntY (a b : Int) (P x : Nat) : Nat → Nat
  | 0 => 0
  | Y + 1 => cntY a b P x Y + cntZ a b P x Y P
def cntX (a b : Int) (P : Nat) : Nat → Nat
  | 0 => 0
  | X + 1 => cntX a b P X + cntY a b P X P
theorem cntZ_le (a b : Int) (P x y : Nat) : ∀ Z, cntZ a b P x y Z ≤ Z
  | 0 => Nat.le_refl _
  | Z + 1 => by
    have := cntZ_le a b P x y Z
    unfold cntZ
    split <;> omega
theorem cntY_le (a b : Int) (P x : Nat) : ∀ Y, cntY a b P x Y ≤ Y * P
  | 0 => Nat.zero_le _
  | Y + 1 => by
    have h1 := cntY_le a b P x Y
    have h2 := cntZ_le a b P x Y P
    unfold cntY
    rw [Nat.succ_mul]
    omega
theorem cntX_le (a b : Int) (P : Nat) : ∀ X, cntX a b P X ≤ X * (P * P)
  | 0 => Nat.zero_le _
  | X + 1 => by
    have h1 := cntX_le a b P X
    have h2 := cntY_le a b P X P
    unfold cntX
    rw [Nat.succ_mul]
    omega
def wayOk (a b p : Int) : Bool := okAB a b && (primeI p && decide (p ≤ 31))
def swayV (a b p : Int) : Int := if wayOk a b p then (cntX a b p.toNat p.toNat : Nat) else -1
theorem swayV_no {a b p : Int} (h : wayOk a b p = false) : swayV a b p = -1 := by unfold swayV; rw [if_neg (by rw [h]; decide)]

end Go.Proofs.Ytdclmjmefkgbbab
