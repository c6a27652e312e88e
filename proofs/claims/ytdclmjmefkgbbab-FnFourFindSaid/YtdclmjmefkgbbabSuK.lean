/-
  Tried by the kernel: sums of two and of four squares, for the numbers that laws draw.
-/
import Derived.Test.YtdclmjmefkgbbabQBun15
set_option linter.unusedVariables false
namespace Go.Proofs.Ytdclmjmefkgbbab
open Go.RowKit

/-- the squares of 0 to 44, as bits -/
def sqM : Nat := (List.range 45).foldl (fun s z => s ||| (1 <<< (z * z))) 0
theorem sqM_bits (m : Nat) : ∀ (l : List Nat) (s : Nat), (l.foldl (fun s z => s ||| (1 <<< (z * z))) s).testBit m = (s.testBit m || l.any (fun z => z * z == m))
  | [], s => by simp
  | z :: l, s => by
    rw [List.foldl_cons, sqM_bits m l, Nat.testBit_or, List.any_cons, Nat.one_shiftLeft, Nat.testBit_two_pow, Bool.or_assoc]
    congr 2
def sqL : Nat := 6224028970568197171148873027395361896609956081242935672618776298956859469274572127572988522460133120438569721524531872451251605436671673194690831131166941828344563774760355054144175331782008998624652605436741047571679410645077209902521566455884196280527542661828664243449030608244659284231122888458327412558619585373659691172356845677821393572250940017950872469085503878610511301641658484812910032034607329450584863502652831217108723821591574191059835751357474272753191193476185219239543662895520323273642142688595268120335929545495421184681111982317088348374628760338872319879479827
theorem sqL_eq : sqL = sqM := by decide +kernel
def isqM (m : Nat) : Bool := sqL.testBit m
theorem isq_root {m : Nat} (h : m ≤ 2000) : isqM m = (rtO (m : Int)).isSome := by
  unfold isqM
  rw [sqL_eq]
  unfold sqM
  rw [sqM_bits, Nat.zero_testBit, Bool.false_or]
  cases e : rtO (m : Int) with
  | none =>
    rw [Option.isSome_none, List.any_eq_false]
    intro z _ hz
    rw [beq_iff_eq] at hz
    have := rtO_of (n := (m : Int)) (z := z) (by rw [← hz]; push_cast; rfl)
    rw [e] at this; cases this
  | some z =>
    rw [Option.isSome_some, List.any_eq_true]
    have hz := rtO_some e
    have h44 := sq_small8 (c := 1) (x := (z : Int)) (by omega) (by omega) (by simp only [Int.one_mul]; omega)
    refine ⟨z, List.mem_range.2 (by omega), ?_⟩
    rw [beq_iff_eq]
    exact_mod_cast hz
def twF (n : Nat) : Nat → Nat
  | 0 => 0
  | k + 1 => if k * k ≤ n then (if isqM (n - k * k) then twF n k + (if n - k * k = 0 then 1 else 2) * (if k = 0 then 1 else 2) else twF n k) else twF n k
theorem twF_is {n : Nat} (h : n ≤ 2000) : ∀ k, twM (n : Int) k = (twF n k : Int)
  | 0 => rfl
  | k + 1 => by
    have ih := twF_is h k
    unfold twM twF
    rw [ih]
    by_cases hc : k * k ≤ n
    · rw [if_pos (by exact_mod_cast hc), if_pos hc]
      have e1 : (n : Int) - (k : Int) * k = ((n - k * k : Nat) : Int) := by rw [Int.ofNat_sub hc]; push_cast; rfl
      rw [e1, isq_root (show n - k * k ≤ 2000 by omega)]
      cases e : rtO ((n - k * k : Nat) : Int) with
      | none => simp
      | some z =>
        have hz := rtO_some e
        have hzz : z * z = n - k * k := by exact_mod_cast hz
        have h0 : (n - k * k = 0) ↔ z = 0 := by
          rw [← hzz]
          constructor
          · intro h; exact (Nat.mul_eq_zero.1 h).elim id id
          · intro h; rw [h]
        show (twF n k : Int) + (if z = 0 then (1 : Int) else 2) * (if k = 0 then 1 else 2) = _
        simp only [Option.isSome_some, if_true]
        push_cast
        by_cases h1 : z = 0
        · rw [if_pos h1, if_pos (h0.2 h1)]; split <;> rfl
        · rw [if_neg h1, if_neg (fun q => h1 (h0.1 q))]; split <;> rfl
    · rw [if_neg (fun q => hc (by exact_mod_cast q)), if_neg hc, Int.add_zero]
theorem twoW_twF {n K : Nat} (h : n ≤ 2000) (hK : K ≤ 45) (hs : ¬ K * K ≤ n) : twoW (n : Int) = (twF n K : Int) := by
  obtain ⟨k, rfl⟩ : ∃ k, K = k + 1 := ⟨K - 1, by
    rcases Nat.eq_zero_or_pos K with e | e
    · rw [e] at hs; exact absurd (Nat.zero_le n) hs
    · omega⟩
  rw [← twF_is h, twM_is (by omega) (by omega) k]
  unfold twoW
  exact (eachK_end (by omega) (fun q => hs (by exact_mod_cast q))).symm

/-- no divisor between the half and the number -/
theorem half_top (g : Nat → Int) (n : Nat) : ∀ j, n / 2 + j < n → divS g n (n / 2 + j) = divS g n (n / 2)
  | 0, _ => rfl
  | j + 1, h => by
    have ih := half_top g n j (by omega)
    show divS g n (n / 2 + j) + (if n % (n / 2 + j + 1) = 0 then g (n / 2 + j + 1) else 0) = _
    rw [if_neg, Int.add_zero, ih]
    intro hd
    obtain ⟨q, hq⟩ := Nat.dvd_of_mod_eq_zero hd
    rcases Nat.lt_or_ge q 2 with h2 | h2
    · have : q = 0 ∨ q = 1 := by omega
      rcases this with rfl | rfl
      · rw [Nat.mul_zero] at hq; omega
      · rw [Nat.mul_one] at hq; omega
    · have := Nat.mul_le_mul_left (n / 2 + j + 1) h2
      omega
theorem div_half (g : Nat → Int) {n : Nat} (h : 1 ≤ n) : divS g n n = divS g n (n / 2) + g n := by
  obtain ⟨m, rfl⟩ : ∃ m, n = m + 1 := ⟨n - 1, by omega⟩
  show divS g (m + 1) m + (if (m + 1) % (m + 1) = 0 then g (m + 1) else 0) = _
  rw [if_pos (Nat.mod_self _)]
  obtain ⟨j, hj⟩ : ∃ j, m = (m + 1) / 2 + j := ⟨m - (m + 1) / 2, by omega⟩
  have := half_top g (m + 1) j (by omega)
  rw [← hj] at this
  rw [this]
/-- beyond the number nothing divides -/
theorem div_over (g : Nat → Int) {n : Nat} (h : 1 ≤ n) : ∀ j, divS g n (n + j) = divS g n n
  | 0 => rfl
  | j + 1 => by
    have ih := div_over g h j
    show divS g n (n + j) + (if n % (n + j + 1) = 0 then g (n + j + 1) else 0) = _
    rw [ih, Nat.mod_eq_of_lt (by omega), if_neg (by omega), Int.add_zero]
def oddS (n : Nat) : Nat → Int
  | 0 => 0
  | j + 1 => if n % (2 * j + 1) = 0 then oddS n j + g2 (2 * j + 1) else oddS n j
theorem g2_even {d : Nat} (h : d % 2 = 0) : g2 d = 0 := by unfold g2; rw [if_neg (by omega), if_neg (by omega)]
theorem odd_is (n : Nat) : ∀ j, divS g2 n (2 * j) = oddS n j
  | 0 => rfl
  | j + 1 => by
    have ih := odd_is n j
    show divS g2 n (2 * j) + (if n % (2 * j + 1) = 0 then g2 (2 * j + 1) else 0) + (if n % (2 * j + 1 + 1) = 0 then g2 (2 * j + 1 + 1) else 0) = oddS n (j + 1)
    rw [ih, g2_even (d := 2 * j + 1 + 1) (by omega)]
    have e : oddS n (j + 1) = if n % (2 * j + 1) = 0 then oddS n j + g2 (2 * j + 1) else oddS n j := rfl
    rw [e]
    generalize oddS n j = a
    generalize g2 (2 * j + 1) = b
    split <;> split <;> omega
theorem odd_half (n : Nat) : divS g2 n (n / 2) = oddS n ((n / 2 + 1) / 2) := by
  rw [← odd_is]
  rcases Nat.mod_two_eq_zero_or_one (n / 2) with h | h
  · rw [show 2 * ((n / 2 + 1) / 2) = n / 2 by omega]
  · rw [show 2 * ((n / 2 + 1) / 2) = n / 2 + 1 by omega]
    show _ = divS g2 n (n / 2) + (if n % (n / 2 + 1) = 0 then g2 (n / 2 + 1) else 0)
    rw [g2_even (by omega)]
    split <;> omega
def div2F (n : Nat) : Int := oddS n ((n / 2 + 1) / 2) + g2 n
theorem div2_is {n : Nat} (h : 1 ≤ n) : divS g2 n n = div2F n := by rw [div_half g2 h, odd_half]; rfl
def dsum (n : Nat) : Nat → Nat
  | 0 => 0
  | k + 1 => if n % (k + 1) = 0 then dsum n k + (if (k + 1) % 4 = 0 then 0 else k + 1) else dsum n k
theorem dsum_is (n : Nat) : ∀ k, divS g4 n k = (dsum n k : Int)
  | 0 => rfl
  | k + 1 => by
    have ih := dsum_is n k
    have e1 : divS g4 n (k + 1) = divS g4 n k + if n % (k + 1) = 0 then g4 (k + 1) else 0 := rfl
    have e2 : dsum n (k + 1) = if n % (k + 1) = 0 then dsum n k + (if (k + 1) % 4 = 0 then 0 else k + 1) else dsum n k := rfl
    rw [e1, e2, ih]
    unfold g4
    by_cases h1 : n % (k + 1) = 0
    · rw [if_pos h1, if_pos h1]
      by_cases h2 : (k + 1) % 4 = 0
      · rw [if_pos h2, if_pos h2]; rfl
      · rw [if_neg h2, if_neg h2]; push_cast; rfl
    · rw [if_neg h1, if_neg h1, Int.add_zero]
def div4F (n : Nat) : Nat := dsum n (n / 2) + (if n % 4 = 0 then 0 else n)
theorem div4_is {n : Nat} (h : 1 ≤ n) : divS g4 n n = (div4F n : Int) := by
  rw [div_half g4 h, dsum_is]
  unfold div4F g4
  push_cast
  split <;> rfl

/-- ways of two squares up to 300, in one number -/
def twP : Nat := 36191474445254611513451890608960740439944131955601624913407688380996675688735284886176284568132687631538529086210472892560919567902035497391750157490665963059018110255350820073895202222731031557147125465076081453237751365100873576859161675707522586223083051365896831949343577988940302710473436654608174063660666615818448008312554713272382426610170070784896649607993009113569841100960964247760395599858385679270435712449979147506704494157104451415234500420174971484817908518913643387296008796257746174208918858575929178948363360383114162728245223765740717966243770744562846554417081987424698227848548541653901685670708084660326751814729566007287398171599432823874431215595377104913359816552766988921443827844302776828929
def twG (k : Nat) : Nat := (twP >>> (8 * k)) % 256
theorem twG_all : (List.range 301).all (fun k => twG k == twF k 18) = true := by decide +kernel
theorem twG_at {k : Nat} (h : k ≤ 300) : twG k = twF k 18 := by
  have := List.all_eq_true.1 twG_all k (List.mem_range.2 (by omega))
  rwa [beq_iff_eq] at this
theorem twG_is {k : Nat} (h : k ≤ 300) : twoW (k : Int) = ((twG k : Nat) : Int) := by
  rw [twG_at h]
  exact twoW_twF (by omega) (by omega) (by omega)
def fourF (n : Nat) : Nat → Nat
  | 0 => 0
  | k + 1 => if twG k = 0 then fourF n k else fourF n k + twG k * twG (n - k)
theorem fourF_is {n : Nat} (h : n ≤ 300) : ∀ k, k ≤ n + 1 → fourK (n : Int) k = ((fourF n k : Nat) : Int)
  | 0, _ => rfl
  | k + 1, hk => by
    have ih := fourF_is h k (by omega)
    have e1 : fourK (n : Int) (k + 1) = fourK (n : Int) k + twoW (k : Int) * twoW ((n : Int) - (k : Int)) := rfl
    have e2 : fourF n (k + 1) = if twG k = 0 then fourF n k else fourF n k + twG k * twG (n - k) := rfl
    have e3 : ((n : Int) - (k : Int)) = ((n - k : Nat) : Int) := by omega
    rw [e1, e2, ih, e3, twG_is (show k ≤ 300 by omega), twG_is (show n - k ≤ 300 by omega)]
    generalize twG k = a
    generalize twG (n - k) = b
    generalize fourF n k = c
    by_cases h0 : a = 0
    · rw [if_pos h0, h0]; simp
    · rw [if_neg h0]; push_cast; rfl
def fourOne (n : Nat) : Bool := (fourF n (n + 1) == if n = 0 then 1 else 8 * div4F n) && decide (twG n ≤ fourF n (n + 1))
def allR (f : Nat → Bool) (s len : Nat) : Bool := (List.range len).all (fun i => f (s + i))
theorem allR_at {f : Nat → Bool} {s len n : Nat} (h : allR f s len = true) (h1 : s ≤ n) (h2 : n < s + len) : f n = true := by
  have := List.all_eq_true.1 h (n - s) (List.mem_range.2 (by omega))
  rwa [show s + (n - s) = n by omega] at this
theorem four_a : allR fourOne 0 120 = true := by decide +kernel
theorem four_b : allR fourOne 120 60 = true := by decide +kernel
theorem four_c : allR fourOne 180 50 = true := by decide +kernel
theorem four_d : allR fourOne 230 40 = true := by decide +kernel
theorem four_e : allR fourOne 270 31 = true := by decide +kernel
/-- FourEach is FourMany, and at least TwoEach -/
theorem four_each {n : Nat} (h : n ≤ 300) : fourK (n : Int) (n + 1) = (if n = 0 then 1 else 8 * divS g4 n n) ∧ twoW (n : Int) ≤ fourK (n : Int) (n + 1) := by
  have : fourOne n = true := by
    rcases Nat.lt_or_ge n 120 with a | a
    · exact allR_at four_a (by omega) (by omega)
    · rcases Nat.lt_or_ge n 180 with b | b
      · exact allR_at four_b (by omega) (by omega)
      · rcases Nat.lt_or_ge n 230 with c | c
        · exact allR_at four_c (by omega) (by omega)
        · rcases Nat.lt_or_ge n 270 with d | d
          · exact allR_at four_d (by omega) (by omega)
          · exact allR_at four_e (by omega) (by omega)
  unfold fourOne at this
  rw [Bool.and_eq_true, beq_iff_eq, decide_eq_true_eq] at this
  rw [fourF_is h (n + 1) (Nat.le_refl _), twG_is h]
  refine ⟨?_, by exact_mod_cast this.2⟩
  rw [this.1]
  split
  · rfl
  · rw [div4_is (by omega)]; push_cast; rfl

/-- the numbers that laws draw -/
def DrawnS (n : Int) : Prop := (-1 ≤ n ∧ n ≤ 494) ∨ n = 2000 ∨ n = 2001
def DrawnT (n : Int) : Prop := (-1 ≤ n ∧ n ≤ 722) ∨ n = 2000 ∨ n = 2001
def manyOk8 (K n : Nat) : Bool := decide (n = 0) || (decide (4 * div2F n = (twF n K : Int)) && (decide (0 < div2F n) == twoIsB (n : Int)))
theorem many_a : allR (manyOk8 23) 0 250 = true := by decide +kernel
theorem many_b : allR (manyOk8 23) 250 130 = true := by decide +kernel
theorem many_c : allR (manyOk8 23) 380 115 = true := by decide +kernel
theorem many_d : manyOk8 45 2000 = true := by decide +kernel
theorem many_kernel {n : Nat} (h : n < 495 ∨ n = 2000) (h0 : n ≠ 0) : 4 * divS g2 n n = twoW (n : Int) ∧ decide (0 < divS g2 n n) = twoIsB (n : Int) := by
  obtain ⟨K, hK, hs, this⟩ : ∃ K, K ≤ 45 ∧ ¬ K * K ≤ n ∧ manyOk8 K n = true := by
    rcases h with h | rfl
    · refine ⟨23, by omega, by omega, ?_⟩
      rcases Nat.lt_or_ge n 250 with a | a
      · exact allR_at many_a (by omega) (by omega)
      · rcases Nat.lt_or_ge n 380 with b | b
        · exact allR_at many_b (by omega) (by omega)
        · exact allR_at many_c (by omega) (by omega)
    · exact ⟨45, by omega, by omega, many_d⟩
  unfold manyOk8 at this
  rw [decide_eq_false h0, Bool.false_or, Bool.and_eq_true, beq_iff_eq, decide_eq_true_eq, ← div2_is (by omega)] at this
  rw [twoW_twF (by omega) hK hs]
  exact this
/-- the divisors of twice a number that are odd are its own -/
theorem coprime9 {d : Nat} (h : d % 2 = 1) : Nat.Coprime 2 d := by
  rw [Nat.coprime_iff_gcd_eq_one, Nat.gcd_rec, h]
  exact Nat.gcd_one_left 2
theorem odd_twice (n : Nat) : ∀ k, divS g2 (2 * n) k = divS g2 n k
  | 0 => rfl
  | k + 1 => by
    have ih := odd_twice n k
    show divS g2 (2 * n) k + (if 2 * n % (k + 1) = 0 then g2 (k + 1) else 0) = divS g2 n k + (if n % (k + 1) = 0 then g2 (k + 1) else 0)
    rw [ih]
    congr 1
    rcases Nat.mod_two_eq_zero_or_one (k + 1) with h | h
    · rw [g2_even h]; split <;> split <;> rfl
    · have : 2 * n % (k + 1) = 0 ↔ n % (k + 1) = 0 := by
        rw [← Nat.dvd_iff_mod_eq_zero, ← Nat.dvd_iff_mod_eq_zero]
        exact ⟨fun hd => Nat.Coprime.dvd_of_dvd_mul_left (Nat.coprime_comm.1 (coprime9 h)) hd, fun hd => Nat.dvd_trans hd (Nat.dvd_mul_left n 2)⟩
      by_cases e : n % (k + 1) = 0
      · rw [if_pos e, if_pos (this.2 e)]
      · rw [if_neg e, if_neg (fun q => e (this.1 q))]
theorem many_twice {n : Nat} (h : 1 ≤ n) : divS g2 (2 * n) (2 * n) = divS g2 n n := by
  rw [odd_twice, show 2 * n = n + n by omega, div_over g2 h]
/-- of an odd number, 2 and 4 times it -/
theorem odd_dvd {n d c : Nat} (hd : d % 2 = 1) (hc : c = 2 ∨ c = 4) : c * n % d = 0 ↔ n % d = 0 := by
  have h2 : ∀ m, 2 * m % d = 0 ↔ m % d = 0 := fun m => by
    rw [← Nat.dvd_iff_mod_eq_zero, ← Nat.dvd_iff_mod_eq_zero]
    exact ⟨fun h => Nat.Coprime.dvd_of_dvd_mul_left (Nat.coprime_comm.1 (coprime9 hd)) h, fun h => Nat.dvd_trans h (Nat.dvd_mul_left m 2)⟩
  rcases hc with rfl | rfl
  · exact h2 n
  · rw [show 4 * n = 2 * (2 * n) by omega, h2, h2]
theorem odd_no {n d : Nat} (hn : n % 2 = 1) (hd : d % 2 = 0) : ¬ n % d = 0 := fun h => by
  obtain ⟨q, hq⟩ := Nat.dvd_of_mod_eq_zero h
  obtain ⟨r, rfl⟩ : ∃ r, d = 2 * r := ⟨d / 2, by omega⟩
  rw [Nat.mul_assoc] at hq
  omega
theorem four_step {n c : Nat} (hn : n % 2 = 1) (hc : c = 2 ∨ c = 4) : ∀ k, divS g4 (c * n) (2 * k) = divS g4 n (2 * k) + 2 * divS g4 n k
  | 0 => rfl
  | k + 1 => by
    have ih := four_step hn hc k
    show divS g4 (c * n) (2 * k) + (if c * n % (2 * k + 1) = 0 then g4 (2 * k + 1) else 0) + (if c * n % (2 * k + 1 + 1) = 0 then g4 (2 * k + 1 + 1) else 0) = divS g4 n (2 * k) + (if n % (2 * k + 1) = 0 then g4 (2 * k + 1) else 0) + (if n % (2 * k + 1 + 1) = 0 then g4 (2 * k + 1 + 1) else 0) + 2 * (divS g4 n k + (if n % (k + 1) = 0 then g4 (k + 1) else 0))
    rw [ih, if_neg (odd_no hn (show (2 * k + 1 + 1) % 2 = 0 by omega))]
    have h1 := odd_dvd (n := n) (d := 2 * k + 1) (by omega) hc
    have e1 : (if c * n % (2 * k + 1) = 0 then g4 (2 * k + 1) else 0) = (if n % (2 * k + 1) = 0 then g4 (2 * k + 1) else 0) := by
      by_cases e : n % (2 * k + 1) = 0
      · rw [if_pos e, if_pos (h1.2 e)]
      · rw [if_neg e, if_neg (fun q => e (h1.1 q))]
    have e2 : (if c * n % (2 * k + 1 + 1) = 0 then g4 (2 * k + 1 + 1) else 0) = 2 * (if n % (k + 1) = 0 then g4 (k + 1) else 0) := by
      rcases Nat.mod_two_eq_zero_or_one (k + 1) with h | h
      · rw [if_neg (odd_no hn h)]
        have : g4 (2 * k + 1 + 1) = 0 := by unfold g4; rw [if_pos (by omega)]
        rw [this]; split <;> rfl
      · have h3 : c * n % (2 * k + 1 + 1) = 0 ↔ n % (k + 1) = 0 := by
          rw [show 2 * k + 1 + 1 = 2 * (k + 1) by omega]
          rcases hc with rfl | rfl
          · rw [Nat.mul_mod_mul_left]
            omega
          · rw [show 4 * n = 2 * (2 * n) by omega, Nat.mul_mod_mul_left]
            have := odd_dvd (n := n) (d := k + 1) h (.inl rfl)
            omega
        have g1 : g4 (2 * k + 1 + 1) = 2 * ((k + 1 : Nat) : Int) := by unfold g4; rw [if_neg (by omega)]; omega
        have g0 : g4 (k + 1) = ((k + 1 : Nat) : Int) := by unfold g4; rw [if_neg (by omega)]
        by_cases e : n % (k + 1) = 0
        · rw [if_pos e, if_pos (h3.2 e), g1, g0]
        · rw [if_neg e, if_neg (fun q => e (h3.1 q))]; rfl
    rw [e1, e2]
    omega
theorem four_odd {n c : Nat} (hn : n % 2 = 1) (hc : c = 2 ∨ c = 4) : divS g4 (c * n) (c * n) = 3 * divS g4 n n := by
  have h1 : 1 ≤ n := by omega
  rcases hc with rfl | rfl
  · rw [four_step hn (.inl rfl) n, show 2 * n = n + n by omega, div_over g4 h1]
    omega
  · have := four_step hn (.inr rfl) (2 * n)
    rw [show 2 * (2 * n) = 4 * n by omega] at this
    rw [this, show 4 * n = n + 3 * n by omega, show 2 * n = n + n by omega, div_over g4 h1, div_over g4 h1]
    omega
/-- 1 divides -/
theorem div_pos4 {n : Nat} (h : 1 ≤ n) : ∀ k, 1 ≤ k → k ≤ 2000 → 1 ≤ divS g4 n k
  | 1, _, _ => by unfold divS divS; rw [if_pos (Nat.mod_one n)]; decide
  | k + 2, _, h2 => by
    have ih := div_pos4 h (k + 1) (by omega) (by omega)
    have hb := g4_bd (k + 2) h2
    show 1 ≤ divS g4 n (k + 1) + (if n % (k + 2) = 0 then g4 (k + 2) else 0)
    split <;> omega

end Go.Proofs.Ytdclmjmefkgbbab
