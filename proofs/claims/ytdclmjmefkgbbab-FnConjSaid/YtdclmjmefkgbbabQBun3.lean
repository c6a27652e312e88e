/-
  Some texts in one file: Own Lists Fermat.
-/
import Derived.Test.YtdclmjmefkgbbabQBun0
import Derived.BigQuiet
import Derived.Maps.AppendAt
import Derived.Test.YtdclmjmefkgbbabQBun2
/-! Own -/
set_option linter.unusedVariables false
namespace Go.Proofs.Ytdclmjmefkgbbab
open Go.RowKit

/-- the value is a slice of the call's own that holds these numbers -/
def Owns (W : World) (B : Nat) (v : Value) (xs : List Int) : Prop := W.ownsRow B 3 1 v xs.length (xs.map (Value.int .i64))
theorem Owns.lt {W : World} {B : Nat} {v : Value} {xs : List Int} (h : Owns W B v xs) : ∀ g, v.ownBlock = some g → g < W.heap.size := fun g e => (World.ownsRow.lt h g e).2
theorem Owns.ge {W : World} {B : Nat} {v : Value} {xs : List Int} (h : Owns W B v xs) : ∀ g, v.ownBlock = some g → B ≤ g := fun g e => (World.ownsRow.lt h g e).1
theorem Owns.keep {W W' : World} {B C : Nat} {v : Value} {xs : List Int} (h : Owns W B v xs) (hlt : ∀ g, v.ownBlock = some g → g < C) (hb : Below C W W') : Owns W' B v xs := by
  obtain ⟨h1, h2⟩ := h
  refine ⟨h1, ?_⟩
  rcases h2 with h2 | ⟨g, cap, cur, hv, hg, hh, r⟩
  · exact .inl h2
  · exact .inr ⟨g, cap, cur, hv, hg, by rw [hb.block g (hlt g (by rw [hv]; rfl))]; exact hh, r⟩
theorem Owns.drewN {W : World} {B : Nat} {v : Value} {xs : List Int} (h : Owns W B v xs) (k : Nat) : Owns (W.drewN k) B v xs := h

/-- the value is a slice that reads as these numbers -/
def Rd (W : World) (v : Value) (xs : List Int) : Prop :=
  (∃ a cap, v = .slice a 0 cap ∧ xs = []) ∨
  ∃ b o cap, v = .slice (some ⟨b, o, none⟩) xs.length cap ∧ (0 < xs.length ∧ xs.length ≤ cap) ∧ xs.length ≤ maxLen ∧ ∀ i, i < xs.length → W.cell? ⟨b, o + i, none⟩ = some (.int .i64 (xs.getD i 0))
theorem Owns.rd {W : World} {B : Nat} {v : Value} {xs : List Int} (h : Owns W B v xs) : Rd W v xs := by
  by_cases h0 : xs = []
  · subst h0
    left
    rcases h.2 with ⟨rfl, _⟩ | ⟨g, cap, _, rfl, _⟩
    · exact ⟨_, _, rfl, rfl⟩
    · exact ⟨_, _, rfl, rfl⟩
  · right
    have hl : 0 < xs.length := List.length_pos_iff.2 h0
    rcases h.2 with ⟨_, hn⟩ | ⟨g, cap, cur, hv, hg, hh, hc, hm, hs, _⟩
    · omega
    · subst hv
      refine ⟨g, 0, cap, rfl, ⟨hl, hc⟩, by omega, fun i hi => ?_⟩
      have := World.ownsRow.cellAt h i (by omega)
      rw [Nat.zero_add, this, List.getElem?_map, List.getElem?_eq_getElem hi]
      simp [List.getD, List.getElem?_eq_getElem hi]

end Go.Proofs.Ytdclmjmefkgbbab

/-! Lists -/
set_option linter.unusedVariables false
namespace Go.Proofs.Ytdclmjmefkgbbab
open Go.RowKit Go.Shelf
attribute [local go_sem] Oper.semAt_some

theorem infoInt : (Try.prog.info? 3).map (fun i => (i.zero, i.size, i.bytes)) = some (some (.int .i64 0), 1, 8) := by kernel_rfl

def natsI (l : List Nat) : List Int := l.map (fun (k : Nat) => (k : Int))

theorem plGo_some {f p L : Nat} (hle : p * p ≤ L) (hd : L % p = 0) : plGo (f + 1) p L = p :: plGo f (p + 1) (L / p ^ val L p) := by
  conv => lhs; unfold plGo
  rw [if_pos hle, if_pos hd]
theorem plGo_none {f p L : Nat} (hle : p * p ≤ L) (hd : ¬ L % p = 0) : plGo (f + 1) p L = plGo f (p + 1) L := by
  conv => lhs; unfold plGo
  rw [if_pos hle, if_neg hd]
theorem plGo_end {f p L : Nat} (hle : ¬ p * p ≤ L) : plGo (f + 1) p L = if 1 < L then [L] else [] := by
  conv => lhs; unfold plGo
  rw [if_neg hle]

set_option maxRecDepth 100000 in
set_option maxHeartbeats 2000000 in
theorem l1Primes_any (n : Int) (h0 : n ≠ 0) (a1 : -5000 ≤ n) (a2 : n ≤ 5000) (w : World) :
    Calls Try.prog 93 #[.int .i64 n] w fun e w' => ∃ v, e = .returned v ∧ Owns w' w.heap.size v (natsI (plist n.natAbs)) ∧ Below w.heap.size w w' := by
  obtain ⟨i0, hi, hz0, hz1, hz2⟩ := info_parts infoInt
  obtain ⟨N, hN⟩ : ∃ N, N = n.natAbs := ⟨_, rfl⟩
  rw [← hN]
  have hN1 : 1 ≤ N := by omega
  have hN2 : N ≤ 5000 := by omega
  have HN := hid hN
  clear hN
  go_enter Try.func93, Try.ntmps93
  go_wp2_with (go_at_call 98; refine (l1Size_any _ (by omega) (by omega) _).mono ?_; rw [← HN.out]; rintro e w' ⟨rfl, rfl⟩)
  go_loopw [0, 3, 4] (fun sl so sp wr => ∃ (pre : List Nat) (L p f : Nat), sl = .int .i64 L ∧ sp = .int .i64 p ∧ 1 ≤ L ∧ L ≤ 5000 ∧ 2 ≤ p ∧ p ≤ 71 ∧ p + f = 72 ∧ pre.length ≤ p ∧ Hid (plist N = pre ++ plGo f p L) ∧ wr.ownsRow w.heap.size 3 1 so pre.length ((natsI pre).map (Value.int .i64)) ∧ Below w.heap.size w wr)
    (fun _ _ sp _ => (71 - intOf sp).toNat)
  case atStart =>
    refine ⟨[], N, 2, 70, rfl, rfl, hN1, hN2, by omega, by omega, rfl, by simp, hid rfl, ?_, (Below.refl _ _).alloc (Nat.le_refl _) _⟩
    exact World.ownsRow_made (size := 1) w #[] 0 (Nat.le_refl _) (by unfold maxLen; omega) rfl
  case round =>
    obtain ⟨pre, L, p, f, rfl, rfl, hL1, hL2, hp2, hp7, hf, hpl, HP, hown, hB⟩ := hrel
    have hKK := mul_bd (show p ≤ 71 by omega) (show p ≤ 71 by omega)
    obtain ⟨g, rfl⟩ : ∃ g, f = g + 1 := ⟨f - 1, by omega⟩
    by_cases hle : (p : Int) * p ≤ L
    · have hle' : p * p ≤ L := by exact_mod_cast hle
      have hp70 := sq_le hle' hL2
      by_cases hd : L % p = 0
      · have T : ((L : Int) % p == 0) = true := by rw [beq_iff_eq]; exact_mod_cast hd
        have HE := hid (plGo_some (f := g) hle' hd)
        have HD := hid (val_dvd p hp2 L L (Nat.le_refl _) (by omega))
        clear hd hle'
        go_wp2_with (at_builtin; refine wpList_append_own _ rfl _ _ 27 rfl w.heap.size 3 i0 (.int .i64 0) 1 8 Try.underlying27 hi hz0 hz1 hz2 rfl (by decide) _ _ _ rfl (hown.alloc _) ⟨wr.heap.size, 0, none⟩ 1 1 [.int .i64 p] rfl rfl (cell_one_new _ _ _) (by simp [Value.oneCell']) (by unfold maxLen; omega) (by omega) (by have := hB.size; simp; omega) ?_; intro v' w1 hown' hgrow _)
        have hB1 : Below w.heap.size w w1 := (hB.alloc hB.size _).grown hgrow (by have := hB.size; simp; omega) (fun k e => (hown.lt k e).1)
        go_loop [0] (fun sl => ∃ M j : Nat, sl = .int .i64 M ∧ 1 ≤ M ∧ M ≤ 5000 ∧ Hid (val M p + j = val L p ∧ M * p ^ j = L)) (fun sl => (intOf sl).toNat)
        case atStart => exact ⟨L, 0, rfl, hL1, hL2, hid ⟨rfl, by simp⟩⟩
        case round =>
          obtain ⟨M, j, rfl, hM1, hM2, HM⟩ := hrel
          have hdd := ediv_bd (b := p) hM2
          have hd0 := hdd.1
          have hd1 := hdd.2
          clear hdd
          by_cases hm : M % p = 0
          · have T2 : ((M : Int) % p == 0) = true := by rw [beq_iff_eq]; exact_mod_cast hm
            have hdv := Nat.dvd_of_mod_eq_zero hm
            have hq1 : 1 ≤ M / p := Nat.div_pos (Nat.le_of_dvd (by omega) hdv) (by omega)
            have hq2 : M / p < M := Nat.div_lt_self (by omega) (by omega)
            have HS := hid (val_step hp2 (show 0 < M by omega) hm)
            have HV := hid (Nat.div_mul_cancel hdv)
            clear hm hdv
            go_wp2
            go_round
            case rel => exact ⟨M / p, j + 1, vI (by push_cast; rfl), hq1, by omega, hid ⟨by have := HM.out.1; have := HS.out; omega, by rw [Nat.pow_succ, Nat.mul_comm (p ^ j), ← Nat.mul_assoc, HV.out]; exact HM.out.2⟩⟩
            case measure =>
              simp only [intOf]
              have e : (M : Int) / p = ((M / p : Nat) : Int) := by push_cast; rfl
              rw [e]
              exact Int.toNat_lt_toNat (by omega) |>.2 (Int.ofNat_lt.2 hq2)
          · have T2 : ((M : Int) % p == 0) = false := by rw [beq_eq_false_iff_ne]; exact_mod_cast hm
            have HS := hid (val_stop hm)
            have HJ : Hid (M = L / p ^ val L p) := by
              show _ = _
              have h1 := HM.out.1
              rw [HS.out, Nat.zero_add] at h1
              rw [← h1]
              conv => rhs; lhs; rw [← HM.out.2]
              rw [Nat.mul_div_cancel _ (Nat.pow_pos (by omega))]
            clear hm
            go_wp2
            go_roundw
            case rel =>
              refine ⟨pre ++ [p], M, p + 1, g, rfl, by go_num, hM1, hM2, by omega, by omega, by omega, by simp; omega, hid (by rw [HP.out, HE.out, HJ.out]; simp), ?_, hB1⟩
              have := hown'
              simpa [natsI] using this
            case measure => simp only [intOf]; omega
      · have T : ((L : Int) % p == 0) = false := by rw [beq_eq_false_iff_ne]; exact_mod_cast hd
        have HE := hid (plGo_none (f := g) hle' hd)
        clear hd hle'
        go_wp2
        go_loop [0] (fun sl => sl = .int .i64 L) (fun sl => 0)
        case atStart => rfl
        case round =>
          obtain rfl := hrel
          go_wp2
          go_roundw
          case rel => exact ⟨pre, L, p + 1, g, rfl, by go_num, hL1, hL2, by omega, by omega, by omega, by omega, hid (by rw [HP.out, HE.out]), hown, hB⟩
          case measure => simp only [intOf]; omega
    · have hle' : ¬ p * p ≤ L := fun h => hle (by exact_mod_cast h)
      have HE := hid (plGo_end (f := g) hle')
      clear hle'
      by_cases hL : 1 < L
      · have HF : Hid (plist N = pre ++ [L]) := by show _ = _; rw [HP.out, HE.out, if_pos hL]
        go_wp2_with (at_builtin; refine wpList_append_own _ rfl _ _ 27 rfl w.heap.size 3 i0 (.int .i64 0) 1 8 Try.underlying27 hi hz0 hz1 hz2 rfl (by decide) _ _ _ rfl (hown.alloc _) ⟨wr.heap.size, 0, none⟩ 1 1 [.int .i64 L] rfl rfl (cell_one_new _ _ _) (by simp [Value.oneCell']) (by unfold maxLen; omega) (by omega) (by have := hB.size; simp; omega) ?_; intro v' w1 hown' hgrow _)
        have hB1 : Below w.heap.size w w1 := (hB.alloc hB.size _).grown hgrow (by have := hB.size; simp; omega) (fun k e => (hown.lt k e).1)
        go_ret
        exact ⟨_, rfl, by unfold Owns; rw [HF.out]; simpa [natsI] using hown', hB1⟩
      · have HF : Hid (plist N = pre) := by show _ = _; rw [HP.out, HE.out, if_neg hL, List.append_nil]
        go_wp2
        go_ret
        exact ⟨_, rfl, by unfold Owns; rw [HF.out]; simpa [natsI] using hown, hB⟩

theorem natsI_len (l : List Nat) : (natsI l).length = l.length := by simp [natsI]
def fsts (l : List PP) : List Nat := l.map (fun x => x.1.1)
theorem fsts_snoc (l : List PP) (x : PP) : fsts (l ++ [x]) = fsts l ++ [x.1.1] := by simp [fsts]
theorem fsts_all {l : List PP} {N : Nat} (h : l.map (·.1) = ppow N) : fsts l = (ppow N).map (·.1) := by rw [← h]; simp [fsts]
theorem natsI_snoc (l : List Nat) (x : Nat) : natsI (l ++ [x]) = natsI l ++ [(x : Int)] := by simp [natsI]
theorem ppGo_len : ∀ f p L, (ppGo f p L).length ≤ f
  | 0, _, _ => Nat.le_refl _
  | f + 1, p, L => by
    unfold ppGo
    have := ppGo_len f
    split
    · split
      · simp; exact this _ _
      · exact Nat.le_succ_of_le (this _ _)
    · split <;> simp
theorem ppow_len (N : Nat) : (ppow N).length ≤ 70 := ppGo_len _ _ _

theorem primes_len (n : Int) : (natsI (if factB n then plist n.natAbs else [])).length ≤ 1000000 := by
  rw [natsI_len]
  split
  · rw [plist_eq, List.length_map]
    have := ppow_len n.natAbs
    omega
  · simp

end Go.Proofs.Ytdclmjmefkgbbab

/-! Fermat -/
set_option linter.unusedVariables false
namespace Go.Proofs.Ytdclmjmefkgbbab

theorem primeGo_no : ∀ f p n d, primeGo f p n = true → p ≤ d → d < p + f → d * d ≤ n → n % d ≠ 0
  | 0, p, n, d, _, h1, h2, _ => by omega
  | f + 1, p, n, d, h, h1, h2, h3 => by
    unfold primeGo at h
    by_cases hp : p * p ≤ n
    · rw [if_pos hp] at h
      by_cases hd : n % p = 0
      · rw [if_pos hd] at h; cases h
      · rw [if_neg hd] at h
        by_cases e : d = p
        · rw [e]; exact hd
        · exact primeGo_no f (p + 1) n d h (by omega) (by omega) h3
    · exfalso
      have := Nat.mul_le_mul h1 h1
      omega

theorem primeN_bd {p : Nat} (h : primeN p = true) : 2 ≤ p ∧ p ≤ 5000 ∧ primeGo 70 2 p = true := by
  unfold primeN at h
  simp at h
  exact ⟨h.1, h.2.1, h.2.2⟩

theorem primeN_no {p d : Nat} (h : primeN p = true) (h2 : 2 ≤ d) (h3 : d * d ≤ p) : p % d ≠ 0 := by
  obtain ⟨_, hb, hg⟩ := primeN_bd h
  have := sq_le h3 hb
  exact primeGo_no 70 2 p d hg h2 (by omega) h3

theorem primeN_dvd {p d : Nat} (h : primeN p = true) (hd : d ∣ p) : d = 1 ∨ d = p := by
  obtain ⟨h2, _, _⟩ := primeN_bd h
  obtain ⟨c, hc⟩ := hd
  by_cases d1 : d = 1
  · exact .inl d1
  · by_cases c1 : c = 1
    · subst c1; right; omega
    · exfalso
      have d0 : d ≠ 0 := by rintro rfl; omega
      have c0 : c ≠ 0 := by rintro rfl; omega
      by_cases hle : d ≤ c
      · refine primeN_no h (show 2 ≤ d by omega) ?_ (by rw [hc]; exact Nat.mul_mod_right d c)
        rw [hc]; exact Nat.mul_le_mul (Nat.le_refl _) hle
      · refine primeN_no h (show 2 ≤ c by omega) ?_ (by rw [hc]; exact Nat.mul_mod_left d c)
        rw [hc]; exact Nat.mul_le_mul (by omega) (Nat.le_refl _)

theorem prime_coprime {p a : Nat} (h : primeN p = true) (ha : ¬ p ∣ a) : Nat.Coprime p a := by
  rcases primeN_dvd h (Nat.gcd_dvd_left p a) with hg | hg
  · exact hg
  · exfalso; apply ha; rw [← hg]; exact Nat.gcd_dvd_right p a

theorem prime_mul {p a b : Nat} (h : primeN p = true) (hd : p ∣ a * b) : p ∣ a ∨ p ∣ b := by
  by_cases ha : p ∣ a
  · exact .inl ha
  · exact .inr ((prime_coprime h ha).dvd_of_dvd_mul_left hd)

/-- the binomials -/
def bin : Nat → Nat → Nat
  | _, 0 => 1
  | 0, _ + 1 => 0
  | n + 1, k + 1 => bin n k + bin n (k + 1)
theorem bin_zero (n : Nat) : bin n 0 = 1 := by cases n <;> rfl
theorem bin_succ (n k : Nat) : bin (n + 1) (k + 1) = bin n k + bin n (k + 1) := rfl
theorem bin_big : ∀ n k, n < k → bin n k = 0
  | 0, k + 1, _ => rfl
  | n + 1, k + 1, h => by rw [bin_succ, bin_big n k (by omega), bin_big n (k + 1) (by omega)]
theorem bin_self : ∀ n, bin n n = 1
  | 0 => rfl
  | n + 1 => by rw [bin_succ, bin_self n, bin_big n (n + 1) (by omega)]
theorem bin_mul : ∀ n k, (k + 1) * bin (n + 1) (k + 1) = (n + 1) * bin n k
  | 0, 0 => rfl
  | 0, k + 1 => by rw [bin_big 1 (k + 2) (by omega), bin_big 0 (k + 1) (by omega)]; rfl
  | n + 1, 0 => by
    have ih := bin_mul n 0
    rw [bin_succ (n + 1) 0]
    simp only [bin_zero] at *
    omega
  | n + 1, k + 1 => by
    have i1 := bin_mul n k
    have i2 := bin_mul n (k + 1)
    have e1 := bin_succ n k
    have e3 := bin_succ (n + 1) (k + 1)
    rw [e3]
    rw [Nat.mul_add, i2]
    have : (k + 1 + 1) * bin (n + 1) (k + 1) = (n + 1) * bin n k + bin (n + 1) (k + 1) := by rw [Nat.succ_mul, i1]
    rw [this]
    rw [Nat.succ_mul (n + 1) (bin (n + 1) (k + 1)), e1, Nat.mul_add]
    omega

def bsum (n a : Nat) : Nat → Nat
  | 0 => 0
  | m + 1 => bsum n a m + bin n m * a ^ m
theorem bsum_step (n a : Nat) : ∀ m, bsum (n + 1) a (m + 1) = bsum n a (m + 1) + a * bsum n a m
  | 0 => by simp [bsum, bin_zero]
  | m + 1 => by
    rw [bsum, bsum_step n a m, bin_succ, Nat.add_mul]
    conv => rhs; rw [bsum]
    rw [show bsum n a (m + 1) = bsum n a m + bin n m * a ^ m from rfl, Nat.mul_add, Nat.pow_succ]
    have e : bin n m * (a ^ m * a) = a * (bin n m * a ^ m) := by rw [← Nat.mul_assoc, Nat.mul_comm]
    rw [e]
    omega
theorem bsum_pow (a : Nat) : ∀ n, bsum n a (n + 1) = (a + 1) ^ n
  | 0 => by simp [bsum, bin_zero]
  | n + 1 => by
    rw [bsum_step, show bsum n a (n + 2) = bsum n a (n + 1) + bin n (n + 1) * a ^ (n + 1) from rfl, bin_big n (n + 1) (by omega), bsum_pow a n, Nat.zero_mul, show (a + 1) ^ (n + 1) = (a + 1) ^ n * (a + 1) from rfl, Nat.mul_add]
    have := Nat.mul_comm a ((a + 1) ^ n)
    omega
theorem bin_dvd {p k : Nat} (h : primeN p = true) (h1 : 1 ≤ k) (h2 : k < p) : p ∣ bin p k := by
  obtain ⟨q, rfl⟩ : ∃ q, p = q + 1 := ⟨p - 1, by omega⟩
  obtain ⟨j, rfl⟩ : ∃ j, k = j + 1 := ⟨k - 1, by omega⟩
  have e := bin_mul q j
  have hd : (q + 1) ∣ (j + 1) * bin (q + 1) (j + 1) := by rw [e]; exact Nat.dvd_mul_right _ _
  rcases prime_mul h hd with hx | hx
  · have := Nat.le_of_dvd (by omega) hx; omega
  · exact hx
theorem bsum_mod {p : Nat} (a : Nat) (h : primeN p = true) : ∀ m, 1 ≤ m → m ≤ p → bsum p a m % p = 1
  | 0, h1, _ => by omega
  | 1, _, _ => by
    have := (primeN_bd h).1
    simp [bsum, bin_zero]
    exact Nat.mod_eq_of_lt (by omega)
  | m + 2, _, h2 => by
    have ih := bsum_mod a h (m + 1) (by omega) (by omega)
    rw [show bsum p a (m + 2) = bsum p a (m + 1) + bin p (m + 1) * a ^ (m + 1) from rfl]
    have hd : p ∣ bin p (m + 1) * a ^ (m + 1) := Nat.dvd_trans (bin_dvd h (by omega) (by omega)) (Nat.dvd_mul_right _ _)
    rw [Nat.add_mod, Nat.mod_eq_zero_of_dvd hd, ih, Nat.add_zero]
    have := (primeN_bd h).1
    exact Nat.mod_eq_of_lt (by omega)
theorem fermat_step {p : Nat} (a : Nat) (h : primeN p = true) : (a + 1) ^ p % p = (a ^ p + 1) % p := by
  have := (primeN_bd h).1
  rw [← bsum_pow a p, show bsum p a (p + 1) = bsum p a p + bin p p * a ^ p from rfl, bin_self, Nat.one_mul, Nat.add_mod, bsum_mod a h p (by omega) (Nat.le_refl _), Nat.add_comm, Nat.add_mod (a ^ p) 1]
  rw [Nat.mod_eq_of_lt (show 1 < p by omega)]
theorem fermat {p : Nat} (h : primeN p = true) : ∀ a, a ^ p % p = a % p
  | 0 => by
    have := (primeN_bd h).1
    rw [Nat.zero_pow (by omega)]
  | a + 1 => by rw [fermat_step a h, Nat.add_mod, fermat h a, ← Nat.add_mod]

theorem euler_three {p : Nat} (h : primeN p = true) (h3 : 3 ≤ p) (r : Nat) : pw r ((p - 1) / 2) p = 0 ∨ pw r ((p - 1) / 2) p = 1 ∨ pw r ((p - 1) / 2) p = p - 1 := by
  have hodd : p % 2 = 1 := by
    have := primeN_no h (show 2 ≤ 2 by omega)
    by_cases h4 : 2 * 2 ≤ p
    · have := this h4; omega
    · omega
  obtain ⟨x, hx⟩ : ∃ x, x = pw r ((p - 1) / 2) p := ⟨_, rfl⟩
  rw [← hx]
  have hxp : x < p := by rw [hx]; exact Nat.mod_lt _ (by omega)
  have hf := fermat h r
  -- r * (x * x) = r, up to p
  have h1 : r * (x * x) % p = r % p := by
    rw [← hf, hx]
    unfold pw
    rw [Nat.mul_mod, ← Nat.mul_mod (r ^ ((p - 1) / 2)), ← Nat.mul_mod, ← Nat.pow_add, Nat.mul_comm, ← Nat.pow_succ]
    congr 2
    omega
  by_cases hr : p ∣ r
  · left
    rw [hx]
    unfold pw
    refine Nat.mod_eq_zero_of_dvd (Nat.dvd_trans hr ?_)
    obtain ⟨k, hk⟩ : ∃ k, (p - 1) / 2 = k + 1 := ⟨(p - 1) / 2 - 1, by omega⟩
    rw [hk, Nat.pow_succ]
    exact Nat.dvd_mul_left _ _
  · right
    by_cases hx0 : x = 0
    · exfalso
      apply hr
      rw [hx0] at h1
      simp at h1
      exact Nat.dvd_of_mod_eq_zero h1.symm
    · -- p divides r * (x * x - 1) = r * ((x - 1) * (x + 1))
      have h2 : p ∣ r * (x * x) - r := Nat.dvd_of_mod_eq_zero (Nat.sub_mod_eq_zero_of_mod_eq h1)
      have h4 : r * (x * x) - r = r * ((x - 1) * (x + 1)) := by
        obtain ⟨y, rfl⟩ : ∃ y, x = y + 1 := ⟨x - 1, by omega⟩
        have e : (y + 1) * (y + 1) = (y + 1 - 1) * (y + 1 + 1) + 1 := by
          rw [Nat.add_sub_cancel]
          simp only [Nat.mul_add, Nat.add_mul]
          omega
        rw [e, Nat.mul_add, Nat.mul_one, Nat.add_sub_cancel]
      rw [h4] at h2
      rcases prime_mul h h2 with h5 | h5
      · exact absurd h5 hr
      · rcases prime_mul h h5 with h6 | h6
        · left
          by_cases h7 : x - 1 = 0
          · omega
          · have := Nat.le_of_dvd (by omega) h6; omega
        · right
          have := Nat.le_of_dvd (by omega) h6; omega

theorem res_same {p : Nat} (h : primeN p = true) (h3 : 3 ≤ p) (r : Nat) : resM r p = resN r p := by
  unfold resM resN
  rcases euler_three h h3 r with e | e | e
  · rw [e, if_pos rfl, if_neg (by omega)]; rfl
  · rw [e, if_neg (by omega), if_pos rfl, if_neg (by omega)]; rfl
  · rw [e, if_neg (by omega), if_neg (by omega), if_pos rfl]

end Go.Proofs.Ytdclmjmefkgbbab
