/-
  Some texts in one file: Own Lists Jac Core.
-/
import Derived.Test.YtfjbdbfeolfcfaaQBun0
import Derived.BigQuiet
import Derived.Maps.AppendAt
import Derived.Test.YtfjbdbfeolfcfaaQBun2
import Derived.Test.YtfjbdbfeolfcfaaQRes2
import Derived.BigRegionIn
/-! Own -/
set_option linter.unusedVariables false
namespace Go.Proofs.Ytfjbdbfeolfcfaa
open Go.RowKit

/-- the value is a slice of the call's own that holds these numbers -/
def Owns (W : World) (B : Nat) (v : Value) (xs : List Int) : Prop := W.ownsRow B 3 1 v xs.length (xs.map (Value.int .i64))
theorem Owns.lt {W : World} {B : Nat} {v : Value} {xs : List Int} (h : Owns W B v xs) : ∀ g, v.ownBlock = some g → g < W.heap.size := fun g e => (World.ownsRow.lt h g e).2
theorem Owns.ge {W : World} {B : Nat} {v : Value} {xs : List Int} (h : Owns W B v xs) : ∀ g, v.ownBlock = some g → B ≤ g := fun g e => (World.ownsRow.lt h g e).1
theorem Owns.keep {W W' : World} {B C : Nat} {v : Value} {xs : List Int} (h : Owns W B v xs) (hlt : ∀ g, v.ownBlock = some g → g < C) (hb : Below C W W') : Owns W' B v xs := by
  obtain ⟨h1, h2⟩ := h
  refine ⟨h1, ?_⟩
  rcases h2 with h2 | ⟨g, cap, cur, hv, hg, hh, r⟩
  · exact .inl h2
  · exact .inr ⟨g, cap, cur, hv, hg, by rw [hb.block g (hlt g (by rw [hv]; rfl))]; exact hh, r⟩
theorem Owns.drewN {W : World} {B : Nat} {v : Value} {xs : List Int} (h : Owns W B v xs) (k : Nat) : Owns (W.drewN k) B v xs := h

/-- the value is a slice that reads as these numbers -/
def Rd (W : World) (v : Value) (xs : List Int) : Prop :=
  (∃ a cap, v = .slice a 0 cap ∧ xs = []) ∨
  ∃ b o cap, v = .slice (some ⟨b, o, none⟩) xs.length cap ∧ (0 < xs.length ∧ xs.length ≤ cap) ∧ xs.length ≤ maxLen ∧ ∀ i, i < xs.length → W.cell? ⟨b, o + i, none⟩ = some (.int .i64 (xs.getD i 0))
theorem Owns.rd {W : World} {B : Nat} {v : Value} {xs : List Int} (h : Owns W B v xs) : Rd W v xs := by
  by_cases h0 : xs = []
  · subst h0
    left
    rcases h.2 with ⟨rfl, _⟩ | ⟨g, cap, _, rfl, _⟩
    · exact ⟨_, _, rfl, rfl⟩
    · exact ⟨_, _, rfl, rfl⟩
  · right
    have hl : 0 < xs.length := List.length_pos_iff.2 h0
    rcases h.2 with ⟨_, hn⟩ | ⟨g, cap, cur, hv, hg, hh, hc, hm, hs, _⟩
    · omega
    · subst hv
      refine ⟨g, 0, cap, rfl, ⟨hl, hc⟩, by omega, fun i hi => ?_⟩
      have := World.ownsRow.cellAt h i (by omega)
      rw [Nat.zero_add, this, List.getElem?_map, List.getElem?_eq_getElem hi]
      simp [List.getD, List.getElem?_eq_getElem hi]

end Go.Proofs.Ytfjbdbfeolfcfaa

/-! Lists -/
set_option linter.unusedVariables false
namespace Go.Proofs.Ytfjbdbfeolfcfaa
open Go.RowKit Go.Shelf
attribute [local go_sem] Oper.semAt_some

theorem infoInt : (Try.prog.info? 3).map (fun i => (i.zero, i.size, i.bytes)) = some (some (.int .i64 0), 1, 8) := by kernel_rfl

def natsI (l : List Nat) : List Int := l.map (fun (k : Nat) => (k : Int))

theorem plGo_some {f p L : Nat} (hle : p * p ≤ L) (hd : L % p = 0) : plGo (f + 1) p L = p :: plGo f (p + 1) (L / p ^ val L p) := by
  conv => lhs; unfold plGo
  rw [if_pos hle, if_pos hd]
theorem plGo_none {f p L : Nat} (hle : p * p ≤ L) (hd : ¬ L % p = 0) : plGo (f + 1) p L = plGo f (p + 1) L := by
  conv => lhs; unfold plGo
  rw [if_pos hle, if_neg hd]
theorem plGo_end {f p L : Nat} (hle : ¬ p * p ≤ L) : plGo (f + 1) p L = if 1 < L then [L] else [] := by
  conv => lhs; unfold plGo
  rw [if_neg hle]

set_option maxRecDepth 100000 in
set_option maxHeartbeats 2000000 in
theorem l1Primes_any (n : Int) (h0 : n ≠ 0) (a1 : -5000 ≤ n) (a2 : n ≤ 5000) (w : World) :
    Calls Try.prog 87 #[.int .i64 n] w fun e w' => ∃ v, e = .returned v ∧ Owns w' w.heap.size v (natsI (plist n.natAbs)) ∧ Below w.heap.size w w' := by
  obtain ⟨i0, hi, hz0, hz1, hz2⟩ := info_parts infoInt
  obtain ⟨N, hN⟩ : ∃ N, N = n.natAbs := ⟨_, rfl⟩
  rw [← hN]
  have hN1 : 1 ≤ N := by omega
  have hN2 : N ≤ 5000 := by omega
  have HN := hid hN
  clear hN
  go_enter Try.func87, Try.ntmps87
  go_wp2_with (go_at_call 63; refine (l1Size_any _ (by omega) (by omega) _).mono ?_; rw [← HN.out]; rintro e w' ⟨rfl, rfl⟩)
  go_loopw [0, 3, 4] (fun sl so sp wr => ∃ (pre : List Nat) (L p f : Nat), sl = .int .i64 L ∧ sp = .int .i64 p ∧ 1 ≤ L ∧ L ≤ 5000 ∧ 2 ≤ p ∧ p ≤ 71 ∧ p + f = 72 ∧ pre.length ≤ p ∧ Hid (plist N = pre ++ plGo f p L) ∧ wr.ownsRow w.heap.size 3 1 so pre.length ((natsI pre).map (Value.int .i64)) ∧ Below w.heap.size w wr)
    (fun _ _ sp _ => (71 - intOf sp).toNat)
  case atStart =>
    refine ⟨[], N, 2, 70, rfl, rfl, hN1, hN2, by omega, by omega, rfl, by simp, hid rfl, ?_, (Below.refl _ _).alloc (Nat.le_refl _) _⟩
    exact World.ownsRow_made (size := 1) w #[] 0 (Nat.le_refl _) (by unfold maxLen; omega) rfl
  case round =>
    obtain ⟨pre, L, p, f, rfl, rfl, hL1, hL2, hp2, hp7, hf, hpl, HP, hown, hB⟩ := hrel
    have hKK := mul_bd (show p ≤ 71 by omega) (show p ≤ 71 by omega)
    obtain ⟨g, rfl⟩ : ∃ g, f = g + 1 := ⟨f - 1, by omega⟩
    by_cases hle : (p : Int) * p ≤ L
    · have hle' : p * p ≤ L := by exact_mod_cast hle
      have hp70 := sq_le hle' hL2
      by_cases hd : L % p = 0
      · have T : ((L : Int) % p == 0) = true := by rw [beq_iff_eq]; exact_mod_cast hd
        have HE := hid (plGo_some (f := g) hle' hd)
        have HD := hid (val_dvd p hp2 L L (Nat.le_refl _) (by omega))
        clear hd hle'
        go_wp2_with (at_builtin; refine wpList_append_own _ rfl _ _ 23 rfl w.heap.size 3 i0 (.int .i64 0) 1 8 Try.underlying23 hi hz0 hz1 hz2 rfl (by decide) _ _ _ rfl (hown.alloc _) ⟨wr.heap.size, 0, none⟩ 1 1 [.int .i64 p] rfl rfl (cell_one_new _ _ _) (by simp [Value.oneCell']) (by unfold maxLen; omega) (by omega) (by have := hB.size; simp; omega) ?_; intro v' w1 hown' hgrow _)
        have hB1 : Below w.heap.size w w1 := (hB.alloc hB.size _).grown hgrow (by have := hB.size; simp; omega) (fun k e => (hown.lt k e).1)
        go_loop [0] (fun sl => ∃ M j : Nat, sl = .int .i64 M ∧ 1 ≤ M ∧ M ≤ 5000 ∧ Hid (val M p + j = val L p ∧ M * p ^ j = L)) (fun sl => (intOf sl).toNat)
        case atStart => exact ⟨L, 0, rfl, hL1, hL2, hid ⟨rfl, by simp⟩⟩
        case round =>
          obtain ⟨M, j, rfl, hM1, hM2, HM⟩ := hrel
          have hdd := ediv_bd (b := p) hM2
          have hd0 := hdd.1
          have hd1 := hdd.2
          clear hdd
          by_cases hm : M % p = 0
          · have T2 : ((M : Int) % p == 0) = true := by rw [beq_iff_eq]; exact_mod_cast hm
            have hdv := Nat.dvd_of_mod_eq_zero hm
            have hq1 : 1 ≤ M / p := Nat.div_pos (Nat.le_of_dvd (by omega) hdv) (by omega)
            have hq2 : M / p < M := Nat.div_lt_self (by omega) (by omega)
            have HS := hid (val_step hp2 (show 0 < M by omega) hm)
            have HV := hid (Nat.div_mul_cancel hdv)
            clear hm hdv
            go_wp2
            go_round
            case rel => exact ⟨M / p, j + 1, vI (by push_cast; rfl), hq1, by omega, hid ⟨by have := HM.out.1; have := HS.out; omega, by rw [Nat.pow_succ, Nat.mul_comm (p ^ j), ← Nat.mul_assoc, HV.out]; exact HM.out.2⟩⟩
            case measure =>
              simp only [intOf]
              have e : (M : Int) / p = ((M / p : Nat) : Int) := by push_cast; rfl
              rw [e]
              exact Int.toNat_lt_toNat (by omega) |>.2 (Int.ofNat_lt.2 hq2)
          · have T2 : ((M : Int) % p == 0) = false := by rw [beq_eq_false_iff_ne]; exact_mod_cast hm
            have HS := hid (val_stop hm)
            have HJ : Hid (M = L / p ^ val L p) := by
              show _ = _
              have h1 := HM.out.1
              rw [HS.out, Nat.zero_add] at h1
              rw [← h1]
              conv => rhs; lhs; rw [← HM.out.2]
              rw [Nat.mul_div_cancel _ (Nat.pow_pos (by omega))]
            clear hm
            go_wp2
            go_roundw
            case rel =>
              refine ⟨pre ++ [p], M, p + 1, g, rfl, by go_num, hM1, hM2, by omega, by omega, by omega, by simp; omega, hid (by rw [HP.out, HE.out, HJ.out]; simp), ?_, hB1⟩
              have := hown'
              simpa [natsI] using this
            case measure => simp only [intOf]; omega
      · have T : ((L : Int) % p == 0) = false := by rw [beq_eq_false_iff_ne]; exact_mod_cast hd
        have HE := hid (plGo_none (f := g) hle' hd)
        clear hd hle'
        go_wp2
        go_loop [0] (fun sl => sl = .int .i64 L) (fun sl => 0)
        case atStart => rfl
        case round =>
          obtain rfl := hrel
          go_wp2
          go_roundw
          case rel => exact ⟨pre, L, p + 1, g, rfl, by go_num, hL1, hL2, by omega, by omega, by omega, by omega, hid (by rw [HP.out, HE.out]), hown, hB⟩
          case measure => simp only [intOf]; omega
    · have hle' : ¬ p * p ≤ L := fun h => hle (by exact_mod_cast h)
      have HE := hid (plGo_end (f := g) hle')
      clear hle'
      by_cases hL : 1 < L
      · have HF : Hid (plist N = pre ++ [L]) := by show _ = _; rw [HP.out, HE.out, if_pos hL]
        go_wp2_with (at_builtin; refine wpList_append_own _ rfl _ _ 23 rfl w.heap.size 3 i0 (.int .i64 0) 1 8 Try.underlying23 hi hz0 hz1 hz2 rfl (by decide) _ _ _ rfl (hown.alloc _) ⟨wr.heap.size, 0, none⟩ 1 1 [.int .i64 L] rfl rfl (cell_one_new _ _ _) (by simp [Value.oneCell']) (by unfold maxLen; omega) (by omega) (by have := hB.size; simp; omega) ?_; intro v' w1 hown' hgrow _)
        have hB1 : Below w.heap.size w w1 := (hB.alloc hB.size _).grown hgrow (by have := hB.size; simp; omega) (fun k e => (hown.lt k e).1)
        go_ret
        exact ⟨_, rfl, by unfold Owns; rw [HF.out]; simpa [natsI] using hown', hB1⟩
      · have HF : Hid (plist N = pre) := by show _ = _; rw [HP.out, HE.out, if_neg hL, List.append_nil]
        go_wp2
        go_ret
        exact ⟨_, rfl, by unfold Owns; rw [HF.out]; simpa [natsI] using hown, hB⟩

theorem natsI_len (l : List Nat) : (natsI l).length = l.length := by simp [natsI]
def fsts (l : List PP) : List Nat := l.map (fun x => x.1.1)
theorem fsts_snoc (l : List PP) (x : PP) : fsts (l ++ [x]) = fsts l ++ [x.1.1] := by simp [fsts]
theorem fsts_all {l : List PP} {N : Nat} (h : l.map (·.1) = ppow N) : fsts l = (ppow N).map (·.1) := by rw [← h]; simp [fsts]
theorem natsI_snoc (l : List Nat) (x : Nat) : natsI (l ++ [x]) = natsI l ++ [(x : Int)] := by simp [natsI]
theorem ppGo_len : ∀ f p L, (ppGo f p L).length ≤ f
  | 0, _, _ => Nat.le_refl _
  | f + 1, p, L => by
    unfold ppGo
    have := ppGo_len f
    split
    · split
      · simp; exact this _ _
      · exact Nat.le_succ_of_le (this _ _)
    · split <;> simp
theorem ppow_len (N : Nat) : (ppow N).length ≤ 70 := ppGo_len _ _ _

theorem primes_len (n : Int) : (natsI (if factB n then plist n.natAbs else [])).length ≤ 1000000 := by
  rw [natsI_len]
  split
  · rw [plist_eq, List.length_map]
    have := ppow_len n.natAbs
    omega
  · simp

end Go.Proofs.Ytfjbdbfeolfcfaa

/-! Jac -/
set_option linter.unusedVariables false
namespace Go.Proofs.Ytfjbdbfeolfcfaa
open Go.RowKit Go.Shelf
attribute [local go_sem] Oper.semAt_some

/-- what the list of prime powers is -/
def ppOk (N : Nat) : Bool := decide (N = 0) || (ppow N).all (fun x => primeN x.1 && (decide (1 ≤ x.2) && ((x.2 == val N x.1) && decide (N % x.1 = 0))))
theorem ppOk_all : (List.range 5001).all ppOk = true := by decide +kernel
theorem pp_mem {N : Nat} (h1 : 1 ≤ N) (h2 : N ≤ 5000) {x : Nat × Nat} (hx : x ∈ ppow N) : primeN x.1 = true ∧ 1 ≤ x.2 ∧ x.2 = val N x.1 ∧ N % x.1 = 0 := by
  have := List.all_eq_true.1 ppOk_all N (List.mem_range.2 (by omega))
  unfold ppOk at this
  rw [decide_eq_false (by omega)] at this
  simp only [Bool.false_or] at this
  have := List.all_eq_true.1 this x hx
  simp only [Bool.and_eq_true, beq_iff_eq, decide_eq_true_eq] at this
  exact ⟨this.1, this.2.1, this.2.2.1, this.2.2.2⟩

def jm (a r : Int) : Nat → Int
  | 0 => a
  | k + 1 => jm a r k * r
def jmW (a r : Int) : Nat → Int
  | 0 => a
  | k + 1 => wrap64 (jmW a r k * r)
def jacF (n : Int) (l : List (Nat × Nat)) : Int := l.foldl (fun a x => jm a (resN (n % (x.1 : Int)).toNat x.1) x.2) 1
def jacW (n : Int) (l : List (Nat × Nat)) : Int := l.foldl (fun a x => jmW a (resV n (x.1 : Int)) x.2) 1

theorem small_mul {a r : Int} (h1 : -1 ≤ a) (h2 : a ≤ 1) (h3 : -1 ≤ r) (h4 : r ≤ 1) : -1 ≤ a * r ∧ a * r ≤ 1 := by
  have ha : a = -1 ∨ a = 0 ∨ a = 1 := by omega
  rcases ha with rfl | rfl | rfl <;> omega
theorem jm_small {r : Int} (h3 : -1 ≤ r) (h4 : r ≤ 1) : ∀ (k : Nat) {a : Int}, -1 ≤ a → a ≤ 1 → -1 ≤ jm a r k ∧ jm a r k ≤ 1
  | 0, _, h1, h2 => ⟨h1, h2⟩
  | k + 1, a, h1, h2 => by
    have := jm_small h3 h4 k h1 h2
    exact small_mul this.1 this.2 h3 h4
theorem wrap_small {a : Int} (h1 : -1 ≤ a) (h2 : a ≤ 1) : wrap64 a = a := IntWalk.wrap64_in a (by omega)
theorem jmW_eq {r : Int} (h3 : -1 ≤ r) (h4 : r ≤ 1) : ∀ (k : Nat) {a : Int}, -1 ≤ a → a ≤ 1 → jmW a r k = jm a r k
  | 0, _, _, _ => rfl
  | k + 1, a, h1, h2 => by
    have h5 := jm_small h3 h4 k h1 h2
    have h6 := small_mul h5.1 h5.2 h3 h4
    unfold jmW jm
    rw [jmW_eq h3 h4 k h1 h2, wrap_small h6.1 h6.2]
theorem resN_small {p : Nat} (h : primeN p = true) (h3 : 3 ≤ p) (r : Nat) : -1 ≤ resN r p ∧ resN r p ≤ 1 := by
  rw [← res_same h h3]
  unfold resM
  split
  · omega
  · split <;> omega
theorem jacF_step (n : Int) (l : List (Nat × Nat)) (x : Nat × Nat) : jacF n (l ++ [x]) = jm (jacF n l) (resN (n % (x.1 : Int)).toNat x.1) x.2 := by simp [jacF]
theorem jacW_step (n : Int) (l : List (Nat × Nat)) (x : Nat × Nat) : jacW n (l ++ [x]) = jmW (jacW n l) (resV n (x.1 : Int)) x.2 := by simp [jacW]
theorem oddP_nat {p : Nat} (h : primeN p = true) (h3 : 3 ≤ p) : oddP (p : Int) = true := by
  have e : primeI (p : Int) = true := h
  unfold oddP
  rw [e]
  simp
  omega
theorem jac_same (n : Int) (hn : okN n = true) : ∀ l : List (Nat × Nat), (∀ x ∈ l, primeN x.1 = true ∧ 3 ≤ x.1) → ∀ a : Int, -1 ≤ a → a ≤ 1 →
    l.foldl (fun a x => jmW a (resV n (x.1 : Int)) x.2) a = l.foldl (fun a x => jm a (resN (n % (x.1 : Int)).toNat x.1) x.2) a ∧ -1 ≤ l.foldl (fun a x => jm a (resN (n % (x.1 : Int)).toNat x.1) x.2) a ∧ l.foldl (fun a x => jm a (resN (n % (x.1 : Int)).toNat x.1) x.2) a ≤ 1
  | [], _, a, h1, h2 => ⟨rfl, h1, h2⟩
  | x :: l, hl, a, h1, h2 => by
    obtain ⟨hp, h3⟩ := hl x (by simp)
    have hr := resN_small hp h3 (n % (x.1 : Int)).toNat
    have hj := jm_small hr.1 hr.2 x.2 h1 h2
    have e : resV n (x.1 : Int) = resN (n % (x.1 : Int)).toNat x.1 := by rw [resV_yes hn (oddP_nat hp h3)]; rfl
    simp only [List.foldl_cons]
    rw [e, jmW_eq hr.1 hr.2 x.2 h1 h2]
    exact jac_same n hn l (fun y hy => hl y (by simp [hy])) _ hj.1 hj.2
theorem odd_pp {m : Nat} (h1 : 1 ≤ m) (h2 : m ≤ 5000) (ho : m % 2 = 1) : ∀ x ∈ ppow m, primeN x.1 = true ∧ 3 ≤ x.1 := by
  intro x hx
  obtain ⟨hp, _, _, hd⟩ := pp_mem h1 h2 hx
  refine ⟨hp, ?_⟩
  have := (primeN_bd hp).1
  by_cases e : x.1 = 2
  · rw [e] at hd; omega
  · omega
theorem jac_eq {n : Int} {m : Nat} (hn : okN n = true) (h1 : 1 ≤ m) (h2 : m ≤ 5000) (ho : m % 2 = 1) : jacW n (ppow m) = jacF n (ppow m) :=
  (jac_same n hn _ (odd_pp h1 h2 ho) 1 (by omega) (by omega)).1
theorem jacF_small {n : Int} {m : Nat} (hn : okN n = true) (h1 : 1 ≤ m) (h2 : m ≤ 5000) (ho : m % 2 = 1) {l : List (Nat × Nat)} (hl : l <+: ppow m) : -1 ≤ jacF n l ∧ jacF n l ≤ 1 := by
  obtain ⟨t, ht⟩ := hl
  refine (jac_same n hn l (fun x hx => odd_pp h1 h2 ho x ?_) 1 (by omega) (by omega)).2
  rw [← ht]; simp [hx]

/-- what JacobiOf answers -/
def jacOk (n m : Int) : Bool := okN n && (inR m 1 5000 && decide (m % 2 = 1))
def jacV (n m : Int) : Int := if jacOk n m then jacF n (ppow m.toNat) else -2
theorem jacV_yes {n m : Int} (h : jacOk n m = true) : jacV n m = jacF n (ppow m.toNat) := by unfold jacV; rw [if_pos h]
theorem jacV_no {n m : Int} (h : jacOk n m = false) : jacV n m = -2 := by unfold jacV; rw [if_neg (by rw [h]; decide)]
theorem jac_cases (n m : Int) : (-5000 ≤ n ∧ n ≤ 5000 ∧ 1 ≤ m ∧ m ≤ 5000 ∧ okN n = true ∧ inR m 1 5000 = true ∧ m % 2 = 1 ∧ jacOk n m = true) ∨ (okN n = false ∧ jacOk n m = false) ∨ (okN n = true ∧ inR m 1 5000 = false ∧ jacOk n m = false) ∨ (1 ≤ m ∧ okN n = true ∧ inR m 1 5000 = true ∧ m % 2 = 0 ∧ jacOk n m = false) := by
  rcases okN_cases n with ⟨a1, a2, A⟩ | ⟨a1, A⟩ | ⟨a1, a2, A⟩
  · rcases inR_cases m 1 5000 with ⟨c1, c2, C⟩ | ⟨c1, C⟩ | ⟨c1, c2, C⟩
    · by_cases h : m % 2 = 1
      · exact .inl ⟨a1, a2, c1, c2, A, C, h, by simp [jacOk, A, C, h]⟩
      · exact .inr (.inr (.inr ⟨c1, A, C, by omega, by simp [jacOk, h]⟩))
    · exact .inr (.inr (.inl ⟨A, C, by simp [jacOk, C]⟩))
    · exact .inr (.inr (.inl ⟨A, C, by simp [jacOk, C]⟩))
  · exact .inr (.inl ⟨A, by simp [jacOk, A]⟩)
  · exact .inr (.inl ⟨A, by simp [jacOk, A]⟩)

theorem take_step {l : List (Nat × Nat)} {i : Nat} (h : i < l.length) : l.take (i + 1) = l.take i ++ [l[i]] := by
  rw [List.take_succ_eq_append_getElem h]

end Go.Proofs.Ytfjbdbfeolfcfaa

/-! Core -/
set_option linter.unusedVariables false
namespace Go.Proofs.Ytfjbdbfeolfcfaa
open Go.RowKit Go.Shelf
attribute [local go_sem] Oper.semAt_some

/-- the model's way: each p in turn, as often as its square divides -/
def coreGo : Nat → Nat → Nat → Nat → Nat × Nat
  | 0, _, n, r => (n, r)
  | f + 1, p, n, r => if p * p ≤ n then coreGo f (p + 1) (n / (p * p) ^ val n (p * p)) (r * p ^ val n (p * p)) else (n, r)
/-- the root part -/
def rootN (N : Nat) : Nat := (coreGo 70 2 N 1).2
/-- what a loop of k rounds makes of a root, wraps and all -/
def mulW (r : Int) (p : Nat) : Nat → Int
  | 0 => r
  | k + 1 => wrap64 (mulW r p k * p)
def rootW (l : List (Nat × Nat)) : Int := l.foldl (fun r x => mulW r x.1 (x.2 / 2)) 1
def rootOk (N : Nat) : Bool := decide (N = 0) || (rootW (ppow N) == (rootN N : Int) && decide (rootN N ≤ 70) && decide (1 ≤ rootN N))
theorem rootOk_all : (List.range 5001).all rootOk = true := by decide +kernel
theorem rootW_eq {N : Nat} (h1 : 1 ≤ N) (h2 : N ≤ 5000) : rootW (ppow N) = (rootN N : Int) ∧ rootN N ≤ 70 ∧ 1 ≤ rootN N := by
  have := List.all_eq_true.1 rootOk_all N (List.mem_range.2 (by omega))
  unfold rootOk at this
  rw [decide_eq_false (by omega)] at this
  simp only [Bool.false_or, Bool.and_eq_true, beq_iff_eq, decide_eq_true_eq] at this
  exact ⟨this.1.1, this.1.2, this.2⟩

/-- what CoreOf answers -/
def coreI (n : Int) : Int := n.tdiv ((rootN n.natAbs : Int) * (rootN n.natAbs : Int))
def coreV (n : Int) : Value := if factB n then .tuple #[.int .i64 (coreI n), .int .i64 (rootN n.natAbs : Nat), .bool true] else .tuple #[.int .i64 0, .int .i64 0, .bool false]
theorem coreV_yes {n : Int} (h : factB n = true) : coreV n = .tuple #[.int .i64 (coreI n), .int .i64 (rootN n.natAbs : Nat), .bool true] := by unfold coreV; rw [if_pos h]
theorem coreV_no {n : Int} (h : factB n = false) : coreV n = .tuple #[.int .i64 0, .int .i64 0, .bool false] := by unfold coreV; rw [if_neg (by rw [h]; decide)]
theorem coreV_form (n : Int) : ∃ (x y : Int) (b : Bool), coreV n = .tuple #[.int .i64 x, .int .i64 y, .bool b] := by
  unfold coreV
  split
  · exact ⟨_, _, _, rfl⟩
  · exact ⟨_, _, _, rfl⟩

theorem sq_toNat (p : Nat) : ((p : Int) * p).toNat = p * p := by exact_mod_cast Int.toNat_natCast (p * p)

set_option maxRecDepth 100000 in
set_option maxHeartbeats 1000000 in
theorem l1Core_any (n : Int) (h0 : n ≠ 0) (a1 : -5000 ≤ n) (a2 : n ≤ 5000) (w : World) :
    Calls Try.prog 76 #[.int .i64 n] w fun e w' => e = .returned (.tuple #[.int .i64 (coreI n), .int .i64 (rootN n.natAbs : Nat)]) ∧ w = w' := by
  have HN := hid h0
  have hr := rootW_eq (N := n.natAbs) (by omega) (by omega)
  have HR := hid hr
  clear h0 hr
  go_enter Try.func76, Try.ntmps76
  go_wp2
  go_loop [0, 4, 5] (fun sn sr sp => ∃ (L : Int) (R p f : Nat), sn = .int .i64 L ∧ sr = .int .i64 R ∧ sp = .int .i64 p ∧ -5000 ≤ L ∧ L ≤ 5000 ∧ R ≤ 5000 ∧ 2 ≤ p ∧ p ≤ 71 ∧ p + f = 72 ∧ Hid (L ≠ 0 ∧ 1 ≤ R ∧ (R : Int) * R * L = n ∧ coreGo f p L.natAbs R = coreGo 70 2 n.natAbs 1)) (fun _ _ sp => (71 - intOf sp).toNat)
  case atStart => exact ⟨n, 1, 2, 70, rfl, rfl, rfl, a1, a2, by omega, by omega, by omega, rfl, hid ⟨HN.out, by omega, by simp, rfl⟩⟩
  case round =>
    obtain ⟨L, R, p, f, rfl, rfl, rfl, hL1, hL2, hR, hp2, hp7, hf, HV⟩ := hrel
    have hKK := mul_bd (show p ≤ 71 by omega) (show p ≤ 71 by omega)
    obtain ⟨g, rfl⟩ : ∃ g, f = g + 1 := ⟨f - 1, by omega⟩
    obtain ⟨A, hA⟩ : ∃ A, A = L.natAbs := ⟨_, rfl⟩
    have HA := hid hA
    by_cases hle : (p : Int) * p ≤ (A : Int)
    · have hle' : p * p ≤ A := by exact_mod_cast hle
      have hp70 := sq_le hle' (by omega)
      have HL := hid hle'
      have hq2 : 4 ≤ p * p := Nat.mul_le_mul hp2 hp2
      have hq3 : p * p ≤ 4900 := Nat.mul_le_mul hp70 hp70
      have hz2 : (2 : Int) ≤ (p : Int) * p := by have : ((4 : Nat) : Int) ≤ ((p * p : Nat) : Int) := Int.ofNat_le.2 hq2
                                                 push_cast at this; omega
      have hz3 : (p : Int) * p ≤ 5000 := by have : ((p * p : Nat) : Int) ≤ ((4900 : Nat) : Int) := Int.ofNat_le.2 hq3
                                            push_cast at this; omega
      clear hA hle' hq2 hq3
      go_wp2_with (go_at_call 63; refine (l1Size_any _ (by omega) (by omega) _).mono ?_; rw [← HA.out]; rintro e w' ⟨rfl, rfl⟩)
      go_loop [0, 4] (fun sn sr => ∃ (M : Int) (j S : Nat), sn = .int .i64 M ∧ sr = .int .i64 S ∧ -5000 ≤ M ∧ M ≤ 5000 ∧ S ≤ 5000 ∧ Hid (M ≠ 0 ∧ S = R * p ^ j ∧ 1 ≤ S ∧ (S : Int) * S * M = n ∧ val M.natAbs (p * p) + j = val A (p * p) ∧ M.natAbs * (p * p) ^ j = A)) (fun sn _ => (intOf sn).natAbs)
      case atStart => exact ⟨L, 0, R, rfl, rfl, hL1, hL2, hR, hid ⟨HV.out.1, by simp, HV.out.2.1, HV.out.2.2.1, by rw [HA.out]; rfl, by rw [HA.out]; simp⟩⟩
      case round =>
        obtain ⟨M, j, S, rfl, rfl, hM1, hM2, hS, HM⟩ := hrel
        have T := tmod_eqz (L := M) hz2
        rw [sq_toNat] at T
        have hSp := mul_bd (show S ≤ 5000 by omega) (show p ≤ 5000 by omega)
        by_cases hd : M.natAbs % (p * p) = 0
        · rw [decide_eq_true hd] at T
          have hM0 := HM.out.1
          have hdv : (p : Int) * p ∣ M := by
            rw [← Int.natAbs_dvd_natAbs, show ((p : Int) * p).natAbs = p * p by rw [Int.natAbs_mul]; simp]; exact Nat.dvd_of_mod_eq_zero hd
          have hpp : 2 ≤ p * p := Nat.le_trans hp2 (Nat.le_mul_of_pos_left p (by omega))
          have HSV := hid (val_step (n := M.natAbs) (p := p * p) hpp (by omega) hd)
          have hq : (M.tdiv ((p : Int) * p)).natAbs = M.natAbs / (p * p) := by rw [tdiv_natAbs, Int.natAbs_mul]; simp
          have hlt : M.natAbs / (p * p) < M.natAbs := Nat.div_lt_self (by omega) (by omega)
          have hpos : 0 < M.natAbs / (p * p) := Nat.div_pos (Nat.le_of_dvd (by omega) (Nat.dvd_of_mod_eq_zero hd)) (by omega)
          have hq1 : (M.tdiv ((p : Int) * p)).natAbs < M.natAbs := by omega
          have hq2 : M.tdiv ((p : Int) * p) ≠ 0 := by omega
          have hq3 : -5000 ≤ M.tdiv ((p : Int) * p) := by omega
          have hq4 : M.tdiv ((p : Int) * p) ≤ 5000 := by omega
          have HC := hid (Int.tdiv_mul_cancel hdv)
          have HQ := hid hq
          have HD := hid (Nat.div_mul_cancel (Nat.dvd_of_mod_eq_zero hd))
          have Hq2 := hid hq2
          have hnew : Hid ((((S * p : Nat) : Int) * ((S * p : Nat) : Int)) * M.tdiv ((p : Int) * p) = n) := by
            show _ = _
            rw [← HM.out.2.2.2.1]
            conv => rhs; rw [← HC.out]
            push_cast
            have : (S : Int) * p * (S * p) = S * S * (p * p) := by
              rw [Int.mul_assoc, Int.mul_assoc, Int.mul_left_comm (p : Int) (S : Int) p]
            rw [this, Int.mul_assoc ((S : Int) * S), Int.mul_comm ((p : Int) * p)]
          have hSp5 : S * p ≤ 5000 := by
            -- its square divides n
            have h1 : ((S * p : Nat) : Int).natAbs ∣ n.natAbs := by
              rw [Int.natAbs_dvd_natAbs]
              exact ⟨((S * p : Nat) : Int) * M.tdiv ((p : Int) * p), by rw [← Int.mul_assoc]; exact hnew.out.symm⟩
            have h2 := Nat.le_of_dvd (by have := HN.out; omega) h1
            simp only [Int.natAbs_natCast] at h2
            omega
          have h1Sp : 1 ≤ S * p := Nat.mul_pos HM.out.2.2.1 (by omega)
          have hSe : Hid (S * p = R * p ^ (j + 1)) := by show _ = _; rw [HM.out.2.1, Nat.pow_succ, Nat.mul_assoc]
          clear hd hM0 hdv hq hlt hpos hq2 hpp
          go_wp2
          go_round
          case rel => exact ⟨M.tdiv ((p : Int) * p), j + 1, S * p, rfl, vI (by push_cast; rfl), hq3, hq4, hSp5, hid ⟨Hq2.out, hSe.out, h1Sp, hnew.out, by rw [HQ.out]; have := HSV.out; have := HM.out.2.2.2.2.1; omega, by rw [HQ.out, Nat.pow_succ, Nat.mul_comm ((p * p) ^ j), ← Nat.mul_assoc, HD.out]; exact HM.out.2.2.2.2.2⟩⟩
          case measure => simp only [intOf]; exact hq1
        · rw [decide_eq_false hd] at T
          have HSV := hid (val_stop hd)
          have hj : Hid (j = val A (p * p)) := by show _ = _; have := HM.out.2.2.2.2.1; rw [HSV.out] at this; omega
          have hMA : Hid (M.natAbs = A / (p * p) ^ val A (p * p)) := by
            show _ = _
            rw [← hj.out]
            conv => rhs; lhs; rw [← HM.out.2.2.2.2.2]
            rw [Nat.mul_div_cancel _ (Nat.pow_pos (Nat.mul_pos (by omega) (by omega)))]
          have hgo : Hid (coreGo g (p + 1) M.natAbs S = coreGo 70 2 n.natAbs 1) := by
            show _ = _
            rw [← HV.out.2.2.2, ← HA.out, hMA.out, HM.out.2.1, hj.out]
            conv => rhs; unfold coreGo
            rw [if_pos HL.out]
          clear hd
          go_wp2
          go_round
          case rel => exact ⟨M, S, p + 1, g, rfl, rfl, by go_num, hM1, hM2, hS, by omega, by omega, by omega, hid ⟨HM.out.1, HM.out.2.2.1, HM.out.2.2.2.1, hgo.out⟩⟩
          case measure => simp only [intOf]; omega
    · have hle' : ¬ p * p ≤ A := fun h => hle (by exact_mod_cast h)
      have HE : Hid (R = rootN n.natAbs) := by
        show _ = _
        unfold rootN
        rw [← HV.out.2.2.2, ← hA]
        unfold coreGo
        rw [if_neg hle']
      clear hA hle'
      go_wp2_with (go_at_call 63; refine (l1Size_any _ (by omega) (by omega) _).mono ?_; rw [← HA.out]; rintro e w' ⟨rfl, rfl⟩)
      go_ret2
      refine ⟨ret2 ?_ (by rw [HE.out]), rfl⟩
      unfold coreI
      rw [← HE.out]
      conv => rhs; lhs; rw [← HV.out.2.2.1]
      rw [Int.mul_comm _ L, Int.mul_tdiv_cancel]
      have : (1 : Int) ≤ R := by have := HV.out.2.1; omega
      have h2 : (0 : Int) < (R : Int) * R := Int.mul_pos (by omega) (by omega)
      omega

theorem ret3 {a b c d : Int} {x y : Bool} (h : a = b) (h' : c = d) (h2 : x = y) : Ending.returned (.tuple #[.int .i64 a, .int .i64 c, .bool x]) = .returned (.tuple #[.int .i64 b, .int .i64 d, .bool y]) := by rw [h, h', h2]

end Go.Proofs.Ytfjbdbfeolfcfaa
