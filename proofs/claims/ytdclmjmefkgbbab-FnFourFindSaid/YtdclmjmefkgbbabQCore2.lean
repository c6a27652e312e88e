/-
  Contracts: the core by the prime powers of a number up to 25000000 (core, CoreOf).
-/
import Derived.Test.YtdclmjmefkgbbabQBun22
import Derived.Test.YtdclmjmefkgbbabQIterG
import Derived.BigRegionIn
set_option linter.unusedVariables false
namespace Go.Proofs.Ytdclmjmefkgbbab
open Go.RowKit Go.Shelf
attribute [local go_sem] Oper.semAt_some

/-- the root part by prime powers, from a number on -/
def rootFrom : Nat → List (Nat × Nat) → Nat
  | r, [] => r
  | r, x :: l => rootFrom (r * x.1 ^ (x.2 / 2)) l
theorem rootFrom_le : ∀ (l : List (Nat × Nat)) (r : Nat), (∀ x ∈ l, 1 ≤ x.1) → r ≤ rootFrom r l
  | [], r, _ => Nat.le_refl _
  | x :: l, r, h => by
    have h1 := Nat.le_mul_of_pos_right r (Nat.pow_pos (n := x.2 / 2) (show 0 < x.1 from h x (List.mem_cons_self ..)))
    exact Nat.le_trans h1 (rootFrom_le l _ fun y hy => h y (List.mem_cons_of_mem _ hy))
theorem mulW_eq {r p : Nat} (hp : 1 ≤ p) : ∀ k, r * p ^ k ≤ 1000000000 → mulW (r : Int) p k = ((r * p ^ k : Nat) : Int)
  | 0, _ => by show (r : Int) = _; rw [Nat.pow_zero, Nat.mul_one]
  | k + 1, h => by
    have e : r * p ^ (k + 1) = r * p ^ k * p := by rw [Nat.pow_succ, Nat.mul_assoc]
    have h1 : r * p ^ k ≤ r * p ^ (k + 1) := by rw [e]; exact Nat.le_mul_of_pos_right _ hp
    show wrap64 (mulW (r : Int) p k * (p : Int)) = _
    rw [mulW_eq hp k (by omega), ← Int.natCast_mul, ← e]
    obtain ⟨m, hm⟩ : ∃ m, m = r * p ^ (k + 1) := ⟨_, rfl⟩
    rw [← hm] at h ⊢
    unfold wrap64
    omega
theorem rootW_from : ∀ (l : List (Nat × Nat)) (r : Nat), (∀ x ∈ l, 1 ≤ x.1) → rootFrom r l ≤ 1000000000 → l.foldl (fun r x => mulW r x.1 (x.2 / 2)) (r : Int) = ((rootFrom r l : Nat) : Int)
  | [], r, _, _ => rfl
  | x :: l, r, h, hb => by
    have hl : ∀ y ∈ l, 1 ≤ y.1 := fun y hy => h y (List.mem_cons_of_mem _ hy)
    have h2 := rootFrom_le l (r * x.1 ^ (x.2 / 2)) hl
    rw [List.foldl_cons, mulW_eq (h x (List.mem_cons_self ..)) _ (Nat.le_trans h2 hb)]
    exact rootW_from l _ hl hb
theorem ppGo_pos : ∀ (f p L : Nat), 1 ≤ p → ∀ x ∈ ppGo f p L, 1 ≤ x.1
  | 0, _, _, _, x, hx => by cases hx
  | f + 1, p, L, hp, x, hx => by
    unfold ppGo at hx
    split at hx
    · split at hx
      · rcases List.mem_cons.1 hx with rfl | hx
        · exact hp
        · exact ppGo_pos f (p + 1) _ (by omega) x hx
      · exact ppGo_pos f (p + 1) _ (by omega) x hx
    · split at hx
      · rcases List.mem_cons.1 hx with rfl | hx
        · show 1 ≤ L; omega
        · cases hx
      · cases hx

/-- a number that only 1 and itself divide -/
def OnlySelf (p : Nat) : Prop := ∀ d, d ∣ p → d = 1 ∨ d = p
theorem sqFree_mul {C p : Nat} (hp2 : 2 ≤ p) (hp : OnlySelf p) (hC : SqFree C) (hc : Nat.Coprime C p) : SqFree (C * p) := by
  intro d hd hdd
  rcases hp _ (Nat.gcd_dvd_right d p) with h1 | h1
  · exact hC d hd (Nat.Coprime.dvd_of_dvd_mul_right ((show Nat.Coprime d p from h1).mul_left h1) hdd)
  · have hpd : p ∣ d := by
      have h2 := Nat.gcd_dvd_left d p
      rwa [h1] at h2
    have h2 : p * p ∣ C * p := Nat.dvd_trans (Nat.mul_dvd_mul hpd hpd) hdd
    have h3 : p ∣ C := Nat.dvd_of_mul_dvd_mul_right (by omega) h2
    have h4 : p ∣ Nat.gcd C p := Nat.dvd_gcd h3 (Nat.dvd_refl _)
    rw [show Nat.gcd C p = 1 from hc] at h4
    have := Nat.le_of_dvd (by omega) h4
    omega
theorem val_left (p : Nat) (hp : 2 ≤ p) : ∀ (k n : Nat), n ≤ k → 0 < n → ¬ p ∣ n / p ^ val n p
  | 0, n, h, h0 => by omega
  | k + 1, n, h, h0 => by
    by_cases hd : n % p = 0
    · have h1 := Nat.div_pos (Nat.le_of_dvd h0 (Nat.dvd_of_mod_eq_zero hd)) (show 0 < p by omega)
      have h2 : n / p < n := Nat.div_lt_self h0 (by omega)
      rw [val_step hp h0 hd, Nat.pow_succ', ← Nat.div_div_eq_div_mul]
      exact val_left p hp k (n / p) (by omega) h1
    · rw [val_stop hd, Nat.pow_zero, Nat.div_one]
      exact fun h => hd (Nat.mod_eq_zero_of_dvd h)
/-- what the prime powers leave behind -/
structure PpInv (N L R C p : Nat) : Prop where
  eq : C * L * (R * R) = N
  free : SqFree C
  cop : Nat.Coprime C L
  less : ∀ d, 2 ≤ d → d < p → ¬ d ∣ L
  posL : 0 < L
  posR : 0 < R
theorem PpInv.only {N L R C p : Nat} (h : PpInv N L R C p) (hd : p ∣ L) : OnlySelf p := fun d hdp => by
  by_cases h0 : p = 0
  · subst h0
    have := Nat.eq_zero_of_zero_dvd hd
    have := h.posL
    omega
  · have h1 := Nat.le_of_dvd (by omega) hdp
    by_cases h2 : 2 ≤ d
    · by_cases h3 : d < p
      · exact absurd (Nat.dvd_trans hdp hd) (h.less d h2 h3)
      · right; omega
    · left
      rcases Nat.eq_zero_or_pos d with e | e
      · subst e
        have := Nat.eq_zero_of_zero_dvd hdp
        omega
      · omega
theorem PpInv.last {N L R C p : Nat} (h : PpInv N L R C p) (hp2 : 2 ≤ p) (hp : ¬ p * p ≤ L) : IsCore ((C * L : Nat) : Int) R (N : Int) := by
  refine ⟨by have := h.eq; exact_mod_cast this, h.posR, ?_⟩
  rw [Int.natAbs_natCast]
  by_cases hL : 2 ≤ L
  · refine sqFree_mul hL (fun d hd => ?_) h.free h.cop
    obtain ⟨e, he⟩ := hd
    have hd0 : d ≠ 0 := by rintro rfl; rw [Nat.zero_mul] at he; omega
    have he0 : e ≠ 0 := by rintro rfl; rw [Nat.mul_zero] at he; omega
    by_cases hd1 : d = 1
    · exact .inl hd1
    · by_cases he1 : e = 1
      · right; rw [he, he1, Nat.mul_one]
      · exfalso
        have h1 : ¬ d < p := fun hlt => h.less d (by omega) hlt ⟨e, he⟩
        have h2 : ¬ e < p := fun hlt => h.less e (by omega) hlt ⟨d, by rw [he, Nat.mul_comm]⟩
        have h3 := Nat.mul_le_mul (show p ≤ d by omega) (show p ≤ e by omega)
        omega
  · have : L = 1 := by have := h.posL; omega
    rw [this, Nat.mul_one]
    exact h.free
theorem PpInv.skip {N L R C p : Nat} (h : PpInv N L R C p) (hd : ¬ L % p = 0) : PpInv N L R C (p + 1) :=
  ⟨h.eq, h.free, h.cop, fun d h2 hlt hdd => by
    by_cases e : d = p
    · subst e; exact hd (Nat.mod_eq_zero_of_dvd hdd)
    · exact h.less d h2 (by omega) hdd, h.posL, h.posR⟩
theorem PpInv.step {N L R C p : Nat} (h : PpInv N L R C p) (hp2 : 2 ≤ p) (hd : L % p = 0) : PpInv N (L / p ^ val L p) (R * p ^ (val L p / 2)) (C * p ^ (val L p % 2)) (p + 1) := by
  have hdv := val_dvd p hp2 L L (Nat.le_refl _) h.posL
  have hnd := val_left p hp2 L L (Nat.le_refl _) h.posL
  have hpL := Nat.dvd_of_mod_eq_zero hd
  have hon := h.only hpL
  obtain ⟨K, hK⟩ : ∃ K, K = val L p := ⟨_, rfl⟩
  rw [← hK] at hdv hnd ⊢
  obtain ⟨M, hM⟩ : ∃ M, M = L / p ^ K := ⟨_, rfl⟩
  have hLM : L = p ^ K * M := by rw [hM]; exact (Nat.mul_div_cancel' hdv).symm
  rw [← hM] at hnd ⊢
  have hML : M ∣ L := ⟨p ^ K, by rw [hLM, Nat.mul_comm]⟩
  have hcp : Nat.Coprime C p := Nat.Coprime.coprime_dvd_right hpL h.cop
  have hcM : Nat.Coprime C M := Nat.Coprime.coprime_dvd_right hML h.cop
  have hpM : Nat.Coprime p M := by
    rcases hon _ (Nat.gcd_dvd_left p M) with e | e
    · exact e
    · exact absurd (by have := Nat.gcd_dvd_right p M; rwa [e] at this) hnd
  refine ⟨?_, ?_, ?_, ?_, ?_, Nat.mul_pos h.posR (Nat.pow_pos (by omega))⟩
  · rw [← h.eq, hLM]
    have e : p ^ K = p ^ (K % 2) * (p ^ (K / 2) * p ^ (K / 2)) := by
      rw [← Nat.pow_add, ← Nat.pow_add]
      congr 1
      omega
    rw [e]
    simp only [Nat.mul_assoc, Nat.mul_comm, Nat.mul_left_comm]
  · rcases Nat.mod_two_eq_zero_or_one K with e | e
    · rw [e, Nat.pow_zero, Nat.mul_one]; exact h.free
    · rw [e, Nat.pow_one]; exact sqFree_mul hp2 hon h.free hcp
  · exact hcM.mul_left (hpM.pow_left _)
  · intro d h2 hlt hdd
    by_cases e : d = p
    · subst e; exact hnd hdd
    · exact h.less d h2 (by omega) (Nat.dvd_trans hdd hML)
  · rcases Nat.eq_zero_or_pos M with e | e
    · rw [e, Nat.mul_zero] at hLM
      have := h.posL
      omega
    · exact e
theorem ppGo_root {N : Nat} : ∀ (f p L R C n : Nat), PpInv N L R C p → 2 ≤ p → L ≤ n → n + 3 ≤ p + f → ∃ c : Nat, IsCore (c : Int) (rootFrom R (ppGo f p L)) (N : Int)
  | 0, p, L, R, C, n, h, hp, hL, hf => ⟨_, h.last hp (by
      have := Nat.le_mul_of_pos_left p (show 0 < p by omega)
      omega)⟩
  | f + 1, p, L, R, C, n, h, hp, hL, hf => by
    unfold ppGo
    by_cases hle : p * p ≤ L
    · rw [if_pos hle]
      by_cases hd : L % p = 0
      · rw [if_pos hd]
        exact ppGo_root f (p + 1) _ _ _ n (h.step hp hd) (by omega) (Nat.le_trans (Nat.div_le_self _ _) hL) (by omega)
      · rw [if_neg hd]
        exact ppGo_root f (p + 1) _ _ _ n (h.skip hd) (by omega) hL (by omega)
    · rw [if_neg hle]
      split
      · refine ⟨C * L, ?_⟩
        show IsCore _ (R * L ^ (1 / 2)) _
        rw [show 1 / 2 = 0 from rfl, Nat.pow_zero, Nat.mul_one]
        exact h.last hp hle
      · exact ⟨_, h.last hp hle⟩
theorem rootG_abs (n : Int) : rootG ((n.natAbs : Nat) : Int) = rootG n := by unfold rootG; rw [Int.natAbs_natCast]
theorem rootWG_eq {N : Nat} (h1 : 1 ≤ N) (h2 : N ≤ 25000000) : rootW (ppowG N) = ((rootG (N : Int) : Nat) : Int) ∧ rootG (N : Int) ≤ 5000 ∧ 1 ≤ rootG (N : Int) := by
  obtain ⟨c, hc⟩ := ppGo_root (N := N) (N + 1) 2 N 1 1 N ⟨by simp, fun d hd hdd => by
      have h3 := Nat.le_of_dvd (by omega) hdd
      have := Nat.mul_le_mul hd hd
      omega, Nat.gcd_one_left N, fun d hd hlt => by omega, h1, by omega⟩ (Nat.le_refl _) (Nat.le_refl _) (by omega)
  have hr := (core_eq (show (N : Int) ≠ 0 by omega) hc).2
  obtain ⟨r, hre⟩ : ∃ r, r = rootFrom 1 (ppGo (N + 1) 2 N) := ⟨_, rfl⟩
  rw [← hre] at hc hr
  have he : N = c * (r * r) := by have := hc.eq; exact_mod_cast this.symm
  have hc0 : 0 < c := by
    rcases Nat.eq_zero_or_pos c with e | e
    · rw [e, Nat.zero_mul] at he; omega
    · exact e
  have hrr : r * r ≤ N := by rw [he]; exact Nat.le_mul_of_pos_left _ hc0
  have h5 := sq_le5 hrr h2
  have hp := hc.pos
  rw [hr]
  refine ⟨?_, h5, hp⟩
  unfold rootW ppowG
  have := rootW_from (ppGo (N + 1) 2 N) 1 (ppGo_pos _ _ _ (by omega)) (by rw [← hre]; omega)
  rw [← hre] at this
  exact this

def rootPG (l : List PPG) : Int := rootW (l.map (·.1))
theorem rootPG_snoc (l : List PPG) (x : PPG) : rootPG (l ++ [x]) = mulW (rootPG l) x.1.1 (x.1.2 / 2) := by simp [rootPG, rootW]
theorem tdiv_bd {n m : Int} (h1 : -25000000 ≤ n) (h2 : n ≤ 25000000) : -25000000 ≤ n.tdiv m ∧ n.tdiv m ≤ 25000000 := by
  have h := Nat.div_le_self n.natAbs m.natAbs
  rw [← tdiv_natAbs] at h
  omega

set_option maxRecDepth 100000 in
set_option maxHeartbeats 2000000 in
theorem numCore_any (n : Int) (h0 : n ≠ 0) (a1 : -25000000 ≤ n) (a2 : n ≤ 25000000) (w : World) :
    Calls Try.prog 67 #[.int .i64 n] w fun e w' => e = .returned (.tuple #[.int .i64 (coreG n), .int .i64 (rootG n : Nat)]) ∧ Below w.heap.size w w' := by
  have HR := hid (rootWG_eq (N := n.natAbs) (by omega) (by omega))
  have HA := hid (rootG_abs n)
  have hB0 : Below w.heap.size w ((w.alloc (.cells #[.int .i64 1] 3)).alloc (.cells #[.int .i64 n] 48)) := ((Below.refl _ _).alloc (Nat.le_refl _) _).alloc (by simp) _
  have bO := (Boxed.new w 3 (.int .i64 1)).alloc (.cells #[.int .i64 n] 48)
  have bN := Boxed.new (w.alloc (.cells #[.int .i64 1] 3)) 48 (.int .i64 n)
  simp only [World.size_alloc] at bN
  have H0 := hid h0
  clear h0
  refine (callsIn_wide (n := 5)).1 ?_
  refine callsIn_of_wp_marks Try.func67 rfl trivial ?_ rfl
  simp only [Try.ntmps67, List.size_toArray, List.length_cons, List.length_nil, Nat.reduceAdd, Nat.reduceSub, Array.replicate_succ, Array.replicate_zero, List.push_toArray, List.append_toArray, List.nil_append, List.cons_append]
  gi_wp2_with (refine ⟨trivial, ?_⟩; gi_at_call 61; refine (callsIn_wide.2 (pp_make _ _)).mono ?_; rintro e w' ⟨rfl, rfl⟩)
  refine wpIn_rangeFunc_ownF rfl (by omega) (gf := 90) (lb := #[.pointer (some ⟨w.heap.size + 1, 0, none⟩)]) rfl trivial (enters_of Try.func90 (by kernel_rfl) rfl)
    (ppG_stops _ (w.heap.size + 1) n H0.out (by omega) (by omega) _ (by simp) bN.cell) walksK_t walksK_b (Below.refl _ _) (fun _ => rfl)
    (fun pre W => Boxed W w.heap.size 3 (.int .i64 (rootPG pre)) ∧ Below w.heap.size w W)
    (fun _ _ _ => False)
    (OwnFrom.and (Own.from (boxed_own w.heap.size 3 (fun pre => .int .i64 (rootPG pre))) _) (ownFrom_below (Nat.le_refl _) (by simp; omega)))
    (fun _ _ _ _ _ hs _ _ => hs)
    ⟨bO, hB0⟩ ?a1 ?assign ?body ?done ?stop
  case assign =>
    intro l x W K hK
    gi_wp2
    exact hK
  case body =>
    rintro l pre x W ⟨hv, hB⟩ hlt
    obtain ⟨⟨p, k⟩, hp, hk⟩ := x
    dsimp only at hp hk
    obtain ⟨r, hr⟩ : ∃ r, r = rootPG pre := ⟨_, rfl⟩
    rw [← hr] at hv
    have HRP := hid hr
    have HV := hid hv
    have hk1 : 0 ≤ (k : Int) := by omega
    have hk2 : (k : Int) ≤ 25000000 := by omega
    obtain ⟨wo, hwo⟩ : ∃ wo : World, wo = W := ⟨_, rfl⟩
    have HW := hid hwo
    clear hr hv hwo
    gi_wp2
    gi_loopw [13] (fun si wr => ∃ j : Nat, si = .int .i64 j ∧ j ≤ k / 2 ∧ Boxed wr w.heap.size 3 (.int .i64 (mulW r p j)) ∧ Hid (KeepsOthers W wr ∧ Below w.heap.size W wr)) (fun si _ => k / 2 - (intOf si).toNat)
    case atStart => exact ⟨0, rfl, by omega, HV.out, hid ⟨KeepsOthers.refl _, Below.refl _ _⟩⟩
    case round =>
      obtain ⟨j, rfl, hj, hbx, HK⟩ := hrel
      have hc := hbx.cell
      have hf := hbx.frozen
      have HB := hid hbx
      clear hbx
      by_cases hlt2 : j < k / 2
      · gi_wp2
        go_roundw
        case rel => exact ⟨j + 1, by go_num, by omega, HB.out.set _, hid ⟨HK.out.1.trans (KeepsOthers.setCell _ _ _), HK.out.2.setCell (p := ⟨w.heap.size, 0, none⟩) (Nat.le_refl _) _⟩⟩
        case measure => simp only [intOf]; omega
      · obtain rfl : j = k / 2 := by omega
        gi_wp2
        refine ⟨HK.out.1, HK.out.1.walks, ?_, hB.trans HK.out.2⟩
        rw [rootPG_snoc, ← HRP.out]
        exact HB.out
  case done =>
    rintro D ys W hD hS ⟨hv, hB⟩ hK
    have hR : rootPG ys = ((rootG n : Nat) : Int) := by unfold rootPG; rw [hS, HR.out.1, HA.out]
    rw [hR] at hv
    obtain ⟨R, hRR⟩ : ∃ R, R = rootG n := ⟨_, rfl⟩
    have hR1 : 1 ≤ R := by rw [hRR, ← HA.out]; exact HR.out.2.2
    have hR2 : R ≤ 5000 := by rw [hRR, ← HA.out]; exact HR.out.2.1
    rw [← hRR] at hv
    have HRR := hid hRR
    have hc := hv.cell
    have hmm := mul_bd hR2 hR2
    have hm1 : 1 ≤ (R : Int) * R := by
      have := Nat.mul_le_mul hR1 hR1
      exact_mod_cast this
    have hne : (R : Int) * R ≠ 0 := by omega
    have hT : (((R : Int) * R) == 0) = false := by rw [beq_eq_false_iff_ne]; exact hne
    clear hR hRR hne
    have htd := tdiv_bd (n := n) (m := (R : Int) * R) a1 a2
    have ht1 := htd.1
    have ht2 := htd.2
    clear htd
    have HX : Hid (coreG n = n.tdiv ((R : Int) * R)) := by
      show _ = _
      unfold coreG
      rw [HRR.out]
    gi_wp2
    gi_region
    all_goals gi_wp2
    have hK' : W.drew.heap[D]? = some (.deferred (some [])) := hK
    refine ⟨by simp, .inl ⟨_, _, rfl, run_takeDeferred hK', ?_⟩⟩
    refine ⟨.tuple #[.int .i64 (n.tdiv ((R : Int) * R)), .int .i64 R], by simp [results, Try.f67, go_sem], by rw [HX.out, ← HRR.out], ?_⟩
    exact hB.drew.trans (belowK_b (w := w) (Nat.le_refl _) W.drew D _ _ (by simp at hD; omega) hK' rfl rfl)
  case stop =>
    rintro D c pre W _ _ h _
    exact h.elim

set_option maxRecDepth 100000 in
set_option maxHeartbeats 2000000 in
theorem coreOf_any (n : Int) (w : World) : Calls Try.prog 19 #[.int .i64 n] w fun e w' => e = .returned (coreV n) ∧ Below w.heap.size w w' := by
  cases hF : factB n with
  | false =>
    have P := hid (coreV_no hF)
    go_enter Try.func19, Try.ntmps19
    go_wp2_with (go_at_call 66; refine (factored_any _ _).mono ?_; rintro e w' ⟨rfl, rfl⟩)
    go_ret3
    exact ⟨retV P.out.symm, Below.refl _ _⟩
  | true =>
    rcases factB_cases n with ⟨a1, a2, h0, _, _⟩ | ⟨_, h⟩ | ⟨_, _, h⟩
    · have P := hid (coreV_G hF)
      have H0 := hid h0
      clear h0
      go_enter Try.func19, Try.ntmps19
      go_wp2_with (first | (go_at_call 66; refine (factored_any _ _).mono ?_; rintro e w' ⟨rfl, rfl⟩) | (go_at_call 67; refine (numCore_any _ H0.out (by omega) (by omega) _).mono ?_; rintro e w' ⟨rfl, hb⟩))
      go_ret3
      exact ⟨retV P.out.symm, hb⟩
    · rw [hF] at h; cases h
    · rw [hF] at h; cases h

end Go.Proofs.Ytdclmjmefkgbbab
