/-
  Some texts in one file: ZTh ZNorm ZNorm2 ZMod.
-/
import Derived.Test.YtdclmjmefkgbbabQFmSame
import Derived.Test.YtdclmjmefkgbbabQFmCls
/-! ZTh -/
set_option linter.unusedVariables false
namespace Go.Proofs.Ytdclmjmefkgbbab
open Go.RowKit

theorem zk_two : (List.range 4).all (fun k => (listK k).all (fun c => vanK k [c, combK k (minusK k) c])) = true := by decide +kernel
theorem zk_three : (List.range 4).all (fun k => (listK k).all (fun c => (listK k).all (fun d => (listK k).all (fun e => vanK k [c, d, e] == (symK k (combK k (minusK k) (combK k c e)) (combK k (minusK k) (combK k d e)) == 1))))) = true := by decide +kernel
theorem zk_four : (List.range 4).all (fun k => (listK k).all (fun c => (listK k).all (fun d => (listK k).all (fun e => vanK k [c, d, combK k (minusK k) c, e])))) = true := by decide +kernel

theorem nz2 {a b : Int} (ha : a ≠ 0) (hb : b ≠ 0) : NZ [a, b] := fun x hx => by
  simp only [List.mem_cons, List.not_mem_nil, or_false] at hx
  rcases hx with rfl | rfl <;> assumption
theorem nz3 {a b c : Int} (ha : a ≠ 0) (hb : b ≠ 0) (hc : c ≠ 0) : NZ [a, b, c] := fun x hx => by
  simp only [List.mem_cons, List.not_mem_nil, or_false] at hx
  rcases hx with rfl | rfl | rfl <;> assumption
theorem nz4 {a b c d : Int} (ha : a ≠ 0) (hb : b ≠ 0) (hc : c ≠ 0) (hd : d ≠ 0) : NZ [a, b, c, d] := fun x hx => by
  simp only [List.mem_cons, List.not_mem_nil, or_false] at hx
  rcases hx with rfl | rfl | rfl | rfl <;> assumption

/-- two terms with opposite classes -/
theorem van_opp {a b q : Int} (ha : a ≠ 0) (hb : b ≠ 0) (hq : plI q = true) (h : cls b q = cls (-a) q) : vanB [a, b] q = true := by
  rw [vanB_k hq (nz2 ha hb) (by simp) (show 2 ≤ 4 by decide)]
  show vanK (kOf q) [cls a q, cls b q] = true
  rw [h, cls_neg ha hq]
  exact List.all_eq_true.1 (List.all_eq_true.1 zk_two (kOf q) (List.mem_range.2 (kOf_lt q))) _ (by rw [← clsList_k]; exact cls_mem ha hq)
theorem sq_ne {x : Int} (h : x ≠ 0) : 0 < x * x := by
  rcases Int.lt_or_gt_of_ne h with h | h
  · exact Int.mul_pos_of_neg_of_neg h h
  · exact Int.mul_pos h h
theorem sq_nn (x : Int) : 0 ≤ x * x := by
  by_cases h : x = 0
  · rw [h]; decide
  · exact Int.le_of_lt (sq_ne h)
theorem van2 {a b x y q : Int} (ha : a ≠ 0) (hb : b ≠ 0) (hn : ¬ (x = 0 ∧ y = 0)) (he : a * x * x + b * y * y = 0) (hq : plI q = true) : vanB [a, b] q = true := by
  rw [Int.mul_assoc, Int.mul_assoc] at he
  have hx : x ≠ 0 := by
    rintro rfl
    rw [Int.mul_zero, Int.mul_zero, Int.zero_add] at he
    have hy : y ≠ 0 := fun e => hn ⟨rfl, e⟩
    exact Int.mul_ne_zero hb (Int.mul_ne_zero hy hy) he
  have hy : y ≠ 0 := by
    rintro rfl
    rw [Int.mul_zero, Int.mul_zero, Int.add_zero] at he
    exact Int.mul_ne_zero ha (Int.mul_ne_zero hx hx) he
  refine van_opp ha hb hq ?_
  rw [← cls_sqI hb hy hq, show b * (y * y) = -a * (x * x) by rw [Int.neg_mul]; omega]
  exact cls_sqI (by omega) hx hq
theorem van_three_sym {a b c q : Int} (ha : a ≠ 0) (hb : b ≠ 0) (hc : c ≠ 0) (hq : plI q = true) : vanB [a, b, c] q = decide (symV (-(a * c)) (-(b * c)) q = 1) := by
  rw [vanB_k hq (nz3 ha hb hc) (by simp) (show 3 ≤ 4 by decide)]
  show vanK (kOf q) [cls a q, cls b q, cls c q] = _
  have h1 := List.all_eq_true.1 (List.all_eq_true.1 (List.all_eq_true.1 (List.all_eq_true.1 zk_three (kOf q) (List.mem_range.2 (kOf_lt q))) (cls a q) (by rw [← clsList_k]; exact cls_mem ha hq)) (cls b q) (by rw [← clsList_k]; exact cls_mem hb hq)) (cls c q) (by rw [← clsList_k]; exact cls_mem hc hq)
  rw [beq_iff_eq.1 h1]
  unfold symV
  rw [sym_k, cls_neg (Int.mul_ne_zero ha hc) hq, cls_neg (Int.mul_ne_zero hb hc) hq, cls_mul ha hc hq, cls_mul hb hc hq, comb_k]
  rfl
theorem van3 {a b c x y z q : Int} (ha : a ≠ 0) (hb : b ≠ 0) (hc : c ≠ 0) (hn : ¬ (x = 0 ∧ y = 0 ∧ z = 0)) (he : a * x * x + b * y * y + c * z * z = 0) (hq : plI q = true) : vanB [a, b, c] q = true := by
  rw [van_three_sym ha hb hc hq, decide_eq_true_eq]
  have hac := Int.mul_ne_zero ha hc
  have hbc := Int.mul_ne_zero hb hc
  refine solved_one (x := x) (y := y) (z := c * z) (by omega) (by omega) (fun h => hn ⟨h.1, h.2.1, ?_⟩) ?_ hq
  · rcases Int.mul_eq_zero.1 h.2.2 with e | e
    · exact absurd e hc
    · exact e
  · have e1 : -(a * c) * x * x = c * -(a * x * x) := by rw [Int.neg_mul, Int.neg_mul, Int.mul_neg]; congr 1; simp only [Int.mul_comm, Int.mul_left_comm]
    have e2 : -(b * c) * y * y = c * -(b * y * y) := by rw [Int.neg_mul, Int.neg_mul, Int.mul_neg]; congr 1; simp only [Int.mul_comm, Int.mul_left_comm]
    have e3 : c * z * (c * z) = c * (c * z * z) := by simp only [Int.mul_comm, Int.mul_left_comm]
    rw [e1, e2, e3, ← Int.mul_add]
    congr 1
    omega
theorem hasC_pair {a b q : Int} (hb : b ≠ 0) (hq : plI q = true) : hasC q [a, b] = symV a b q := by
  show symV a (b * 1) q * hasC q [b] = _
  rw [hasC_one q hq hb, Int.mul_one, Int.mul_one]
theorem hasC_four {a b c d q : Int} (ha : a ≠ 0) (hb : b ≠ 0) (hc : c ≠ 0) (hd : d ≠ 0) (hq : plI q = true) : hasC q [a, b, c, d] = symV a b q * symV c d q * symV (a * b) (c * d) q := by
  have h := hasC_app hq (nz2 ha hb) (nz2 hc hd)
  rw [hasC_pair hb hq, hasC_pair hd hq] at h
  rw [show [a, b, c, d] = [a, b] ++ [c, d] from rfl, h]
  show _ * symV (a * (b * 1)) (c * (d * 1)) q = _
  rw [Int.mul_one, Int.mul_one]
/-- at the real place: a zero needs both signs -/
theorem real_both {a b c d x y z w : Int} (ha : a ≠ 0) (hb : b ≠ 0) (hc : c ≠ 0) (hd : d ≠ 0) (hn : ¬ (x = 0 ∧ y = 0 ∧ z = 0 ∧ w = 0)) (he : a * x * x + b * y * y + c * z * z + d * w * w = 0) : ¬ (0 < a ∧ 0 < b ∧ 0 < c ∧ 0 < d) := fun ⟨h1, h2, h3, h4⟩ => by
  have t : ∀ {k v : Int}, 0 < k → 0 ≤ k * v * v ∧ (k * v * v = 0 → v = 0) := fun {k v} hk => by
    refine ⟨by rw [Int.mul_assoc]; exact Int.mul_nonneg (Int.le_of_lt hk) (sq_nn v), fun h => ?_⟩
    by_cases hv : v = 0
    · exact hv
    · have := Int.mul_pos hk (sq_ne hv)
      rw [Int.mul_assoc] at h
      omega
  have t1 := t (v := x) h1
  have t2 := t (v := y) h2
  have t3 := t (v := z) h3
  have t4 := t (v := w) h4
  exact hn ⟨t1.2 (by omega), t2.2 (by omega), t3.2 (by omega), t4.2 (by omega)⟩
theorem van4 {a b c d x y z w q : Int} (ha : a ≠ 0) (hb : b ≠ 0) (hc : c ≠ 0) (hd : d ≠ 0) (hn : ¬ (x = 0 ∧ y = 0 ∧ z = 0 ∧ w = 0)) (he : a * x * x + b * y * y + c * z * z + d * w * w = 0) (hq : plI q = true) : vanB [a, b, c, d] q = true := by
  by_cases h0 : q = 0
  · subst h0
    have p1 := real_both ha hb hc hd hn he
    have p2 := real_both (a := -a) (b := -b) (c := -c) (d := -d) (by omega) (by omega) (by omega) (by omega) hn (by
      simp only [Int.neg_mul]; omega)
    unfold vanB
    rw [if_pos rfl, Bool.and_eq_true, decide_eq_true_eq, decide_eq_true_eq]
    have hle := less_le [a, b, c, d]
    constructor
    · rcases Nat.eq_zero_or_pos (lessN [a, b, c, d]) with h | h
      · exfalso
        unfold lessN at h
        have h2 := List.filter_eq_nil_iff.1 (List.length_eq_zero_iff.1 h)
        have g : ∀ k ∈ [a, b, c, d], ¬ k < 0 := fun k hk => by simpa using h2 k hk
        have ga := g a (by simp); have gb := g b (by simp); have gc := g c (by simp); have gd := g d (by simp)
        exact p1 ⟨by omega, by omega, by omega, by omega⟩
      · exact h
    · rcases Nat.lt_or_ge (lessN [a, b, c, d]) [a, b, c, d].length with h | h
      · exact h
      · exfalso
        have h2 := List.length_filter_eq_length_iff.1 (show ([a, b, c, d].filter (fun x => decide (x < 0))).length = _ from Nat.le_antisymm hle h)
        have g : ∀ k ∈ [a, b, c, d], k < 0 := fun k hk => of_decide_eq_true (h2 k hk)
        have ga := g a (by simp); have gb := g b (by simp); have gc := g c (by simp); have gd := g d (by simp)
        exact p2 ⟨by omega, by omega, by omega, by omega⟩
  · by_cases ht : a * x * x + b * y * y = 0
    · by_cases hxy : x = 0 ∧ y = 0
      · have hzw : ¬ (z = 0 ∧ w = 0) := fun h => hn ⟨hxy.1, hxy.2, h.1, h.2⟩
        have h1 := van2 hc hd hzw (by omega) hq
        have h2 := van_longer hq ha (nz2 hc hd) (by simp) (by simp) h1
        have h3 := van_longer hq hb (nz3 hc hd ha) (by simp) (by simp) h2
        have hz4 := nz4 hc hd ha hb
        have hp : [c, d, a, b].Perm [a, b, c, d] := by
          have : ([c, d] ++ [a, b]).Perm ([a, b] ++ [c, d]) := List.perm_append_comm
          exact this
        have h4 : vanB [c, d, a, b] q = true := h3
        rw [van_four h0 rfl, hasF_eq hq (nz4 ha hb hc hd), ← hasC_perm hq hp hz4, ← prodI_perm hp, ← hasF_eq hq hz4, ← van_four h0 rfl]
        exact h4
      · have h1 := van2 ha hb hxy ht hq
        have h2 := van_longer hq hc (nz2 ha hb) (by simp) (by simp) h1
        exact van_longer hq hd (nz3 ha hb hc) (by simp) (by simp) h2
    · obtain ⟨t, het⟩ : ∃ t, t = a * x * x + b * y * y := ⟨_, rfl⟩
      rw [← het] at ht he
      have hab := Int.mul_ne_zero ha hb
      have hcd := Int.mul_ne_zero hc hd
      have hnt : -t ≠ 0 := by omega
      have r1 := replace_sym ha hb ht het hq
      have r2 := replace_sym hc hd hnt (x := z) (y := w) (by omega) hq
      have habt := Int.mul_ne_zero hab ht
      have hcdt := Int.mul_ne_zero hcd hnt
      have e1 : hasC q [a, b, c, d] = hasC q [t, a * b * t, -t, c * d * -t] := by
        rw [hasC_four ha hb hc hd hq, hasC_four ht habt hnt hcdt hq, r1, r2]
        congr 1
        refine (symV_congr ?_ ?_).symm
        · rw [show t * (a * b * t) = a * b * (t * t) by simp only [Int.mul_comm, Int.mul_left_comm]]
          exact cls_sqI hab ht hq
        · rw [show -t * (c * d * -t) = c * d * (-t * -t) by rw [Int.mul_left_comm]]
          exact cls_sqI hcd hnt hq
      have e2 : sqAt (prodI [a, b, c, d]) q = sqAt (prodI [t, a * b * t, -t, c * d * -t]) q := by
        unfold sqAt
        congr 1
        have : prodI [t, a * b * t, -t, c * d * -t] = prodI [a, b, c, d] * ((t * -t) * (t * -t)) := by
          show t * (a * b * t * (-t * (c * d * -t * 1))) = a * (b * (c * (d * 1))) * ((t * -t) * (t * -t))
          rw [Int.mul_one, Int.mul_one]
          simp only [Int.mul_assoc, Int.mul_comm, Int.mul_left_comm]
        rw [this]
        exact (cls_sqI (nz4 ha hb hc hd).prod (Int.mul_ne_zero ht hnt) hq).symm
      rw [van_four h0 rfl, hasF_eq hq (nz4 ha hb hc hd), e1, e2, ← hasF_eq hq (nz4 ht habt hnt hcdt), ← van_four h0 rfl]
      rw [vanB_k hq (nz4 ht habt hnt hcdt) (by simp) (show 4 ≤ 4 by decide)]
      show vanK (kOf q) [cls t q, cls (a * b * t) q, cls (-t) q, cls (c * d * -t) q] = true
      rw [cls_neg ht hq]
      exact List.all_eq_true.1 (List.all_eq_true.1 (List.all_eq_true.1 (List.all_eq_true.1 zk_four (kOf q) (List.mem_range.2 (kOf_lt q))) _ (by rw [← clsList_k]; exact cls_mem ht hq)) _ (by rw [← clsList_k]; exact cls_mem habt hq)) _ (by rw [← clsList_k]; exact cls_mem hcdt hq)

end Go.Proofs.Ytdclmjmefkgbbab

/-! ZNorm -/
set_option linter.unusedVariables false
namespace Go.Proofs.Ytdclmjmefkgbbab
open Go.RowKit

/-- the least prime that divides two of three numbers, and which is the third -/
def lpG (g : Nat) : Nat := (plistG g).headD 1
def twoD (a b c : Int) : Nat := if 1 < Int.gcd a b then lpG (Int.gcd a b) else if 1 < Int.gcd c a then lpG (Int.gcd c a) else if 1 < Int.gcd b c then lpG (Int.gcd b c) else 1
def twoK (a b c : Int) : Nat := if 1 < Int.gcd a b then 2 else if 1 < Int.gcd c a then 1 else 0
def thirdI (c : Int) (p : Nat) : Int := if c % (p : Int) = 0 then c.tdiv p else c * p
def thirdM (c : Int) (p : Nat) (m : Int) : Int := if c % (p : Int) = 0 then m else m * p
structure T3 where
  a : Int
  b : Int
  c : Int
def T3.nz (t : T3) : Prop := t.a ≠ 0 ∧ t.b ≠ 0 ∧ t.c ≠ 0
/-- one step -/
def stepI (t : T3) : T3 :=
  if twoK t.a t.b t.c = 2 then ⟨t.a.tdiv (twoD t.a t.b t.c), t.b.tdiv (twoD t.a t.b t.c), thirdI t.c (twoD t.a t.b t.c)⟩
  else if twoK t.a t.b t.c = 1 then ⟨t.a.tdiv (twoD t.a t.b t.c), thirdI t.b (twoD t.a t.b t.c), t.c.tdiv (twoD t.a t.b t.c)⟩
  else ⟨thirdI t.a (twoD t.a t.b t.c), t.b.tdiv (twoD t.a t.b t.c), t.c.tdiv (twoD t.a t.b t.c)⟩
/-- by what the integers are multiplied -/
def stepM (t m : T3) : T3 :=
  if twoK t.a t.b t.c = 2 then ⟨m.a, m.b, thirdM t.c (twoD t.a t.b t.c) m.c⟩
  else if twoK t.a t.b t.c = 1 then ⟨m.a, thirdM t.b (twoD t.a t.b t.c) m.b, m.c⟩
  else ⟨thirdM t.a (twoD t.a t.b t.c) m.a, m.b, m.c⟩
def normT : Nat → T3 → T3
  | 0, t => t
  | f + 1, t => if twoD t.a t.b t.c = 1 then t else normT f (stepI t)
def normM : Nat → T3 → T3 → T3
  | 0, _, m => m
  | f + 1, t, m => if twoD t.a t.b t.c = 1 then m else normM f (stepI t) (stepM t m)

theorem lpG_spec {g : Nat} (h : 1 < g) : PrG (lpG g) ∧ lpG g ∣ g := by
  obtain ⟨s1, s2, s3⟩ := plistG_spec (show 0 < g by omega)
  unfold lpG
  cases hl : plistG g with
  | nil =>
    exfalso
    obtain ⟨x, hx, hd⟩ : ∃ x, PrG x ∧ x ∣ g := by
      have : ∀ n, ∀ m, m ≤ n → 1 < m → ∃ x, PrG x ∧ x ∣ m := by
        intro n
        induction n with
        | zero => intro m h1 h2; omega
        | succ n ih =>
          intro m h1 h2
          by_cases hp : ∀ d, d ∣ m → d = 1 ∨ d = m
          · exact ⟨m, ⟨h2, hp⟩, Nat.dvd_refl _⟩
          · obtain ⟨d, hd⟩ := Classical.not_forall.1 hp
            rw [Classical.not_imp] at hd
            obtain ⟨hd, hne⟩ := hd
            have hd0 : 0 < d := Nat.pos_of_dvd_of_pos hd (by omega)
            have hdl := Nat.le_of_dvd (by omega) hd
            obtain ⟨x, hx, hxd⟩ := ih d (by omega) (by omega)
            exact ⟨x, hx, Nat.dvd_trans hxd hd⟩
      exact this g g (Nat.le_refl _) h
    have := s3 x hx hd
    rw [hl] at this
    cases this
  | cons x t =>
    rw [hl] at s1
    exact s1 x (List.mem_cons_self ..)
theorem two_cases (a b c : Int) : (twoD a b c = 1 ∧ Int.gcd a b ≤ 1 ∧ Int.gcd c a ≤ 1 ∧ Int.gcd b c ≤ 1) ∨ (PrG (twoD a b c) ∧ ((twoK a b c = 2 ∧ (twoD a b c : Int) ∣ a ∧ (twoD a b c : Int) ∣ b) ∨ (twoK a b c = 1 ∧ (twoD a b c : Int) ∣ a ∧ (twoD a b c : Int) ∣ c) ∨ (twoK a b c = 0 ∧ (twoD a b c : Int) ∣ b ∧ (twoD a b c : Int) ∣ c))) := by
  have L : ∀ {g : Nat} {x y : Int}, g = Int.gcd x y → 1 < g → PrG (lpG g) ∧ (lpG g : Int) ∣ x ∧ (lpG g : Int) ∣ y := fun {g x y} e h => by
    obtain ⟨h1, h2⟩ := lpG_spec h
    refine ⟨h1, Int.ofNat_dvd_left.2 (Nat.dvd_trans h2 (by rw [e]; exact Nat.gcd_dvd_left ..)), Int.ofNat_dvd_left.2 (Nat.dvd_trans h2 (by rw [e]; exact Nat.gcd_dvd_right ..))⟩
  unfold twoD twoK
  by_cases h1 : 1 < Int.gcd a b
  · rw [if_pos h1, if_pos h1]
    obtain ⟨x, y, z⟩ := L rfl h1
    exact .inr ⟨x, .inl ⟨rfl, y, z⟩⟩
  · rw [if_neg h1, if_neg h1]
    by_cases h2 : 1 < Int.gcd c a
    · rw [if_pos h2, if_pos h2]
      obtain ⟨x, y, z⟩ := L rfl h2
      exact .inr ⟨x, .inr (.inl ⟨rfl, z, y⟩)⟩
    · rw [if_neg h2, if_neg h2]
      by_cases h3 : 1 < Int.gcd b c
      · rw [if_pos h3]
        obtain ⟨x, y, z⟩ := L rfl h3
        exact .inr ⟨x, .inr (.inr ⟨rfl, y, z⟩)⟩
      · rw [if_neg h3]
        exact .inl ⟨rfl, by omega, by omega, by omega⟩
theorem tdiv_ne {a : Int} {p : Nat} (hp : 1 ≤ p) (ha : a ≠ 0) (h : (p : Int) ∣ a) : a.tdiv p ≠ 0 ∧ a.tdiv p * p = a := by
  have e := Int.tdiv_mul_cancel h
  exact ⟨fun h0 => ha (by rw [← e, h0, Int.zero_mul]), e⟩
theorem third_ne {c : Int} {p : Nat} (hp : 1 ≤ p) (hc : c ≠ 0) : thirdI c p ≠ 0 := by
  unfold thirdI
  split
  · exact (tdiv_ne hp hc (Int.dvd_of_emod_eq_zero (by assumption))).1
  · exact Int.mul_ne_zero hc (by omega)
/-- the class of what a step makes: p times the term -/
theorem tdiv_cls {a q : Int} {p : Nat} (hp : 1 ≤ p) (ha : a ≠ 0) (h : (p : Int) ∣ a) (hq : plI q = true) : cls (a.tdiv p) q = cls ((p : Int) * a) q := by
  obtain ⟨h1, e⟩ := tdiv_ne hp ha h
  have : (p : Int) * a = a.tdiv p * ((p : Int) * p) := by conv => lhs; rw [← e]
                                                          rw [Int.mul_left_comm]
  rw [this, cls_sqI h1 (by omega) hq]
theorem third_cls {c q : Int} {p : Nat} (hp : 1 ≤ p) (hc : c ≠ 0) (hq : plI q = true) : cls (thirdI c p) q = cls ((p : Int) * c) q := by
  unfold thirdI
  by_cases h : c % (p : Int) = 0
  · rw [if_pos h]; exact tdiv_cls hp hc (Int.dvd_of_emod_eq_zero h) hq
  · rw [if_neg h, Int.mul_comm]
theorem van3_cls {a b c a' b' c' q : Int} (ha : a ≠ 0) (hb : b ≠ 0) (hc : c ≠ 0) (ha' : a' ≠ 0) (hb' : b' ≠ 0) (hc' : c' ≠ 0) (h1 : cls a q = cls a' q) (h2 : cls b q = cls b' q) (h3 : cls c q = cls c' q) (hq : plI q = true) : vanB [a, b, c] q = vanB [a', b', c'] q := by
  rw [vanB_k hq (nz3 ha hb hc) (by simp) (by simp), vanB_k hq (nz3 ha' hb' hc') (by simp) (by simp)]
  show vanK _ [cls a q, cls b q, cls c q] = vanK _ [cls a' q, cls b' q, cls c' q]
  rw [h1, h2, h3]
def vanT (t : T3) (q : Int) : Bool := vanB [t.a, t.b, t.c] q
theorem van_pmul {a b c q : Int} {p : Nat} (hp : 1 ≤ p) (ha : a ≠ 0) (hb : b ≠ 0) (hc : c ≠ 0) (hq : plI q = true) : vanB [(p : Int) * a, (p : Int) * b, (p : Int) * c] q = vanB [a, b, c] q :=
  van_scale hq (n := (p : Int)) (by omega) (nz3 ha hb hc) (by simp) (by simp)
theorem step_ok {t : T3} (h : t.nz) (h1 : twoD t.a t.b t.c ≠ 1) : (stepI t).nz ∧ ∀ q, plI q = true → vanT (stepI t) q = vanT t q := by
  obtain ⟨a, b, c⟩ := t
  obtain ⟨ha, hb, hc⟩ := h
  obtain ⟨P, hP⟩ : ∃ P, P = twoD a b c := ⟨_, rfl⟩
  rcases two_cases a b c with ⟨h, _⟩ | ⟨hpr, hk⟩
  · exact absurd h h1
  · unfold stepI T3.nz vanT
    dsimp only at ha hb hc ⊢
    rw [← hP] at hpr hk ⊢
    have hp1 : 1 ≤ P := by have := hpr.1; omega
    rcases hk with ⟨e, d1, d2⟩ | ⟨e, d1, d2⟩ | ⟨e, d1, d2⟩
    · rw [if_pos e]
      have n1 := (tdiv_ne hp1 ha d1).1
      have n2 := (tdiv_ne hp1 hb d2).1
      have n3 := third_ne hp1 hc
      refine ⟨⟨n1, n2, n3⟩, fun q hq => ?_⟩
      rw [← van_pmul hp1 ha hb hc hq]
      exact van3_cls n1 n2 n3 (Int.mul_ne_zero (by omega) ha) (Int.mul_ne_zero (by omega) hb) (Int.mul_ne_zero (by omega) hc) (tdiv_cls hp1 ha d1 hq) (tdiv_cls hp1 hb d2 hq) (third_cls hp1 hc hq) hq
    · rw [if_neg (by rw [e]; decide), if_pos e]
      have n1 := (tdiv_ne hp1 ha d1).1
      have n2 := third_ne hp1 hb
      have n3 := (tdiv_ne hp1 hc d2).1
      refine ⟨⟨n1, n2, n3⟩, fun q hq => ?_⟩
      rw [← van_pmul hp1 ha hb hc hq]
      exact van3_cls n1 n2 n3 (Int.mul_ne_zero (by omega) ha) (Int.mul_ne_zero (by omega) hb) (Int.mul_ne_zero (by omega) hc) (tdiv_cls hp1 ha d1 hq) (third_cls hp1 hb hq) (tdiv_cls hp1 hc d2 hq) hq
    · rw [if_neg (by rw [e]; decide), if_neg (by rw [e]; decide)]
      have n1 := third_ne hp1 ha
      have n2 := (tdiv_ne hp1 hb d1).1
      have n3 := (tdiv_ne hp1 hc d2).1
      refine ⟨⟨n1, n2, n3⟩, fun q hq => ?_⟩
      rw [← van_pmul hp1 ha hb hc hq]
      exact van3_cls n1 n2 n3 (Int.mul_ne_zero (by omega) ha) (Int.mul_ne_zero (by omega) hb) (Int.mul_ne_zero (by omega) hc) (third_cls hp1 ha hq) (tdiv_cls hp1 hb d1 hq) (tdiv_cls hp1 hc d2 hq) hq
/-- normal terms vanish where the form does -/
theorem norm_ok : ∀ (f : Nat) {t : T3}, t.nz → (normT f t).nz ∧ ∀ q, plI q = true → vanT (normT f t) q = vanT t q
  | 0, t, h => ⟨h, fun _ _ => rfl⟩
  | f + 1, t, h => by
    unfold normT
    by_cases h1 : twoD t.a t.b t.c = 1
    · rw [if_pos h1]; exact ⟨h, fun _ _ => rfl⟩
    · rw [if_neg h1]
      obtain ⟨s1, s2⟩ := step_ok h h1
      obtain ⟨n1, n2⟩ := norm_ok f s1
      exact ⟨n1, fun q hq => (n2 q hq).trans (s2 q hq)⟩

/-- an odd prime that divides one term alone, of whose residues the others' product, with the opposite sign, is none -/
def nonres (p : Nat) (n : Int) : Bool := !((n % (p : Int)).toNat ^ ((p - 1) / 2) % p == 1)
def badOne (p : Nat) (a b c : Int) : Bool := decide (a % (p : Int) = 0) && (!decide (a % ((p * p : Nat) : Int) = 0) && (!decide (b % (p : Int) = 0) && (!decide (c % (p : Int) = 0) && nonres p (-(b * c)))))
def badP (t : T3) (p : Nat) : Bool := badOne p t.a t.b t.c || (badOne p t.b t.a t.c || badOne p t.c t.a t.b)
theorem sym_one_p {P : Nat} (hP : primeN P = true) (h3 : 3 ≤ P) {x y : Int} {r : Int} (hx : (cls x (P : Int)).1 = 1) (hy : cls y (P : Int) = (0, r)) : symV x y (P : Int) = r := by
  unfold symV symC
  rw [if_neg (by omega), if_neg (by omega), hy]
  simp [hx, halfI]
theorem nonres_res {P : Nat} (hP : primeN P = true) (h3 : 3 ≤ P) {n : Int} (hn : ¬ (P : Int) ∣ n) (h : nonres P n = true) : resN (n % (P : Int)).toNat P = -1 := by
  have hr : ¬ P ∣ (n % (P : Int)).toNat := emod_ndvd (by omega) (by rwa [Int.ofNat_dvd_left] at hn)
  rcases res_unit hP h3 hr with e | e
  · exfalso
    unfold nonres at h
    unfold resN pw at e
    have hlt := Nat.mod_lt ((n % (P : Int)).toNat ^ ((P - 1) / 2)) (show 0 < P by omega)
    split at e
    · cases e
    · have : (n % (P : Int)).toNat ^ ((P - 1) / 2) % P = 1 := by omega
      rw [this] at h
      cases h
  · exact e
theorem badOne_van {P : Nat} (hq : plI (P : Int) = true) (hP : primeN P = true) (h3 : 3 ≤ P) {a b c : Int} (ha : a ≠ 0) (hb : b ≠ 0) (hc : c ≠ 0) (h : badOne P a b c = true) : vanB [a, b, c] (P : Int) = false := by
  unfold badOne at h
  simp only [Bool.and_eq_true, Bool.not_eq_true', decide_eq_true_eq, decide_eq_false_iff_not] at h
  obtain ⟨h1, h2, hnb, hnc, hr⟩ := h
  have hP0 : (P : Int) ≠ 0 := by omega
  have hnb' : ¬ (P : Int) ∣ b := fun h => hnb (Int.emod_eq_zero_of_dvd h)
  have hnc' : ¬ (P : Int) ∣ c := fun h => hnc (Int.emod_eq_zero_of_dvd h)
  obtain ⟨a1, rfl⟩ := Int.dvd_of_emod_eq_zero h1
  have ha1 : ¬ (P : Int) ∣ a1 := fun ⟨k, hk⟩ => h2 (Int.emod_eq_zero_of_dvd ⟨k, by rw [hk]; push_cast; rw [Int.mul_assoc]⟩)
  have hnbc : ¬ (P : Int) ∣ -(b * c) := fun h => by
    rcases primeI_dvd_mul hP (Int.dvd_neg.1 h) with h | h
    · exact hnb' h
    · exact hnc' h
  have hnac : ¬ (P : Int) ∣ -(a1 * c) := fun h => by
    rcases primeI_dvd_mul hP (Int.dvd_neg.1 h) with h | h
    · exact ha1 h
    · exact hnc' h
  have ha10 : a1 ≠ 0 := by rintro rfl; exact ha (Int.mul_zero _)
  have hac := Int.mul_ne_zero ha10 hc
  have e1 : (cls (-((P : Int) * a1 * c)) (P : Int)).1 = 1 := by
    rw [show -((P : Int) * a1 * c) = (P : Int) * -(a1 * c) by rw [Int.mul_assoc, Int.mul_neg], cls_mul hP0 (by omega) hq, cls_ndvd hP h3 hnac]
    have e0 : (cls (P : Int) (P : Int)).1 = 1 := by rw [cls_odd h3, (unit_p hP).1]
    show ((cls (P : Int) (P : Int)).1 + 0) % 2 = 1
    rw [e0]
  rw [van_three_sym ha hb hc hq, sym_one_p hP h3 e1 (cls_ndvd hP h3 hnbc), nonres_res hP h3 hnbc hr]
  decide
theorem van3_perm {a b c x y z q : Int} (ha : a ≠ 0) (hb : b ≠ 0) (hc : c ≠ 0) (hp : [a, b, c].Perm [x, y, z]) (h0 : q ≠ 0) (hq : plI q = true) : vanB [a, b, c] q = vanB [x, y, z] q := by
  have hz := nz3 ha hb hc
  rw [van_three h0 rfl, van_three h0 rfl, hasF_eq hq hz, hasF_eq hq (hz.perm hp), hasC_perm hq hp hz, prodI_perm hp]
theorem badP_van {P : Nat} (hP : primeN P = true) (h3 : 3 ≤ P) {t : T3} (h : t.nz) (hb : badP t P = true) : vanT t (P : Int) = false := by
  obtain ⟨a, b, c⟩ := t
  obtain ⟨h1, h2, h4⟩ := h
  have hq : plI (P : Int) = true := by unfold plI primeI; rw [Int.toNat_natCast, hP, Bool.or_true]
  have h0 : (P : Int) ≠ 0 := by omega
  unfold badP at hb
  rw [Bool.or_eq_true, Bool.or_eq_true] at hb
  unfold vanT
  dsimp only at h1 h2 h4 hb ⊢
  rcases hb with hb | hb | hb
  · exact badOne_van hq hP h3 h1 h2 h4 hb
  · rw [van3_perm h1 h2 h4 (List.Perm.swap b a [c]) h0 hq]
    exact badOne_van hq hP h3 h2 h1 h4 hb
  · rw [van3_perm h1 h2 h4 (show [a, b, c].Perm [c, a, b] from (show ([a, b] ++ [c]).Perm ([c] ++ [a, b]) from List.perm_append_comm)) h0 hq]
    exact badOne_van hq hP h3 h4 h1 h2 hb

end Go.Proofs.Ytdclmjmefkgbbab

/-! ZNorm2 -/
set_option linter.unusedVariables false
namespace Go.Proofs.Ytdclmjmefkgbbab
open Go.RowKit

theorem sqfree_div {c p : Nat} (h : SqFree c) (hd : p ∣ c) : SqFree (c / p) := fun d h2 hdd => h d h2 (Nat.dvd_trans hdd (Nat.div_dvd_of_dvd hd))
theorem sqfree_mul {c p : Nat} (hp : PrG p) (h : SqFree c) (hn : ¬ p ∣ c) : SqFree (c * p) := fun d h2 hdd => by
  have hp2 := hp.1
  by_cases hpd : p ∣ d
  · obtain ⟨e, rfl⟩ := hpd
    refine hn ?_
    have h1 : p * (e * (p * e)) ∣ p * c := by
      rw [Nat.mul_comm p c]
      rw [Nat.mul_assoc] at hdd
      exact hdd
    have h3 := Nat.dvd_of_mul_dvd_mul_left (by omega) h1
    exact Nat.dvd_trans ⟨e * e, Nat.mul_left_comm e p e⟩ h3
  · have hg : Nat.Coprime d p := by
      rcases hp.2 (Nat.gcd d p) (Nat.gcd_dvd_right ..) with e | e
      · exact e
      · exact absurd (by rw [← e]; exact Nat.gcd_dvd_left d p) hpd
    have hg2 : Nat.Coprime (d * d) p := Nat.Coprime.mul_left hg hg
    exact h d h2 (hg2.dvd_of_dvd_mul_right hdd)
theorem abs_tdiv {a : Int} {p : Nat} (h : (p : Int) ∣ a) : (a.tdiv p).natAbs = a.natAbs / p ∧ p ∣ a.natAbs := by
  rw [Int.natAbs_tdiv, Int.natAbs_natCast]
  exact ⟨rfl, Int.ofNat_dvd_left.1 h⟩
theorem tdiv_free {a : Int} {p : Nat} (hf : SqFree a.natAbs) (h : (p : Int) ∣ a) : SqFree (a.tdiv p).natAbs := by
  rw [(abs_tdiv h).1]
  exact sqfree_div hf (abs_tdiv h).2
theorem third_free {c : Int} {p : Nat} (hp : PrG p) (hf : SqFree c.natAbs) : SqFree (thirdI c p).natAbs := by
  unfold thirdI
  by_cases h : c % (p : Int) = 0
  · rw [if_pos h]; exact tdiv_free hf (Int.dvd_of_emod_eq_zero h)
  · rw [if_neg h, Int.natAbs_mul, Int.natAbs_natCast]
    exact sqfree_mul hp hf fun hd => h (Int.emod_eq_zero_of_dvd (Int.ofNat_dvd_left.2 hd))
def T3.free (t : T3) : Prop := SqFree t.a.natAbs ∧ SqFree t.b.natAbs ∧ SqFree t.c.natAbs
theorem step_free {t : T3} (h1 : twoD t.a t.b t.c ≠ 1) (hf : t.free) : (stepI t).free := by
  obtain ⟨a, b, c⟩ := t
  obtain ⟨fa, fb, fc⟩ := hf
  obtain ⟨P, hP⟩ : ∃ P, P = twoD a b c := ⟨_, rfl⟩
  rcases two_cases a b c with ⟨h, _⟩ | ⟨hpr, hk⟩
  · exact absurd h h1
  · unfold stepI T3.free
    dsimp only at fa fb fc ⊢
    rw [← hP] at hpr hk ⊢
    rcases hk with ⟨e, d1, d2⟩ | ⟨e, d1, d2⟩ | ⟨e, d1, d2⟩
    · rw [if_pos e]; exact ⟨tdiv_free fa d1, tdiv_free fb d2, third_free hpr fc⟩
    · rw [if_neg (by rw [e]; decide), if_pos e]; exact ⟨tdiv_free fa d1, third_free hpr fb, tdiv_free fc d2⟩
    · rw [if_neg (by rw [e]; decide), if_neg (by rw [e]; decide)]; exact ⟨third_free hpr fa, tdiv_free fb d1, tdiv_free fc d2⟩
theorem norm_free : ∀ (f : Nat) {t : T3}, t.free → (normT f t).free
  | 0, _, h => h
  | f + 1, t, h => by
    unfold normT
    by_cases h1 : twoD t.a t.b t.c = 1
    · rw [if_pos h1]; exact h
    · rw [if_neg h1]; exact norm_free f (step_free h1 h)

/-- sizes -/
def T3.prod (t : T3) : Nat := t.a.natAbs * t.b.natAbs * t.c.natAbs
theorem third_le {c : Int} {p : Nat} (hp : 1 ≤ p) : (thirdI c p).natAbs ≤ c.natAbs * p := by
  unfold thirdI
  by_cases h : c % (p : Int) = 0
  · rw [if_pos h, (abs_tdiv (Int.dvd_of_emod_eq_zero h)).1]
    exact Nat.le_trans (Nat.div_le_self ..) (Nat.le_mul_of_pos_right _ hp)
  · rw [if_neg h, Int.natAbs_mul, Int.natAbs_natCast]
    exact Nat.le_refl _
theorem tdiv_abs {a : Int} {p : Nat} (h : (p : Int) ∣ a) : (a.tdiv p).natAbs * p = a.natAbs := by
  rw [(abs_tdiv h).1]
  exact Nat.div_mul_cancel (abs_tdiv h).2
/-- the third one, divided or multiplied, over both that are divided: less -/
theorem size_step {x y z p : Nat} (X Y Z : Nat) (hx : X * p = x) (hy : Y * p = y) (hz : Z ≤ z * p) : X * Y * Z * p ≤ x * y * z := by
  have h1 : X * Y * Z * p ≤ X * Y * (z * p) * p := Nat.mul_le_mul_right _ (Nat.mul_le_mul_left _ hz)
  have h2 : X * Y * (z * p) * p = X * p * (Y * p) * z := by simp only [Nat.mul_comm, Nat.mul_left_comm]
  rw [h2, hx, hy] at h1
  exact h1
theorem step_prod {t : T3} (h1 : twoD t.a t.b t.c ≠ 1) : (stepI t).prod * twoD t.a t.b t.c ≤ t.prod ∧ 2 ≤ twoD t.a t.b t.c := by
  obtain ⟨a, b, c⟩ := t
  obtain ⟨P, hP⟩ : ∃ P, P = twoD a b c := ⟨_, rfl⟩
  rcases two_cases a b c with ⟨h, _⟩ | ⟨hpr, hk⟩
  · exact absurd h h1
  · unfold stepI T3.prod
    dsimp only
    rw [← hP] at hpr hk ⊢
    have hp1 : 1 ≤ P := by have := hpr.1; omega
    refine ⟨?_, hpr.1⟩
    rcases hk with ⟨e, d1, d2⟩ | ⟨e, d1, d2⟩ | ⟨e, d1, d2⟩
    · rw [if_pos e]
      exact size_step _ _ _ (tdiv_abs d1) (tdiv_abs d2) (third_le hp1)
    · rw [if_neg (by rw [e]; decide), if_pos e]
      have := size_step _ _ _ (tdiv_abs d1) (tdiv_abs d2) (third_le (c := b) hp1)
      rw [Nat.mul_right_comm a.natAbs] at this
      dsimp only
      rw [Nat.mul_right_comm (a.tdiv ↑P).natAbs]
      exact this
    · rw [if_neg (by rw [e]; decide), if_neg (by rw [e]; decide)]
      have := size_step _ _ _ (tdiv_abs d1) (tdiv_abs d2) (third_le (c := a) hp1)
      dsimp only
      rw [Nat.mul_comm _ a.natAbs, ← Nat.mul_assoc] at this
      rw [show (thirdI a P).natAbs * (b.tdiv ↑P).natAbs * (c.tdiv ↑P).natAbs = (b.tdiv ↑P).natAbs * (c.tdiv ↑P).natAbs * (thirdI a P).natAbs by rw [Nat.mul_assoc, Nat.mul_comm]]
      exact this
theorem norm_prod : ∀ (f : Nat) (t : T3), (normT f t).prod ≤ t.prod
  | 0, _ => Nat.le_refl _
  | f + 1, t => by
    unfold normT
    by_cases h1 : twoD t.a t.b t.c = 1
    · rw [if_pos h1]; exact Nat.le_refl _
    · rw [if_neg h1]
      obtain ⟨s1, s2⟩ := step_prod h1
      exact Nat.le_trans (norm_prod f _) (Nat.le_trans (Nat.le_mul_of_pos_right _ (by omega)) s1)

/-- zeros ahead of a step and behind it -/
def Zero3 (t : T3) (x y z : Int) : Prop := t.a * x * x + t.b * y * y + t.c * z * z = 0
def Carry (F t m : T3) : Prop := ∀ x y z, Zero3 t x y z → Zero3 F (m.a * x) (m.b * y) (m.c * z)
theorem tdiv_back {a : Int} {p : Nat} (h : (p : Int) ∣ a) (x : Int) : a * x * x = (p : Int) * (a.tdiv p * x * x) := by
  conv => lhs; rw [← Int.tdiv_mul_cancel h]
  simp only [Int.mul_assoc, Int.mul_left_comm]
theorem third_back {c : Int} {p : Nat} (m z : Int) : ∃ k, thirdM c p m * z = m * (k * z) ∧ c * (k * z) * (k * z) = (p : Int) * (thirdI c p * z * z) := by
  unfold thirdI thirdM
  by_cases h : c % (p : Int) = 0
  · rw [if_pos h, if_pos h]
    exact ⟨1, by rw [Int.one_mul], by rw [Int.one_mul]; exact tdiv_back (Int.dvd_of_emod_eq_zero h) z⟩
  · rw [if_neg h, if_neg h]
    exact ⟨p, by rw [Int.mul_assoc], by simp only [Int.mul_assoc, Int.mul_left_comm]⟩
theorem step_carry {F t m : T3} (h1 : twoD t.a t.b t.c ≠ 1) (h : Carry F t m) : Carry F (stepI t) (stepM t m) := by
  obtain ⟨a, b, c⟩ := t
  obtain ⟨P, hP⟩ : ∃ P, P = twoD a b c := ⟨_, rfl⟩
  rcases two_cases a b c with ⟨h, _⟩ | ⟨hpr, hk⟩
  · exact absurd h h1
  · intro x y z hz
    unfold stepI Zero3 at hz
    unfold stepM
    dsimp only at hz ⊢
    rw [← hP] at hpr hk hz ⊢
    rcases hk with ⟨e, d1, d2⟩ | ⟨e, d1, d2⟩ | ⟨e, d1, d2⟩
    · rw [if_pos e] at hz ⊢
      dsimp only at hz ⊢
      obtain ⟨k, e1, e2⟩ := third_back (c := c) (p := P) m.c z
      rw [e1]
      refine h x y (k * z) ?_
      unfold Zero3
      dsimp only
      rw [tdiv_back d1, tdiv_back d2, e2, ← Int.mul_add, ← Int.mul_add, hz, Int.mul_zero]
    · rw [if_neg (by rw [e]; decide), if_pos e] at hz ⊢
      dsimp only at hz ⊢
      obtain ⟨k, e1, e2⟩ := third_back (c := b) (p := P) m.b y
      rw [e1]
      refine h x (k * y) z ?_
      unfold Zero3
      dsimp only
      rw [tdiv_back d1, tdiv_back d2, e2, ← Int.mul_add, ← Int.mul_add, hz, Int.mul_zero]
    · rw [if_neg (by rw [e]; decide), if_neg (by rw [e]; decide)] at hz ⊢
      dsimp only at hz ⊢
      obtain ⟨k, e1, e2⟩ := third_back (c := a) (p := P) m.a x
      rw [e1]
      refine h (k * x) y z ?_
      unfold Zero3
      dsimp only
      rw [tdiv_back d1, tdiv_back d2, e2, ← Int.mul_add, ← Int.mul_add, hz, Int.mul_zero]
theorem norm_carry {F : T3} : ∀ (f : Nat) {t m : T3}, Carry F t m → Carry F (normT f t) (normM f t m)
  | 0, _, _, h => h
  | f + 1, t, m, h => by
    unfold normT normM
    by_cases h1 : twoD t.a t.b t.c = 1
    · rw [if_pos h1, if_pos h1]; exact h
    · rw [if_neg h1, if_neg h1]; exact norm_carry f (step_carry h1 h)

/-- sizes of the multipliers: squared, times both other terms, they don't grow -/
def MInv (K : Nat) (t m : T3) : Prop := 1 ≤ m.a ∧ 1 ≤ m.b ∧ 1 ≤ m.c ∧ m.a.natAbs * m.a.natAbs * (t.b.natAbs * t.c.natAbs) ≤ K ∧ m.b.natAbs * m.b.natAbs * (t.a.natAbs * t.c.natAbs) ≤ K ∧ m.c.natAbs * m.c.natAbs * (t.a.natAbs * t.b.natAbs) ≤ K
theorem thirdM_one {c m : Int} {p : Nat} (hp : 1 ≤ p) (hm : 1 ≤ m) : 1 ≤ thirdM c p m := by
  unfold thirdM
  split
  · exact hm
  · have := Int.mul_pos (show 0 < m by omega) (show (0 : Int) < p by omega); omega
theorem thirdM_le {c m : Int} {p : Nat} (hp : 1 ≤ p) : (thirdM c p m).natAbs ≤ m.natAbs * p := by
  unfold thirdM
  split
  · exact Nat.le_mul_of_pos_right _ hp
  · rw [Int.natAbs_mul, Int.natAbs_natCast]; exact Nat.le_refl _
theorem m_third {M m X Y x y p K : Nat} (hM : M ≤ m * p) (hx : X * p = x) (hy : Y * p = y) (h : m * m * (x * y) ≤ K) : M * M * (X * Y) ≤ K := by
  have h1 : M * M * (X * Y) ≤ m * p * (m * p) * (X * Y) := Nat.mul_le_mul_right _ (Nat.mul_le_mul hM hM)
  have h2 : m * p * (m * p) * (X * Y) = m * m * (X * p * (Y * p)) := by simp only [Nat.mul_comm, Nat.mul_left_comm]
  rw [h2, hx, hy] at h1
  exact Nat.le_trans h1 h
theorem m_other {m X Z x z p K : Nat} (hx : X * p = x) (hz : Z ≤ z * p) (h : m * m * (x * z) ≤ K) : m * m * (X * Z) ≤ K := by
  have h1 : m * m * (X * Z) ≤ m * m * (X * (z * p)) := Nat.mul_le_mul_left _ (Nat.mul_le_mul_left _ hz)
  have h2 : X * (z * p) = X * p * z := by rw [Nat.mul_comm z p, Nat.mul_assoc]
  rw [h2, hx] at h1
  exact Nat.le_trans h1 h
theorem step_minv {K : Nat} {t m : T3} (h1 : twoD t.a t.b t.c ≠ 1) (h : MInv K t m) : MInv K (stepI t) (stepM t m) := by
  obtain ⟨a, b, c⟩ := t
  obtain ⟨m1, m2, m3, k1, k2, k3⟩ := h
  obtain ⟨P, hP⟩ : ∃ P, P = twoD a b c := ⟨_, rfl⟩
  rcases two_cases a b c with ⟨h, _⟩ | ⟨hpr, hk⟩
  · exact absurd h h1
  · unfold stepI stepM MInv
    dsimp only at k1 k2 k3 ⊢
    rw [← hP] at hpr hk ⊢
    have hp1 : 1 ≤ P := by have := hpr.1; omega
    rcases hk with ⟨e, d1, d2⟩ | ⟨e, d1, d2⟩ | ⟨e, d1, d2⟩
    · rw [if_pos e, if_pos e]
      exact ⟨m1, m2, thirdM_one hp1 m3, m_other (tdiv_abs d2) (third_le hp1) k1, m_other (tdiv_abs d1) (third_le hp1) k2, m_third (thirdM_le hp1) (tdiv_abs d1) (tdiv_abs d2) k3⟩
    · rw [if_neg (by rw [e]; decide), if_pos e, if_neg (by rw [e]; decide), if_pos e]
      refine ⟨m1, thirdM_one hp1 m2, m3, ?_, m_third (thirdM_le hp1) (tdiv_abs d1) (tdiv_abs d2) k2, m_other (tdiv_abs d1) (third_le hp1) k3⟩
      rw [Nat.mul_comm b.natAbs] at k1
      rw [Nat.mul_comm (thirdI b P).natAbs]
      exact m_other (tdiv_abs d2) (third_le hp1) k1
    · rw [if_neg (by rw [e]; decide), if_neg (by rw [e]; decide), if_neg (by rw [e]; decide), if_neg (by rw [e]; decide)]
      refine ⟨thirdM_one hp1 m1, m2, m3, m_third (thirdM_le hp1) (tdiv_abs d1) (tdiv_abs d2) k1, ?_, ?_⟩
      · rw [Nat.mul_comm a.natAbs] at k2
        rw [Nat.mul_comm (thirdI a P).natAbs]
        exact m_other (tdiv_abs d2) (third_le hp1) k2
      · rw [Nat.mul_comm a.natAbs] at k3
        rw [Nat.mul_comm (thirdI a P).natAbs]
        exact m_other (tdiv_abs d1) (third_le hp1) k3
theorem norm_minv {K : Nat} : ∀ (f : Nat) {t m : T3}, MInv K t m → MInv K (normT f t) (normM f t m)
  | 0, _, _, h => h
  | f + 1, t, m, h => by
    unfold normT normM
    by_cases h1 : twoD t.a t.b t.c = 1
    · rw [if_pos h1, if_pos h1]; exact h
    · rw [if_neg h1, if_neg h1]; exact norm_minv f (step_minv h1 h)

end Go.Proofs.Ytdclmjmefkgbbab

/-! ZMod -/
set_option linter.unusedVariables false
namespace Go.Proofs.Ytdclmjmefkgbbab
open Go.RowKit

theorem prime3 : primeN 3 = true := by decide
theorem plThree : plI 3 = true := by decide
/-- near a number that 9 does not divide, the class at 3 is the same -/
theorem near3 {n w : Int} (h9 : ¬ (9 : Int) ∣ n) (h : (27 : Int) ∣ n - w) : w ≠ 0 ∧ cls w 3 = cls n 3 := by
  have hw : w ≠ 0 := by rintro rfl; exact h9 (by omega)
  refine ⟨hw, ?_⟩
  by_cases h3 : (3 : Int) ∣ n
  · obtain ⟨k, rfl⟩ := h3
    obtain ⟨l, rfl⟩ : (3 : Int) ∣ w := by omega
    have hk : ¬ ((3 : Nat) : Int) ∣ k := by omega
    have hc : cls k ((3 : Nat) : Int) = cls l ((3 : Nat) : Int) := cls_cong prime3 (by decide) hk (by omega)
    rw [cls_mul (by decide) (by omega) plThree, cls_mul (by decide) (by omega) plThree]
    rw [show cls l 3 = cls k 3 from hc.symm]
  · exact (cls_cong prime3 (by decide) (n := n) (m := w) (by omega) (by omega)).symm
theorem near2 {n w : Int} (h4 : ¬ (4 : Int) ∣ n) (h : (32 : Int) ∣ n - w) : w ≠ 0 ∧ cls w 2 = cls n 2 := by
  have hw : w ≠ 0 := by rintro rfl; exact h4 (by omega)
  refine ⟨hw, ?_⟩
  by_cases h2 : n % 2 = 1
  · rw [cls2_odd h2, cls2_odd (show w % 2 = 1 by omega), show w % 8 = n % 8 by omega]
  · obtain ⟨k, rfl⟩ : ∃ k, n = 2 * k := ⟨n / 2, by omega⟩
    obtain ⟨l, rfl⟩ : ∃ l, w = 2 * l := ⟨w / 2, by omega⟩
    rw [cls2_two (show k % 2 = 1 by omega), cls2_two (show l % 2 = 1 by omega), show l % 8 = k % 8 by omega]
theorem unit_sq {p : Nat} (hp : PrG p) {a x : Int} (hx : ¬ (p : Int) ∣ x) (h : ((p * p : Nat) : Int) ∣ a * x * x) : ((p * p : Nat) : Int) ∣ a := by
  rw [Int.ofNat_dvd_left] at hx h ⊢
  rw [Int.mul_assoc, Int.natAbs_mul, Int.natAbs_mul] at h
  have hg : Nat.Coprime p x.natAbs := by
    rcases hp.2 (Nat.gcd p x.natAbs) (Nat.gcd_dvd_left ..) with e | e
    · exact e
    · exact absurd (by conv => lhs; rw [← e]
                       exact Nat.gcd_dvd_right ..) hx
  have hg2 : Nat.Coprime (p * p) (x.natAbs * x.natAbs) := Nat.Coprime.mul_left (Nat.Coprime.mul_right hg hg) (Nat.Coprime.mul_right hg hg)
  exact hg2.dvd_of_dvd_mul_right h

/-- what is needed of a place: near a term times the square of a unit, the class is the term's -/
def NearOk (q M p : Int) : Prop := ∀ a x w : Int, a ≠ 0 → ¬ p * p ∣ a → ¬ p ∣ x → M ∣ a * x * x - w → w ≠ 0 ∧ cls w q = cls a q
theorem near3_ok : NearOk 3 27 3 := fun a x w ha h9 hx h => by
  have hx0 : x ≠ 0 := by rintro rfl; exact hx (Int.dvd_zero _)
  obtain ⟨h1, h2⟩ := near3 (n := a * x * x) (fun hd => h9 (unit_sq (p := 3) (primeN_prG prime3) hx hd)) h
  exact ⟨h1, by rw [h2, Int.mul_assoc]; exact cls_sqI ha hx0 plThree⟩
theorem near2_ok : NearOk 2 32 2 := fun a x w ha h4 hx h => by
  have hx0 : x ≠ 0 := by rintro rfl; exact hx (Int.dvd_zero _)
  obtain ⟨h1, h2⟩ := near2 (n := a * x * x) (fun hd => h4 (unit_sq (p := 2) (primeN_prG prime2) hx hd)) h
  exact ⟨h1, by rw [h2, Int.mul_assoc]; exact cls_sqI ha hx0 plTwo⟩
theorem van2_cls {a b a' b' q : Int} (ha : a ≠ 0) (hb : b ≠ 0) (ha' : a' ≠ 0) (hb' : b' ≠ 0) (h1 : cls a q = cls a' q) (h2 : cls b q = cls b' q) (hq : plI q = true) : vanB [a, b] q = vanB [a', b'] q := by
  rw [vanB_k hq (nz2 ha hb) (by simp) (by simp), vanB_k hq (nz2 ha' hb') (by simp) (by simp)]
  show vanK _ [cls a q, cls b q] = vanK _ [cls a' q, cls b' q]
  rw [h1, h2]
theorem mod_one {q M p a x : Int} (H : NearOk q M p) (ha : a ≠ 0) (fa : ¬ p * p ∣ a) (hx : ¬ p ∣ x) : ¬ M ∣ a * x * x := fun h =>
  (H a x 0 ha fa hx (by rw [Int.sub_zero]; exact h)).1 rfl
theorem mod_two {q M p a b x y : Int} (hq : plI q = true) (H : NearOk q M p) (ha : a ≠ 0) (hb : b ≠ 0) (fa : ¬ p * p ∣ a) (fb : ¬ p * p ∣ b) (hu : ¬ p ∣ x ∨ ¬ p ∣ y) (h : M ∣ a * x * x + b * y * y) : vanB [a, b] q = true := by
  rcases hu with hx | hy
  · obtain ⟨h1, h2⟩ := H a x (-(b * y * y)) ha fa hx (by rw [Int.sub_neg]; exact h)
    rw [van2_cls ha hb h1 hb h2.symm rfl hq]
    exact van2 (x := 1) (y := y) h1 hb (fun h => by omega) (by omega) hq
  · obtain ⟨h1, h2⟩ := H b y (-(a * x * x)) hb fb hy (by rw [Int.sub_neg, Int.add_comm]; exact h)
    rw [van2_cls ha hb ha h1 rfl h2.symm hq]
    exact van2 (x := x) (y := 1) ha h1 (fun h => by omega) (by omega) hq
theorem mod_three {q M p a b c x y z : Int} (hq : plI q = true) (H : NearOk q M p) (ha : a ≠ 0) (hb : b ≠ 0) (hc : c ≠ 0) (fa : ¬ p * p ∣ a) (fb : ¬ p * p ∣ b) (fc : ¬ p * p ∣ c) (hu : ¬ p ∣ x ∨ ¬ p ∣ y ∨ ¬ p ∣ z) (h : M ∣ a * x * x + b * y * y + c * z * z) : vanB [a, b, c] q = true := by
  rcases hu with hx | hy | hz
  · obtain ⟨h1, h2⟩ := H a x (-(b * y * y + c * z * z)) ha fa hx (by rw [Int.sub_neg, ← Int.add_assoc]; exact h)
    rw [van3_cls ha hb hc h1 hb hc h2.symm rfl rfl hq]
    exact van3 (x := 1) (y := y) (z := z) h1 hb hc (fun h => by omega) (by omega) hq
  · obtain ⟨h1, h2⟩ := H b y (-(a * x * x + c * z * z)) hb fb hy (by rw [Int.sub_neg, Int.add_left_comm, ← Int.add_assoc]; exact h)
    rw [van3_cls ha hb hc ha h1 hc rfl h2.symm rfl hq]
    exact van3 (x := x) (y := 1) (z := z) ha h1 hc (fun h => by omega) (by omega) hq
  · obtain ⟨h1, h2⟩ := H c z (-(a * x * x + b * y * y)) hc fc hz (by rw [Int.sub_neg, Int.add_comm]; exact h)
    rw [van3_cls ha hb hc ha hb h1 rfl rfl h2.symm hq]
    exact van3 (x := x) (y := y) (z := 1) ha hb h1 (fun h => by omega) (by omega) hq

/-- a number that is a square at each of its places is a square: by the kernel up to 900 -/
def sqAll (n : Int) : Bool := (placesG n).all (fun q => sqAt n q)
def sqTab (N : Nat) : Bool := (List.range 901).all (fun k => decide (k = 0) || ((!sqAll (k : Int) || (List.range 31).any (fun s => s * s == k)) && !sqAll (-(k : Int))))
set_option maxRecDepth 100000 in
theorem sqTab_all : sqTab 0 = true := by decide +kernel
theorem sq_places {n : Int} (h0 : n ≠ 0) (h1 : -900 ≤ n) (h2 : n ≤ 900) (h : ∀ q ∈ placesG n, sqAt n q = true) : ∃ s : Nat, n = (s : Int) * s ∧ s ≠ 0 := by
  have ha : sqAll n = true := List.all_eq_true.2 h
  have hk := List.all_eq_true.1 sqTab_all n.natAbs (List.mem_range.2 (by omega))
  simp only [Bool.or_eq_true, Bool.and_eq_true, decide_eq_true_eq, Bool.not_eq_true'] at hk
  rcases hk with h | ⟨hk1, hk2⟩
  · exact absurd h (by omega)
  · rcases Int.le_total 0 n with hn | hn
    · rw [Int.natAbs_of_nonneg hn, ha] at hk1
      rcases hk1 with h | h
      · cases h
      · obtain ⟨s, _, e⟩ := List.any_eq_true.1 h
        rw [beq_iff_eq] at e
        refine ⟨s, ?_, ?_⟩
        · rw [← Int.natCast_mul, e]; omega
        · rintro rfl; omega
    · rw [Int.ofNat_natAbs_of_nonpos hn, Int.neg_neg, ha] at hk2
      cases hk2
/-- two terms that vanish everywhere have opposite cores -/
theorem two_opp {a b : Int} (ha : a ≠ 0) (hb : b ≠ 0) (a1 : -30 ≤ a) (a2 : a ≤ 30) (b1 : -30 ≤ b) (b2 : b ≤ 30) (h : ∀ q ∈ placesG (a * b), vanB [a, b] q = true) : coreG a + coreG b = 0 := by
  have hab := Int.mul_ne_zero ha hb
  have hbd : (a * b).natAbs ≤ 30 * 30 := by rw [Int.natAbs_mul]; exact Nat.mul_le_mul (by omega) (by omega)
  have hpl : placesG (-(a * b)) = placesG (a * b) := by unfold placesG; rw [Int.natAbs_neg]
  obtain ⟨s, hs, hs0⟩ := sq_places (n := -(a * b)) (by omega) (by omega) (by omega) (fun q hq => by
    rw [hpl] at hq
    have hv := h q hq
    have hp : prodI [a, b] = a * b := by show a * (b * 1) = _; rw [Int.mul_one]
    by_cases h0 : q = 0
    · subst h0
      unfold vanB at hv
      rw [if_pos rfl, Bool.and_eq_true, decide_eq_true_eq, decide_eq_true_eq] at hv
      unfold lessN at hv
      unfold sqAt
      rw [cls_zero]
      have : 0 < -(a * b) := by
        rcases Int.lt_or_gt_of_ne ha with x | x <;> rcases Int.lt_or_gt_of_ne hb with y | y
        · simp [x, y] at hv
        · have := Int.mul_neg_of_neg_of_pos x y; omega
        · have := Int.mul_neg_of_pos_of_neg x y; omega
        · simp [show ¬ a < 0 by omega, show ¬ b < 0 by omega] at hv
      rw [if_pos this]
      rfl
    · rw [van_two h0 rfl, hp] at hv
      exact hv)
  have e : coreG a = coreG (-b) := core_of_sq (s := (s : Int)) ha (by omega) (by omega) (by rw [Int.mul_neg]; exact hs)
  have e2 : coreG (-b) = -coreG b := by
    have hc := core_is hb
    refine (core_eq (r := rootG b) (by omega) ⟨?_, hc.pos, ?_⟩).1
    · rw [Int.neg_mul, hc.eq]
    · rw [Int.natAbs_neg]; exact hc.free
  omega

end Go.Proofs.Ytdclmjmefkgbbab
