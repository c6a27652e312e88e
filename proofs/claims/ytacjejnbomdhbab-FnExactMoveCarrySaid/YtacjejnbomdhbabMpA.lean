/-
  Fractions in lowest terms over one denominator: plain arithmetic.
-/
import Derived.Test.YtacjejnbomdhbabQBun19
set_option linter.unusedVariables false
namespace Go.Proofs.Ytacjejnbomdhbab
open Go.RowKit

/-- a over b is N over D, in lowest terms -/
structure Fr (a b N D : Int) : Prop where
  pos : 1 ≤ b
  cop : Nat.gcd a.natAbs b.natAbs = 1
  eq : a * D = N * b
def gF (n d : Int) : Int := sgF d * (Nat.gcd n.natAbs d.natAbs : Nat)
def numF (n d : Int) : Int := n.tdiv (gF n d)
def denF (n d : Int) : Int := d.tdiv (gF n d)
theorem gF_ne {n d : Int} (h : d ≠ 0) : gF n d ≠ 0 := by
  unfold gF
  have hg : 0 < Nat.gcd n.natAbs d.natAbs := Nat.gcd_pos_of_pos_right _ (by omega)
  rcases sgF_pm d with e | e <;> rw [e] <;> omega
theorem gF_dvd (n d : Int) : gF n d ∣ n ∧ gF n d ∣ d := by
  unfold gF
  have h1 : ((Nat.gcd n.natAbs d.natAbs : Nat) : Int) ∣ n := Int.ofNat_dvd_left.2 (Nat.gcd_dvd_left _ _)
  have h2 : ((Nat.gcd n.natAbs d.natAbs : Nat) : Int) ∣ d := Int.ofNat_dvd_left.2 (Nat.gcd_dvd_right _ _)
  rcases sgF_pm d with e | e <;> rw [e]
  · rw [Int.one_mul]; exact ⟨h1, h2⟩
  · rw [Int.neg_mul, Int.one_mul, Int.neg_dvd, Int.neg_dvd]; exact ⟨h1, h2⟩
theorem num_mul (n d : Int) : n = gF n d * numF n d := by
  unfold numF
  rw [Int.mul_comm]; exact (Int.tdiv_mul_cancel (gF_dvd n d).1).symm
theorem den_mul (n d : Int) : d = gF n d * denF n d := by
  unfold denF
  rw [Int.mul_comm]; exact (Int.tdiv_mul_cancel (gF_dvd n d).2).symm
theorem gF_abs (n d : Int) : (gF n d).natAbs = Nat.gcd n.natAbs d.natAbs := by
  unfold gF
  rcases sgF_pm d with e | e <;> rw [e] <;> omega
theorem fr_of {n d : Int} (h : d ≠ 0) : Fr (numF n d) (denF n d) n d := by
  have hg := gF_ne (n := n) h
  have h1 := num_mul n d
  have h2 := den_mul n d
  have ha := gF_abs n d
  have hsg : gF n d = sgF d * (Nat.gcd n.natAbs d.natAbs : Nat) := rfl
  generalize numF n d = a at *
  generalize denF n d = b at *
  generalize gF n d = g at *
  refine ⟨?_, ?_, ?_⟩
  · have hgp : 0 < Nat.gcd n.natAbs d.natAbs := Nat.gcd_pos_of_pos_right _ (by omega)
    unfold sgF at hsg
    refine Classical.byContradiction fun hc => ?_
    have hb : b ≤ 0 := by omega
    split at hsg
    · have := Int.mul_nonneg_of_nonpos_of_nonpos (a := g) (b := b) (by omega) hb
      omega
    · have := Int.mul_nonpos_of_nonneg_of_nonpos (a := g) (b := b) (by omega) hb
      omega
  · have e : Nat.gcd n.natAbs d.natAbs = g.natAbs * Nat.gcd a.natAbs b.natAbs := by
      conv => lhs; rw [h1, h2]
      rw [Int.natAbs_mul, Int.natAbs_mul, Nat.gcd_mul_left]
    rw [← ha] at e
    have hgp : 0 < g.natAbs := by omega
    exact Nat.eq_of_mul_eq_mul_left hgp (by omega)
  · rw [h1, h2]; grind
theorem Fr.change {a b N D N' D' : Int} (h : Fr a b N D) (hD : D ≠ 0) (he : N * D' = N' * D) : Fr a b N' D' := by
  refine ⟨h.pos, h.cop, ?_⟩
  have e := h.eq
  refine Int.eq_of_mul_eq_mul_left hD ?_
  have : D * (a * D') = (a * D) * D' := by grind
  rw [this, e]
  have : N * b * D' = (N * D') * b := by grind
  rw [this, he]
  grind
theorem cop_dvd {a b c : Int} (hc : Nat.gcd a.natAbs b.natAbs = 1) (h : b ∣ a * c) : b ∣ c := by
  have h1 : b.natAbs ∣ a.natAbs * c.natAbs := by rw [← Int.natAbs_mul]; exact Int.natAbs_dvd_natAbs.2 h
  exact Int.natAbs_dvd_natAbs.1 (Nat.Coprime.dvd_of_dvd_mul_left (Nat.Coprime.symm hc) h1)
theorem Fr.den {a b N D : Int} (h : Fr a b N D) : b ∣ D := cop_dvd h.cop ⟨N, by rw [h.eq, Int.mul_comm]⟩
theorem Fr.num {a b N D : Int} (h : Fr a b N D) : a ∣ N := cop_dvd (by rw [Nat.gcd_comm]; exact h.cop) ⟨D, by rw [Int.mul_comm b N, ← h.eq]⟩
theorem abs_le {a N : Int} {m : Int} (h : a ∣ N) (hN : N = 0 → a = 0) (hm : 0 ≤ m) (h1 : -m ≤ N) (h2 : N ≤ m) : -m ≤ a ∧ a ≤ m := by
  by_cases e : N = 0
  · have := hN e; omega
  · have := Nat.le_of_dvd (by omega : 0 < N.natAbs) (Int.natAbs_dvd_natAbs.2 h)
    omega
theorem Fr.num_bd {a b N D m : Int} (h : Fr a b N D) (hD : D ≠ 0) (hm : 0 ≤ m) (h1 : -m ≤ N) (h2 : N ≤ m) : -m ≤ a ∧ a ≤ m := abs_le h.num (fun e => by
  have := h.eq
  rw [e, Int.zero_mul] at this
  exact (Int.mul_eq_zero.1 this).resolve_right hD) hm h1 h2
theorem Fr.den_bd {a b N D m : Int} (h : Fr a b N D) (hD : D ≠ 0) (h1 : -m ≤ D) (h2 : D ≤ m) : 1 ≤ b ∧ b ≤ m := by
  have := Nat.le_of_dvd (by omega : 0 < D.natAbs) (Int.natAbs_dvd_natAbs.2 h.den)
  have := h.pos
  omega
/-- the least multiple of both, as the program finds it -/
def lcmI (a b : Int) : Int := a.tdiv (Nat.gcd a.natAbs b.natAbs : Nat) * b
theorem lcmI_nat {a b : Int} (ha : 1 ≤ a) (hb : 1 ≤ b) : lcmI a b = (Nat.lcm a.natAbs b.natAbs : Nat) := by
  obtain ⟨x, rfl⟩ := Int.eq_ofNat_of_zero_le (show 0 ≤ a by omega)
  obtain ⟨y, rfl⟩ := Int.eq_ofNat_of_zero_le (show 0 ≤ b by omega)
  unfold lcmI
  rw [Int.natAbs_natCast, Int.natAbs_natCast]
  have : ((x : Int).tdiv ((Nat.gcd x y : Nat) : Int)) = ((x / Nat.gcd x y : Nat) : Int) := rfl
  rw [this]
  have e : Nat.lcm x y = x / Nat.gcd x y * y := by
    rw [Nat.lcm]
    rw [Nat.div_mul_right_comm (Nat.gcd_dvd_left x y)]
  rw [e]
  push_cast
  rfl
theorem lcmI_pos {a b : Int} (ha : 1 ≤ a) (hb : 1 ≤ b) : 1 ≤ lcmI a b := by
  rw [lcmI_nat ha hb]
  have := Nat.lcm_pos (m := a.natAbs) (n := b.natAbs) (by omega) (by omega)
  omega
theorem lcmI_dvd {a b : Int} (ha : 1 ≤ a) (hb : 1 ≤ b) : a ∣ lcmI a b ∧ b ∣ lcmI a b := by
  rw [lcmI_nat ha hb]
  exact ⟨Int.natAbs_dvd.1 (Int.natCast_dvd_natCast.2 (Nat.dvd_lcm_left _ _)), Int.natAbs_dvd.1 (Int.natCast_dvd_natCast.2 (Nat.dvd_lcm_right _ _))⟩
theorem lcmI_least {a b D : Int} (ha : 1 ≤ a) (hb : 1 ≤ b) (h1 : a ∣ D) (h2 : b ∣ D) : lcmI a b ∣ D := by
  rw [lcmI_nat ha hb]
  exact Int.ofNat_dvd_left.2 (Nat.lcm_dvd (Int.natAbs_dvd_natAbs.2 h1) (Int.natAbs_dvd_natAbs.2 h2))
/-- the numerator above a multiple of the denominator -/
def overF (a b L : Int) : Int := a * L.tdiv b
theorem over_eq {a b N D L g : Int} (h : Fr a b N D) (hb : b ∣ L) (hD : D = g * L) (h0 : D ≠ 0) : N = g * overF a b L := by
  unfold overF
  obtain ⟨c, rfl⟩ := hb
  have hb0 : b ≠ 0 := by have := h.pos; omega
  rw [Int.mul_tdiv_cancel_left c hb0]
  have e := h.eq
  rw [hD] at e
  refine Int.eq_of_mul_eq_mul_left hb0 ?_
  grind
theorem over_bd {a b N D L m : Int} (h : Fr a b N D) (hb : b ∣ L) (hL : L ∣ D) (h0 : D ≠ 0) (hm : 0 ≤ m) (h1 : -m ≤ N) (h2 : N ≤ m) : -m ≤ overF a b L ∧ overF a b L ≤ m := by
  obtain ⟨g, hg⟩ := hL
  rw [Int.mul_comm] at hg
  have e := over_eq h hb hg h0
  refine abs_le ⟨g, by rw [e, Int.mul_comm]⟩ (fun en => ?_) hm h1 h2
  rw [en] at e
  have hg0 : g ≠ 0 := by rintro rfl; rw [Int.zero_mul] at hg; exact h0 hg
  exact (Int.mul_eq_zero.1 e.symm).resolve_left hg0
theorem fr_plus {a b N c d M D p q : Int} (h : Fr a b N D) (h2 : Fr c d M D) (h0 : D ≠ 0) (hr : Fr p q (overF a b (lcmI b d) + overF c d (lcmI b d)) (lcmI b d)) : Fr p q (N + M) D := by
  have hp := lcmI_pos h.pos h2.pos
  obtain ⟨g, hg⟩ := lcmI_least h.pos h2.pos h.den h2.den
  rw [Int.mul_comm] at hg
  refine hr.change (by omega) ?_
  rw [over_eq h (lcmI_dvd h.pos h2.pos).1 hg h0, over_eq h2 (lcmI_dvd h.pos h2.pos).2 hg h0, hg]
  grind
theorem fr_times {a b N c d M D E p q : Int} (h : Fr a b N D) (h2 : Fr c d M E) (hr : Fr p q (a * c) (b * d)) : Fr p q (N * M) (D * E) := by
  have e1 := h.eq
  have e2 := h2.eq
  have hb := h.pos
  have hd := h2.pos
  refine hr.change (Int.mul_ne_zero (by omega) (by omega)) ?_
  have : a * c * (D * E) = (a * D) * (c * E) := by grind
  rw [this, e1, e2]
  grind
/-- the least common denominator of fractions -/
def lcmL (l : List (Int × Int)) : Int := l.foldl (fun L f => lcmI L f.2) 1
theorem lcmL_snoc (l : List (Int × Int)) (f : Int × Int) : lcmL (l ++ [f]) = lcmI (lcmL l) f.2 := by unfold lcmL; rw [List.foldl_append]; rfl
def Frs (l : List (Int × Int)) (Ns : List Int) (D : Int) : Prop := l.length = Ns.length ∧ ∀ i, i < l.length → Fr (l.getD i (0, 0)).1 (l.getD i (0, 0)).2 (Ns.getD i 0) D
theorem lcm_all {l : List (Int × Int)} {D : Int} (h : ∀ f ∈ l, 1 ≤ f.2 ∧ f.2 ∣ D) : ∀ K, K ≤ l.length → 1 ≤ lcmL (l.take K) ∧ lcmL (l.take K) ∣ D ∧ ∀ f ∈ l.take K, f.2 ∣ lcmL (l.take K)
  | 0, _ => ⟨by show (1 : Int) ≤ 1; omega, ⟨D, by show D = 1 * D; omega⟩, fun f hf => by simp at hf⟩
  | K + 1, hK => by
    have ih := lcm_all h K (by omega)
    have hm : l[K] ∈ l := List.getElem_mem _
    have hk := h _ hm
    rw [List.take_succ_eq_append_getElem (by omega), lcmL_snoc]
    have hd := lcmI_dvd ih.1 hk.1
    refine ⟨lcmI_pos ih.1 hk.1, lcmI_least ih.1 hk.1 ih.2.1 hk.2, fun f hf => ?_⟩
    rcases List.mem_append.1 hf with hf | hf
    · exact Int.dvd_trans (ih.2.2 f hf) hd.1
    · rw [List.mem_singleton] at hf
      subst hf
      exact hd.2
/-- any multiple of all denominators is a multiple of the least one -/
theorem lcm_least {l : List (Int × Int)} {h : Int} (hp : ∀ f ∈ l, 1 ≤ f.2) (hd : ∀ f ∈ l, f.2 ∣ h) : lcmL l ∣ h := by
  have := (lcm_all (l := l) (D := h) (fun f hf => ⟨hp f hf, hd f hf⟩) l.length (Nat.le_refl _)).2.1
  rwa [List.take_length] at this
def numsL (l : List (Int × Int)) (L : Int) : List Int := l.map fun f => overF f.1 f.2 L
theorem together_is {l : List (Int × Int)} {Ns : List Int} {D : Int} (h : Frs l Ns D) (h0 : D ≠ 0) : plainL (D :: Ns) = lcmL l :: numsL l (lcmL l) := by
  have hmem : ∀ f ∈ l, ∃ N ∈ Ns, Fr f.1 f.2 N D := fun f hf => by
    obtain ⟨i, hi, rfl⟩ := List.getElem_of_mem hf
    have e := h.2 i hi
    rw [List.getD_eq_getElem?_getD, List.getElem?_eq_getElem hi] at e
    refine ⟨Ns.getD i 0, ?_, e⟩
    rw [List.getD_eq_getElem?_getD, List.getElem?_eq_getElem (by rw [← h.1]; exact hi)]
    exact List.getElem_mem _
  have hall := lcm_all (l := l) (D := D) (fun f hf => by
    obtain ⟨N, _, e⟩ := hmem f hf
    exact ⟨e.pos, e.den⟩) l.length (Nat.le_refl _)
  rw [List.take_length] at hall
  obtain ⟨hL, hLD, hdv⟩ := hall
  obtain ⟨g, hg⟩ := hLD
  rw [Int.mul_comm] at hg
  have hg0 : g ≠ 0 := by rintro rfl; rw [Int.zero_mul] at hg; exact h0 hg
  have hN : Ns = (numsL l (lcmL l)).map (fun x => g * x) := by
    refine List.ext_getElem (by unfold numsL; rw [List.length_map, List.length_map, h.1]) fun i h1 h2 => ?_
    have hi : i < l.length := by rw [h.1]; exact h1
    have e := h.2 i hi
    rw [List.getD_eq_getElem?_getD, List.getElem?_eq_getElem hi, List.getD_eq_getElem?_getD, List.getElem?_eq_getElem h1] at e
    have e2 : ((numsL l (lcmL l)).map (fun x => g * x))[i]'h2 = g * overF l[i].1 l[i].2 (lcmL l) := by simp [numsL]
    exact (over_eq e (hdv _ (List.getElem_mem hi)) hg h0).trans e2.symm
  have hone : gcdL (lcmL l :: numsL l (lcmL l)) = 1 := by
    obtain ⟨q, hq⟩ : ∃ q, q = gcdL (lcmL l :: numsL l (lcmL l)) := ⟨_, rfl⟩
    have hqp : 0 < q := by rw [hq]; exact gcdL_pos ⟨lcmL l, List.mem_cons_self .., by omega⟩
    have hq1 : (q : Int) ∣ lcmL l := by rw [hq]; exact gcdL_dvd (List.mem_cons_self ..)
    obtain ⟨t, ht⟩ := hq1
    have hlt : lcmL l ∣ t := by
      refine lcm_least (fun f hf => by obtain ⟨N, _, e⟩ := hmem f hf; exact e.pos) fun f hf => ?_
      obtain ⟨N, _, e⟩ := hmem f hf
      have hq2 : (q : Int) ∣ overF f.1 f.2 (lcmL l) := by
        rw [hq]
        exact gcdL_dvd (List.mem_cons_of_mem _ (List.mem_map.2 ⟨f, hf, rfl⟩))
      obtain ⟨s, hs⟩ := hq2
      obtain ⟨c, hc⟩ := hdv f hf
      have hb0 : f.2 ≠ 0 := by have := e.pos; omega
      unfold overF at hs
      rw [hc, Int.mul_tdiv_cancel_left c hb0] at hs
      refine cop_dvd e.cop ⟨s, ?_⟩
      have hq0 : (q : Int) ≠ 0 := by omega
      refine Int.eq_of_mul_eq_mul_left hq0 ?_
      have e1 : (q : Int) * (f.1 * t) = f.1 * (q * t) := by grind
      rw [e1, ← ht, hc]
      have e2 : f.1 * (f.2 * c) = f.2 * (f.1 * c) := by grind
      rw [e2, hs]
      grind
    have h1 : q ≤ 1 := by
      have h2 := Nat.le_of_dvd (by
        have : t ≠ 0 := by rintro rfl; rw [Int.mul_zero] at ht; omega
        omega) (Int.natAbs_dvd_natAbs.2 hlt)
      have h3 : (lcmL l).natAbs = q * t.natAbs := by rw [ht, Int.natAbs_mul, Int.natAbs_natCast]
      rw [h3] at h2
      have htp : 0 < t.natAbs := by
        have : t ≠ 0 := by rintro rfl; rw [Int.mul_zero] at ht; omega
        omega
      refine Classical.byContradiction fun hc => ?_
      have := Nat.mul_le_mul_right t.natAbs (show 2 ≤ q by omega)
      omega
    omega
  have hs : ∃ v ∈ lcmL l :: numsL l (lcmL l), v ≠ 0 := ⟨lcmL l, List.mem_cons_self .., by omega⟩
  have hp := plain_scale hg0 hs
  rw [List.map_cons, ← hN, ← hg] at hp
  rw [hp]
  unfold plainL
  have e : signL (lcmL l :: numsL l (lcmL l)) = 1 := by unfold signL; rw [if_neg (by omega), if_neg (by omega)]
  rw [e, hone]
  conv => rhs; rw [← List.map_id (lcmL l :: numsL l (lcmL l))]
  exact List.map_congr_left fun v _ => by simp
/-- what the program makes of the fractions of a table is the table in lowest terms -/
theorem together_low {l : List (Int × Int)} {R : List (List Int)} {D : Int} (h : Frs l R.flatten D) (h0 : D ≠ 0) : lcmL l = lowD R D ∧ numsL l (lcmL l) = (lowR R D).flatten := by
  have e := together_is h h0
  rw [← low_plain h0] at e
  injection e with e1 e2
  exact ⟨e1.symm, e2.symm⟩

end Go.Proofs.Ytacjejnbomdhbab
