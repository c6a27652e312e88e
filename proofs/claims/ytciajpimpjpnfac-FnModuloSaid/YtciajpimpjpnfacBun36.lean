/-
  Some texts in one file: Draws1 Draws2 LawCls SymLaw Law3.
-/
import Derived.Test.YtciajpimpjpnfacDraws
import Derived.Test.YtciajpimpjpnfacBun33
import Derived.Test.YtciajpimpjpnfacBun14
import Derived.Test.YtciajpimpjpnfacBun30
/-! Draws1 -/
set_option linter.unusedVariables false
namespace Go.Proofs.Ytciajpimpjpnfac
open Go.RowKit

def Drew1 (P : Int → Prop) (w : World) (e : Ending) (w' : World) : Prop := ∃ x : Int, e = .returned (.int .i64 x) ∧ P x ∧ Below w.heap.size w w'
def Drew2 (P : Int → Int → Prop) (w : World) (e : Ending) (w' : World) : Prop := ∃ x y : Int, e = .returned (.tuple #[.int .i64 x, .int .i64 y]) ∧ P x y ∧ Below w.heap.size w w'
def Drew3 (P : Int → Int → Int → Prop) (w : World) (e : Ending) (w' : World) : Prop := ∃ x y z : Int, e = .returned (.tuple #[.int .i64 x, .int .i64 y, .int .i64 z]) ∧ P x y z ∧ Below w.heap.size w w'
theorem Drew1.mk {P : Int → Prop} {w w' : World} {x : Int} (h : P x) (hb : Below w.heap.size w w') : Drew1 P w (.returned (.int .i64 x)) w' := ⟨x, rfl, h, hb⟩
theorem Drew2.mk {P : Int → Int → Prop} {w w' : World} {x y : Int} (h : P x y) (hb : Below w.heap.size w w') : Drew2 P w (.returned (.tuple #[.int .i64 x, .int .i64 y])) w' := ⟨x, y, rfl, h, hb⟩
theorem Drew3.mk {P : Int → Int → Int → Prop} {w w' : World} {x y z : Int} (h : P x y z) (hb : Below w.heap.size w w') : Drew3 P w (.returned (.tuple #[.int .i64 x, .int .i64 y, .int .i64 z])) w' := ⟨x, y, z, rfl, h, hb⟩
theorem only_below {w w1 w2 : World} (hb : Below w.heap.size w w1) (ho : Only w.heap.size w1 w2) : Below w.heap.size w w2 := hb.trans (ho.below (Nat.le_refl _) hb.size)

/-- ranges -/
def smallI (x : Int) : Prop := -6000 ≤ x ∧ x ≤ 6000
theorem numOk_small {x : Int} (h : numOk x) : -5001 ≤ x ∧ x ≤ 5001 := by unfold numOk at h; omega
theorem prOk_small {x : Int} (h : prOk x) : -3 ≤ x ∧ x ≤ 97 := by unfold prOk at h; omega

set_option maxRecDepth 100000 in
set_option maxHeartbeats 2000000 in
theorem drawCoreOf_any (v : Value) (n : Nat) (w : World) (h : CodeIn w v n) : Calls Try.prog 22 #[v] w (Drew1 numOk w) := by
  go_enter Try.func22, Try.ntmps22
  go_wp2_with fail
  refine (open_any v n _ h).mono ?_
  rintro e w1 ⟨v1, n1, rfl, HR, HB⟩
  have hsz := HB.size
  go_wp2_with fail
  refine (number_any _ _ _ _ 0 (by omega) _ HR (by omega)).mono ?_
  rintro e w2 ⟨x, q, rfl, hx, hq, HA, HO⟩
  have HX := hid hx
  clear hx
  go_wp2
  go_ret
  exact Drew1.mk HX.out (only_below HB HO.out)

end Go.Proofs.Ytciajpimpjpnfac

/-! Draws2 -/
set_option linter.unusedVariables false
namespace Go.Proofs.Ytciajpimpjpnfac
open Go.RowKit

/-- the numbers of l91Local -/
def locOk (x : Int) : Prop := numOk x ∨ ∃ a k : Int, 1 ≤ a ∧ a ≤ 9 ∧ 0 ≤ k ∧ k ≤ 2 ∧ x = a * a * (1 + k * 8)
theorem locOk_small {x : Int} (h : locOk x) : -5001 ≤ x ∧ x ≤ 5001 := by
  rcases h with h | ⟨a, k, a1, a9, k0, k2, rfl⟩
  · exact numOk_small h
  · have h1 : a = 1 ∨ a = 2 ∨ a = 3 ∨ a = 4 ∨ a = 5 ∨ a = 6 ∨ a = 7 ∨ a = 8 ∨ a = 9 := by omega
    rcases h1 with rfl | rfl | rfl | rfl | rfl | rfl | rfl | rfl | rfl <;> omega
/-- the second number of l91Pair -/
def parOk (a b : Int) : Prop := numOk b ∨ ∃ x : Int, 1 ≤ x ∧ x ≤ 8 ∧ b = a * x * x
theorem parOk_small {a b : Int} (ha : numOk a) (h : parOk a b) : -320064 ≤ b ∧ b ≤ 320064 := by
  rcases h with h | ⟨x, x1, x8, rfl⟩
  · have := numOk_small h; omega
  · have := numOk_small ha
    have h1 : x = 1 ∨ x = 2 ∨ x = 3 ∨ x = 4 ∨ x = 5 ∨ x = 6 ∨ x = 7 ∨ x = 8 := by omega
    rcases h1 with rfl | rfl | rfl | rfl | rfl | rfl | rfl | rfl <;> omega

set_option maxRecDepth 100000 in
set_option maxHeartbeats 2000000 in
theorem place_any (B R : Nat) (v : Value) (n p : Nat) (hp : p ≤ 89000) (w : World) (HR : Hid (Rdr w B R v n p)) (hB : B ≤ w.heap.size) :
    Calls Try.prog 72 #[.pointer (some ⟨R, 0, none⟩)] w (NumPost prOk 5 w B R v n p) := by
  go_enter Try.func72, Try.ntmps72
  go_wp2_with fail
  refine (pick_any _ _ _ _ p 5 (by omega) (by omega) (by omega) _ (HR.out)).mono ?_
  rintro e wHA ⟨x, q, rfl, hx0, hx1, _, hq, HA, HO⟩
  replace hx1 := hx1 (by omega)
  have hs := HO.out.size
  by_cases h0 : x = 0
  · have T : (x == 0) = true := by rw [beq_iff_eq]; exact h0
    clear h0
    go_wp2
    go_ret
    exact NumPost.mk rfl (by unfold prOk; omega) (by omega) HA HO.out
  · have T : (x == 0) = false := by rw [beq_eq_false_iff_ne]; exact h0
    clear h0
    go_wp2_with fail
    refine (drawnPrime_any _ _ _ _ q (by omega) _ HA (by omega)).mono ?_
    rintro e w3 ⟨y, r, rfl, hy, hr, HC, HP⟩
    have HY := hid hy
    clear hy
    go_wp2
    go_ret
    exact NumPost.mk rfl HY.out (by omega) HC (HO.out.trans HP.out)

def ParPost (P : Int → Int → Int → Prop) (c : Nat) (w : World) (B R : Nat) (v : Value) (n p : Nat) (e : Ending) (w' : World) : Prop :=
  ∃ (x y z : Int) (q : Nat), e = .returned (.tuple #[.int .i64 x, .int .i64 y, .int .i64 z]) ∧ P x y z ∧ q ≤ p + c ∧ Hid (Rdr w' B R v n q) ∧ Hid (Only R w w')
theorem ParPost.mk {P : Int → Int → Int → Prop} {c : Nat} {w : World} {B R : Nat} {v : Value} {n p q : Nat} {w' : World} {x y z : Int} (h : P x y z) (hq : q ≤ p + c) (hr : Hid (Rdr w' B R v n q)) (ho : Only R w w') : ParPost P c w B R v n p (.returned (.tuple #[.int .i64 x, .int .i64 y, .int .i64 z])) w' :=
  ⟨x, y, z, q, rfl, h, hq, hr, ho⟩
set_option maxRecDepth 100000 in
set_option maxHeartbeats 2000000 in
theorem pair_any (B R : Nat) (v : Value) (n p : Nat) (hp : p ≤ 80000) (w : World) (HR : Hid (Rdr w B R v n p)) (hB : B ≤ w.heap.size) :
    Calls Try.prog 51 #[.pointer (some ⟨R, 0, none⟩)] w (ParPost (fun a b y => numOk a ∧ parOk a b ∧ prOk y) 15 w B R v n p) := by
  go_enter Try.func51, Try.ntmps51
  go_wp2_with fail
  refine (number_any _ _ _ _ p (by omega) _ HR hB).mono ?_
  rintro e w2 ⟨x, q, rfl, hx, hq, HA, HO⟩
  have hs2 := HO.out.size
  have hxs := numOk_small hx
  have HX := hid hx
  clear hx
  go_wp2_with fail
  refine (number_any _ _ _ _ q (by omega) _ HA (by omega)).mono ?_
  rintro e w2b ⟨x2, q2, rfl, hx2, hq2, HA2, HO2⟩
  have hs2b := HO2.out.size
  have HX2 := hid hx2
  clear hx2
  go_wp2_with fail
  refine (pick_any _ _ _ _ q2 4 (by omega) (by omega) (by omega) _ (HA2.out)).mono ?_
  rintro e wHC ⟨t, r, rfl, ht0, ht1, _, hr, HC, HP⟩
  replace ht1 := ht1 (by omega)
  have hs3 := HP.out.size
  by_cases h0 : t = 0
  · have T : (t == 0) = true := by rw [beq_iff_eq]; exact h0
    clear h0
    go_wp2_with fail
    refine (pick_any _ _ _ _ r 8 (by omega) (by omega) (by omega) _ (HC.out)).mono ?_
    rintro e wHD ⟨a, s, rfl, ha0, ha1, _, hs, HD, HQ⟩
    replace ha1 := ha1 (by omega)
    have hs4 := HQ.out.size
    have hb : (x * (1 + a)).natAbs ≤ 5001 * 8 := by rw [Int.natAbs_mul]; exact Nat.mul_le_mul (by omega) (by omega)
    have hb1 : -40008 ≤ x * (1 + a) := by omega
    have hb2 : x * (1 + a) ≤ 40008 := by omega
    have hc : (x * (1 + a) * (1 + a)).natAbs ≤ 40008 * 8 := by rw [Int.natAbs_mul]; exact Nat.mul_le_mul (by omega) (by omega)
    have hc1 : -320064 ≤ x * (1 + a) * (1 + a) := by omega
    have hc2 : x * (1 + a) * (1 + a) ≤ 320064 := by omega
    have HXX : Hid (parOk x (x * (1 + a) * (1 + a))) := hid (.inr ⟨1 + a, by omega, by omega, rfl⟩)
    clear hb hc
    go_wp2_with fail
    refine (place_any _ _ _ _ s (by omega) _ HD (by omega)).mono ?_
    rintro e w3 ⟨y, r2, rfl, hy, hr2, HF, HV⟩
    have HY := hid hy
    clear hy
    go_wp2
    go_ret3
    exact ParPost.mk ⟨HX.out, HXX.out, HY.out⟩ (by omega) HF ((((HO.out.trans HO2.out).trans HP.out).trans HQ.out).trans HV.out)
  · have T : (t == 0) = false := by rw [beq_eq_false_iff_ne]; exact h0
    clear h0
    go_wp2_with fail
    refine (place_any _ _ _ _ r (by omega) _ HC (by omega)).mono ?_
    rintro e w3 ⟨y, r2, rfl, hy, hr2, HF, HV⟩
    have HY := hid hy
    clear hy
    go_wp2
    go_ret3
    exact ParPost.mk ⟨HX.out, .inl HX2.out, HY.out⟩ (by omega) HF (((HO.out.trans HO2.out).trans HP.out).trans HV.out)

end Go.Proofs.Ytciajpimpjpnfac

/-! LawCls -/
set_option linter.unusedVariables false
namespace Go.Proofs.Ytciajpimpjpnfac
open Go.RowKit

theorem comb_self {q : Int} (hq : plI q = true) {c : Nat × Int} (hc : c ∈ clsList q) : comb q c c = (0, 1) := (comb_one hq hc hc).2 rfl
theorem comb_unit {q : Int} (hq : plI q = true) {c : Nat × Int} (hc : c ∈ clsList q) : comb q c (0, 1) = c := by
  rcases plI_cases hq with rfl | rfl | ⟨P, rfl, hP, h3, h5⟩
  · exact (show ∀ c ∈ clsList 0, comb 0 c (0, 1) = c by decide) c hc
  · exact (show ∀ c ∈ clsList 2, comb 2 c (0, 1) = c by decide) c hc
  · have e0 : ¬ ((P : Int) = 0) := by omega
    have e2 : ¬ ((P : Int) = 2) := by omega
    unfold clsList at hc
    rw [if_neg e0, if_neg e2] at hc
    unfold comb
    rw [if_neg e2]
    exact (show ∀ c ∈ [((0 : Nat), (1 : Int)), (0, -1), (1, 1), (1, -1)], (((c.1 + 0) % 2, c.2 * 1) : Nat × Int) = c by decide) c hc
theorem sq_kk {n k q : Int} (hn : n ≠ 0) (hk : k ≠ 0) (hq : plI q = true) (hs : sqAt n q = true) : sqAt (n * k * k) q = true := by
  unfold sqAt at hs ⊢
  rw [beq_iff_eq] at hs ⊢
  rw [Int.mul_assoc, cls_mul hn (Int.mul_ne_zero hk hk) hq, hs, cls_mul hk hk hq, comb_self hq (cls_mem hk hq)]
  unfold comb
  by_cases h2 : q = 2
  · rw [if_pos h2]; rfl
  · rw [if_neg h2]; rfl
theorem name_sq {n q : Int} (hq : plI q = true) (hs : sqAt n q = true) : nameOf n q = 1 := by
  unfold sqAt at hs
  rw [beq_iff_eq] at hs
  unfold nameOf clsIdx
  rw [hs]
  rcases plI_cases hq with rfl | rfl | ⟨P, rfl, hP, h3, h5⟩
  · rfl
  · rfl
  · rw [names_odd h3]
    unfold clsList
    rw [if_neg (by omega), if_neg (by omega)]
    rfl
theorem lrootV_form (n p k : Int) : ∃ (x : Int) (b : Bool), lrootV n p k = .tuple #[.int .i64 x, .bool b] := by
  unfold lrootV
  split
  · unfold rootT
    split
    · exact ⟨_, _, rfl⟩
    · exact ⟨_, _, rfl⟩
  · exact ⟨_, _, rfl⟩
theorem lnameV_form (n q : Int) : ∃ (x : Int) (b : Bool), lnameV n q = .tuple #[.int .i64 x, .bool b] := by
  unfold lnameV; split <;> exact ⟨_, _, rfl⟩
/-- the names at a drawn place are numbers -/
theorem names_drawn {q : Int} (hp : prOk q) (hq : plI q = true) : ∀ m ∈ namesOf q, -5000 ≤ m ∧ m ≤ 5000 := by
  unfold prOk at hp
  rcases hp with rfl | rfl | rfl | rfl | rfl | rfl | rfl | rfl | rfl | rfl | rfl | rfl
  all_goals first | (revert hq; decide +kernel) | decide +kernel
theorem okAt_yes {n q : Int} (h1 : -5000 ≤ n) (h2 : n ≤ 5000) (h0 : n ≠ 0) (hq : plI q = true) : okAt n q = true := by
  unfold okAt; rw [factB_yes h1 h2 h0, hq]; rfl
theorem okAt_split {n q : Int} (h : okAt n q = true) : -5000 ≤ n ∧ n ≤ 5000 ∧ n ≠ 0 ∧ plI q = true := by
  rcases okAt_cases n q with ⟨h1, h2, h0, hq, _⟩ | hno
  · exact ⟨h1, h2, h0, hq⟩
  · rw [h] at hno; cases hno
theorem okAt_name {n q : Int} (hp : prOk q) (h0 : n ≠ 0) (hq : plI q = true) : okAt (nameOf n q) q = true := by
  have := names_drawn hp hq _ (name_mem h0 hq)
  exact okAt_yes this.1 this.2 (name_ne h0 hq) hq
theorem lmulV_yes {a b q : Int} (h : okAt a q = true) (h2 : okAt b q = true) : lmulV a b q = .tuple #[.int .i64 (nameOf (a * b) q), .bool true] := by
  unfold lmulV; rw [h, h2]; rfl
theorem lmulV_no {a b q : Int} (h : (okAt a q && okAt b q) = false) : lmulV a b q = .tuple #[.int .i64 0, .bool false] := by
  unfold lmulV; rw [h]; rfl

/-- a root up to M is one up to each divisor of M -/
theorem root_divides {n : Int} {M D x : Nat} (hD : 1 ≤ D) (hd : D ∣ M) (hM : 1 ≤ M) (h : rootF (n % (M : Int)).toNat M = some x) : ∃ y, rootF (n % (D : Int)).toNat D = some y := by
  unfold rootF at h
  rw [List.find?_range_eq_some] at h
  obtain ⟨h1, h2, _⟩ := h
  rw [beq_iff_eq] at h1
  have h3 := (root_rest (n := n) hM).2 h1
  have hdd : (D : Int) ∣ (x : Int) * x - n := Int.dvd_trans (Int.natCast_dvd_natCast.2 hd) (Int.dvd_of_emod_eq_zero h3)
  have h4 := (root_rest (n := n) (x := x) hD).1 (Int.emod_eq_zero_of_dvd hdd)
  have h5 : (x % D) * (x % D) % D = (n % (D : Int)).toNat := by rw [← Nat.mul_mod]; exact h4
  cases hf : rootF (n % (D : Int)).toNat D with
  | some y => exact ⟨y, rfl⟩
  | none =>
    unfold rootF at hf
    rw [List.find?_eq_none] at hf
    have := hf (x % D) (List.mem_range.2 (Nat.mod_lt _ (by omega)))
    rw [beq_iff_eq] at this
    exact absurd h5 this
theorem rootF_spec {n : Int} {M x : Nat} (hM : 1 ≤ M) (h : rootF (n % (M : Int)).toNat M = some x) : x < M ∧ ((x : Int) * x - n) % (M : Int) = 0 := by
  unfold rootF at h
  rw [List.find?_range_eq_some] at h
  obtain ⟨h1, h2, _⟩ := h
  rw [beq_iff_eq] at h1
  exact ⟨List.mem_range.1 h2, (root_rest (n := n) hM).2 h1⟩

theorem lroot_split {n p k x : Int} {b : Bool} (h : lrootV n p k = .tuple #[.int .i64 x, .bool b]) : b = false ∨ ∃ P K X : Nat, p = (P : Int) ∧ k = (K : Int) ∧ x = (X : Int) ∧ b = true ∧ primeN P = true ∧ 2 ≤ P ∧ P ≤ 5000 ∧ okN n = true ∧ 1 ≤ K ∧ K ≤ 12 ∧ P ^ K ≤ 5000 ∧ rootF (n % ((P ^ K : Nat) : Int)).toNat (P ^ K) = some X := by
  cases hO : lrootOk n p k with
  | false =>
    rw [lrootV_no hO] at h
    simp only [Value.tuple.injEq, Array.mk.injEq, List.cons.injEq, Value.bool.injEq] at h
    exact .inl h.2.1.symm
  | true =>
    have hO2 := hO
    unfold lrootOk at hO2
    rw [Bool.and_eq_true, Bool.and_eq_true, Bool.and_eq_true] at hO2
    obtain ⟨o1, o2, o3, o4⟩ := hO2
    have hpb := primeI_bd o2
    have hk : 1 ≤ k ∧ k ≤ 12 := by rcases inR_cases k 1 12 with ⟨a, b, _⟩ | ⟨_, c⟩ | ⟨_, _, c⟩; (· exact ⟨a, b⟩); (· rw [o3] at c; cases c); (· rw [o3] at c; cases c)
    obtain ⟨P, rfl⟩ := Int.eq_ofNat_of_zero_le (show 0 ≤ p by omega)
    obtain ⟨K, rfl⟩ := Int.eq_ofNat_of_zero_le (show 0 ≤ k by omega)
    have o5 := of_decide_eq_true o4
    rw [Int.toNat_natCast, Int.toNat_natCast] at o5
    unfold lrootV at h
    rw [if_pos hO, Int.toNat_natCast, Int.toNat_natCast] at h
    cases hr : rootF (n % ((P ^ K : Nat) : Int)).toNat (P ^ K) with
    | none =>
      rw [hr] at h
      unfold rootT at h
      simp only [Value.tuple.injEq, Array.mk.injEq, List.cons.injEq, Value.bool.injEq] at h
      exact .inl h.2.1.symm
    | some X =>
      rw [hr] at h
      unfold rootT at h
      simp only [Value.tuple.injEq, Array.mk.injEq, List.cons.injEq, Value.bool.injEq, Value.int.injEq, true_and] at h
      exact .inr ⟨P, K, X, rfl, rfl, h.1.symm, h.2.1.symm, o2, by omega, by omega, o1, by omega, by omega, o5, hr⟩

/-- all numbers that l91Local draws -/
def drawnL : List Int := (List.range 119).map (fun (k : Nat) => (k : Int)) ++ ((List.range 119).map (fun (k : Nat) => -(k : Int)) ++ ([5000, 5001, -5001, 4096, 3969] ++ (List.range 10).flatMap (fun a => (List.range 3).map (fun k => ((a * a * (1 + k * 8) : Nat) : Int)))))
theorem drawn_mem {x : Int} (h : locOk x) : x ∈ drawnL := by
  unfold drawnL
  rw [List.mem_append, List.mem_append, List.mem_append]
  rcases h with h | ⟨a, k, a1, a9, k0, k2, rfl⟩
  · unfold numOk at h
    rcases h with ⟨h1, h2⟩ | h
    · by_cases h0 : 0 ≤ x
      · left; rw [List.mem_map]; exact ⟨x.toNat, List.mem_range.2 (by omega), by omega⟩
      · right; left; rw [List.mem_map]; exact ⟨x.natAbs, List.mem_range.2 (by omega), by omega⟩
    · right; right; left
      rcases h with rfl | rfl | rfl | rfl | rfl <;> decide
  · right; right; right
    rw [List.mem_flatMap]
    refine ⟨a.toNat, List.mem_range.2 (by omega), List.mem_map.2 ⟨k.toNat, List.mem_range.2 (by omega), ?_⟩⟩
    push_cast
    rw [Int.toNat_of_nonneg (by omega), Int.toNat_of_nonneg k0]

end Go.Proofs.Ytciajpimpjpnfac

/-! SymLaw -/
set_option linter.unusedVariables false
namespace Go.Proofs.Ytciajpimpjpnfac
open Go.RowKit

theorem symOf_yes {a b q : Int} (h : okAB a b = true) (hq : plI q = true) : symOfV a b q = symV a b q := by unfold symOfV; rw [h, hq]; rfl
theorem okAB_of {a b q : Int} (h1 : okAt a q = true) (h2 : okAt b q = true) : okAB a b = true := by
  unfold okAt at h1 h2
  unfold okAB
  rw [Bool.and_eq_true] at h1 h2
  rw [h1.1, h2.1]; rfl
theorem okAt_minus {a q : Int} (h : okAt a q = true) : okAt (0 - a) q = true := by
  obtain ⟨h1, h2, h0, hq⟩ := okAt_split h
  exact okAt_yes (by omega) (by omega) (by omega) hq
theorem symbol_split (a b q : Int) : symOfV a b q = 0 ∨ (okAt a q = true ∧ okAt b q = true ∧ symOfV a b q = symV a b q ∧ (symV a b q = 1 ∨ symV a b q = -1)) := by
  unfold symOfV
  by_cases h : (okAB a b && plI q) = true
  · rw [if_pos h]
    rw [Bool.and_eq_true] at h
    rcases okAB_cases a b with ⟨a1, a2, a0, b1, b2, b0, _⟩ | hO
    · exact .inr ⟨okAt_yes a1 a2 a0 h.2, okAt_yes b1 b2 b0 h.2, rfl, symV_val a0 b0 h.2⟩
    · rw [h.1] at hO; cases hO
  · rw [if_neg h]; exact .inl rfl

end Go.Proofs.Ytciajpimpjpnfac

/-! Law3 -/
set_option linter.unusedVariables false
namespace Go.Proofs.Ytciajpimpjpnfac
open Go.RowKit

theorem sym_away2 {a b : Int} {P : Nat} (hP : primeN P = true) (h3 : 3 ≤ P) (ha : ¬ P ∣ a.natAbs) (hb : ¬ P ∣ b.natAbs) : symV a b (P : Int) = 1 :=
  sym_units hP h3 (by rw [Int.ofNat_dvd_left]; exact ha) (by rw [Int.ofNat_dvd_left]; exact hb)
/-- the places with the symbol -1 -/
theorem mem_spl {a b q : Int} (O : okAB a b = true) : q ∈ splL a b ↔ plI q = true ∧ symV a b q = -1 := by
  rcases okAB_cases a b with ⟨a1, a2, a0, b1, b2, b0, _⟩ | hO
  · have hab := Int.mul_ne_zero a0 b0
    obtain ⟨_, _, s3⟩ := plistG_spec (show 0 < (a * b).natAbs by omega)
    unfold splL
    rw [O, if_pos rfl, List.mem_filter, decide_eq_true_eq]
    constructor
    · rintro ⟨h1, h2⟩
      exact ⟨placesG_pl a0 b0 a1 a2 b1 b2 q h1, h2⟩
    · rintro ⟨hq, h2⟩
      refine ⟨?_, h2⟩
      rcases plI_cases hq with rfl | rfl | ⟨P, rfl, hP, h3, h5⟩
      · unfold placesG; simp
      · unfold placesG; simp
      · by_cases hd : P ∣ (a * b).natAbs
        · unfold placesG
          simp only [List.cons_append, List.nil_append, List.mem_cons]
          right; right
          refine List.mem_filter.2 ⟨?_, decide_eq_true (by omega)⟩
          unfold natsI
          exact List.mem_map.2 ⟨P, s3 P (primeN_prG hP) hd, rfl⟩
        · rw [Int.natAbs_mul] at hd
          rw [sym_away2 hP h3 (fun h => hd (Nat.dvd_mul_right_of_dvd h _)) (fun h => hd (Nat.dvd_mul_left_of_dvd h _))] at h2
          cases h2
  · rw [O] at hO; cases hO
theorem spl_comm (a b : Int) : splL a b = splL b a := by
  unfold splL
  rw [show okAB b a = okAB a b by unfold okAB; exact Bool.and_comm _ _, Int.mul_comm b a]
  rcases okAB_cases a b with ⟨a1, a2, a0, b1, b2, b0, O⟩ | O
  · rw [O, if_pos rfl, if_pos rfl]
    refine List.filter_congr fun q hq => ?_
    rw [symV_comm a0 b0 (placesG_pl a0 b0 a1 a2 b1 b2 q hq)]
  · rw [O, if_neg (by decide), if_neg (by decide)]
theorem same_sym {a b c d q : Int} (h : sym4 a b c d = true) (hq : plI q = true) : symV a b q = symV c d q := by
  unfold sym4 at h
  rw [Bool.and_eq_true, Bool.and_eq_true, decide_eq_true_eq] at h
  obtain ⟨O1, O2, e⟩ := h
  rcases okAB_cases a b with ⟨_, _, a0, _, _, b0, _⟩ | hO
  · rcases okAB_cases c d with ⟨_, _, c0, _, _, d0, _⟩ | hO
    · have h1 := mem_spl (q := q) O1
      have h2 := mem_spl (q := q) O2
      rw [e, h2] at h1
      simp only [hq, true_and] at h1
      rcases symV_val a0 b0 hq with e1 | e1 <;> rcases symV_val c0 d0 hq with e2 | e2 <;> rw [e1, e2] at h1 ⊢
      · exact absurd (h1.1 rfl) (by decide)
      · exact absurd (h1.2 rfl) (by decide)
    · rw [O2] at hO; cases hO
  · rw [O1] at hO; cases hO

/-- ways depend on the rests alone -/
theorem wayB_mod (a b : Int) (P x y z : Nat) : wayB a b P x y z = wayB (a % (P : Int)) (b % (P : Int)) P x y z := by
  unfold wayB
  congr 2
  simp only [Int.sub_emod, Int.add_emod, Int.mul_emod, Int.emod_emod_of_dvd _ (Int.dvd_refl (P : Int))]
theorem cntZ_mod (a b : Int) (P x y : Nat) : ∀ Z, cntZ a b P x y Z = cntZ (a % (P : Int)) (b % (P : Int)) P x y Z
  | 0 => rfl
  | Z + 1 => by unfold cntZ; rw [cntZ_mod a b P x y Z, wayB_mod]
theorem cntY_mod (a b : Int) (P x : Nat) : ∀ Y, cntY a b P x Y = cntY (a % (P : Int)) (b % (P : Int)) P x Y
  | 0 => rfl
  | Y + 1 => by unfold cntY; rw [cntY_mod a b P x Y, cntZ_mod]
theorem cntX_mod (a b : Int) (P : Nat) : ∀ X, cntX a b P X = cntX (a % (P : Int)) (b % (P : Int)) P X
  | 0 => rfl
  | X + 1 => by unfold cntX; rw [cntX_mod a b P X, cntY_mod]
/-- the same count by squares -/
def wayN (a b : Nat) (P : Nat) : Nat := ((List.range P).flatMap (fun x => (List.range P).map (fun y => ((List.range P).filter (fun z => decide (z * z % P = (a * x * x + b * y * y) % P))).length))).sum
def waysOk (P : Nat) : Bool := (List.range P).all (fun a => (List.range P).all (fun b => decide ((a = 0) ≠ (b = 0)) || cntX (a : Int) (b : Int) P P == P * P - 1))
theorem waysOk3 : waysOk 3 = true := by decide +kernel
theorem waysOk5 : waysOk 5 = true := by decide +kernel
theorem waysOk7 : waysOk 7 = true := by decide +kernel

end Go.Proofs.Ytciajpimpjpnfac
