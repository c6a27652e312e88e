/-
  Plain values of chapter 5: what finds a zero, and that it is one.
-/
import Derived.Test.YtbhlgdleklfonaaVals6
set_option linter.unusedVariables false
namespace Go.Proofs.Ytbhlgdleklfonaa
open Go.RowKit

theorem sq_small {u n N : Nat} (h : u * u ≤ N) (hn : N < (n + 1) * (n + 1)) : u ≤ n := by
  refine Classical.byContradiction fun hc => ?_
  have := Nat.mul_le_mul (show n + 1 ≤ u by omega) (show n + 1 ≤ u by omega)
  omega
theorem mx_sq {m x B K : Nat} (hx : x * x ≤ B) (h : m * m * B ≤ K) : m * x * (m * x) ≤ K := by
  have e : m * x * (m * x) = m * m * (x * x) := by simp only [Nat.mul_comm, Nat.mul_left_comm]
  rw [e]
  exact Nat.le_trans (Nat.mul_le_mul_left _ hx) h
theorem z_sq {A B C x y z : Nat} (hC : 0 < C) (h : C * (z * z) ≤ A * (x * x) + B * (y * y)) (hx : x * x ≤ B * C) (hy : y * y ≤ A * C) : z * z ≤ 2 * (A * B) := by
  have h1 := Nat.mul_le_mul_left A hx
  have h2 := Nat.mul_le_mul_left B hy
  have e1 : A * (B * C) = C * (A * B) := by simp only [Nat.mul_comm, Nat.mul_left_comm]
  have e2 : B * (A * C) = C * (A * B) := by simp only [Nat.mul_comm, Nat.mul_left_comm]
  rw [e1] at h1
  rw [e2] at h2
  refine Nat.le_of_mul_le_mul_left ?_ hC
  have e3 : C * (2 * (A * B)) = C * (A * B) + C * (A * B) := by rw [Nat.mul_left_comm]; omega
  rw [e3]
  omega
theorem abs3 {P Q R : Int} (h : P + Q + R = 0) : R.natAbs ≤ P.natAbs + Q.natAbs := by omega
theorem abs_sq (a : Int) (x : Nat) : (a * (x : Int) * (x : Int)).natAbs = a.natAbs * (x * x) := by rw [Int.natAbs_mul, Int.natAbs_mul, Int.natAbs_natCast, Nat.mul_assoc]

/-- what is found of three normal terms, multiplied -/
def vec3 (a b c : Int) (l : List Int) : List Int := [(nM a b c).a * l.getD 0 0, (nM a b c).b * l.getD 1 0, (nM a b c).c * l.getD 2 0]
structure Three (a b c : Int) (v : List Int) : Prop where
  three : ∃ x y z, v = [x, y, z]
  zero : valI [a, b, c] v 3 = 0
  small : ∀ u ∈ v, -60 ≤ u ∧ u ≤ 60
  some : ∃ u ∈ v, u ≠ 0
theorem vec3_ok {a b c : Int} (h : Ok3 a b c) {l : List Int} (hl : searchO (nT a b c) = some l) : Three a b c (vec3 a b c l) := by
  obtain ⟨x, y, z, rfl, hf⟩ := search_found hl
  have hn := h.nrm
  obtain ⟨m1, m2, m3, k1, k2, k3⟩ := hn.minv
  obtain ⟨ta, tb, tc⟩ := hn.nz
  have hz := hn.carry x y z hf.zero
  obtain ⟨t, ht⟩ : ∃ t, t = nT a b c := ⟨_, rfl⟩
  obtain ⟨m, hm⟩ : ∃ m, m = nM a b c := ⟨_, rfl⟩
  unfold vec3
  rw [← ht] at k1 k2 k3 ta tb tc hf
  rw [← hm] at m1 m2 m3 k1 k2 k3 hz ⊢
  have hx := hf.xle
  have hy := hf.yle
  rw [Int.natAbs_mul] at hx hy
  have hzz : z * z ≤ 2 * (t.a.natAbs * t.b.natAbs) := by
    refine z_sq (show 0 < t.c.natAbs by omega) ?_ hx hy
    have := abs3 hf.zero
    rwa [abs_sq, abs_sq, abs_sq] at this
  have ux := sq_small (n := 30) (mx_sq hx k1) (by decide)
  have uy := sq_small (n := 30) (mx_sq hy k2) (by decide)
  have uz : m.c.natAbs * z ≤ 42 := by
    have h1 : m.c.natAbs * m.c.natAbs * (2 * (t.a.natAbs * t.b.natAbs)) ≤ 1800 := by rw [Nat.mul_left_comm]; omega
    exact sq_small (n := 42) (mx_sq hzz h1) (by decide)
  have B : ∀ (k : Int) (u n : Nat), k.natAbs * u ≤ n → -(n : Int) ≤ k * (u : Int) ∧ k * (u : Int) ≤ (n : Int) := fun k u n hu => by
    have e : (k * (u : Int)).natAbs = k.natAbs * u := by rw [Int.natAbs_mul, Int.natAbs_natCast]
    omega
  have bx := B _ _ _ ux
  have by' := B _ _ _ uy
  have bz := B _ _ _ uz
  refine ⟨⟨_, _, _, rfl⟩, ?_, ?_, ?_⟩
  · rw [val3]; exact hz
  · intro u hu
    simp only [List.getD_cons_zero, List.getD_cons_succ, List.mem_cons, List.not_mem_nil, or_false] at hu
    rcases hu with rfl | rfl | rfl <;> omega
  · have hs := hf.some
    by_cases hx0 : x = 0
    · have hy0 : y ≠ 0 := fun e => hs ⟨hx0, e⟩
      exact ⟨m.b * (y : Int), by simp, Int.mul_ne_zero (by omega) (by omega)⟩
    · exact ⟨m.a * (x : Int), by simp, Int.mul_ne_zero (by omega) (by omega)⟩
theorem plain_small {n : Int} {vs : List Int} (hn : 0 ≤ n) (h : ∀ u ∈ vs, -n ≤ u ∧ u ≤ n) : ∀ u ∈ plainL vs, -n ≤ u ∧ u ≤ n := fun u hu => by
  unfold plainL at hu
  obtain ⟨v, hv, rfl⟩ := List.mem_map.1 hu
  have hb := h v hv
  have h1 : ((signL vs * v).tdiv (gcdL vs : Int)).natAbs ≤ v.natAbs := by
    rw [Int.natAbs_tdiv]
    refine Nat.le_trans (Nat.div_le_self _ _) ?_
    rcases signL_pm vs with e | e <;> rw [e] <;> omega
  omega
theorem plain_three {a b c : Int} {v : List Int} (h : Three a b c v) : Three a b c (plainL v) := by
  obtain ⟨⟨x, y, z, rfl⟩, h2, h3, h4⟩ := h
  refine ⟨⟨_, _, _, rfl⟩, ?_, plain_small (by decide) h3, plain_some h4⟩
  have e := plain_back [x, y, z]
  have h5 := val_scale [a, b, c] (signL [x, y, z] * (gcdL [x, y, z] : Int)) (plainL [x, y, z]) 3
  rw [e, h2] at h5
  have hs := sg_ne h4
  rcases Int.mul_eq_zero.1 h5.symm with h6 | h6
  · exact absurd h6 (Int.mul_ne_zero hs hs)
  · exact h6
def threeO (a b c : Int) : Option (List Int) := (searchO (nT a b c)).map (fun l => plainL (vec3 a b c l))
theorem threeO_ok {a b c : Int} (h : Ok3 a b c) {v : List Int} (hv : threeO a b c = some v) : Three a b c v ∧ plainL v = v := by
  unfold threeO at hv
  cases hs : searchO (nT a b c) with
  | none => rw [hs] at hv; cases hv
  | some l =>
    rw [hs] at hv
    cases hv
    have h1 := vec3_ok h hs
    exact ⟨plain_three h1, plain_plain h1.some⟩

/-- four terms: the value at two small integers -/
def vec4 (r x y : Int) (v : List Int) : List Int := [x * v.getD 2 0, y * v.getD 2 0, r * v.getD 0 0, r * v.getD 1 0]
def splitV (a b : Int) (x y : Nat) : Int := a * x * x + b * y * y
def splitO (a b c d : Int) (x y : Nat) : Option (List Int) :=
  if x = 0 ∧ y = 0 then none
  else if splitV a b x y = 0 then some (plainL [(x : Int), (y : Int), 0, 0])
  else if (coreG (splitV a b x y)).natAbs ≤ 30 then (threeO c d (coreG (splitV a b x y))).map (fun v => plainL (vec4 (rootG (splitV a b x y)) x y v))
  else none
def firstR {α : Type} (f : Nat → Option α) (N : Nat) : Option α := (List.range N).findSome? f
theorem firstR_none {α : Type} {f : Nat → Option α} {N : Nat} (h : ∀ i, i < N → f i = none) : firstR f N = none := by
  unfold firstR
  rw [List.findSome?_eq_none_iff]
  exact fun i hi => h i (List.mem_range.1 hi)
theorem firstR_some {α : Type} {f : Nat → Option α} {N k : Nat} {a : α} (h : ∀ i, i < k → f i = none) (hk : k < N) (ha : f k = some a) : firstR f N = some a := by
  unfold firstR
  rw [show N = k + (1 + (N - k - 1)) by omega, List.range_add, List.findSome?_append, List.findSome?_eq_none_iff.2 (fun i hi => h i (List.mem_range.1 hi)), Option.none_or, List.range_add, List.map_append, List.findSome?_append]
  simp [ha]
theorem firstR_mem {α : Type} {f : Nat → Option α} {N : Nat} {a : α} (h : firstR f N = some a) : ∃ k, k < N ∧ f k = some a := by
  unfold firstR at h
  obtain ⟨k, h1, hk⟩ := List.exists_of_findSome?_eq_some h
  exact ⟨k, List.mem_range.1 h1, hk⟩
def rowF (a b c d : Int) (x : Nat) : Option (List Int) := firstR (splitO a b c d x) 4
def fourO (a b c d : Int) : Option (List Int) := firstR (rowF a b c d) 4
theorem splitV_bd {a b : Int} {x y : Nat} (a1 : -30 ≤ a) (a2 : a ≤ 30) (b1 : -30 ≤ b) (b2 : b ≤ 30) (hx : x ≤ 3) (hy : y ≤ 3) : (-90 ≤ a * x ∧ a * x ≤ 90) ∧ (-270 ≤ a * x * x ∧ a * x * x ≤ 270) ∧ (-90 ≤ b * y ∧ b * y ≤ 90) ∧ (-270 ≤ b * y * y ∧ b * y * y ≤ 270) := by
  have B : ∀ (k : Int) (u : Nat), -30 ≤ k → k ≤ 30 → u ≤ 3 → (-90 ≤ k * (u : Int) ∧ k * (u : Int) ≤ 90) ∧ (-270 ≤ k * (u : Int) * (u : Int) ∧ k * (u : Int) * (u : Int) ≤ 270) := fun k u h1 h2 h3 => by
    have e1 : (k * (u : Int)).natAbs ≤ 30 * 3 := by rw [Int.natAbs_mul, Int.natAbs_natCast]; exact Nat.mul_le_mul (by omega) h3
    have e2 : (k * (u : Int) * (u : Int)).natAbs ≤ 30 * 3 * 3 := by rw [Int.natAbs_mul, Int.natAbs_natCast]; exact Nat.mul_le_mul e1 h3
    omega
  have h1 := B a x a1 a2 hx
  have h2 := B b y b1 b2 hy
  exact ⟨h1.1, h1.2, h2.1, h2.2⟩
theorem root_24 {t : Int} (h0 : t ≠ 0) (h1 : -540 ≤ t) (h2 : t ≤ 540) : 1 ≤ rootG t ∧ rootG t ≤ 23 := by
  obtain ⟨c0, e, _, _, r1⟩ := core_small h0
  refine ⟨r1, sq_small (n := 23) (N := 540) ?_ (by decide)⟩
  have := Nat.le_mul_of_pos_left (rootG t * rootG t) (show 0 < (coreG t).natAbs by omega)
  omega
/-- what a zero of four terms keeps -/
structure Four (a b c d : Int) (v : List Int) : Prop where
  four : ∃ x y z u, v = [x, y, z, u]
  zero : valI [a, b, c, d] v 4 = 0
  small : ∀ u ∈ v, -2000 ≤ u ∧ u ≤ 2000
  some : ∃ u ∈ v, u ≠ 0
theorem plain_four {a b c d : Int} {v : List Int} (h : Four a b c d v) : Four a b c d (plainL v) := by
  obtain ⟨⟨x, y, z, u, rfl⟩, h2, h3, h4⟩ := h
  refine ⟨⟨_, _, _, _, rfl⟩, ?_, plain_small (by decide) h3, plain_some h4⟩
  have e := plain_back [x, y, z, u]
  have h5 := val_scale [a, b, c, d] (signL [x, y, z, u] * (gcdL [x, y, z, u] : Int)) (plainL [x, y, z, u]) 4
  rw [e, h2] at h5
  have hs := sg_ne h4
  rcases Int.mul_eq_zero.1 h5.symm with h6 | h6
  · exact absurd h6 (Int.mul_ne_zero hs hs)
  · exact h6
theorem axis_four {a b c d : Int} {x y : Nat} (hx : x ≤ 3) (hy : y ≤ 3) (h0 : ¬ (x = 0 ∧ y = 0)) (hz : splitV a b x y = 0) : Four a b c d [(x : Int), (y : Int), 0, 0] := by
  refine ⟨⟨_, _, _, _, rfl⟩, ?_, ?_, ?_⟩
  · rw [val4]; unfold splitV at hz; rw [hz]; simp
  · intro u hu
    simp only [List.mem_cons, List.not_mem_nil, or_false] at hu
    omega
  · by_cases hx0 : x = 0
    · exact ⟨(y : Int), by simp, fun e => h0 ⟨hx0, by omega⟩⟩
    · exact ⟨(x : Int), by simp, by omega⟩
theorem vec4_ok {a b c d : Int} {x y : Nat} {v : List Int} (hx : x ≤ 3) (hy : y ≤ 3) (h0 : ¬ (x = 0 ∧ y = 0)) (ht0 : splitV a b x y ≠ 0) (ht1 : -540 ≤ splitV a b x y) (ht2 : splitV a b x y ≤ 540) (h : Three c d (coreG (splitV a b x y)) v) : Four a b c d (vec4 (rootG (splitV a b x y)) x y v) := by
  obtain ⟨⟨p, q, s, rfl⟩, h2, h3, h4⟩ := h
  obtain ⟨r1, r2⟩ := root_24 ht0 ht1 ht2
  have ec := (core_is ht0).eq
  obtain ⟨r, hr⟩ : ∃ r, r = rootG (splitV a b x y) := ⟨_, rfl⟩
  obtain ⟨k, hk⟩ : ∃ k, k = coreG (splitV a b x y) := ⟨_, rfl⟩
  rw [← hr] at r1 r2 ec ⊢
  rw [← hk] at ec h2
  have hp := h3 p (by simp)
  have hq := h3 q (by simp)
  have hs := h3 s (by simp)
  have B : ∀ (u : Nat) (n : Int), u ≤ 23 → -60 ≤ n → n ≤ 60 → -2000 ≤ (u : Int) * n ∧ (u : Int) * n ≤ 2000 := fun u n hu h1 h2 => by
    have : ((u : Int) * n).natAbs ≤ 23 * 60 := by rw [Int.natAbs_mul, Int.natAbs_natCast]; exact Nat.mul_le_mul hu (by omega)
    omega
  refine ⟨⟨_, _, _, _, rfl⟩, ?_, ?_, ?_⟩
  · rw [val3] at h2
    show valI [a, b, c, d] [(x : Int) * s, (y : Int) * s, (r : Int) * p, (r : Int) * q] 4 = 0
    rw [val4]
    unfold splitV at ec
    have e : a * ((x : Int) * s) * ((x : Int) * s) + b * ((y : Int) * s) * ((y : Int) * s) + c * ((r : Int) * p) * ((r : Int) * p) + d * ((r : Int) * q) * ((r : Int) * q) = (a * x * x + b * y * y) * (s * s) + (r : Int) * r * (c * p * p + d * q * q) := by
      simp only [Int.mul_add, Int.add_mul, Int.mul_assoc, Int.mul_comm, Int.mul_left_comm]
      omega
    rw [e, ← ec]
    have e3 : k * ((r : Int) * r) * (s * s) = (r : Int) * r * (k * s * s) := by simp only [Int.mul_assoc, Int.mul_comm, Int.mul_left_comm]
    have e2 : k * ((r : Int) * r) * (s * s) + (r : Int) * r * (c * p * p + d * q * q) = (r : Int) * r * (c * p * p + d * q * q + k * s * s) := by
      rw [e3, Int.mul_add _ _ (k * s * s), Int.add_comm]
    rw [e2, h2, Int.mul_zero]
  · intro u hu
    have g1 := B x s (by omega) hs.1 hs.2
    have g2 := B y s (by omega) hs.1 hs.2
    have g3 := B r p r2 hp.1 hp.2
    have g4 := B r q r2 hq.1 hq.2
    have hu : u ∈ [(x : Int) * s, (y : Int) * s, (r : Int) * p, (r : Int) * q] := hu
    simp only [List.mem_cons, List.not_mem_nil, or_false] at hu
    rcases hu with rfl | rfl | rfl | rfl
    · exact g1
    · exact g2
    · exact g3
    · exact g4
  · show ∃ u ∈ [(x : Int) * s, (y : Int) * s, (r : Int) * p, (r : Int) * q], u ≠ 0
    by_cases hs0 : s = 0
    · obtain ⟨u, hu, hu0⟩ := h4
      simp only [List.mem_cons, List.not_mem_nil, or_false] at hu
      rcases hu with rfl | rfl | rfl
      · exact ⟨(r : Int) * u, by simp, Int.mul_ne_zero (by omega) hu0⟩
      · exact ⟨(r : Int) * u, by simp, Int.mul_ne_zero (by omega) hu0⟩
      · exact absurd hs0 hu0
    · by_cases hx0 : x = 0
      · exact ⟨(y : Int) * s, by simp, Int.mul_ne_zero (fun e => h0 ⟨hx0, by omega⟩) hs0⟩
      · exact ⟨(x : Int) * s, by simp, Int.mul_ne_zero (by omega) hs0⟩
structure Ok4 (a b c d : Int) : Prop where
  a0 : a ≠ 0
  b0 : b ≠ 0
  c0 : c ≠ 0
  d0 : d ≠ 0
  a1 : -30 ≤ a
  a2 : a ≤ 30
  b1 : -30 ≤ b
  b2 : b ≤ 30
  c1 : -30 ≤ c
  c2 : c ≤ 30
  d1 : -30 ≤ d
  d2 : d ≤ 30
theorem ok4_of {a b c d : Int} (h : fvB [a, b, c, d] = true) : Ok4 a b c d := by
  have h1 := (fvB_iff.1 h).1
  have ha := h1 a (by simp)
  have hb := h1 b (by simp)
  have hc := h1 c (by simp)
  have hd := h1 d (by simp)
  exact ⟨ha.1, hb.1, hc.1, hd.1, ha.2.1, ha.2.2, hb.2.1, hb.2.2, hc.2.1, hc.2.2, hd.2.1, hd.2.2⟩
theorem Ok4.ok3 {a b c d t : Int} (h : Ok4 a b c d) (h0 : t ≠ 0) (ht : (coreG t).natAbs ≤ 30) : Ok3 c d (coreG t) :=
  ⟨h.c0, h.d0, (core_small h0).1, h.c1, h.c2, h.d1, h.d2, by omega, by omega⟩
theorem splitO_ok {a b c d : Int} {x y : Nat} (h : Ok4 a b c d) (hx : x ≤ 3) (hy : y ≤ 3) {v : List Int} (hv : splitO a b c d x y = some v) : Four a b c d v ∧ plainL v = v := by
  unfold splitO at hv
  by_cases h0 : x = 0 ∧ y = 0
  · rw [if_pos h0] at hv; cases hv
  · rw [if_neg h0] at hv
    have hb := splitV_bd h.a1 h.a2 h.b1 h.b2 hx hy
    have t1 : -540 ≤ splitV a b x y := by unfold splitV; omega
    have t2 : splitV a b x y ≤ 540 := by unfold splitV; omega
    by_cases hz : splitV a b x y = 0
    · rw [if_pos hz] at hv
      cases hv
      have h1 := axis_four (c := c) (d := d) hx hy h0 hz
      exact ⟨plain_four h1, plain_plain h1.some⟩
    · rw [if_neg hz] at hv
      by_cases hc : (coreG (splitV a b x y)).natAbs ≤ 30
      · rw [if_pos hc] at hv
        cases h3 : threeO c d (coreG (splitV a b x y)) with
        | none => rw [h3] at hv; cases hv
        | some l =>
          rw [h3] at hv
          cases hv
          have h4 := vec4_ok hx hy h0 hz t1 t2 (threeO_ok (h.ok3 hz hc) h3).1
          exact ⟨plain_four h4, plain_plain h4.some⟩
      · rw [if_neg hc] at hv; cases hv
theorem fourO_ok {a b c d : Int} (h : Ok4 a b c d) {v : List Int} (hv : fourO a b c d = some v) : Four a b c d v ∧ plainL v = v := by
  obtain ⟨x, hx, h1⟩ := firstR_mem hv
  obtain ⟨y, hy, h2⟩ := firstR_mem h1
  exact splitO_ok h (by omega) (by omega) h2

/-- what ZeroFind answers -/
def twoO (a b : Int) : Option (List Int) := if coreG a + coreG b = 0 then some (plainL [(rootG b : Int), (rootG a : Int)]) else none
def findL : List Int → Option (List Int)
  | [a, b] => twoO a b
  | [a, b, c] => threeO a b c
  | [a, b, c, d] => fourO a b c d
  | _ => none
def zfindO (xs : List Int) : Option (List Int) := if fvB xs then findL xs else none
theorem two_zero {a b : Int} (ha : a ≠ 0) (hb : b ≠ 0) (h : coreG a + coreG b = 0) : a * (rootG b : Int) * (rootG b : Int) + b * (rootG a : Int) * (rootG a : Int) = 0 := by
  have ea := (core_is ha).eq
  have eb := (core_is hb).eq
  obtain ⟨r, hr⟩ : ∃ r : Int, r = rootG a := ⟨_, rfl⟩
  obtain ⟨s, hs⟩ : ∃ s : Int, s = rootG b := ⟨_, rfl⟩
  obtain ⟨A, hA⟩ : ∃ A, A = coreG a := ⟨_, rfl⟩
  rw [show coreG b = -A by omega] at eb
  rw [← hr] at ea ⊢
  rw [← hs] at eb ⊢
  rw [← hA] at ea
  rw [← ea, ← eb]
  simp only [Int.mul_comm, Int.mul_left_comm, Int.mul_neg]
  omega
theorem root_30 {x : Int} (h0 : x ≠ 0) (h1 : -30 ≤ x) (h2 : x ≤ 30) : 1 ≤ rootG x ∧ rootG x ≤ 5 := by
  obtain ⟨c0, e, _, _, r1⟩ := core_small h0
  refine ⟨r1, sq_small (n := 5) (N := 30) ?_ (by decide)⟩
  have := Nat.le_mul_of_pos_left (rootG x * rootG x) (show 0 < (coreG x).natAbs by omega)
  omega
/-- what is found: a zero, a plain one, of small integers -/
structure Got (xs v : List Int) : Prop where
  zero : zeroB xs v = true
  plain : plainL v = v
  small : ∀ u ∈ v, -2000 ≤ u ∧ u ≤ 2000
theorem got_of {xs v : List Int} (hf : fvB xs = true) (hl : v.length = xs.length) (hz : valI xs v xs.length = 0) (hs : ∃ u ∈ v, u ≠ 0) (hb : ∀ u ∈ v, -2000 ≤ u ∧ u ≤ 2000) (hp : plainL v = v) : Got xs v :=
  ⟨zeroB_iff.2 ⟨fun u hu => by have := hb u hu; omega, hf, hl, hs, hz⟩, hp, hb⟩
theorem find_got {xs v : List Int} (h : zfindO xs = some v) : Got xs v := by
  unfold zfindO at h
  cases hf : fvB xs with
  | false => rw [hf] at h; cases h
  | true =>
    rw [hf, if_pos rfl] at h
    have hb := fvB_iff.1 hf
    have hc : xs.length = 1 ∨ xs.length = 2 ∨ xs.length = 3 ∨ xs.length = 4 := by omega
    rcases hc with e | e | e | e
    · obtain ⟨a, rfl⟩ := list_one e
      cases h
    · obtain ⟨a, b, rfl⟩ := list_two e
      have ha := hb.1 a (by simp)
      have hbb := hb.1 b (by simp)
      have h : twoO a b = some v := h
      unfold twoO at h
      by_cases h0 : coreG a + coreG b = 0
      · rw [if_pos h0] at h
        cases h
        obtain ⟨r1, r2⟩ := root_30 ha.1 ha.2.1 ha.2.2
        obtain ⟨s1, s2⟩ := root_30 hbb.1 hbb.2.1 hbb.2.2
        have hs : ∃ u ∈ [(rootG b : Int), (rootG a : Int)], u ≠ 0 := ⟨(rootG b : Int), by simp, by omega⟩
        have hz : zeroB [a, b] [(rootG b : Int), (rootG a : Int)] = true := zeroB_iff.2 ⟨fun u hu => by
          simp only [List.mem_cons, List.not_mem_nil, or_false] at hu
          omega, hf, rfl, hs, by show valI [a, b] [(rootG b : Int), (rootG a : Int)] 2 = 0; rw [val2]; exact two_zero ha.1 hbb.1 h0⟩
        exact ⟨plain_zero hz, plain_plain hs, plain_small (by decide) fun u hu => by
          simp only [List.mem_cons, List.not_mem_nil, or_false] at hu
          omega⟩
      · rw [if_neg h0] at h; cases h
    · obtain ⟨a, b, c, rfl⟩ := list_three e
      have h1 := threeO_ok (ok3_of hf) (show threeO a b c = some v from h)
      obtain ⟨⟨x, y, z, rfl⟩, h2, h3, h4⟩ := h1.1
      exact got_of hf rfl h2 h4 (fun u hu => by have := h3 u hu; omega) h1.2
    · obtain ⟨a, b, c, d, rfl⟩ := list_four e
      have h1 := fourO_ok (ok4_of hf) (show fourO a b c d = some v from h)
      obtain ⟨⟨x, y, z, w, rfl⟩, h2, h3, h4⟩ := h1.1
      exact got_of hf rfl h2 h4 h3 h1.2

end Go.Proofs.Ytbhlgdleklfonaa
