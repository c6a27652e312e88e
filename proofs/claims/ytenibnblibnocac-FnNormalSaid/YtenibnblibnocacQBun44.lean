/-
  Some texts in one file: Vals7 FmCore Sym4 Prod FmProd ZFind ZNor Zp4.
-/
import Derived.Test.YtenibnblibnocacQBun33
import Derived.Test.YtenibnblibnocacQBun15
import Derived.Test.YtenibnblibnocacQFmCls
import Derived.Test.YtenibnblibnocacQSym3
import Derived.Test.YtenibnblibnocacQLawMath
import Derived.Test.YtenibnblibnocacQBun28
import Derived.Test.YtenibnblibnocacQBun17
import Derived.Test.YtenibnblibnocacQBun25
import Derived.Test.YtenibnblibnocacQBun34
import Derived.Test.YtenibnblibnocacQBun41
import Derived.Test.YtenibnblibnocacQZp3
import Derived.BigQuiet
/-! Vals7 -/
set_option linter.unusedVariables false
namespace Go.Proofs.Ytenibnblibnocac
open Go.RowKit

theorem sq_small {u n N : Nat} (h : u * u ≤ N) (hn : N < (n + 1) * (n + 1)) : u ≤ n := by
  refine Classical.byContradiction fun hc => ?_
  have := Nat.mul_le_mul (show n + 1 ≤ u by omega) (show n + 1 ≤ u by omega)
  omega
theorem mx_sq {m x B K : Nat} (hx : x * x ≤ B) (h : m * m * B ≤ K) : m * x * (m * x) ≤ K := by
  have e : m * x * (m * x) = m * m * (x * x) := by simp only [Nat.mul_comm, Nat.mul_left_comm]
  rw [e]
  exact Nat.le_trans (Nat.mul_le_mul_left _ hx) h
theorem z_sq {A B C x y z : Nat} (hC : 0 < C) (h : C * (z * z) ≤ A * (x * x) + B * (y * y)) (hx : x * x ≤ B * C) (hy : y * y ≤ A * C) : z * z ≤ 2 * (A * B) := by
  have h1 := Nat.mul_le_mul_left A hx
  have h2 := Nat.mul_le_mul_left B hy
  have e1 : A * (B * C) = C * (A * B) := by simp only [Nat.mul_comm, Nat.mul_left_comm]
  have e2 : B * (A * C) = C * (A * B) := by simp only [Nat.mul_comm, Nat.mul_left_comm]
  rw [e1] at h1
  rw [e2] at h2
  refine Nat.le_of_mul_le_mul_left ?_ hC
  have e3 : C * (2 * (A * B)) = C * (A * B) + C * (A * B) := by rw [Nat.mul_left_comm]; omega
  rw [e3]
  omega
theorem abs3 {P Q R : Int} (h : P + Q + R = 0) : R.natAbs ≤ P.natAbs + Q.natAbs := by omega
theorem abs_sq (a : Int) (x : Nat) : (a * (x : Int) * (x : Int)).natAbs = a.natAbs * (x * x) := by rw [Int.natAbs_mul, Int.natAbs_mul, Int.natAbs_natCast, Nat.mul_assoc]

/-- what is found of three normal terms, multiplied -/
def vec3 (a b c : Int) (l : List Int) : List Int := [(nM a b c).a * l.getD 0 0, (nM a b c).b * l.getD 1 0, (nM a b c).c * l.getD 2 0]
structure Three (a b c : Int) (v : List Int) : Prop where
  three : ∃ x y z, v = [x, y, z]
  zero : valI [a, b, c] v 3 = 0
  small : ∀ u ∈ v, -60 ≤ u ∧ u ≤ 60
  some : ∃ u ∈ v, u ≠ 0
theorem vec3_ok {a b c : Int} (h : Ok3 a b c) {l : List Int} (hl : searchO (nT a b c) = some l) : Three a b c (vec3 a b c l) := by
  obtain ⟨x, y, z, rfl, hf⟩ := search_found hl
  have hn := h.nrm
  obtain ⟨m1, m2, m3, k1, k2, k3⟩ := hn.minv
  obtain ⟨ta, tb, tc⟩ := hn.nz
  have hz := hn.carry x y z hf.zero
  obtain ⟨t, ht⟩ : ∃ t, t = nT a b c := ⟨_, rfl⟩
  obtain ⟨m, hm⟩ : ∃ m, m = nM a b c := ⟨_, rfl⟩
  unfold vec3
  rw [← ht] at k1 k2 k3 ta tb tc hf
  rw [← hm] at m1 m2 m3 k1 k2 k3 hz ⊢
  have hx := hf.xle
  have hy := hf.yle
  rw [Int.natAbs_mul] at hx hy
  have hzz : z * z ≤ 2 * (t.a.natAbs * t.b.natAbs) := by
    refine z_sq (show 0 < t.c.natAbs by omega) ?_ hx hy
    have := abs3 hf.zero
    rwa [abs_sq, abs_sq, abs_sq] at this
  have ux := sq_small (n := 30) (mx_sq hx k1) (by decide)
  have uy := sq_small (n := 30) (mx_sq hy k2) (by decide)
  have uz : m.c.natAbs * z ≤ 42 := by
    have h1 : m.c.natAbs * m.c.natAbs * (2 * (t.a.natAbs * t.b.natAbs)) ≤ 1800 := by rw [Nat.mul_left_comm]; omega
    exact sq_small (n := 42) (mx_sq hzz h1) (by decide)
  have B : ∀ (k : Int) (u n : Nat), k.natAbs * u ≤ n → -(n : Int) ≤ k * (u : Int) ∧ k * (u : Int) ≤ (n : Int) := fun k u n hu => by
    have e : (k * (u : Int)).natAbs = k.natAbs * u := by rw [Int.natAbs_mul, Int.natAbs_natCast]
    omega
  have bx := B _ _ _ ux
  have by' := B _ _ _ uy
  have bz := B _ _ _ uz
  refine ⟨⟨_, _, _, rfl⟩, ?_, ?_, ?_⟩
  · rw [val3]; exact hz
  · intro u hu
    simp only [List.getD_cons_zero, List.getD_cons_succ, List.mem_cons, List.not_mem_nil, or_false] at hu
    rcases hu with rfl | rfl | rfl <;> omega
  · have hs := hf.some
    by_cases hx0 : x = 0
    · have hy0 : y ≠ 0 := fun e => hs ⟨hx0, e⟩
      exact ⟨m.b * (y : Int), by simp, Int.mul_ne_zero (by omega) (by omega)⟩
    · exact ⟨m.a * (x : Int), by simp, Int.mul_ne_zero (by omega) (by omega)⟩
theorem plain_small {n : Int} {vs : List Int} (hn : 0 ≤ n) (h : ∀ u ∈ vs, -n ≤ u ∧ u ≤ n) : ∀ u ∈ plainL vs, -n ≤ u ∧ u ≤ n := fun u hu => by
  unfold plainL at hu
  obtain ⟨v, hv, rfl⟩ := List.mem_map.1 hu
  have hb := h v hv
  have h1 : ((signL vs * v).tdiv (gcdL vs : Int)).natAbs ≤ v.natAbs := by
    rw [Int.natAbs_tdiv]
    refine Nat.le_trans (Nat.div_le_self _ _) ?_
    rcases signL_pm vs with e | e <;> rw [e] <;> omega
  omega
theorem plain_three {a b c : Int} {v : List Int} (h : Three a b c v) : Three a b c (plainL v) := by
  obtain ⟨⟨x, y, z, rfl⟩, h2, h3, h4⟩ := h
  refine ⟨⟨_, _, _, rfl⟩, ?_, plain_small (by decide) h3, plain_some h4⟩
  have e := plain_back [x, y, z]
  have h5 := val_scale [a, b, c] (signL [x, y, z] * (gcdL [x, y, z] : Int)) (plainL [x, y, z]) 3
  rw [e, h2] at h5
  have hs := sg_ne h4
  rcases Int.mul_eq_zero.1 h5.symm with h6 | h6
  · exact absurd h6 (Int.mul_ne_zero hs hs)
  · exact h6
def threeO (a b c : Int) : Option (List Int) := (searchO (nT a b c)).map (fun l => plainL (vec3 a b c l))
theorem threeO_ok {a b c : Int} (h : Ok3 a b c) {v : List Int} (hv : threeO a b c = some v) : Three a b c v ∧ plainL v = v := by
  unfold threeO at hv
  cases hs : searchO (nT a b c) with
  | none => rw [hs] at hv; cases hv
  | some l =>
    rw [hs] at hv
    cases hv
    have h1 := vec3_ok h hs
    exact ⟨plain_three h1, plain_plain h1.some⟩

/-- four terms: the value at two small integers -/
def vec4 (r x y : Int) (v : List Int) : List Int := [x * v.getD 2 0, y * v.getD 2 0, r * v.getD 0 0, r * v.getD 1 0]
def splitV (a b : Int) (x y : Nat) : Int := a * x * x + b * y * y
def splitO (a b c d : Int) (x y : Nat) : Option (List Int) :=
  if x = 0 ∧ y = 0 then none
  else if splitV a b x y = 0 then some (plainL [(x : Int), (y : Int), 0, 0])
  else if (coreG (splitV a b x y)).natAbs ≤ 30 then (threeO c d (coreG (splitV a b x y))).map (fun v => plainL (vec4 (rootG (splitV a b x y)) x y v))
  else none
def firstR {α : Type} (f : Nat → Option α) (N : Nat) : Option α := (List.range N).findSome? f
theorem firstR_none {α : Type} {f : Nat → Option α} {N : Nat} (h : ∀ i, i < N → f i = none) : firstR f N = none := by
  unfold firstR
  rw [List.findSome?_eq_none_iff]
  exact fun i hi => h i (List.mem_range.1 hi)
theorem firstR_some {α : Type} {f : Nat → Option α} {N k : Nat} {a : α} (h : ∀ i, i < k → f i = none) (hk : k < N) (ha : f k = some a) : firstR f N = some a := by
  unfold firstR
  rw [show N = k + (1 + (N - k - 1)) by omega, List.range_add, List.findSome?_append, List.findSome?_eq_none_iff.2 (fun i hi => h i (List.mem_range.1 hi)), Option.none_or, List.range_add, List.map_append, List.findSome?_append]
  simp [ha]
theorem firstR_mem {α : Type} {f : Nat → Option α} {N : Nat} {a : α} (h : firstR f N = some a) : ∃ k, k < N ∧ f k = some a := by
  unfold firstR at h
  obtain ⟨k, h1, hk⟩ := List.exists_of_findSome?_eq_some h
  exact ⟨k, List.mem_range.1 h1, hk⟩
def rowF (a b c d : Int) (x : Nat) : Option (List Int) := firstR (splitO a b c d x) 4
def fourO (a b c d : Int) : Option (List Int) := firstR (rowF a b c d) 4
theorem splitV_bd {a b : Int} {x y : Nat} (a1 : -30 ≤ a) (a2 : a ≤ 30) (b1 : -30 ≤ b) (b2 : b ≤ 30) (hx : x ≤ 3) (hy : y ≤ 3) : (-90 ≤ a * x ∧ a * x ≤ 90) ∧ (-270 ≤ a * x * x ∧ a * x * x ≤ 270) ∧ (-90 ≤ b * y ∧ b * y ≤ 90) ∧ (-270 ≤ b * y * y ∧ b * y * y ≤ 270) := by
  have B : ∀ (k : Int) (u : Nat), -30 ≤ k → k ≤ 30 → u ≤ 3 → (-90 ≤ k * (u : Int) ∧ k * (u : Int) ≤ 90) ∧ (-270 ≤ k * (u : Int) * (u : Int) ∧ k * (u : Int) * (u : Int) ≤ 270) := fun k u h1 h2 h3 => by
    have e1 : (k * (u : Int)).natAbs ≤ 30 * 3 := by rw [Int.natAbs_mul, Int.natAbs_natCast]; exact Nat.mul_le_mul (by omega) h3
    have e2 : (k * (u : Int) * (u : Int)).natAbs ≤ 30 * 3 * 3 := by rw [Int.natAbs_mul, Int.natAbs_natCast]; exact Nat.mul_le_mul e1 h3
    omega
  have h1 := B a x a1 a2 hx
  have h2 := B b y b1 b2 hy
  exact ⟨h1.1, h1.2, h2.1, h2.2⟩
theorem root_24 {t : Int} (h0 : t ≠ 0) (h1 : -540 ≤ t) (h2 : t ≤ 540) : 1 ≤ rootG t ∧ rootG t ≤ 23 := by
  obtain ⟨c0, e, _, _, r1⟩ := core_small h0
  refine ⟨r1, sq_small (n := 23) (N := 540) ?_ (by decide)⟩
  have := Nat.le_mul_of_pos_left (rootG t * rootG t) (show 0 < (coreG t).natAbs by omega)
  omega
/-- what a zero of four terms keeps -/
structure Four (a b c d : Int) (v : List Int) : Prop where
  four : ∃ x y z u, v = [x, y, z, u]
  zero : valI [a, b, c, d] v 4 = 0
  small : ∀ u ∈ v, -2000 ≤ u ∧ u ≤ 2000
  some : ∃ u ∈ v, u ≠ 0
theorem plain_four {a b c d : Int} {v : List Int} (h : Four a b c d v) : Four a b c d (plainL v) := by
  obtain ⟨⟨x, y, z, u, rfl⟩, h2, h3, h4⟩ := h
  refine ⟨⟨_, _, _, _, rfl⟩, ?_, plain_small (by decide) h3, plain_some h4⟩
  have e := plain_back [x, y, z, u]
  have h5 := val_scale [a, b, c, d] (signL [x, y, z, u] * (gcdL [x, y, z, u] : Int)) (plainL [x, y, z, u]) 4
  rw [e, h2] at h5
  have hs := sg_ne h4
  rcases Int.mul_eq_zero.1 h5.symm with h6 | h6
  · exact absurd h6 (Int.mul_ne_zero hs hs)
  · exact h6
theorem axis_four {a b c d : Int} {x y : Nat} (hx : x ≤ 3) (hy : y ≤ 3) (h0 : ¬ (x = 0 ∧ y = 0)) (hz : splitV a b x y = 0) : Four a b c d [(x : Int), (y : Int), 0, 0] := by
  refine ⟨⟨_, _, _, _, rfl⟩, ?_, ?_, ?_⟩
  · rw [val4]; unfold splitV at hz; rw [hz]; simp
  · intro u hu
    simp only [List.mem_cons, List.not_mem_nil, or_false] at hu
    omega
  · by_cases hx0 : x = 0
    · exact ⟨(y : Int), by simp, fun e => h0 ⟨hx0, by omega⟩⟩
    · exact ⟨(x : Int), by simp, by omega⟩
theorem vec4_ok {a b c d : Int} {x y : Nat} {v : List Int} (hx : x ≤ 3) (hy : y ≤ 3) (h0 : ¬ (x = 0 ∧ y = 0)) (ht0 : splitV a b x y ≠ 0) (ht1 : -540 ≤ splitV a b x y) (ht2 : splitV a b x y ≤ 540) (h : Three c d (coreG (splitV a b x y)) v) : Four a b c d (vec4 (rootG (splitV a b x y)) x y v) := by
  obtain ⟨⟨p, q, s, rfl⟩, h2, h3, h4⟩ := h
  obtain ⟨r1, r2⟩ := root_24 ht0 ht1 ht2
  have ec := (core_is ht0).eq
  obtain ⟨r, hr⟩ : ∃ r, r = rootG (splitV a b x y) := ⟨_, rfl⟩
  obtain ⟨k, hk⟩ : ∃ k, k = coreG (splitV a b x y) := ⟨_, rfl⟩
  rw [← hr] at r1 r2 ec ⊢
  rw [← hk] at ec h2
  have hp := h3 p (by simp)
  have hq := h3 q (by simp)
  have hs := h3 s (by simp)
  have B : ∀ (u : Nat) (n : Int), u ≤ 23 → -60 ≤ n → n ≤ 60 → -2000 ≤ (u : Int) * n ∧ (u : Int) * n ≤ 2000 := fun u n hu h1 h2 => by
    have : ((u : Int) * n).natAbs ≤ 23 * 60 := by rw [Int.natAbs_mul, Int.natAbs_natCast]; exact Nat.mul_le_mul hu (by omega)
    omega
  refine ⟨⟨_, _, _, _, rfl⟩, ?_, ?_, ?_⟩
  · rw [val3] at h2
    show valI [a, b, c, d] [(x : Int) * s, (y : Int) * s, (r : Int) * p, (r : Int) * q] 4 = 0
    rw [val4]
    unfold splitV at ec
    have e : a * ((x : Int) * s) * ((x : Int) * s) + b * ((y : Int) * s) * ((y : Int) * s) + c * ((r : Int) * p) * ((r : Int) * p) + d * ((r : Int) * q) * ((r : Int) * q) = (a * x * x + b * y * y) * (s * s) + (r : Int) * r * (c * p * p + d * q * q) := by
      simp only [Int.mul_add, Int.add_mul, Int.mul_assoc, Int.mul_comm, Int.mul_left_comm]
      omega
    rw [e, ← ec]
    have e3 : k * ((r : Int) * r) * (s * s) = (r : Int) * r * (k * s * s) := by simp only [Int.mul_assoc, Int.mul_comm, Int.mul_left_comm]
    have e2 : k * ((r : Int) * r) * (s * s) + (r : Int) * r * (c * p * p + d * q * q) = (r : Int) * r * (c * p * p + d * q * q + k * s * s) := by
      rw [e3, Int.mul_add _ _ (k * s * s), Int.add_comm]
    rw [e2, h2, Int.mul_zero]
  · intro u hu
    have g1 := B x s (by omega) hs.1 hs.2
    have g2 := B y s (by omega) hs.1 hs.2
    have g3 := B r p r2 hp.1 hp.2
    have g4 := B r q r2 hq.1 hq.2
    have hu : u ∈ [(x : Int) * s, (y : Int) * s, (r : Int) * p, (r : Int) * q] := hu
    simp only [List.mem_cons, List.not_mem_nil, or_false] at hu
    rcases hu with rfl | rfl | rfl | rfl
    · exact g1
    · exact g2
    · exact g3
    · exact g4
  · show ∃ u ∈ [(x : Int) * s, (y : Int) * s, (r : Int) * p, (r : Int) * q], u ≠ 0
    by_cases hs0 : s = 0
    · obtain ⟨u, hu, hu0⟩ := h4
      simp only [List.mem_cons, List.not_mem_nil, or_false] at hu
      rcases hu with rfl | rfl | rfl
      · exact ⟨(r : Int) * u, by simp, Int.mul_ne_zero (by omega) hu0⟩
      · exact ⟨(r : Int) * u, by simp, Int.mul_ne_zero (by omega) hu0⟩
      · exact absurd hs0 hu0
    · by_cases hx0 : x = 0
      · exact ⟨(y : Int) * s, by simp, Int.mul_ne_zero (fun e => h0 ⟨hx0, by omega⟩) hs0⟩
      · exact ⟨(x : Int) * s, by simp, Int.mul_ne_zero (by omega) hs0⟩
structure Ok4 (a b c d : Int) : Prop where
  a0 : a ≠ 0
  b0 : b ≠ 0
  c0 : c ≠ 0
  d0 : d ≠ 0
  a1 : -30 ≤ a
  a2 : a ≤ 30
  b1 : -30 ≤ b
  b2 : b ≤ 30
  c1 : -30 ≤ c
  c2 : c ≤ 30
  d1 : -30 ≤ d
  d2 : d ≤ 30
theorem ok4_of {a b c d : Int} (h : fvB [a, b, c, d] = true) : Ok4 a b c d := by
  have h1 := (fvB_iff.1 h).1
  have ha := h1 a (by simp)
  have hb := h1 b (by simp)
  have hc := h1 c (by simp)
  have hd := h1 d (by simp)
  exact ⟨ha.1, hb.1, hc.1, hd.1, ha.2.1, ha.2.2, hb.2.1, hb.2.2, hc.2.1, hc.2.2, hd.2.1, hd.2.2⟩
theorem Ok4.ok3 {a b c d t : Int} (h : Ok4 a b c d) (h0 : t ≠ 0) (ht : (coreG t).natAbs ≤ 30) : Ok3 c d (coreG t) :=
  ⟨h.c0, h.d0, (core_small h0).1, h.c1, h.c2, h.d1, h.d2, by omega, by omega⟩
theorem splitO_ok {a b c d : Int} {x y : Nat} (h : Ok4 a b c d) (hx : x ≤ 3) (hy : y ≤ 3) {v : List Int} (hv : splitO a b c d x y = some v) : Four a b c d v ∧ plainL v = v := by
  unfold splitO at hv
  by_cases h0 : x = 0 ∧ y = 0
  · rw [if_pos h0] at hv; cases hv
  · rw [if_neg h0] at hv
    have hb := splitV_bd h.a1 h.a2 h.b1 h.b2 hx hy
    have t1 : -540 ≤ splitV a b x y := by unfold splitV; omega
    have t2 : splitV a b x y ≤ 540 := by unfold splitV; omega
    by_cases hz : splitV a b x y = 0
    · rw [if_pos hz] at hv
      cases hv
      have h1 := axis_four (c := c) (d := d) hx hy h0 hz
      exact ⟨plain_four h1, plain_plain h1.some⟩
    · rw [if_neg hz] at hv
      by_cases hc : (coreG (splitV a b x y)).natAbs ≤ 30
      · rw [if_pos hc] at hv
        cases h3 : threeO c d (coreG (splitV a b x y)) with
        | none => rw [h3] at hv; cases hv
        | some l =>
          rw [h3] at hv
          cases hv
          have h4 := vec4_ok hx hy h0 hz t1 t2 (threeO_ok (h.ok3 hz hc) h3).1
          exact ⟨plain_four h4, plain_plain h4.some⟩
      · rw [if_neg hc] at hv; cases hv
theorem fourO_ok {a b c d : Int} (h : Ok4 a b c d) {v : List Int} (hv : fourO a b c d = some v) : Four a b c d v ∧ plainL v = v := by
  obtain ⟨x, hx, h1⟩ := firstR_mem hv
  obtain ⟨y, hy, h2⟩ := firstR_mem h1
  exact splitO_ok h (by omega) (by omega) h2

/-- what ZeroFind answers -/
def twoO (a b : Int) : Option (List Int) := if coreG a + coreG b = 0 then some (plainL [(rootG b : Int), (rootG a : Int)]) else none
def findL : List Int → Option (List Int)
  | [a, b] => twoO a b
  | [a, b, c] => threeO a b c
  | [a, b, c, d] => fourO a b c d
  | _ => none
def zfindO (xs : List Int) : Option (List Int) := if fvB xs then findL xs else none
theorem two_zero {a b : Int} (ha : a ≠ 0) (hb : b ≠ 0) (h : coreG a + coreG b = 0) : a * (rootG b : Int) * (rootG b : Int) + b * (rootG a : Int) * (rootG a : Int) = 0 := by
  have ea := (core_is ha).eq
  have eb := (core_is hb).eq
  obtain ⟨r, hr⟩ : ∃ r : Int, r = rootG a := ⟨_, rfl⟩
  obtain ⟨s, hs⟩ : ∃ s : Int, s = rootG b := ⟨_, rfl⟩
  obtain ⟨A, hA⟩ : ∃ A, A = coreG a := ⟨_, rfl⟩
  rw [show coreG b = -A by omega] at eb
  rw [← hr] at ea ⊢
  rw [← hs] at eb ⊢
  rw [← hA] at ea
  rw [← ea, ← eb]
  simp only [Int.mul_comm, Int.mul_left_comm, Int.mul_neg]
  omega
theorem root_30 {x : Int} (h0 : x ≠ 0) (h1 : -30 ≤ x) (h2 : x ≤ 30) : 1 ≤ rootG x ∧ rootG x ≤ 5 := by
  obtain ⟨c0, e, _, _, r1⟩ := core_small h0
  refine ⟨r1, sq_small (n := 5) (N := 30) ?_ (by decide)⟩
  have := Nat.le_mul_of_pos_left (rootG x * rootG x) (show 0 < (coreG x).natAbs by omega)
  omega
/-- what is found: a zero, a plain one, of small integers -/
structure Got (xs v : List Int) : Prop where
  zero : zeroB xs v = true
  plain : plainL v = v
  small : ∀ u ∈ v, -2000 ≤ u ∧ u ≤ 2000
theorem got_of {xs v : List Int} (hf : fvB xs = true) (hl : v.length = xs.length) (hz : valI xs v xs.length = 0) (hs : ∃ u ∈ v, u ≠ 0) (hb : ∀ u ∈ v, -2000 ≤ u ∧ u ≤ 2000) (hp : plainL v = v) : Got xs v :=
  ⟨zeroB_iff.2 ⟨fun u hu => by have := hb u hu; omega, hf, hl, hs, hz⟩, hp, hb⟩
theorem find_got {xs v : List Int} (h : zfindO xs = some v) : Got xs v := by
  unfold zfindO at h
  cases hf : fvB xs with
  | false => rw [hf] at h; cases h
  | true =>
    rw [hf, if_pos rfl] at h
    have hb := fvB_iff.1 hf
    have hc : xs.length = 1 ∨ xs.length = 2 ∨ xs.length = 3 ∨ xs.length = 4 := by omega
    rcases hc with e | e | e | e
    · obtain ⟨a, rfl⟩ := list_one e
      cases h
    · obtain ⟨a, b, rfl⟩ := list_two e
      have ha := hb.1 a (by simp)
      have hbb := hb.1 b (by simp)
      have h : twoO a b = some v := h
      unfold twoO at h
      by_cases h0 : coreG a + coreG b = 0
      · rw [if_pos h0] at h
        cases h
        obtain ⟨r1, r2⟩ := root_30 ha.1 ha.2.1 ha.2.2
        obtain ⟨s1, s2⟩ := root_30 hbb.1 hbb.2.1 hbb.2.2
        have hs : ∃ u ∈ [(rootG b : Int), (rootG a : Int)], u ≠ 0 := ⟨(rootG b : Int), by simp, by omega⟩
        have hz : zeroB [a, b] [(rootG b : Int), (rootG a : Int)] = true := zeroB_iff.2 ⟨fun u hu => by
          simp only [List.mem_cons, List.not_mem_nil, or_false] at hu
          omega, hf, rfl, hs, by show valI [a, b] [(rootG b : Int), (rootG a : Int)] 2 = 0; rw [val2]; exact two_zero ha.1 hbb.1 h0⟩
        exact ⟨plain_zero hz, plain_plain hs, plain_small (by decide) fun u hu => by
          simp only [List.mem_cons, List.not_mem_nil, or_false] at hu
          omega⟩
      · rw [if_neg h0] at h; cases h
    · obtain ⟨a, b, c, rfl⟩ := list_three e
      have h1 := threeO_ok (ok3_of hf) (show threeO a b c = some v from h)
      obtain ⟨⟨x, y, z, rfl⟩, h2, h3, h4⟩ := h1.1
      exact got_of hf rfl h2 h4 (fun u hu => by have := h3 u hu; omega) h1.2
    · obtain ⟨a, b, c, d, rfl⟩ := list_four e
      have h1 := fourO_ok (ok4_of hf) (show fourO a b c d = some v from h)
      obtain ⟨⟨x, y, z, w, rfl⟩, h2, h3, h4⟩ := h1.1
      exact got_of hf rfl h2 h4 h3 h1.2

end Go.Proofs.Ytenibnblibnocac

/-! FmCore -/
set_option linter.unusedVariables false
namespace Go.Proofs.Ytenibnblibnocac
open Go.RowKit

theorem core_idem {n : Int} (hn : n ≠ 0) : coreG (coreG n) = coreG n := by
  have h := core_is hn
  exact (core_eq (r := 1) (h.ne hn) ⟨by simp, Nat.le_refl _, h.free⟩).1
theorem core_bd2 {n : Int} (hn : n ≠ 0) : coreG n ≠ 0 ∧ (coreG n).natAbs ≤ n.natAbs := core_bd hn
/-- n times the core of n times x has the core of x -/
theorem core_twice {n x : Int} (hn : n ≠ 0) (hx : x ≠ 0) : coreG (n * coreG (n * x)) = coreG x := by
  have hnx := Int.mul_ne_zero hn hx
  have h := core_is hnx
  have hc := h.ne hnx
  rw [← core_sq (t := (rootG (n * x) : Int)) (Int.mul_ne_zero hn hc) (by have := h.pos; omega), Int.mul_assoc, h.eq,
    show n * (n * x) = x * (n * n) by simp only [Int.mul_comm, Int.mul_left_comm]]
  exact core_sq hx hn
theorem prod_cores : ∀ {xs : List Int}, NZ xs → NZ (xs.map coreG) ∧ ∃ s : Int, s ≠ 0 ∧ prodI (xs.map coreG) * (s * s) = prodI xs
  | [], _ => ⟨fun x hx => by simp at hx, 1, by decide, rfl⟩
  | x :: xs, h => by
    obtain ⟨h1, s, hs, e⟩ := prod_cores h.tail
    have hc := core_is h.head
    have hn := hc.ne h.head
    refine ⟨fun y hy => ?_, s * (rootG x : Int), Int.mul_ne_zero hs (by have := hc.pos; omega), ?_⟩
    · rw [List.map_cons, List.mem_cons] at hy
      rcases hy with rfl | hy
      · exact hn
      · exact h1 y hy
    · show coreG x * prodI (xs.map coreG) * _ = x * prodI xs
      conv => rhs; rw [← hc.eq, ← e]
      simp only [Int.mul_assoc, Int.mul_comm, Int.mul_left_comm]
theorem nz_scale {n : Int} (hn : n ≠ 0) {xs : List Int} (h : NZ xs) : NZ (xs.map (n * ·)) := fun y hy => by
  obtain ⟨x, hx, rfl⟩ := List.mem_map.1 hy
  exact Int.mul_ne_zero hn (h x hx)
theorem times_map (xs : List Int) (n : Int) : timesL xs n = (xs.map (n * ·)).map coreG := by
  unfold timesL
  rw [List.map_map]
  rfl
theorem times_one (xs : List Int) : timesL xs 1 = xs.map coreG := by
  unfold timesL
  congr 1
  funext x
  rw [Int.one_mul]
theorem fv_cores {xs : List Int} (h : fvB xs = true) : fvB (xs.map coreG) = true := by
  obtain ⟨h1, h2, h3⟩ := fvB_iff.1 h
  refine fvB_iff.2 ⟨fun y hy => ?_, by rw [List.length_map]; exact h2, by rw [List.length_map]; exact h3⟩
  obtain ⟨x, hx, rfl⟩ := List.mem_map.1 hy
  have h4 := h1 x hx
  have h5 := core_bd2 h4.1
  exact ⟨h5.1, by omega, by omega⟩
theorem cores_yes {xs : List Int} (h : fvB xs = true) : fcoresL xs = xs.map coreG := by unfold fcoresL; rw [h, if_pos rfl, times_one]
theorem cores_no {xs : List Int} (h : fvB xs = false) : fcoresL xs = [] := by unfold fcoresL; rw [h]; rfl
theorem cores_twice {xs : List Int} (h : fvB xs = true) : fcoresL (xs.map coreG) = xs.map coreG := by
  rw [cores_yes (fv_cores h), List.map_map]
  refine List.map_congr_left fun x hx => ?_
  exact core_idem ((fvB_iff.1 h).1 x hx).1
theorem van_yes {xs : List Int} {q : Int} (h : fvB xs = true) (hq : plI q = true) : fvanV xs q = vanB xs q := by unfold fvanV; rw [h, hq]; rfl
theorem van_no {xs : List Int} {q : Int} (hq : plI q = false) : fvanV xs q = false := by unfold fvanV; rw [hq]; simp
theorem van_cores {xs : List Int} (h : fvB xs = true) (q : Int) : fvanV (xs.map coreG) q = fvanV xs q := by
  cases hq : plI q with
  | false => rw [van_no hq, van_no hq]
  | true =>
    obtain ⟨h1, h2, h3⟩ := fvB_iff.1 h
    rw [van_yes h hq, van_yes (fv_cores h) hq]
    exact van_cls hq (fun x hx => core_cls hx hq) (fv_nz h) h2 h3
theorem less_cores : ∀ {xs : List Int}, NZ xs → lessN (xs.map coreG) = lessN xs
  | [], _ => rfl
  | x :: xs, h => by
    have ih := less_cores h.tail
    have hx := core_sign h.head
    unfold lessN at ih ⊢
    rw [List.map_cons, List.filter_cons, List.filter_cons]
    by_cases e : x < 0
    · rw [decide_eq_true e, decide_eq_true (hx.2 e), if_pos rfl, if_pos rfl, List.length_cons, List.length_cons, ih]
    · rw [decide_eq_false e, decide_eq_false (fun h => e (hx.1 h)), if_neg (by decide), if_neg (by decide), ih]
theorem cores_same {xs : List Int} (h : fvB xs = true) : fsameV (xs.map coreG) xs = true := by
  have hz := fv_nz h
  obtain ⟨h1, s, hs, e⟩ := prod_cores hz
  refine (same_iff (fv_cores h) h).2 ⟨by rw [List.length_map], ?_, fun q hq => ?_⟩
  · rw [← e]; exact (core_sq h1.prod hs).symm
  · by_cases h0 : q = 0
    · unfold alikeB
      rw [if_pos h0, less_cores hz]
      simp
    · rw [alike_def hq h1 hz h0, hasC_cls hq (fun x hx => core_cls hx hq) hz, (sq_cls h1.prod hz.prod hq).2 (prod_cls hq (fun x hx => core_cls hx hq) hz).2]
      simp
theorem scale_prod {n : Int} (hn : n ≠ 0) : ∀ {xs : List Int}, NZ xs → ∃ m : Int, m ≠ 0 ∧ (xs.length % 2 = 0 → prodI (xs.map (n * ·)) = prodI xs * (m * m)) ∧ (xs.length % 2 = 1 → prodI (xs.map (n * ·)) = n * (prodI xs * (m * m)))
  | [], _ => ⟨1, by decide, fun _ => rfl, fun h => by simp at h⟩
  | x :: xs, h => by
    obtain ⟨m, hm, h2, h3⟩ := scale_prod hn h.tail
    by_cases e : xs.length % 2 = 0
    · refine ⟨m, hm, fun hl => by rw [List.length_cons] at hl; omega, fun _ => ?_⟩
      show n * x * prodI (xs.map (n * ·)) = n * (x * prodI xs * (m * m))
      rw [h2 e]
      simp only [Int.mul_assoc]
    · refine ⟨n * m, Int.mul_ne_zero hn hm, fun _ => ?_, fun hl => by rw [List.length_cons] at hl; omega⟩
      show n * x * prodI (xs.map (n * ·)) = x * prodI xs * (n * m * (n * m))
      rw [h3 (by omega)]
      simp only [Int.mul_assoc, Int.mul_comm, Int.mul_left_comm]
theorem disc_times {xs : List Int} {n : Int} (hn : n ≠ 0) (h : fvB xs = true) (ht : fvB (timesL xs n) = true) (hl : xs.length % 2 = 0) : discV (timesL xs n) = discV xs := by
  have hz := fv_nz h
  obtain ⟨m, hm, e1, _⟩ := scale_prod hn hz
  obtain ⟨_, s, hs, e2⟩ := prod_cores (nz_scale hn hz)
  rw [disc_yes h, disc_yes ht]
  have hp := (fv_nz ht).prod
  rw [times_map] at hp ⊢
  rw [← core_sq hp hs, e2, e1 hl]
  exact core_sq hz.prod hm
theorem van_times {xs : List Int} {n : Int} (hn : n ≠ 0) (h : fvB xs = true) (ht : fvB (timesL xs n) = true) (q : Int) : fvanV (timesL xs n) q = fvanV xs q := by
  cases hq : plI q with
  | false => rw [van_no hq, van_no hq]
  | true =>
    obtain ⟨h1, h2, h3⟩ := fvB_iff.1 h
    rw [van_yes h hq, van_yes ht hq, times_map, van_cls hq (fun x hx => core_cls hx hq) (nz_scale hn (fv_nz h)) (by rw [List.length_map]; exact h2) (by rw [List.length_map]; exact h3)]
    exact van_scale hq hn (fv_nz h) h2 h3
theorem times_yes {xs : List Int} {n : Int} (h : timesOk xs n = true) : fvB xs = true ∧ factB n = true ∧ fvB (timesL xs n) = true ∧ ftimesL xs n = timesL xs n := by
  have h2 := h
  unfold timesOk at h
  rw [Bool.and_eq_true, Bool.and_eq_true] at h
  exact ⟨h.1, h.2.1, h.2.2, by unfold ftimesL; rw [h2]; rfl⟩
theorem times_no {xs : List Int} {n : Int} (h : timesOk xs n = false) : ftimesL xs n = [] := by unfold ftimesL; rw [h]; rfl
theorem times_twice {xs : List Int} {n : Int} (hn : n ≠ 0) (h : fvB xs = true) : timesL (timesL xs n) n = xs.map coreG := by
  unfold timesL
  rw [List.map_map]
  exact List.map_congr_left fun x hx => core_twice hn ((fvB_iff.1 h).1 x hx).1
theorem times_again {xs : List Int} {n : Int} (hn : n ≠ 0) (h : timesOk xs n = true) : timesOk (timesL xs n) n = true ∧ ftimesL (timesL xs n) n = xs.map coreG := by
  obtain ⟨h1, h2, h3, _⟩ := times_yes h
  have e := times_twice hn h1
  have ok : timesOk (timesL xs n) n = true := by
    unfold timesOk
    rw [h3, h2, e, fv_cores h1]
    rfl
  exact ⟨ok, by rw [(times_yes ok).2.2.2, e]⟩

end Go.Proofs.Ytenibnblibnocac

/-! Sym4 -/
set_option linter.unusedVariables false
namespace Go.Proofs.Ytenibnblibnocac
open Go.RowKit





end Go.Proofs.Ytenibnblibnocac

/-! Prod -/
set_option linter.unusedVariables false
namespace Go.Proofs.Ytenibnblibnocac
open Go.RowKit

def genL : List Int := [-1, 2, 3, 5, 7, 11, 13, 17, 19, 23, 29, 31, 37, 41, 43, 47, 53, 59, 61, 67, 71, 73, 79, 83, 89, 97, 101, 103, 107, 109, 113]
def plcL : List Int := [0, 2, 3, 5, 7, 11, 13, 17, 19, 23, 29, 31, 37, 41, 43, 47, 53, 59, 61, 67, 71, 73, 79, 83, 89, 97, 101, 103, 107, 109, 113]
def prodS (a b : Int) : List Int → Int
  | [] => 1
  | q :: t => symV a b q * prodS a b t
theorem plc_pl : ∀ q ∈ plcL, plI q = true := by decide +kernel
theorem gen_prod : ∀ g ∈ genL, ∀ h ∈ genL, prodS g h plcL = 1 := by decide +kernel
theorem gen_ne : ∀ g ∈ genL, g ≠ 0 := by decide

theorem prodS_mul {a b c : Int} (ha : a ≠ 0) (hb : b ≠ 0) (hc : c ≠ 0) : ∀ l : List Int, (∀ q ∈ l, plI q = true) → prodS a (b * c) l = prodS a b l * prodS a c l
  | [], _ => rfl
  | q :: t, h => by
    unfold prodS
    rw [symV_mul ha hb hc (h q List.mem_cons_self), prodS_mul ha hb hc t (fun x hx => h x (List.mem_cons_of_mem _ hx))]
    simp only [Int.mul_comm, Int.mul_left_comm, Int.mul_assoc]
theorem prodS_comm {a b : Int} (ha : a ≠ 0) (hb : b ≠ 0) : ∀ l : List Int, (∀ q ∈ l, plI q = true) → prodS a b l = prodS b a l
  | [], _ => rfl
  | q :: t, h => by
    unfold prodS
    rw [symV_comm ha hb (h q List.mem_cons_self), prodS_comm ha hb t (fun x hx => h x (List.mem_cons_of_mem _ hx))]
theorem prodS_one {a : Int} (ha : a ≠ 0) : ∀ l : List Int, (∀ q ∈ l, plI q = true) → prodS a 1 l = 1
  | [], _ => rfl
  | q :: t, h => by
    have hq := h q List.mem_cons_self
    unfold prodS
    rw [symV_sq ha hq (by
      have := sq_mul (a := 1) (b := 1) (by decide) (by decide) hq
      rw [Int.mul_one] at this
      rw [this]; simp), prodS_one ha t (fun x hx => h x (List.mem_cons_of_mem _ hx))]
    rfl

/-- no prime above 113 divides it -/
def Smooth (n : Int) : Prop := n ≠ 0 ∧ ∀ p, PrG p → p ∣ n.natAbs → p ≤ 113
theorem prime_gen {p : Nat} (h : PrG p) (h2 : p ≤ 113) : (p : Int) ∈ genL := by
  have hN := prG_primeN h (by omega)
  have : (List.range 114).all (fun x => !primeN x || decide ((x : Int) ∈ genL)) = true := by decide +kernel
  have := List.all_eq_true.1 this p (List.mem_range.2 (by omega))
  rw [hN] at this
  exact of_decide_eq_true (by simpa using this)
theorem prime_factor : ∀ (k n : Nat), n ≤ k → 1 < n → ∃ p, PrG p ∧ p ∣ n
  | 0, n, h, h1 => by omega
  | k + 1, n, h, h1 => by
    by_cases hp : PrG n
    · exact ⟨n, hp, Nat.dvd_refl n⟩
    · have : ∃ d, d ∣ n ∧ d ≠ 1 ∧ d ≠ n := Classical.byContradiction fun hc => hp ⟨h1, fun d hd => Classical.byContradiction fun hne => hc ⟨d, hd, fun e => hne (.inl e), fun e => hne (.inr e)⟩⟩
      obtain ⟨d, hd, d1, dn⟩ := this
      have hle := Nat.le_of_dvd (by omega) hd
      have hd0 : d ≠ 0 := by rintro rfl; rw [Nat.zero_dvd] at hd; omega
      obtain ⟨p, hp1, hp2⟩ := prime_factor k d (by omega) (by omega)
      exact ⟨p, hp1, Nat.dvd_trans hp2 hd⟩
theorem smooth_ind {C : Int → Prop} (h1 : C 1) (hm : ∀ g ∈ genL, ∀ c, c ≠ 0 → C c → C (g * c)) : ∀ (k : Nat) (n : Int), n.natAbs ≤ k → Smooth n → C n
  | 0, n, h, hs => absurd (show n = 0 by omega) hs.1
  | k + 1, n, h, hs => by
    by_cases hn : n.natAbs ≤ 1
    · have : n = 1 ∨ n = -1 := by have := hs.1; omega
      rcases this with rfl | rfl
      · exact h1
      · exact hm (-1) (by decide) 1 (by decide) h1
    · obtain ⟨p, hp, hd⟩ := prime_factor n.natAbs n.natAbs (Nat.le_refl _) (by omega)
      have h113 := hs.2 p hp hd
      obtain ⟨c, hc⟩ := Int.ofNat_dvd_left.2 hd
      have hc0 : c ≠ 0 := by rintro rfl; rw [Int.mul_zero] at hc; exact hs.1 hc
      have hlt : c.natAbs < n.natAbs := by
        rw [hc, Int.natAbs_mul, Int.natAbs_natCast]
        have h2 := hp.1
        have := Nat.mul_le_mul_right c.natAbs h2
        omega
      rw [hc]
      refine hm p (prime_gen hp h113) c hc0 (smooth_ind h1 hm k c (by omega) ⟨hc0, fun q hq hqd => hs.2 q hq ?_⟩)
      rw [hc, Int.natAbs_mul]
      exact Nat.dvd_mul_left_of_dvd hqd _
theorem prod_gen {g : Int} (hg : g ∈ genL) {b : Int} (hb : Smooth b) : prodS g b plcL = 1 := by
  refine smooth_ind (C := fun b => prodS g b plcL = 1) (prodS_one (gen_ne g hg) _ plc_pl) (fun h hh c hc hC => ?_) b.natAbs b (Nat.le_refl _) hb
  rw [prodS_mul (gen_ne g hg) (gen_ne h hh) hc _ plc_pl, gen_prod g hg h hh, hC]
  rfl
theorem prod_all {a b : Int} (ha : Smooth a) (hb : Smooth b) : prodS a b plcL = 1 := by
  refine smooth_ind (C := fun a => prodS a b plcL = 1) ?_ (fun g hg c hc hC => ?_) a.natAbs a (Nat.le_refl _) ha
  · show prodS 1 b plcL = 1
    rw [prodS_comm (by decide) hb.1 _ plc_pl]
    exact prodS_one hb.1 _ plc_pl
  · show prodS (g * c) b plcL = 1
    rw [prodS_comm (Int.mul_ne_zero (gen_ne g hg) hc) hb.1 _ plc_pl, prodS_mul hb.1 (gen_ne g hg) hc _ plc_pl, prodS_comm hb.1 (gen_ne g hg) _ plc_pl, prodS_comm hb.1 hc _ plc_pl, prod_gen hg hb, hC]
    rfl

/-- the product tells how many are -1 -/
theorem prodS_half {a b : Int} (ha : a ≠ 0) (hb : b ≠ 0) : ∀ l : List Int, (∀ q ∈ l, plI q = true) → prodS a b l = halfI ((l.filter (fun q => decide (symV a b q = -1))).length : Nat)
  | [], _ => rfl
  | q :: t, h => by
    have ih := prodS_half ha hb t (fun x hx => h x (List.mem_cons_of_mem _ hx))
    unfold prodS
    rw [ih]
    rcases symV_val ha hb (h q List.mem_cons_self) with e | e
    · rw [e, List.filter_cons_of_neg (by rw [e]; decide), Int.one_mul]
    · rw [e, List.filter_cons_of_pos (by rw [e]; decide), List.length_cons]
      unfold halfI
      split <;> split <;> omega

theorem asc_eq : ∀ (l m : List Int), l.Pairwise (· < ·) → m.Pairwise (· < ·) → (∀ x, x ∈ l ↔ x ∈ m) → l = m
  | [], [], _, _, _ => rfl
  | [], y :: m, _, _, h => absurd ((h y).2 List.mem_cons_self) (by simp)
  | x :: l, [], _, _, h => absurd ((h x).1 List.mem_cons_self) (by simp)
  | x :: l, y :: m, h1, h2, h => by
    rw [List.pairwise_cons] at h1 h2
    have e : x = y := by
      have a1 := (h x).1 List.mem_cons_self
      have a2 := (h y).2 List.mem_cons_self
      rcases List.mem_cons.1 a1 with e | a1
      · exact e
      · rcases List.mem_cons.1 a2 with e | a2
        · exact e.symm
        · have := h2.1 x a1
          have := h1.1 y a2
          omega
    subst e
    congr 1
    refine asc_eq l m h1.2 h2.2 fun z => ?_
    constructor
    · intro hz
      rcases List.mem_cons.1 ((h z).1 (List.mem_cons_of_mem _ hz)) with e | hz2
      · have := h1.1 z hz; omega
      · exact hz2
    · intro hz
      rcases List.mem_cons.1 ((h z).2 (List.mem_cons_of_mem _ hz)) with e | hz2
      · have := h2.1 z hz; omega
      · exact hz2
theorem plc_asc : plcL.Pairwise (· < ·) := by decide +kernel
theorem placesG_asc {n : Int} (h0 : n ≠ 0) : (placesG n).Pairwise (· < ·) := by
  obtain ⟨a, b, _⟩ := plistG_spec (show 0 < n.natAbs by omega)
  unfold placesG
  have hp : ((natsI (plistG n.natAbs)).filter (fun x => decide (2 < x))).Pairwise (· < ·) := by
    refine List.Pairwise.filter _ ?_
    unfold natsI
    rw [List.pairwise_map]
    exact b.imp (fun h => by omega)
  rw [List.cons_append, List.cons_append, List.nil_append, List.pairwise_cons, List.pairwise_cons]
  refine ⟨fun x hx => ?_, fun x hx => ?_, hp⟩
  · rcases List.mem_cons.1 hx with rfl | hx
    · decide
    · have := of_decide_eq_true (List.mem_filter.1 hx).2; omega
  · exact of_decide_eq_true (List.mem_filter.1 hx).2
/-- at an odd prime that divides neither the symbol is 1 -/
theorem sym_away {a b : Int} {P : Nat} (hP : primeN P = true) (h3 : 3 ≤ P) (ha : ¬ P ∣ a.natAbs) (hb : ¬ P ∣ b.natAbs) (a0 : a ≠ 0) (b0 : b ≠ 0) : symV a b (P : Int) = 1 := by
  unfold symV symC
  obtain ⟨va, _⟩ := unit_self hP ha a0
  obtain ⟨vb, _⟩ := unit_self hP hb b0
  rw [cls_odd h3, cls_odd h3, va, vb, if_neg (by omega), if_neg (by omega)]
  simp [halfI]
theorem splL_plc {a b : Int} (ha : Smooth a) (hb : Smooth b) (O : okAB a b = true) : splL a b = plcL.filter (fun q => decide (symV a b q = -1)) := by
  rcases okAB_cases a b with ⟨a1, a2, a0, b1, b2, b0, _⟩ | hO
  · have hab := Int.mul_ne_zero a0 b0
    obtain ⟨s1, _, s3⟩ := plistG_spec (show 0 < (a * b).natAbs by omega)
    unfold splL
    rw [O, if_pos rfl]
    refine asc_eq _ _ (List.Pairwise.filter _ (placesG_asc hab)) (List.Pairwise.filter _ plc_asc) fun q => ?_
    rw [List.mem_filter, List.mem_filter]
    constructor
    · rintro ⟨hq, hs⟩
      refine ⟨?_, hs⟩
      unfold placesG at hq
      simp only [List.cons_append, List.nil_append, List.mem_cons] at hq
      rcases hq with rfl | rfl | hq
      · decide
      · decide
      · have hm := (List.mem_filter.1 hq).1
        unfold natsI at hm
        rw [List.mem_map] at hm
        obtain ⟨x, hx, rfl⟩ := hm
        obtain ⟨p1, p2⟩ := s1 x hx
        rw [Int.natAbs_mul] at p2
        have h113 : x ≤ 113 := by
          rcases prG_mul p1 p2 with h | h
          · exact ha.2 x p1 h
          · exact hb.2 x p1 h
        have := prime_gen p1 h113
        unfold genL at this
        rcases List.mem_cons.1 this with e | h
        · omega
        · exact List.mem_cons_of_mem _ h
    · rintro ⟨hq, hs⟩
      refine ⟨?_, hs⟩
      have hs1 := of_decide_eq_true hs
      unfold placesG
      simp only [List.cons_append, List.nil_append, List.mem_cons]
      rcases plI_cases (plc_pl q hq) with h | h | ⟨P, rfl, hP, h3, h5⟩
      · exact .inl h
      · exact .inr (.inl h)
      · right; right
        refine List.mem_filter.2 ⟨?_, decide_eq_true (by omega)⟩
        unfold natsI
        refine List.mem_map.2 ⟨P, s3 P (primeN_prG hP) ?_, rfl⟩
        rw [Int.natAbs_mul]
        by_cases da : P ∣ a.natAbs
        · exact Nat.dvd_mul_right_of_dvd da _
        · by_cases db : P ∣ b.natAbs
          · exact Nat.dvd_mul_left_of_dvd db _
          · rw [sym_away hP h3 da db a0 b0] at hs1
            cases hs1
  · rw [O] at hO; cases hO
/-- THE PRODUCT FORMULA: symbols are -1 at an even number of places -/
theorem product_formula {a b : Int} (ha : Smooth a) (hb : Smooth b) (O : okAB a b = true) : halfI ((splL a b).length : Nat) = 1 := by
  rw [splL_plc ha hb O, ← prodS_half ha.1 hb.1 _ plc_pl]
  exact prod_all ha hb

end Go.Proofs.Ytenibnblibnocac

/-! FmProd -/
set_option linter.unusedVariables false
namespace Go.Proofs.Ytenibnblibnocac
open Go.RowKit

def prodG (g : Int → Int) : List Int → Int
  | [] => 1
  | q :: t => g q * prodG g t
theorem prodG_half {g : Int → Int} : ∀ l : List Int, (∀ q ∈ l, g q = 1 ∨ g q = -1) → prodG g l = halfI ((l.filter (fun q => decide (g q = -1))).length : Nat)
  | [], _ => rfl
  | q :: t, h => by
    have ih := prodG_half t (fun x hx => h x (List.mem_cons_of_mem _ hx))
    unfold prodG
    rw [ih]
    rcases h q List.mem_cons_self with e | e
    · rw [e, List.filter_cons_of_neg (by rw [e]; decide), Int.one_mul]
    · rw [e, List.filter_cons_of_pos (by rw [e]; decide), List.length_cons]
      unfold halfI
      split <;> split <;> omega
theorem prodG_mul (f g : Int → Int) : ∀ l : List Int, prodG (fun q => f q * g q) l = prodG f l * prodG g l
  | [] => rfl
  | q :: t => by
    show f q * g q * prodG (fun q => f q * g q) t = f q * prodG f t * (g q * prodG g t)
    rw [prodG_mul f g t]
    simp only [Int.mul_assoc, Int.mul_left_comm]
theorem prodG_sym (a b : Int) : ∀ l : List Int, prodG (fun q => symV a b q) l = prodS a b l
  | [] => rfl
  | q :: t => by show symV a b q * _ = symV a b q * _; rw [prodG_sym a b t]
theorem places_in_plc {n : Int} (hs : Smooth n) {q : Int} (hq : q ∈ placesG n) : q ∈ plcL := by
  obtain ⟨s1, _, _⟩ := plistG_spec (show 0 < n.natAbs by have := hs.1; omega)
  unfold placesG at hq
  simp only [List.cons_append, List.nil_append, List.mem_cons] at hq
  rcases hq with rfl | rfl | hq
  · decide
  · decide
  · have hm := (List.mem_filter.1 hq).1
    unfold natsI at hm
    rw [List.mem_map] at hm
    obtain ⟨x, hx, rfl⟩ := hm
    obtain ⟨p1, p2⟩ := s1 x hx
    have := prime_gen p1 (hs.2 x p1 p2)
    unfold genL at this
    rcases List.mem_cons.1 this with e | h
    · omega
    · exact List.mem_cons_of_mem _ h
theorem places_filter {n : Int} (hs : Smooth n) {g : Int → Int} (h : ∀ q, plI q = true → q ∉ placesG n → g q = 1) : (placesG n).filter (fun q => decide (g q = -1)) = plcL.filter (fun q => decide (g q = -1)) := by
  refine asc_eq _ _ (List.Pairwise.filter _ (placesG_asc hs.1)) (List.Pairwise.filter _ plc_asc) fun q => ?_
  rw [List.mem_filter, List.mem_filter]
  constructor
  · rintro ⟨hq, hg⟩
    exact ⟨places_in_plc hs hq, hg⟩
  · rintro ⟨hq, hg⟩
    refine ⟨?_, hg⟩
    by_cases hm : q ∈ placesG n
    · exact hm
    · have := of_decide_eq_true hg
      rw [h q (plc_pl q hq) hm] at this
      cases this
theorem half_even2 {n : Nat} (h : halfI (n : Int) = 1) : n % 2 = 0 := by
  unfold halfI at h
  by_cases e : (n : Int) % 2 = 0
  · omega
  · rw [if_neg e] at h; cases h

def SmallT (xs : List Int) : Prop := ∀ x ∈ xs, x ≠ 0 ∧ -30 ≤ x ∧ x ≤ 30
theorem small_smooth {xs : List Int} (h : SmallT xs) : Smooth (prodI xs) :=
  ⟨prodI_ne fun x hx => (h x hx).1, fun p hp hd => by have := (small_prime h hp hd).1; omega⟩
theorem term_smooth {x : Int} (h : x ≠ 0 ∧ -30 ≤ x ∧ x ≤ 30) : Smooth x :=
  ⟨h.1, fun p hp hd => by have := Nat.le_of_dvd (by omega) hd; omega⟩
theorem neg_smooth {n : Int} (h : Smooth n) : Smooth (-n) := ⟨by have := h.1; omega, fun p hp hd => h.2 p hp (by rwa [Int.natAbs_neg] at hd)⟩
theorem prod_has : ∀ {xs : List Int}, SmallT xs → prodG (fun q => hasC q xs) plcL = 1
  | [], _ => by decide
  | x :: xs, h => by
    have ht : SmallT xs := fun y hy => h y (List.mem_cons_of_mem _ hy)
    show prodG (fun q => symV x (prodI xs) q * hasC q xs) plcL = 1
    rw [prodG_mul, prodG_sym, prod_all (term_smooth (h x (List.mem_cons_self ..))) (small_smooth ht), prod_has ht]
    rfl
theorem away_units {n q : Int} (hn : n ≠ 0) (hq : plI q = true) (hm : q ∉ placesG n) : ∃ P : Nat, q = (P : Int) ∧ primeN P = true ∧ 3 ≤ P ∧ ¬ (P : Int) ∣ n := by
  rcases plI_cases hq with rfl | rfl | ⟨P, rfl, hP, h3, h5⟩
  · exact absurd (by unfold placesG; simp) hm
  · exact absurd (by unfold placesG; simp) hm
  · refine ⟨P, rfl, hP, h3, fun hd => hm ?_⟩
    obtain ⟨_, _, s3⟩ := plistG_spec (show 0 < n.natAbs by omega)
    unfold placesG
    simp only [List.cons_append, List.nil_append, List.mem_cons]
    right; right
    refine List.mem_filter.2 ⟨?_, decide_eq_true (by omega)⟩
    unfold natsI
    exact List.mem_map.2 ⟨P, s3 P (primeN_prG hP) (Int.ofNat_dvd_left.1 hd), rfl⟩
theorem has_away {xs : List Int} (h : SmallT xs) {q : Int} (hq : plI q = true) (hm : q ∉ placesG (prodI xs)) : hasC q xs = 1 := by
  obtain ⟨P, rfl, hP, h3, hnd⟩ := away_units (prodI_ne fun x hx => (h x hx).1) hq hm
  exact hasC_units hP h3 fun x hx hd => hnd (dvd_term hx hd)
/-- INVARIANTS ARE -1 AT AN EVEN NUMBER OF PLACES -/
theorem has_even {xs : List Int} (h : SmallT xs) : ((placesG (prodI xs)).filter (fun q => decide (hasC q xs = -1))).length % 2 = 0 := by
  rw [places_filter (g := fun q => hasC q xs) (small_smooth h) (fun q hq hm => has_away h hq hm)]
  refine half_even2 ?_
  rw [← prodG_half (g := fun q => hasC q xs) plcL (fun q hq => hasC_pm (plc_pl q hq) fun x hx => (h x hx).1)]
  exact prod_has h

/-- three terms: bad exactly where two signs differ -/
def badG (xs : List Int) (q : Int) : Int := hasC q xs * symV (-1) (-(prodI xs)) q
theorem three_zero : (allL 0 3).all (fun cs => vanK 0 cs == (hasK 0 cs == symK 0 (minusK 0) (combK 0 (minusK 0) (prodK 0 cs)))) = true := by decide +kernel
theorem bad_sign {xs : List Int} (h : NZ xs) (hl : xs.length = 3) {q : Int} (hq : plI q = true) : (!vanB xs q) = decide (badG xs q = -1) := by
  have hp := h.prod
  have hm1 : symV (-1) (-(prodI xs)) q = symK (kOf q) (minusK (kOf q)) (combK (kOf q) (minusK (kOf q)) (prodK (kOf q) (xs.map (cls · q)))) := by
    unfold symV
    rw [sym_k, cls_minus hq, cls_neg hp hq, prodK_eq hq h]
  have hv : vanB xs q = (hasC q xs == symV (-1) (-(prodI xs)) q) := by
    rw [vanB_k hq h (by omega) (by omega), hm1, hasK_eq hq h]
    by_cases h0 : kOf q = 0
    · have := List.all_eq_true.1 three_zero (xs.map (cls · q)) (by
        have hm := mem_allL (cls_all hq h)
        rw [h0, List.length_map, hl] at hm
        exact hm)
      rw [h0]
      exact beq_iff_eq.1 this
    · unfold vanK
      rw [if_neg h0, List.length_map, hl, if_neg (by decide), if_neg (by decide), if_pos rfl]
  rw [hv]
  unfold badG
  rcases hasC_pm hq h with e | e <;> rcases symV_val (a := -1) (b := -(prodI xs)) (by decide) (by omega) hq with f | f <;> rw [e, f] <;> decide
theorem bad_even {xs : List Int} (hf : fvB xs = true) (hl : xs.length = 3) : (badL xs).length % 2 = 0 := by
  have h := (fvB_iff.1 hf).1
  have hz := fv_nz hf
  have e : badL xs = (placesG (prodI xs)).filter (fun q => decide (badG xs q = -1)) := by
    unfold badL fplL
    rw [hf, if_pos rfl]
    exact List.filter_congr fun q hq => bad_sign hz hl (places_fv hf q hq)
  rw [e, places_filter (g := badG xs) (small_smooth h) (fun q hq hm => by
    obtain ⟨P, rfl, hP, h3, hnd⟩ := away_units hz.prod hq hm
    unfold badG
    rw [hasC_units hP h3 fun x hx hd => hnd (dvd_term hx hd), sym_units hP h3 (fun hd => by
      have := Int.le_of_dvd (by decide) ((Int.dvd_neg (b := 1)).1 hd); omega) (fun hd => hnd (Int.dvd_neg.1 hd))]
    rfl)]
  refine half_even2 ?_
  rw [← prodG_half (g := badG xs) plcL (fun q hq => pm_mul (hasC_pm (plc_pl q hq) hz) (symV_val (by decide) (by have := hz.prod; omega) (plc_pl q hq)))]
  unfold badG
  rw [prodG_mul, prodG_sym, prod_has h, prod_all (neg_smooth (term_smooth (x := 1) (by decide))) (neg_smooth (small_smooth h))]
  rfl

end Go.Proofs.Ytenibnblibnocac

/-! ZFind -/
set_option linter.unusedVariables false
namespace Go.Proofs.Ytenibnblibnocac
open Go.RowKit

theorem neg_nd9 {P : Nat} {n : Int} (h : ¬ (P : Int) ∣ n) : ¬ (P : Int) ∣ -n := fun hd => h (Int.dvd_neg.1 hd)
theorem odd_more9 {xs : List Int} {P : Nat} (hf : fvB xs = true) (hP : primeN P = true) (h3 : 3 ≤ P) (hn : ¬ (P : Int) ∣ prodI xs) (hl : 3 ≤ xs.length) : fvanV xs (P : Int) = true := by
  have hq : plI (P : Int) = true := by unfold plI; rw [show primeI (P : Int) = true from hP, Bool.or_true]
  have h1 : ¬ (P : Int) ∣ (-1 : Int) := fun hd => by
    have := Int.le_of_dvd (by decide) (Int.dvd_neg.1 hd)
    omega
  have hu := hasC_units hP h3 (xs := xs) (fun x hx hd => hn (dvd_term hx hd))
  have h4 := (fvB_iff.1 hf).2.2
  rw [van_yes hf hq]
  have e : xs.length = 3 ∨ xs.length = 4 := by omega
  rcases e with e | e
  · rw [van_three (by omega) e, hasF_eq hq (fv_nz hf), hu, sym_units hP h3 h1 (neg_nd9 hn)]
    rfl
  · rw [van_four (by omega) e, hasF_eq hq (fv_nz hf), hu, sym_units hP h3 h1 h1]
    simp

theorem bad_at {xs : List Int} {q : Int} (hf : fvB xs = true) (hq : q ∈ placesG (prodI xs)) (hv : vanB xs q = false) : (badL xs).length ≠ 0 := by
  have hm : q ∈ badL xs := by
    unfold badL fplL
    rw [hf, if_pos rfl]
    exact List.mem_filter.2 ⟨hq, by rw [hv]; rfl⟩
  exact fun e => by rw [List.eq_nil_of_length_eq_zero e] at hm; cases hm
theorem find_never {xs : List Int} (hf : fvB xs = true) (hl : xs.length ≤ 3) (h : zfindO xs = none) : (badL xs).length ≠ 0 := by
  have hb := fvB_iff.1 hf
  unfold zfindO at h
  rw [hf, if_pos rfl] at h
  have hc : xs.length = 1 ∨ xs.length = 2 ∨ xs.length = 3 := by omega
  rcases hc with e | e | e
  · refine bad_at (q := 0) hf (by unfold placesG; simp) ?_
    have := less_le xs
    unfold vanB
    rw [if_pos rfl]
    by_cases h1 : 0 < lessN xs
    · rw [decide_eq_false (show ¬ lessN xs < xs.length by omega), Bool.and_false]
    · rw [decide_eq_false h1, Bool.false_and]
  · obtain ⟨a, b, rfl⟩ := list_two e
    have ha := hb.1 a (by simp)
    have hbb := hb.1 b (by simp)
    have h : twoO a b = none := h
    have h0 : coreG a + coreG b ≠ 0 := fun e0 => by
      unfold twoO at h
      rw [if_pos e0] at h
      cases h
    refine Classical.byContradiction fun hn => h0 (two_opp ha.1 hbb.1 ha.2.1 ha.2.2 hbb.2.1 hbb.2.2 fun q hq => ?_)
    cases hv : vanB [a, b] q with
    | true => rfl
    | false =>
      have hp : prodI [a, b] = a * b := by show a * (b * 1) = _; rw [Int.mul_one]
      exact absurd (bad_at hf (by rw [hp]; exact hq) hv) hn
  · obtain ⟨a, b, c, rfl⟩ := list_three e
    have h : threeO a b c = none := h
    have ok := ok3_of hf
    have hs : searchO (nT a b c) = none := by
      unfold threeO at h
      cases hs : searchO (nT a b c) with
      | none => rfl
      | some l => rw [hs] at h; cases h
    obtain ⟨q, hq, hv⟩ : ∃ q, plI q = true ∧ vanT (coreT a b c) q = false := by
      rcases (leg ok.small).2 with hx | hw
      · exact hx
      · obtain ⟨l, hl2⟩ := wit_search ok.nrm.nz.2.2 hw
        have hl3 : searchO (nT a b c) = some l := hl2
        rw [hs] at hl3
        cases hl3
    have hv3 : vanB [a, b, c] q = false := by
      have h1 := van_cores hf q
      rw [van_yes hf hq, van_yes (fv_cores hf) hq] at h1
      rw [← h1]
      exact hv
    refine bad_at hf (Classical.byContradiction fun hm => ?_) hv3
    obtain ⟨P, rfl, hP, h3, hnd⟩ := away_units (prodI_ne (fv_nz hf)) hq hm
    have h4 := odd_more9 hf hP h3 hnd (by show 3 ≤ 3; decide)
    rw [van_yes hf hq, hv3] at h4
    cases h4
/-- zeros of a form with a bad place: none -/
theorem good_is {xs vs : List Int} (hf : fvB xs = true) (hl : vs.length = xs.length) (hb : ∀ v ∈ vs, -1000000 ≤ v ∧ v ≤ 1000000) : goodB xs vs = (zeroB xs vs && decide (plainL vs = vs)) := by
  rw [Bool.eq_iff_iff]
  unfold goodB
  rw [Bool.and_eq_true, Bool.and_eq_true, Bool.and_eq_true, zeroB_iff, someB_iff, decide_eq_true_eq, decide_eq_true_eq, hl]
  constructor
  · rintro ⟨h1, h2, h3⟩
    exact ⟨⟨hb, hf, rfl, h1, h2⟩, h3⟩
  · rintro ⟨⟨_, _, _, h1, h2⟩, h3⟩
    exact ⟨h1, h2, h3⟩
theorem zmany_get {xs : List Int} {n : Int} (h : 0 ≤ zmanyV xs n) : fvB xs = true ∧ 1 ≤ n ∧ n ≤ 6 ∧ zmanyV xs n = manyR xs n xs.length [] := by
  unfold zmanyV at h ⊢
  cases hk : zmanyOk xs n with
  | false => rw [hk] at h; exact absurd h (by simp)
  | true =>
    have h2 := hk
    unfold zmanyOk inR at h2
    rw [Bool.and_eq_true, Bool.and_eq_true, decide_eq_true_eq, decide_eq_true_eq] at h2
    exact ⟨h2.1, h2.2.1, h2.2.2, by rw [if_pos rfl]⟩
theorem zmany_next {xs : List Int} {n : Int} (h : 0 ≤ zmanyV xs n) (hn : n ≠ 6) : zmanyV xs n ≤ zmanyV xs (n + 1) := by
  obtain ⟨h1, h2, h3, h4⟩ := zmany_get h
  rw [h4]
  have h5 : zmanyOk xs (n + 1) = true := by
    unfold zmanyOk inR
    rw [h1, decide_eq_true (show 1 ≤ n + 1 by omega), decide_eq_true (show n + 1 ≤ 6 by omega)]
    rfl
  unfold zmanyV
  rw [h5, if_pos rfl]
  exact many_grow xs (by omega) _ _
theorem zmany_bd {xs : List Int} {n : Int} (h : 0 ≤ zmanyV xs n) : zmanyV xs n ≤ 28561 := by
  obtain ⟨h1, h2, h3, h4⟩ := zmany_get h
  rw [h4]
  have h5 := many_bd xs (n := n) (by omega) h3 xs.length []
  have h6 : 13 ^ xs.length ≤ 13 ^ 4 := Nat.pow_le_pow_right (by decide) (fvB_iff.1 h1).2.2
  have h7 : (13 : Nat) ^ 4 = 28561 := by decide
  omega
theorem zmany_bad {xs : List Int} {n : Int} (h : 0 ≤ zmanyV xs n) (hb : (badL xs).length ≠ 0) : zmanyV xs n = 0 := by
  obtain ⟨h1, h2, h3, h4⟩ := zmany_get h
  rw [h4]
  refine many_none n xs.length [] fun us hl => ?_
  rw [List.nil_append]
  cases hg : goodB xs us with
  | false => rfl
  | true =>
    exfalso
    unfold goodB at hg
    rw [Bool.and_eq_true, Bool.and_eq_true, someB_iff, decide_eq_true_eq, decide_eq_true_eq, hl] at hg
    apply hb
    have hf2 := fvB_iff.1 h1
    unfold badL
    rw [List.length_eq_zero_iff, List.filter_eq_nil_iff]
    intro q hq
    have hpl : plI q = true := by unfold fplL at hq; rw [h1, if_pos rfl] at hq; exact places_fv h1 q hq
    rw [(zero_van (fv_nz h1) hf2.2.1 hf2.2.2 hl hg.1 hg.2.1 hpl).1]
    decide
theorem zmany_found {xs l : List Int} {n : Int} (h : 0 ≤ zmanyV xs n) (hz : zfindO xs = some l) (hh : (hgtL l : Int) ≤ n) : 1 ≤ zmanyV xs n := by
  obtain ⟨h1, h2, h3, h4⟩ := zmany_get h
  have k := find_got hz
  have hl : l.length = xs.length := (zeroB_iff.1 k.zero).2.2.1
  rw [h4, ← hl]
  refine many_some (by omega) l [] (fun u hu => by have := hgt_ge hu; omega) ?_
  rw [List.nil_append, good_is h1 hl (fun u hu => by have := k.small u hu; omega), k.zero, k.plain]
  simp

end Go.Proofs.Ytenibnblibnocac

/-! ZNor -/
set_option linter.unusedVariables false
namespace Go.Proofs.Ytenibnblibnocac
open Go.RowKit

theorem gcd_two {a b c : Int} (h : twoD a b c = 1) : Int.gcd a b ≤ 1 ∧ Int.gcd b c ≤ 1 ∧ Int.gcd c a ≤ 1 := by
  have P : ∀ g : Nat, 1 < g → lpG g ≠ 1 := fun g hg e => by
    have := (lpG_spec hg).1.1
    omega
  unfold twoD at h
  by_cases h1 : 1 < Int.gcd a b
  · rw [if_pos h1] at h; exact absurd h (P _ h1)
  · rw [if_neg h1] at h
    by_cases h2 : 1 < Int.gcd c a
    · rw [if_pos h2] at h; exact absurd h (P _ h2)
    · rw [if_neg h2] at h
      by_cases h3 : 1 < Int.gcd b c
      · rw [if_pos h3] at h; exact absurd h (P _ h3)
      · exact ⟨by omega, by omega, by omega⟩
theorem gcdV_le {a b : Int} (h : Int.gcd a b ≤ 1) : gcdV a b ≤ 1 := by
  unfold gcdV
  split
  · have : Nat.gcd a.natAbs b.natAbs ≤ 1 := h
    omega
  · decide
theorem core_fine {x : Int} (h0 : x ≠ 0) (h : SqFree x.natAbs) : ∃ (A R : Int) (q : Bool), coreV x = .tuple #[.int .i64 A, .int .i64 R, .bool q] ∧ (q = true → A = x ∧ R = 1) := by
  cases hf : factB x with
  | false => exact ⟨0, 0, false, coreV_no hf, fun e => by cases e⟩
  | true =>
    obtain ⟨h1, h2⟩ := root_free h0 h
    exact ⟨coreG x, (rootG x : Nat), true, coreV_G hf, fun _ => ⟨h2, by rw [h1]; rfl⟩⟩
/-- what the law wants of three normal terms and three factors -/
structure Norm3 (a b c na nb nc oa ob oc : Int) : Prop where
  fnb : (-27000 ≤ na ∧ na ≤ 27000) ∧ (-27000 ≤ nb ∧ nb ≤ 27000) ∧ (-27000 ≤ nc ∧ nc ≤ 27000)
  fnp : (-27000 ≤ na * nb ∧ na * nb ≤ 27000) ∧ (-27000 ≤ na * nb * nc ∧ na * nb * nc ≤ 27000)
  fop : (-900 ≤ a * b ∧ a * b ≤ 900) ∧ (-27000 ≤ a * b * c ∧ a * b * c ≤ 27000)
  fle : (na * nb * nc).natAbs ≤ (a * b * c).natAbs
  fgc : gcdV na nb ≤ 1 ∧ gcdV nb nc ≤ 1 ∧ gcdV nc na ≤ 1
  fco : (na ≠ 0 ∧ SqFree na.natAbs) ∧ (nb ≠ 0 ∧ SqFree nb.natAbs) ∧ (nc ≠ 0 ∧ SqFree nc.natAbs)
  ffa : (1 ≤ oa ∧ oa ≤ 30) ∧ (1 ≤ ob ∧ ob ≤ 30) ∧ (1 ≤ oc ∧ oc ≤ 30)
  fis : zsearchO [na, nb, nc] = searchO ⟨na, nb, nc⟩
  fnone : searchO ⟨na, nb, nc⟩ = none → (badL [a, b, c]).length ≠ 0
  fsome : ∀ l, searchO ⟨na, nb, nc⟩ = some l → (badL [a, b, c]).length = 0 ∧ ∃ x y z : Int, l = [x, y, z] ∧ (-60 ≤ x * oa ∧ x * oa ≤ 60) ∧ (-60 ≤ y * ob ∧ y * ob ≤ 60) ∧ (-60 ≤ z * oc ∧ z * oc ≤ 60) ∧ zeroB [a, b, c] [x * oa, y * ob, z * oc] = true
theorem fac_le {m : Int} {k : Nat} (h1 : 1 ≤ m) (hk : 1 ≤ k) (h : m.natAbs * m.natAbs * k ≤ 900) : m ≤ 30 := by
  have h2 : m.natAbs * m.natAbs ≤ 900 := Nat.le_trans (Nat.le_mul_of_pos_right _ hk) h
  have := sq_small (n := 30) h2 (by decide)
  omega
set_option maxHeartbeats 4000000 in
theorem norm3_of {a b c na nb nc oa ob oc : Int} (hf : fvB [a, b, c] = true) (hN : (⟨na, nb, nc⟩ : T3) = nT a b c) (hM : (⟨oa, ob, oc⟩ : T3) = nM a b c) : Norm3 a b c na nb nc oa ob oc := by
  have ok := ok3_of hf
  have n := ok.nrm
  have hv := fun l hl => vec3_ok (l := l) ok hl
  have hnone : searchO (nT a b c) = none → (badL [a, b, c]).length ≠ 0 := fun hs => find_never hf (by show 3 ≤ 3; decide) (by
    unfold zfindO
    rw [hf, if_pos rfl]
    show threeO a b c = none
    unfold threeO
    rw [hs]
    rfl)
  have his := n.is
  obtain ⟨z1, z2, z3⟩ := n.nz
  obtain ⟨f1, f2, f3⟩ := n.free
  obtain ⟨m1, m2, m3, k1, k2, k3⟩ := n.minv
  have hbd := T3.bd n.nz n.lim
  have hp := n.prod
  have hlim := n.lim
  have htw := gcd_two n.two
  unfold vec3 at hv
  rw [← hN] at hnone his z1 z2 z3 f1 f2 f3 k1 k2 k3 hbd hp hlim htw hv
  rw [← hM] at m1 m2 m3 k1 k2 k3 hv
  dsimp only at z1 z2 z3 f1 f2 f3 m1 m2 m3 k1 k2 k3 hbd htw hv
  have hprod : (na * nb * nc).natAbs = na.natAbs * nb.natAbs * nc.natAbs := by rw [Int.natAbs_mul, Int.natAbs_mul]
  have hprod2 : (a * b * c).natAbs = a.natAbs * b.natAbs * c.natAbs := by rw [Int.natAbs_mul, Int.natAbs_mul]
  have hab : (a * b).natAbs ≤ 30 * 30 := by rw [Int.natAbs_mul]; exact Nat.mul_le_mul (by have := ok.a1; have := ok.a2; omega) (by have := ok.b1; have := ok.b2; omega)
  have h27 := ok.prod.2
  have hp' : na.natAbs * nb.natAbs * nc.natAbs ≤ a.natAbs * b.natAbs * c.natAbs := hp
  have hl' : na.natAbs * nb.natAbs * nc.natAbs ≤ 27000 := hlim
  refine ⟨⟨by omega, by omega, by omega⟩, ⟨by omega, by omega⟩, ⟨by omega, by omega⟩, by omega, ⟨gcdV_le htw.1, gcdV_le htw.2.1, gcdV_le htw.2.2⟩, ⟨⟨z1, f1⟩, ⟨z2, f2⟩, ⟨z3, f3⟩⟩,
    ⟨⟨m1, fac_le m1 (Nat.mul_pos (by omega) (by omega)) k1⟩, ⟨m2, fac_le m2 (Nat.mul_pos (by omega) (by omega)) k2⟩, ⟨m3, fac_le m3 (Nat.mul_pos (by omega) (by omega)) k3⟩⟩, ?_, hnone, fun l hl => ?_⟩
  · unfold zsearchO
    rw [show nrmB [na, nb, nc] = true from his, if_pos rfl]
    rfl
  · obtain ⟨x, y, z, rfl, _⟩ := search_found hl
    have h3 := hv _ hl
    simp only [List.getD_cons_zero, List.getD_cons_succ] at h3
    rw [Int.mul_comm oa, Int.mul_comm ob, Int.mul_comm oc] at h3
    have hzb : zeroB [a, b, c] [(x : Int) * oa, (y : Int) * ob, (z : Int) * oc] = true := zeroB_iff.2 ⟨fun u hu => by have := h3.small u hu; omega, hf, rfl, h3.some, h3.zero⟩
    refine ⟨by rw [zero_bad hzb]; rfl, x, y, z, rfl, h3.small _ (by simp), h3.small _ (by simp), h3.small _ (by simp), hzb⟩

end Go.Proofs.Ytenibnblibnocac

/-! Zp4 -/
set_option linter.unusedVariables false
namespace Go.Proofs.Ytenibnblibnocac
open Go.RowKit

set_option maxRecDepth 100000 in
set_option maxHeartbeats 4000000 in
theorem zeroOfTwo_any (v : Value) (a b : Int) (a0 : a ≠ 0) (a1 : -30 ≤ a) (a2 : a ≤ 30) (b0 : b ≠ 0) (b1 : -30 ≤ b) (b2 : b ≤ 30) (w : World) (h : Rd w v [a, b]) :
    Calls Try.prog 47 #[v] w fun e w' => ∃ u, e = .returned (.tuple #[u, .bool (decide (coreG a + coreG b = 0))]) ∧ Owns w' w.heap.size u [(rootG b : Int), (rootG a : Int)] ∧ Below w.heap.size w w' := by
  have HH := hid h
  obtain ⟨ca0, _, ca, _, _⟩ := core_small a0
  obtain ⟨cb0, _, cb, _, _⟩ := core_small b0
  have HA := hid a0
  have HB := hid b0
  obtain ⟨ad, cap, rfl, hform⟩ := h.form
  obtain ⟨g, o, rfl, _, hc⟩ := hform (by simp)
  have HK : Hid (∀ W : World, Below w.heap.size w W → W.cell? ⟨g, o, none⟩ = some (.int .i64 a) ∧ W.cell? ⟨g, o + 1, none⟩ = some (.int .i64 b)) := hid (fun W hW => by
    obtain ⟨ad2, cap2, e, hform2⟩ := (HH.out.keep hW).form
    cases e
    obtain ⟨g2, o2, e2, _, hc2⟩ := hform2 (by simp)
    cases e2
    exact ⟨hc2 0 (by simp), hc2 1 (by simp)⟩)
  have k0 : w.cell? ⟨g, o, none⟩ = some (.int .i64 a) := hc 0 (by simp)
  have HD : Hid (decide (coreG a + coreG b = 0) = (coreG a == -coreG b)) := hid (by
    rw [Bool.eq_iff_iff, decide_eq_true_eq, beq_iff_eq]
    omega)
  obtain ⟨A, hA⟩ : ∃ A, A = coreG a := ⟨_, rfl⟩
  obtain ⟨B, hB⟩ : ∃ B, B = coreG b := ⟨_, rfl⟩
  obtain ⟨r, hr⟩ : ∃ r, r = rootG a := ⟨_, rfl⟩
  obtain ⟨s, hs⟩ : ∃ s, s = rootG b := ⟨_, rfl⟩
  have HCA : Hid (∀ W, Calls Try.prog 38 #[.int .i64 a] W fun e w' => e = .returned (.tuple #[.int .i64 A, .int .i64 (r : Nat)]) ∧ Below W.heap.size W w') := hid (fun W => by rw [hA, hr]; exact numCore_any a HA.out (by omega) (by omega) W)
  have HCB : Hid (∀ W, Calls Try.prog 38 #[.int .i64 b] W fun e w' => e = .returned (.tuple #[.int .i64 B, .int .i64 (s : Nat)]) ∧ Below W.heap.size W w') := hid (fun W => by rw [hB, hs]; exact numCore_any b HB.out (by omega) (by omega) W)
  rw [← hA] at ca ca0
  rw [← hB] at cb cb0
  rw [← hA, ← hB] at HD
  rw [← hA, ← hB, ← hr, ← hs]
  rw [HD.out]
  clear hA hB hr hs h hform hc
  go_enter Try.func47, Try.ntmps47
  go_wp2_with (first
    | (have m2 := hb2; go_at_call 38; refine (HCB.out _).mono ?_; rintro e w3 ⟨rfl, hb3⟩; have hb4 := hb2.trans (hb3.mono hb2.size))
    | (go_at_call 38; refine (HCA.out _).mono ?_; rintro e w2 ⟨rfl, hb2⟩; obtain ⟨_, k1⟩ := HK.out w2 hb2))
  go_ret2
  exact ⟨_, rfl, owns_lit (B := w.heap.size) [(s : Int), (r : Int)] _ rfl hb4.size (by unfold maxLen; simp), hb4.alloc hb4.size _⟩

def three0 (a b c : Int) : Option (List Int) := (searchO (nT a b c)).map (vec3 a b c)
theorem three_is (a b c : Int) : threeO a b c = (three0 a b c).map plainL := by
  unfold threeO three0
  cases searchO (nT a b c) <;> rfl
def mix3 (K : Nat) (x y z p q r : Int) : List Int := [if 0 < K then p else x, if 1 < K then q else y, if 2 < K then r else z]
theorem wrap_4 {x : Int} (h1 : -100000 ≤ x) (h2 : x ≤ 100000) : IntKind.wrap .i64 x = x := by rw [IntKind.wrap_i64]; omega

set_option maxRecDepth 100000 in
set_option maxHeartbeats 8000000 in
theorem zeroOfThree_any (v : Value) (a b c : Int) (ok : Ok3 a b c) (w : World) (h : Rd w v [a, b, c]) : Calls Try.prog 48 #[v] w (SearchPost (three0 a b c) w) := by
  have HH := hid h
  have HOK := hid ok
  obtain ⟨ad, cap, rfl, _⟩ := h.form
  have HD := hid (descend_any (nT a b c) (nM a b c) 20 (coreT a b c) (rootM a b c) ok.desc)
  have HC := hid (fun W hW => coreTerms_any (.slice ad [a, b, c].length cap) a b c HOK.out W hW)
  have HIS := hid ok.nrm.is
  have HV3 := hid (fun l hl => vec3_ok (l := l) ok hl)
  generalize hcv : v6 (coreT a b c) (rootM a b c) = cv at HD HC
  have H30 : Hid (three0 a b c = (searchO (nT a b c)).map (vec3 a b c)) := hid rfl
  have HVE : Hid (∀ l, vec3 a b c l = [(nM a b c).a * l.getD 0 0, (nM a b c).b * l.getD 1 0, (nM a b c).c * l.getD 2 0]) := hid (fun _ => rfl)
  obtain ⟨N, hN⟩ : ∃ N, N = nT a b c := ⟨_, rfl⟩
  obtain ⟨M, hM⟩ : ∃ M, M = nM a b c := ⟨_, rfl⟩
  rw [← hN] at HD HIS H30 HV3
  rw [← hM] at HD HVE
  clear hcv hN hM HOK h ok
  obtain ⟨na, nb, nc⟩ := N
  obtain ⟨oa, ob, oc⟩ := M
  have EV : v6 ⟨na, nb, nc⟩ ⟨oa, ob, oc⟩ = .agg #[.int .i64 na, .int .i64 nb, .int .i64 nc, .int .i64 oa, .int .i64 ob, .int .i64 oc] := rfl
  rw [EV] at HD
  clear EV
  have HZS : Hid (∀ (u : Value) (W : World), Rd W u [na, nb, nc] → Calls Try.prog 11 #[u] W (SearchPost (searchO ⟨na, nb, nc⟩) W)) := hid (fun u W hr => by
    have e : zsearchO [na, nb, nc] = searchO ⟨na, nb, nc⟩ := by
      unfold zsearchO
      rw [show nrmB [na, nb, nc] = true from HIS.out, if_pos rfl]
      rfl
    rw [← e]
    exact zeroSearch_any u [na, nb, nc] W hr)
  obtain ⟨o, ho⟩ : ∃ o, o = searchO ⟨na, nb, nc⟩ := ⟨_, rfl⟩
  have HO := hid ho.symm
  rw [← ho] at HZS H30
  clear ho HIS
  go_enter Try.func48, Try.ntmps48
  go_wp2_with (first
    | (go_at_call 29; refine (HC.out _ HH.out).mono ?_; rintro e w2 ⟨rfl, hb2⟩)
    | (go_at_call 30; refine (HD.out _).mono ?_; rintro e w3 ⟨rfl, hb3⟩; have hc3 := hb2.trans (hb3.mono hb2.size); have r0 : Row6 (w3.alloc (.cells #[.int .i64 0, .int .i64 0, .int .i64 0, .int .i64 0, .int .i64 0, .int .i64 0] 47)) w3.heap.size [0, 0, 0, 0, 0, 0] := Row6.new w3 [0, 0, 0, 0, 0, 0]; obtain ⟨c0, f0, c1, f1, c2, f2, c3, f3, c4, f4, c5, f5, HZ6⟩ := store6 r0 na nb nc oa ob oc))
  have hr6 : Row6 (w3.alloc (.cells #[.int .i64 na, .int .i64 nb, .int .i64 nc, .int .i64 oa, .int .i64 ob, .int .i64 oc] 47)) w3.heap.size [na, nb, nc, oa, ob, oc] := Row6.new w3 [na, nb, nc, oa, ob, oc]
  have hb4 : Below w.heap.size w (w3.alloc (.cells #[.int .i64 na, .int .i64 nb, .int .i64 nc, .int .i64 oa, .int .i64 ob, .int .i64 oc] 47)) := hc3.alloc hc3.size _
  have hB : w3.heap.size < (w3.alloc (.cells #[.int .i64 na, .int .i64 nb, .int .i64 nc, .int .i64 oa, .int .i64 ob, .int .i64 oc] 47)).heap.size := hr6.lt
  clear HD HC HH c0 f0 c1 f1 c2 f2 c3 f3 c4 f4 c5 f5 HZ6 r0 hb2 hb3 hc3
  generalize (w3.alloc (.cells #[.int .i64 na, .int .i64 nb, .int .i64 nc, .int .i64 oa, .int .i64 ob, .int .i64 oc] 47)) = W4 at hr6 hb4 hB ⊢
  refine (HZS.out _ _ (hr6.rd0 (by omega))).mono ?_
  rintro e w5 ⟨u, rfl, hu, hb5⟩
  have hr5 := hr6.keep hb5 hB
  have HB5 := hid (hb4.trans (hb5.mono hb4.size))
  have hs4 := hb4.size
  have hs5 := hb5.size
  have HW45 := hid hb5
  clear hr6 HZS hb4
  cases o with
  | none =>
    have HU : Hid (Owns w5 w.heap.size u []) := hid (hu.down hs4)
    obtain ⟨au, ucap, rfl, _⟩ := HU.out.rd.form
    clear hu hr5 hs4 hs5 hB hb5
    go_wp2_with fail
    go_loopw [7, 19] (fun s7 si wr => si = .int .i64 0 ∧ wr = w5) (fun _ si _ => 0)
    case atStart => exact ⟨rfl, rfl⟩
    case round =>
      obtain ⟨rfl, hw⟩ := hrel
      rename World => wr
      obtain rfl : w5 = wr := hw.symm
      go_wp2_with fail
      go_ret2
      exact ⟨_, by rw [H30.out]; rfl, by rw [H30.out]; exact HU.out, HB5.out⟩
  | some l =>
    obtain ⟨x, y, z, rfl, _⟩ := search_found HO.out
    have h3 := (HV3.out _ HO.out).small
    rw [HVE.out] at h3
    have p3 := h3 (oa * (x : Int)) (by simp)
    have q3 := h3 (ob * (y : Int)) (by simp)
    have r3 := h3 (oc * (z : Int)) (by simp)
    have H3V : Hid (three0 a b c = some [oa * (x : Int), ob * (y : Int), oc * (z : Int)]) := hid (by rw [H30.out]; show some (vec3 a b c [(x : Int), (y : Int), (z : Int)]) = _; rw [HVE.out]; rfl)
    obtain ⟨g, zcap, rfl, hg1, hg2⟩ := hu.block_of (Nat.succ_pos _)
    obtain ⟨X, hX⟩ : ∃ X : Int, X = (x : Int) := ⟨_, rfl⟩
    obtain ⟨Y, hY⟩ : ∃ Y : Int, Y = (y : Int) := ⟨_, rfl⟩
    obtain ⟨Z, hZ⟩ : ∃ Z : Int, Z = (z : Int) := ⟨_, rfl⟩
    rw [← hX, ← hY, ← hZ] at hu H3V
    rw [← hX, Int.mul_comm] at p3
    rw [← hY, Int.mul_comm] at q3
    rw [← hZ, Int.mul_comm] at r3
    rw [Int.mul_comm oa, Int.mul_comm ob, Int.mul_comm oc] at H3V
    have wp := wrap_4 (x := X * oa) (by omega) (by omega)
    have wq := wrap_4 (x := Y * ob) (by omega) (by omega)
    have wr := wrap_4 (x := Z * oc) (by omega) (by omega)
    have HO0 : Hid (Owns w5 W4.heap.size (.slice (some ⟨g, 0, none⟩) 3 zcap) (mix3 0 X Y Z (X * oa) (Y * ob) (Z * oc))) := hid hu
    have HR0 := hid hr5
    have hgB : w3.heap.size < g := by omega
    have hgw : w.heap.size ≤ g := by omega
    have hg4 : W4.heap.size ≤ g := hg1
    have HG := hid hs4
    clear hu hr5 hX hY hZ h3 H30 HVE HV3 HO hb5 HW45 hs4 hs5 hg1 hg2 hB
    go_wp2_with fail
    go_loopw [7, 19] (fun s7 si wr => ∃ K : Nat, si = .int .i64 K ∧ K ≤ 3 ∧ Hid (Owns wr W4.heap.size (.slice (some ⟨g, 0, none⟩) 3 zcap) (mix3 K X Y Z (X * oa) (Y * ob) (Z * oc))) ∧ Hid (Row6 wr w3.heap.size [na, nb, nc, oa, ob, oc]) ∧ Hid (Below w.heap.size w wr)) (fun _ si _ => 3 - (intOf si).toNat)
    case atStart => exact ⟨0, rfl, by omega, HO0, HR0, HB5⟩
    case round =>
      obtain ⟨K, rfl, hK, HOW, HRW, HBW⟩ := hrel
      rename World => wr
      clear HO0 HR0 HB5
      rcases (show K = 0 ∨ K = 1 ∨ K = 2 ∨ K = 3 by omega) with rfl | rfl | rfl | rfl
      · have cz : wr.cell? ⟨g, 0, none⟩ = some (.int .i64 X) := HOW.out.elem (i := 0) (show 0 < 3 by decide)
        have fz : wr.frozen? ⟨g, 0, none⟩ = false := HOW.out.thaw 0
        have cm : wr.cell? ⟨w3.heap.size, 3, none⟩ = some (.int .i64 oa) := HRW.out.cell (i := 3) (show 3 < 6 by decide)
        have HSO := hid ((show Owns wr.drew W4.heap.size (.slice (some ⟨g, 0, none⟩) 3 zcap) (mix3 0 X Y Z (X * oa) (Y * ob) (Z * oc)) from HOW.out).storeAt 0 (X * oa)).1
        go_wp2_with fail
        go_region
        all_goals (
          go_wp2
          go_roundw
          case measure => simp only [intOf]; omega
          case rel => exact ⟨1, by go_num, by omega, HSO, hid ((show Row6 wr.drew w3.heap.size [na, nb, nc, oa, ob, oc] from HRW.out).other (by omega) _ _), hid (HBW.out.drew.setCell (p := ⟨g, 0, none⟩) hgw _)⟩)
      · have cz : wr.cell? ⟨g, 1, none⟩ = some (.int .i64 Y) := HOW.out.elem (i := 1) (show 1 < 3 by decide)
        have fz : wr.frozen? ⟨g, 1, none⟩ = false := HOW.out.thaw 1
        have cm : wr.cell? ⟨w3.heap.size, 4, none⟩ = some (.int .i64 ob) := HRW.out.cell (i := 4) (show 4 < 6 by decide)
        have HSO := hid ((show Owns wr.drew W4.heap.size (.slice (some ⟨g, 0, none⟩) 3 zcap) (mix3 1 X Y Z (X * oa) (Y * ob) (Z * oc)) from HOW.out).storeAt 1 (Y * ob)).1
        go_wp2_with fail
        go_region
        all_goals (
          go_wp2
          go_roundw
          case measure => simp only [intOf]; omega
          case rel => exact ⟨2, by go_num, by omega, HSO, hid ((show Row6 wr.drew w3.heap.size [na, nb, nc, oa, ob, oc] from HRW.out).other (by omega) _ _), hid (HBW.out.drew.setCell (p := ⟨g, 1, none⟩) hgw _)⟩)
      · have cz : wr.cell? ⟨g, 2, none⟩ = some (.int .i64 Z) := HOW.out.elem (i := 2) (show 2 < 3 by decide)
        have fz : wr.frozen? ⟨g, 2, none⟩ = false := HOW.out.thaw 2
        have cm : wr.cell? ⟨w3.heap.size, 5, none⟩ = some (.int .i64 oc) := HRW.out.cell (i := 5) (show 5 < 6 by decide)
        have HSO := hid ((show Owns wr.drew W4.heap.size (.slice (some ⟨g, 0, none⟩) 3 zcap) (mix3 2 X Y Z (X * oa) (Y * ob) (Z * oc)) from HOW.out).storeAt 2 (Z * oc)).1
        go_wp2_with fail
        go_region
        all_goals (
          go_wp2
          go_roundw
          case measure => simp only [intOf]; omega
          case rel => exact ⟨3, by go_num, by omega, HSO, hid ((show Row6 wr.drew w3.heap.size [na, nb, nc, oa, ob, oc] from HRW.out).other (by omega) _ _), hid (HBW.out.drew.setCell (p := ⟨g, 2, none⟩) hgw _)⟩)
      · have HUU : Hid (Owns wr w.heap.size (.slice (some ⟨g, 0, none⟩) 3 zcap) [X * oa, Y * ob, Z * oc]) := hid ((show Owns wr W4.heap.size (.slice (some ⟨g, 0, none⟩) 3 zcap) [X * oa, Y * ob, Z * oc] from HOW.out).down HG.out)
        go_wp2_with fail
        go_ret2
        exact ⟨_, by rw [H3V.out]; rfl, by rw [H3V.out]; exact HUU.out, HBW.out⟩

end Go.Proofs.Ytenibnblibnocac
