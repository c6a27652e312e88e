/-
  Some texts in one file: MvC MvD MvE MvF MvG.
-/
import Derived.Test.YtjabklpnohfjpabQBun0
import Derived.Test.YtjabklpnohfjpabQVals5
import Derived.Test.YtjabklpnohfjpabQBun17
/-! MvC -/
set_option linter.unusedVariables false
namespace Go.Proofs.Ytjabklpnohfjpab
open Go.RowKit

def at2 (R : List (List Int)) (i k : Nat) : Int := (R.getD i []).getD k 0
def sgF (d : Int) : Int := if d < 0 then -1 else 1
theorem sgF_pm (d : Int) : sgF d = 1 ∨ sgF d = -1 := by unfold sgF; split; exact .inr rfl; exact .inl rfl
/-- what l7Low divides by -/
def gM (R : List (List Int)) (d : Int) : Int := sgF d * (gcdL (d :: R.flatten) : Int)
def mapM (f : Int → Int) (R : List (List Int)) : List (List Int) := R.map (fun r => r.map f)
def lowR (R : List (List Int)) (d : Int) : List (List Int) := mapM (fun x => x.tdiv (gM R d)) R
def lowD (R : List (List Int)) (d : Int) : Int := d.tdiv (gM R d)
theorem mapM_flat (f : Int → Int) (R : List (List Int)) : (mapM f R).flatten = R.flatten.map f := by
  unfold mapM
  rw [List.map_flatten]
theorem mapM_mapM (f g : Int → Int) (R : List (List Int)) : mapM f (mapM g R) = mapM (fun x => f (g x)) R := by
  unfold mapM
  rw [List.map_map]
  refine List.map_congr_left fun r _ => ?_
  show (r.map g).map f = _
  rw [List.map_map]
  rfl
theorem mapM_congr {f g : Int → Int} {R : List (List Int)} (h : ∀ r ∈ R, ∀ x ∈ r, f x = g x) : mapM f R = mapM g R :=
  List.map_congr_left fun r hr => List.map_congr_left fun x hx => h r hr x hx
theorem mapM_id (R : List (List Int)) : mapM (fun x => x) R = R := by
  unfold mapM
  conv => rhs; rw [← List.map_id R]
  exact List.map_congr_left fun r _ => by simp
theorem mapM_at (f : Int → Int) (h0 : f 0 = 0) (R : List (List Int)) (i k : Nat) : at2 (mapM f R) i k = f (at2 R i k) := by
  unfold at2 mapM
  have e1 : (R.map (fun r => r.map f)).getD i [] = (R.getD i []).map f := by
    by_cases h : i < R.length
    · rw [List.getD_eq_getElem?_getD, List.getD_eq_getElem?_getD, List.getElem?_map, List.getElem?_eq_getElem h]; rfl
    · rw [List.getD_eq_getElem?_getD, List.getD_eq_getElem?_getD, List.getElem?_map, List.getElem?_eq_none (by omega)]; rfl
  rw [e1]
  by_cases h : k < (R.getD i []).length
  · rw [List.getD_eq_getElem?_getD, List.getD_eq_getElem?_getD (l := R.getD i []), List.getElem?_map, List.getElem?_eq_getElem h]; rfl
  · rw [List.getD_eq_getElem?_getD, List.getD_eq_getElem?_getD (l := R.getD i []), List.getElem?_map, List.getElem?_eq_none (by omega)]; exact h0.symm
theorem head_ne {R : List (List Int)} {d : Int} (h : d ≠ 0) : ∃ v ∈ d :: R.flatten, v ≠ 0 := ⟨d, List.mem_cons_self .., h⟩
theorem sign_head {R : List (List Int)} {d : Int} (h : d ≠ 0) : signL (d :: R.flatten) = sgF d := by
  unfold signL sgF
  rw [if_neg h]
theorem gM_ne {R : List (List Int)} {d : Int} (h : d ≠ 0) : gM R d ≠ 0 := by
  have := sg_ne (head_ne (R := R) h)
  rwa [sign_head h] at this
theorem gM_dvd {R : List (List Int)} {d x : Int} (hx : x ∈ d :: R.flatten) : gM R d ∣ x := by
  unfold gM
  rcases sgF_pm d with e | e <;> rw [e]
  · rw [Int.one_mul]; exact gcdL_dvd hx
  · rw [Int.neg_mul, Int.one_mul, Int.neg_dvd]; exact gcdL_dvd hx
theorem low_mul {R : List (List Int)} {d x : Int} (hx : x ∈ d :: R.flatten) : gM R d * x.tdiv (gM R d) = x := by
  rw [Int.mul_comm]; exact Int.tdiv_mul_cancel (gM_dvd hx)
theorem low_plain {R : List (List Int)} {d : Int} (h : d ≠ 0) : lowD R d :: (lowR R d).flatten = plainL (d :: R.flatten) := by
  unfold lowD lowR plainL
  rw [mapM_flat, sign_head h, List.map_cons]
  have key : ∀ v : Int, v.tdiv (gM R d) = (sgF d * v).tdiv (gcdL (d :: R.flatten) : Int) := fun v => by
    unfold gM
    rcases sgF_pm d with e | e <;> rw [e]
    · rw [Int.one_mul, Int.one_mul]
    · rw [Int.neg_mul, Int.one_mul, Int.neg_mul, Int.one_mul, Int.tdiv_neg, Int.neg_tdiv]
  rw [key d]
  congr 1
  exact List.map_congr_left fun v _ => key v
theorem lowR_back {R : List (List Int)} {d : Int} : mapM (fun x => gM R d * x) (lowR R d) = R := by
  unfold lowR
  rw [mapM_mapM]
  conv => rhs; rw [← mapM_id R]
  exact mapM_congr fun r hr x hx => low_mul (List.mem_cons_of_mem _ (List.mem_flatten.2 ⟨r, hr, hx⟩))
theorem lowD_back {R : List (List Int)} {d : Int} : gM R d * lowD R d = d := low_mul (List.mem_cons_self ..)
theorem low_at (R : List (List Int)) (d : Int) (i k : Nat) : gM R d * at2 (lowR R d) i k = at2 R i k := by
  have e := mapM_at (fun x => gM R d * x) (Int.mul_zero _) (lowR R d) i k
  rw [lowR_back] at e
  exact e.symm
theorem lowD_pos {R : List (List Int)} {d : Int} (h : d ≠ 0) : 1 ≤ lowD R d := by
  have e := lowD_back (R := R) (d := d)
  have hg := gcdL_pos (head_ne (R := R) h)
  unfold gM at e
  generalize lowD R d = D at e ⊢
  obtain ⟨g, hgg⟩ : ∃ g : Int, g = (gcdL (d :: R.flatten) : Int) := ⟨_, rfl⟩
  rw [← hgg] at e
  have g1 : 1 ≤ g := by omega
  refine Classical.byContradiction fun hc => ?_
  have hD : D ≤ 0 := by omega
  have hm : g * D ≤ 0 := Int.mul_nonpos_of_nonneg_of_nonpos (by omega) hD
  unfold sgF at e
  split at e
  · rw [Int.mul_assoc, Int.neg_mul, Int.one_mul] at e; omega
  · rw [Int.mul_assoc, Int.one_mul] at e; omega
/-- lowest terms -/
def Red (R : List (List Int)) (d : Int) : Prop := 1 ≤ d ∧ gcdL (d :: R.flatten) = 1
theorem low_red {R : List (List Int)} {d : Int} (h : d ≠ 0) : Red (lowR R d) (lowD R d) := by
  refine ⟨lowD_pos h, ?_⟩
  rw [low_plain h]
  exact plain_gcd (head_ne h)
theorem red_plain {R : List (List Int)} {d : Int} (h : Red R d) : plainL (d :: R.flatten) = d :: R.flatten := by
  unfold plainL
  rw [sign_head (by have := h.1; omega), h.2]
  have e : sgF d = 1 := by unfold sgF; rw [if_neg (by have := h.1; omega)]
  rw [e]
  conv => rhs; rw [← List.map_id (d :: R.flatten)]
  exact List.map_congr_left fun v _ => by simp
theorem red_low {R : List (List Int)} {d : Int} (h : Red R d) : lowR R d = R ∧ lowD R d = d := by
  have e : gM R d = 1 := by unfold gM sgF; rw [h.2, if_neg (by have := h.1; omega)]; rfl
  unfold lowR lowD
  rw [e]
  exact ⟨by rw [mapM_congr (g := fun x => x) fun _ _ x _ => Int.tdiv_one x, mapM_id], Int.tdiv_one d⟩
theorem mapM_inj {l : Int} (hl : l ≠ 0) {A B : List (List Int)} (h : mapM (fun x => l * x) A = mapM (fun x => l * x) B) : A = B := by
  have h2 := congrArg (mapM (fun x => x.tdiv l)) h
  rw [mapM_mapM, mapM_mapM, mapM_congr (g := fun x => x) fun _ _ x _ => Int.mul_tdiv_cancel_left x hl, mapM_congr (R := B) (g := fun x => x) fun _ _ x _ => Int.mul_tdiv_cancel_left x hl, mapM_id, mapM_id] at h2
  exact h2
/-- proportional tables have the same lowest terms -/
theorem low_prop {R0 R : List (List Int)} {d0 d k l : Int} (hk : k ≠ 0) (hl : l ≠ 0) (h0 : d0 ≠ 0) (hd : k * d0 = l * d) (hR : mapM (fun x => k * x) R0 = mapM (fun x => l * x) R) (hr : Red R d) : lowR R0 d0 = R ∧ lowD R0 d0 = d := by
  have hd0 : d ≠ 0 := by have := hr.1; omega
  have e1 := low_plain (R := R0) h0
  rw [← plain_scale hk (head_ne h0), List.map_cons, ← mapM_flat, hR, mapM_flat, hd, ← List.map_cons (f := fun x => l * x), plain_scale hl (head_ne hd0), red_plain hr] at e1
  have eD : lowD R0 d0 = d := (List.cons.inj e1).1
  refine ⟨?_, eD⟩
  have eb := lowD_back (R := R0) (d := d0)
  rw [eD] at eb
  have eg : k * gM R0 d0 = l := by
    refine Int.eq_of_mul_eq_mul_right hd0 ?_
    rw [Int.mul_assoc, eb, hd]
  refine mapM_inj hl ?_
  rw [← hR]
  conv => rhs; rw [← lowR_back (R := R0) (d := d0)]
  rw [mapM_mapM]
  exact mapM_congr fun _ _ x _ => by rw [← Int.mul_assoc, eg]

/-- a table with n rows of n integers -/
def matL (n : Nat) (M : Nat → Nat → Int) : List (List Int) := (List.range n).map (fun i => (List.range n).map (fun k => M i k))
theorem mat_at {n i k : Nat} (M : Nat → Nat → Int) (hi : i < n) (hk : k < n) : at2 (matL n M) i k = M i k := by
  unfold at2 matL
  have e : ((List.range n).map (fun i => (List.range n).map (fun k => M i k))).getD i [] = (List.range n).map (fun k => M i k) := by
    rw [List.getD_eq_getElem?_getD, List.getElem?_map, List.getElem?_range hi]; rfl
  rw [e, List.getD_eq_getElem?_getD, List.getElem?_map, List.getElem?_range hk]
  rfl
def Sq (n : Nat) (R : List (List Int)) : Prop := R.length = n ∧ ∀ r ∈ R, r.length = n
theorem mat_sq (n : Nat) (M : Nat → Nat → Int) : Sq n (matL n M) := by
  refine ⟨by unfold matL; simp, fun r hr => ?_⟩
  obtain ⟨i, _, rfl⟩ := List.mem_map.1 hr
  simp
theorem sq_map {n : Nat} {R : List (List Int)} (h : Sq n R) (f : Int → Int) : Sq n (mapM f R) := by
  refine ⟨by unfold mapM; rw [List.length_map]; exact h.1, fun r hr => ?_⟩
  obtain ⟨q, hq, rfl⟩ := List.mem_map.1 hr
  rw [List.length_map]; exact h.2 q hq
theorem sq_low {n : Nat} {R : List (List Int)} {d : Int} (h : Sq n R) : Sq n (lowR R d) := sq_map h _
theorem sq_ext {n : Nat} {A B : List (List Int)} (hA : Sq n A) (hB : Sq n B) (h : ∀ i k, i < n → k < n → at2 A i k = at2 B i k) : A = B := by
  refine List.ext_getElem (by rw [hA.1, hB.1]) fun i h1 h2 => ?_
  have hi : i < n := by rw [← hA.1]; exact h1
  have ea : A.getD i [] = A[i] := by rw [List.getD_eq_getElem?_getD, List.getElem?_eq_getElem h1]; rfl
  have eb : B.getD i [] = B[i] := by rw [List.getD_eq_getElem?_getD, List.getElem?_eq_getElem h2]; rfl
  have la := hA.2 A[i] (List.getElem_mem _)
  have lb := hB.2 B[i] (List.getElem_mem _)
  refine List.ext_getElem (by rw [la, lb]) fun k k1 k2 => ?_
  have e := h i k hi (by rw [← la]; exact k1)
  unfold at2 at e
  rw [ea, eb, List.getD_eq_getElem?_getD, List.getD_eq_getElem?_getD, List.getElem?_eq_getElem k1, List.getElem?_eq_getElem k2] at e
  exact e
theorem mat_of {n : Nat} {R : List (List Int)} (h : Sq n R) : matL n (at2 R) = R := sq_ext (mat_sq n _) h fun i k hi hk => mat_at _ hi hk
/-- what has been made is the move that it is proportional to -/
theorem low_mat {n : Nat} {M : Nat → Nat → Int} {d0 : Int} {R : List (List Int)} {d k l : Int} (hk : k ≠ 0) (hl : l ≠ 0) (h0 : d0 ≠ 0) (hd : k * d0 = l * d) (hS : Sq n R) (hM : ∀ i j, i < n → j < n → k * M i j = l * at2 R i j) (hr : Red R d) : lowR (matL n M) d0 = R ∧ lowD (matL n M) d0 = d := by
  refine low_prop hk hl h0 hd (sq_ext (sq_map (mat_sq n M) _) (sq_map hS _) fun i j hi hj => ?_) hr
  rw [mapM_at _ (Int.mul_zero _), mapM_at _ (Int.mul_zero _), mat_at _ hi hj]
  exact hM i j hi hj

end Go.Proofs.Ytjabklpnohfjpab

/-! MvD -/
set_option linter.unusedVariables false
namespace Go.Proofs.Ytjabklpnohfjpab
open Go.RowKit

def mirF (f w : Nat → Int) (q : Int) : Nat → Nat → Int := fun i k => (if i = k then q else 0) - 2 * f k * w k * w i
theorem mir_ap (f w : Nat → Int) (q : Int) {n i : Nat} (v : Nat → Int) (h : i < n) : apF (mirF f w q) n v i = q * v i - 2 * prF f n w v * w i := by
  have e : apF (mirF f w q) n v i = sumF (fun k => idF q i k * v k + -2 * w i * (f k * w k * v k)) n :=
    sumF_congr fun k _ => by show ((if i = k then q else 0) - 2 * f k * w k * w i) * v k = (if i = k then q else 0) * v k + _; grind
  rw [e, sumF_add, sumF_mul]
  have e2 : sumF (fun k => idF q i k * v k) n = q * v i := ap_id q v h
  rw [e2]
  show q * v i + -2 * w i * prF f n w v = _
  grind
theorem pr_less (f : Nat → Int) (n : Nat) (a b : Int) (x y z : Nat → Int) : prF f n (fun i => a * x i - b * y i) z = a * prF f n x z - b * prF f n y z := by
  have e : prF f n (fun i => a * x i - b * y i) z = prF f n (fun i => a * x i + -b * y i) z := pr_congr (fun i _ => by grind) fun _ _ => rfl
  rw [e, pr_add (x := fun i => a * x i) (y := fun i => -b * y i), pr_scale, pr_scale]
  grind
theorem pr_less2 (f : Nat → Int) (n : Nat) (a b : Int) (x y z : Nat → Int) : prF f n z (fun i => a * x i - b * y i) = a * prF f n z x - b * prF f n z y := by
  rw [pr_comm, pr_less, pr_comm f n x z, pr_comm f n y z]
/-- mirrors keep pairs -/
theorem mir_pair (f w : Nat → Int) (n : Nat) (x y : Nat → Int) : prF f n (apF (mirF f w (prF f n w w)) n x) (apF (mirF f w (prF f n w w)) n y) = prF f n w w * prF f n w w * prF f n x y := by
  rw [pr_congr (x' := fun i => prF f n w w * x i - 2 * prF f n w x * w i) (y' := fun i => prF f n w w * y i - 2 * prF f n w y * w i) (fun i hi => mir_ap f w _ x hi) (fun i hi => mir_ap f w _ y hi)]
  rw [pr_less, pr_less2, pr_less2, pr_comm f n x w]
  grind
theorem mir_orth (f w : Nat → Int) (n : Nat) : Orth f n (mirF f w (prF f n w w)) (prF f n w w) := orth_of fun x y => mir_pair f w n x y
/-- twice the same mirror -/
theorem mir_twice (f w : Nat → Int) {n i : Nat} (v : Nat → Int) (h : i < n) : apF (mirF f w (prF f n w w)) n (apF (mirF f w (prF f n w w)) n v) i = prF f n w w * prF f n w w * v i := by
  rw [mir_ap f w _ _ h, mir_ap f w _ v h, pr_congr (f := f) (x := w) (x' := w) (y' := fun i => prF f n w w * v i - 2 * prF f n w v * w i) (fun _ _ => rfl) (fun i hi => mir_ap f w _ v hi), pr_less2]
  grind
theorem mir_mul (f w : Nat → Int) {n i k : Nat} (hi : i < n) (hk : k < n) : mulF (mirF f w (prF f n w w)) (mirF f w (prF f n w w)) n i k = idF (prF f n w w * prF f n w w) i k := by
  rw [← ap_unit (mulF _ _ n) hk, ap_mul, mir_twice f w _ hi]
  unfold idF unF
  split
  · rw [Int.mul_one]
  · rw [Int.mul_zero]
theorem mir_self (f w : Nat → Int) {n i : Nat} (h : i < n) : apF (mirF f w (prF f n w w)) n w i = prF f n w w * -w i := by
  rw [mir_ap f w _ w h]; grind
theorem mir_fix (f w : Nat → Int) {n i : Nat} (q : Int) {v : Nat → Int} (h : i < n) (h0 : prF f n w v = 0) : apF (mirF f w q) n v i = q * v i := by
  rw [mir_ap f w q v h, h0]; grind
/-- the mirror of a difference exchanges both -/
theorem mir_less {f u e w : Nat → Int} {n : Nat} (hw : ∀ i, i < n → w i = u i - e i) (h : prF f n u u = prF f n e e) {i : Nat} (hi : i < n) : apF (mirF f w (prF f n w w)) n u i = prF f n w w * e i := by
  have hww : prF f n w w = prF f n (fun i => 1 * u i - 1 * e i) (fun i => 1 * u i - 1 * e i) := pr_congr (fun i hi => by rw [hw i hi]; omega) (fun i hi => by rw [hw i hi]; omega)
  have hwu : prF f n w u = prF f n (fun i => 1 * u i - 1 * e i) u := pr_congr (fun i hi => by rw [hw i hi]; omega) fun _ _ => rfl
  rw [pr_less, pr_less2, pr_less2, pr_comm f n u e] at hww
  rw [pr_less] at hwu
  rw [mir_ap f w _ u hi, hw i hi]
  have e2 : 2 * prF f n w u = prF f n w w := by omega
  rw [e2]
  grind
theorem mir_more {f u e w : Nat → Int} {n : Nat} (hw : ∀ i, i < n → w i = u i + e i) (h : prF f n u u = prF f n e e) {i : Nat} (hi : i < n) : apF (mirF f w (prF f n w w)) n u i = prF f n w w * -e i := by
  have he : prF f n u u = prF f n (fun i => 0 * e i - 1 * e i) (fun i => 0 * e i - 1 * e i) := by
    rw [pr_less, pr_less2, h]; grind
  have := mir_less (f := f) (u := u) (e := fun i => 0 * e i - 1 * e i) (w := w) (n := n) (fun i hi => by rw [hw i hi]; omega) he hi
  rw [this]
  congr 1
  omega
/-- the values at sum and difference -/
theorem less_more {f u e : Nat → Int} {n : Nat} (h : prF f n u u = prF f n e e) : prF f n (fun i => u i - e i) (fun i => u i - e i) + prF f n (fun i => u i + e i) (fun i => u i + e i) = 4 * prF f n e e := by
  have h1 : prF f n (fun i => u i - e i) (fun i => u i - e i) = prF f n (fun i => 1 * u i - 1 * e i) (fun i => 1 * u i - 1 * e i) := pr_congr (fun i _ => by omega) (fun i _ => by omega)
  have h2 : prF f n (fun i => u i + e i) (fun i => u i + e i) = prF f n (fun i => 1 * u i - (-1) * e i) (fun i => 1 * u i - (-1) * e i) := pr_congr (fun i _ => by omega) (fun i _ => by omega)
  rw [h1, h2, pr_less, pr_less2, pr_less2, pr_less, pr_less2, pr_less2, pr_comm f n u e]
  grind
theorem mir_scale {f w v : Nat → Int} {n : Nat} {g : Int} (h : ∀ i, i < n → w i = g * v i) {i k : Nat} (hi : i < n) (hk : k < n) : prF f n w w = g * g * prF f n v v ∧ mirF f w (prF f n w w) i k = g * g * mirF f v (prF f n v v) i k := by
  have e : prF f n w w = g * g * prF f n v v := by
    rw [pr_congr h h, pr_scale, pr_comm, pr_scale, Int.mul_assoc]
  refine ⟨e, ?_⟩
  rw [e]
  unfold mirF
  rw [h i hi, h k hk]
  split <;> grind
theorem mir_minus (f w : Nat → Int) (q : Int) (i k : Nat) : mirF f (fun i => -w i) q i k = mirF f w q i k := by
  unfold mirF; grind
theorem pr_minus (f w : Nat → Int) (n : Nat) : prF f n (fun i => -w i) (fun i => -w i) = prF f n w w := sumF_congr fun i _ => by grind
theorem mir_det {n : Nat} (hn : n = 1 ∨ n = 2 ∨ n = 3) (f w : Nat → Int) : detF n (mirF f w (prF f n w w)) = -(prF f n w w) ^ n := by
  rcases hn with rfl | rfl | rfl
  · rw [det1]
    have e : prF f 1 w w = f 0 * w 0 * w 0 := sumF1 _
    rw [e]
    show f 0 * w 0 * w 0 - 2 * f 0 * w 0 * w 0 = _
    grind
  · rw [det2]
    have e : prF f 2 w w = f 0 * w 0 * w 0 + f 1 * w 1 * w 1 := sumF2 _
    rw [e]
    show (f 0 * w 0 * w 0 + f 1 * w 1 * w 1 - 2 * f 0 * w 0 * w 0) * (f 0 * w 0 * w 0 + f 1 * w 1 * w 1 - 2 * f 1 * w 1 * w 1) - (0 - 2 * f 1 * w 1 * w 0) * (0 - 2 * f 0 * w 0 * w 1) = _
    grind
  · rw [det3]
    have e : prF f 3 w w = f 0 * w 0 * w 0 + f 1 * w 1 * w 1 + f 2 * w 2 * w 2 := sumF3 _
    obtain ⟨q, hq⟩ : ∃ q, q = prF f 3 w w := ⟨_, rfl⟩
    rw [← hq] at e ⊢
    show (q - 2 * f 0 * w 0 * w 0) * ((q - 2 * f 1 * w 1 * w 1) * (q - 2 * f 2 * w 2 * w 2) - (0 - 2 * f 2 * w 2 * w 1) * (0 - 2 * f 1 * w 1 * w 2)) + (0 - 2 * f 1 * w 1 * w 0) * ((0 - 2 * f 2 * w 2 * w 1) * (0 - 2 * f 0 * w 0 * w 2) - (0 - 2 * f 0 * w 0 * w 1) * (q - 2 * f 2 * w 2 * w 2)) + (0 - 2 * f 2 * w 2 * w 0) * ((0 - 2 * f 0 * w 0 * w 1) * (0 - 2 * f 1 * w 1 * w 2) - (q - 2 * f 1 * w 1 * w 1) * (0 - 2 * f 0 * w 0 * w 2)) = _
    have e3 : ∀ q a b c : Int, (q - 2 * a) * ((q - 2 * b) * (q - 2 * c)) = q ^ 3 - 2 * q ^ 2 * (a + b + c) + 4 * q * (a * b + b * c + a * c) - 8 * (a * b * c) := fun q a b c => by grind
    have e4 : (q - 2 * f 0 * w 0 * w 0) * ((q - 2 * f 1 * w 1 * w 1) * (q - 2 * f 2 * w 2 * w 2) - (0 - 2 * f 2 * w 2 * w 1) * (0 - 2 * f 1 * w 1 * w 2)) + (0 - 2 * f 1 * w 1 * w 0) * ((0 - 2 * f 2 * w 2 * w 1) * (0 - 2 * f 0 * w 0 * w 2) - (0 - 2 * f 0 * w 0 * w 1) * (q - 2 * f 2 * w 2 * w 2)) + (0 - 2 * f 2 * w 2 * w 0) * ((0 - 2 * f 0 * w 0 * w 1) * (0 - 2 * f 1 * w 1 * w 2) - (q - 2 * f 1 * w 1 * w 1) * (0 - 2 * f 0 * w 0 * w 2)) = q ^ 3 - 2 * q ^ 2 * (f 0 * w 0 * w 0 + f 1 * w 1 * w 1 + f 2 * w 2 * w 2) := by grind
    rw [e4, ← e]
    grind

end Go.Proofs.Ytjabklpnohfjpab

/-! MvE -/
set_option linter.unusedVariables false
namespace Go.Proofs.Ytjabklpnohfjpab
open Go.RowKit

def fF (xs : List Int) : Nat → Int := fun i => xs.getD i 0
theorem pair_pr (xs vs ws : List Int) : ∀ n, pairI xs vs ws n = prF (fF xs) n (fF vs) (fF ws)
  | 0 => rfl
  | n + 1 => by unfold pairI; rw [pair_pr xs vs ws n]; rfl
theorem val_pr (xs vs : List Int) (n : Nat) : valI xs vs n = prF (fF xs) n (fF vs) (fF vs) := by rw [← pair_self, pair_pr]

def frm3B (xs : List Int) : Bool := fvB xs && decide (xs.length ≤ 3)
def shapeB (xs : List Int) (R : List (List Int)) (d : Int) : Bool := frm3B xs && (decide (R.length = xs.length) && (inR d 1 10000 && (R.all (fun r => decide (r.length = xs.length) && r.all (fun x => inR x (-1000000) 1000000)) && decide (gcdL (d :: R.flatten) = 1))))
def orthB (xs : List Int) (R : List (List Int)) (d : Int) : Bool := (List.range xs.length).all fun i => (List.range xs.length).all fun k => decide (sumF (fun r => fF xs r * at2 R r i * at2 R r k) xs.length = if i = k then fF xs i * d * d else 0)
def moveB (xs : List Int) (R : List (List Int)) (d : Int) : Bool := shapeB xs R d && orthB xs R d
structure MoveOk (xs : List Int) (R : List (List Int)) (d : Int) : Prop where
  form : fvB xs = true
  l3 : xs.length ≤ 3
  sq : Sq xs.length R
  den : 1 ≤ d ∧ d ≤ 10000
  bd : ∀ r ∈ R, ∀ x ∈ r, -1000000 ≤ x ∧ x ≤ 1000000
  low : gcdL (d :: R.flatten) = 1
  orth : Orth (fF xs) xs.length (at2 R) d
theorem inR_iff9 {x a b : Int} : inR x a b = true ↔ a ≤ x ∧ x ≤ b := by
  unfold inR
  rw [Bool.and_eq_true, decide_eq_true_eq, decide_eq_true_eq]
theorem moveB_iff {xs : List Int} {R : List (List Int)} {d : Int} : moveB xs R d = true ↔ MoveOk xs R d := by
  unfold moveB shapeB frm3B orthB
  simp only [Bool.and_eq_true, List.all_eq_true, decide_eq_true_eq, inR_iff9, List.mem_range]
  constructor
  · rintro ⟨⟨⟨h1, h2⟩, h3, h4, h5, h6⟩, h7⟩
    exact ⟨h1, h2, ⟨h3, fun r hr => (h5 r hr).1⟩, h4, fun r hr => (h5 r hr).2, h6, fun i k hi hk => h7 i hi k hk⟩
  · rintro ⟨h1, h2, ⟨h3, h4⟩, h5, h6, h7, h8⟩
    exact ⟨⟨⟨h1, h2⟩, h3, h5, fun r hr => ⟨h4 r hr, h6 r hr⟩, h7⟩, fun i hi k hk => h8 i k hi hk⟩
theorem form_n3 {xs : List Int} (hf : fvB xs = true) (h3 : xs.length ≤ 3) : xs.length = 1 ∨ xs.length = 2 ∨ xs.length = 3 := by
  have := (fvB_iff.1 hf).2
  omega
theorem MoveOk.n3 {xs : List Int} {R : List (List Int)} {d : Int} (h : MoveOk xs R d) : xs.length = 1 ∨ xs.length = 2 ∨ xs.length = 3 := form_n3 h.form h.l3
theorem MoveOk.red {xs : List Int} {R : List (List Int)} {d : Int} (h : MoveOk xs R d) : Red R d := ⟨h.den.1, h.low⟩
theorem MoveOk.d0 {xs : List Int} {R : List (List Int)} {d : Int} (h : MoveOk xs R d) : d ≠ 0 := by have := h.den.1; omega
theorem term_ne {xs : List Int} (hf : fvB xs = true) {i : Nat} (hi : i < xs.length) : fF xs i ≠ 0 := by
  have := (fvB_iff.1 hf).1 (xs[i]) (List.getElem_mem _)
  unfold fF
  rw [List.getD_eq_getElem?_getD, List.getElem?_eq_getElem hi]
  exact this.1

/-- a table is a multiple of another one, its denominator too -/
def Rep (n : Nat) (M : Nat → Nat → Int) (D : Int) (R : List (List Int)) (d : Int) : Prop := ∃ g : Int, g ≠ 0 ∧ (∀ i k, i < n → k < n → M i k = g * at2 R i k) ∧ D = g * d
def tidyV (xs : List Int) (R0 : List (List Int)) (d0 : Int) : Option (List (List Int) × Int) := if moveB xs (lowR R0 d0) (lowD R0 d0) then some (lowR R0 d0, lowD R0 d0) else none
theorem tidy_some {xs : List Int} {M : Nat → Nat → Int} {d0 : Int} {R : List (List Int)} {d : Int} (h0 : d0 ≠ 0) (h : tidyV xs (matL xs.length M) d0 = some (R, d)) : MoveOk xs R d ∧ Rep xs.length M d0 R d := by
  unfold tidyV at h
  split at h
  · next hm =>
    simp only [Option.some.injEq, Prod.mk.injEq] at h
    obtain ⟨rfl, rfl⟩ := h
    refine ⟨moveB_iff.1 hm, _, gM_ne (R := matL xs.length M) h0, fun i k hi hk => ?_, lowD_back.symm⟩
    rw [low_at, mat_at _ hi hk]
  · cases h
theorem tidy_is {xs : List Int} {M : Nat → Nat → Int} {d0 : Int} {R : List (List Int)} {d k l : Int} (h : MoveOk xs R d) (hk : k ≠ 0) (hl : l ≠ 0) (h0 : d0 ≠ 0) (hd : k * d0 = l * d) (hM : ∀ i j, i < xs.length → j < xs.length → k * M i j = l * at2 R i j) : tidyV xs (matL xs.length M) d0 = some (R, d) := by
  obtain ⟨e1, e2⟩ := low_mat hk hl h0 hd h.sq hM h.red
  unfold tidyV
  rw [e1, e2, moveB_iff.2 h, if_pos rfl]
/-- moves that are proportional are the same -/
theorem move_eq {xs : List Int} {R R' : List (List Int)} {d d' k l : Int} (h : MoveOk xs R d) (h' : MoveOk xs R' d') (hk : k ≠ 0) (hl : l ≠ 0) (hd : k * d = l * d') (hM : ∀ i j, i < xs.length → j < xs.length → k * at2 R i j = l * at2 R' i j) : R = R' ∧ d = d' := by
  obtain ⟨e1, e2⟩ := low_mat (M := at2 R) hk hl h.d0 hd h'.sq hM h'.red
  rw [mat_of h.sq] at e1 e2
  obtain ⟨e3, e4⟩ := red_low h.red
  exact ⟨e3.symm.trans e1, e4.symm.trans e2⟩

/-! ### what stays -/
def stayL (n : Nat) : List (List Int) := matL n (idF 1)
theorem stay_at {n i k : Nat} (hi : i < n) (hk : k < n) : at2 (stayL n) i k = idF 1 i k := mat_at _ hi hk
theorem id_orth (f : Nat → Int) (n : Nat) (c : Int) : Orth f n (idF c) c := orth_of fun x y => by
  rw [pr_congr (fun i hi => ap_id c x hi) (fun i hi => ap_id c y hi), pr_scale, pr_comm, pr_scale, pr_comm]; grind
theorem orth_congr {f : Nat → Int} {n : Nat} {A B : Nat → Nat → Int} {d : Int} (h : ∀ i k, i < n → k < n → A i k = B i k) (hA : Orth f n A d) : Orth f n B d := fun i k hi hk => by
  rw [← hA i k hi hk]
  exact sumF_congr fun r hr => by rw [h r i hr hi, h r k hr hk]
theorem stay_ok {xs : List Int} (hf : fvB xs = true) (h3 : xs.length ≤ 3) : MoveOk xs (stayL xs.length) 1 := by
  refine ⟨hf, h3, mat_sq _ _, by omega, fun r hr x hx => ?_, ?_, orth_congr (fun i k hi hk => (stay_at hi hk).symm) (id_orth _ _ 1)⟩
  · obtain ⟨i, _, rfl⟩ := List.mem_map.1 hr
    obtain ⟨k, _, rfl⟩ := List.mem_map.1 hx
    unfold idF
    split <;> omega
  · have h1 := (gcdL_dvdG (1 :: (stayL xs.length).flatten) 0).2 1 (List.mem_cons_self ..)
    have h2 : gcdL (1 :: (stayL xs.length).flatten) ∣ 1 := h1
    exact Nat.dvd_one.1 h2

/-! ### products -/
def mulV (xs : List Int) (A : List (List Int)) (a : Int) (B : List (List Int)) (b : Int) : Option (List (List Int) × Int) := if moveB xs A a && moveB xs B b then tidyV xs (matL xs.length (mulF (at2 A) (at2 B) xs.length)) (a * b) else none
theorem mul_some {xs : List Int} {A B R : List (List Int)} {a b d : Int} (h : mulV xs A a B b = some (R, d)) : MoveOk xs A a ∧ MoveOk xs B b ∧ MoveOk xs R d ∧ Rep xs.length (mulF (at2 A) (at2 B) xs.length) (a * b) R d := by
  unfold mulV at h
  split at h
  · next hm =>
    rw [Bool.and_eq_true] at hm
    have hA := moveB_iff.1 hm.1
    have hB := moveB_iff.1 hm.2
    obtain ⟨h1, h2⟩ := tidy_some (Int.mul_ne_zero hA.d0 hB.d0) h
    exact ⟨hA, hB, h1, h2⟩
  · cases h
theorem mul_is {xs : List Int} {A B R : List (List Int)} {a b d k l : Int} (hA : MoveOk xs A a) (hB : MoveOk xs B b) (hR : MoveOk xs R d) (hk : k ≠ 0) (hl : l ≠ 0) (hd : k * (a * b) = l * d) (hM : ∀ i j, i < xs.length → j < xs.length → k * mulF (at2 A) (at2 B) xs.length i j = l * at2 R i j) : mulV xs A a B b = some (R, d) := by
  unfold mulV
  rw [moveB_iff.2 hA, moveB_iff.2 hB, Bool.and_self, if_pos rfl]
  exact tidy_is hR hk hl (Int.mul_ne_zero hA.d0 hB.d0) hd hM
theorem mul_congr {A A' B B' : Nat → Nat → Int} {n i k : Nat} (hA : ∀ r, r < n → A i r = A' i r) (hB : ∀ r, r < n → B r k = B' r k) : mulF A B n i k = mulF A' B' n i k := sumF_congr fun r hr => by rw [hA r hr, hB r hr]
theorem id_mul {A : Nat → Nat → Int} {n i k : Nat} (c : Int) (hi : i < n) : mulF (idF c) A n i k = c * A i k := ap_id c (fun r => A r k) hi
/-- what stays does nothing -/
theorem stay_mul {xs : List Int} {R : List (List Int)} {d : Int} (h : MoveOk xs R d) : mulV xs (stayL xs.length) 1 R d = some (R, d) :=
  mul_is (k := 1) (l := 1) (stay_ok h.form h.l3) h h (by decide) (by decide) (by omega) fun i j hi hj => by
    rw [mul_congr (A' := idF 1) (B' := at2 R) (fun r hr => stay_at hi hr) (fun _ _ => rfl), id_mul _ hi]; omega
theorem mul_stay {xs : List Int} {R : List (List Int)} {d : Int} (h : MoveOk xs R d) : mulV xs R d (stayL xs.length) 1 = some (R, d) :=
  mul_is (k := 1) (l := 1) h (stay_ok h.form h.l3) h (by decide) (by decide) (by omega) fun i j hi hj => by
    rw [mul_congr (A' := at2 R) (B' := idF 1) (fun _ _ => rfl) (fun r hr => stay_at hr hj), mul_id _ hj]; omega

/-! ### the way back -/
def allI (xs : List Int) : Int := ((prodI xs).natAbs : Nat)
theorem all_div {xs : List Int} (hf : fvB xs = true) {i : Nat} (hi : i < xs.length) : fF xs i * (allI xs).tdiv (fF xs i) = allI xs := by
  have hd : fF xs i ∣ allI xs := by
    unfold allI fF
    rw [List.getD_eq_getElem?_getD, List.getElem?_eq_getElem hi]
    refine Int.dvd_natAbs.2 ?_
    have key : ∀ (l : List Int) (x : Int), x ∈ l → x ∣ prodI l := by
      intro l
      induction l with
      | nil => intro x hx; cases hx
      | cons y l ih =>
        intro x hx
        unfold prodI
        rcases List.mem_cons.1 hx with rfl | hx
        · exact Int.dvd_mul_right ..
        · exact Int.dvd_mul_of_dvd_right (ih x hx)
    exact key xs _ (List.getElem_mem _)
  rw [Int.mul_comm]
  exact Int.tdiv_mul_cancel hd
theorem all_pos {xs : List Int} (hf : fvB xs = true) : 1 ≤ allI xs := by
  unfold allI
  have key : ∀ (l : List Int), (∀ x ∈ l, x ≠ 0) → prodI l ≠ 0 := by
    intro l
    induction l with
    | nil => intro _; decide
    | cons y l ih =>
      intro h
      unfold prodI
      exact Int.mul_ne_zero (h y (List.mem_cons_self ..)) (ih fun x hx => h x (List.mem_cons_of_mem _ hx))
  have := key xs fun x hx => ((fvB_iff.1 hf).1 x hx).1
  omega
def backW (xs : List Int) (R : List (List Int)) (d : Int) : Option (List (List Int) × Int) := if moveB xs R d then tidyV xs (matL xs.length (backF (fF xs) (allI xs) (at2 R))) (d * allI xs) else none
theorem back_some {xs : List Int} {R R' : List (List Int)} {d d' : Int} (h : backW xs R d = some (R', d')) : MoveOk xs R d ∧ MoveOk xs R' d' ∧ Rep xs.length (backF (fF xs) (allI xs) (at2 R)) (d * allI xs) R' d' := by
  unfold backW at h
  split at h
  · next hm =>
    have hR := moveB_iff.1 hm
    obtain ⟨h1, h2⟩ := tidy_some (Int.mul_ne_zero hR.d0 (by have := all_pos hR.form; omega)) h
    exact ⟨hR, h1, h2⟩
  · cases h
theorem back_is {xs : List Int} {R R' : List (List Int)} {d d' k l : Int} (hR : MoveOk xs R d) (hR' : MoveOk xs R' d') (hk : k ≠ 0) (hl : l ≠ 0) (hd : k * (d * allI xs) = l * d') (hM : ∀ i j, i < xs.length → j < xs.length → k * backF (fF xs) (allI xs) (at2 R) i j = l * at2 R' i j) : backW xs R d = some (R', d') := by
  unfold backW
  rw [moveB_iff.2 hR, if_pos rfl]
  exact tidy_is hR' hk hl (Int.mul_ne_zero hR.d0 (by have := all_pos hR.form; omega)) hd hM
theorem MoveOk.c0 {xs : List Int} {R : List (List Int)} {d : Int} (h : MoveOk xs R d) : d * d * allI xs ≠ 0 := Int.mul_ne_zero (Int.mul_ne_zero h.d0 h.d0) (by have := all_pos h.form; omega)
theorem MoveOk.left {xs : List Int} {R : List (List Int)} {d : Int} (h : MoveOk xs R d) {i k : Nat} (hi : i < xs.length) (hk : k < xs.length) : mulF (backF (fF xs) (allI xs) (at2 R)) (at2 R) xs.length i k = idF (d * d * allI xs) i k := back_mul (fun i hi => all_div h.form hi) h.orth hi hk
theorem MoveOk.right {xs : List Int} {R : List (List Int)} {d : Int} (h : MoveOk xs R d) {i k : Nat} (hi : i < xs.length) (hk : k < xs.length) : mulF (at2 R) (backF (fF xs) (allI xs) (at2 R)) xs.length i k = idF (d * d * allI xs) i k := (other_side h.n3 h.c0 fun i k hi hk => h.left hi hk).1 i k hi hk
theorem MoveOk.det_ne {xs : List Int} {R : List (List Int)} {d : Int} (h : MoveOk xs R d) : detF xs.length (at2 R) ≠ 0 := (other_side h.n3 h.c0 fun i k hi hk => h.left hi hk).2.2
theorem mul_scale_r {A B : Nat → Nat → Int} {C : Nat → Nat → Int} {n i k : Nat} {g : Int} (h : ∀ r, r < n → C r k = g * B r k) : mulF A C n i k = g * mulF A B n i k := by
  unfold mulF
  rw [← sumF_mul]
  exact sumF_congr fun r hr => by rw [h r hr]; exact Int.mul_left_comm ..
theorem mul_scale_l {A B : Nat → Nat → Int} {C : Nat → Nat → Int} {n i k : Nat} {g : Int} (h : ∀ r, r < n → C i r = g * A i r) : mulF C B n i k = g * mulF A B n i k := by
  unfold mulF
  rw [← sumF_mul]
  exact sumF_congr fun r hr => by rw [h r hr]; exact Int.mul_assoc ..
theorem id_scale (c : Int) (i k : Nat) : idF c i k = c * idF 1 i k := by
  unfold idF
  split
  · rw [Int.mul_one]
  · rw [Int.mul_zero]
/-- the way there and back -/
theorem back_both {xs : List Int} {R R' : List (List Int)} {d d' : Int} (h : backW xs R d = some (R', d')) : mulV xs R d R' d' = some (stayL xs.length, 1) ∧ mulV xs R' d' R d = some (stayL xs.length, 1) := by
  obtain ⟨hR, hR', g, hg, hM, hD⟩ := back_some h
  have hs := stay_ok hR.form hR.l3
  have hdd : g * (d * d') = d * d * allI xs := by
    have : g * (d * d') = d * (g * d') := by grind
    rw [this, ← hD]; grind
  constructor
  · refine mul_is hR hR' hs hg hR.c0 (by rw [hdd, Int.mul_one]) fun i j hi hj => ?_
    rw [stay_at hi hj, ← id_scale, ← hR.right hi hj]
    exact (mul_scale_r fun r hr => hM r j hr hj).symm
  · refine mul_is hR' hR hs hg hR.c0 (by rw [Int.mul_comm d', hdd, Int.mul_one]) fun i j hi hj => ?_
    rw [stay_at hi hj, ← id_scale, ← hR.left hi hj]
    exact (mul_scale_l fun r hr => hM i r hi hr).symm

end Go.Proofs.Ytjabklpnohfjpab

/-! MvF -/
set_option linter.unusedVariables false
namespace Go.Proofs.Ytjabklpnohfjpab
open Go.RowKit

def sg (x : Int) : Int := if 0 < x then 1 else -1
def signW (xs : List Int) (R : List (List Int)) (d : Int) : Int := if moveB xs R d then sg (detF xs.length (at2 R)) else 0
theorem sg_pm (x : Int) : sg x = 1 ∨ sg x = -1 := by unfold sg; split; exact .inl rfl; exact .inr rfl
theorem sg_pos {x : Int} (h : 0 < x) : sg x = 1 := by unfold sg; rw [if_pos h]
theorem sg_neg {x : Int} (h : x < 0) : sg x = -1 := by unfold sg; rw [if_neg (by omega)]
theorem sg_mul {a b : Int} (ha : a ≠ 0) (hb : b ≠ 0) : sg (a * b) = sg a * sg b := by
  rcases Int.lt_or_gt_of_ne ha with h1 | h1 <;> rcases Int.lt_or_gt_of_ne hb with h2 | h2
  · rw [sg_neg h1, sg_neg h2, sg_pos (Int.mul_pos_of_neg_of_neg h1 h2)]; rfl
  · rw [sg_neg h1, sg_pos h2, sg_neg (Int.mul_neg_of_neg_of_pos h1 h2)]; rfl
  · rw [sg_pos h1, sg_neg h2, sg_neg (Int.mul_neg_of_pos_of_neg h1 h2)]; rfl
  · rw [sg_pos h1, sg_pos h2, sg_pos (Int.mul_pos h1 h2)]; rfl
theorem pow_pos3 {g : Int} {n : Nat} (hn : n = 1 ∨ n = 2 ∨ n = 3) (h : 0 < g) : 0 < g ^ n := by
  rcases hn with rfl | rfl | rfl
  · rw [Int.pow_succ, Int.pow_zero, Int.one_mul]; exact h
  · rw [Int.pow_succ, Int.pow_succ, Int.pow_zero, Int.one_mul]; exact Int.mul_pos h h
  · rw [Int.pow_succ, Int.pow_succ, Int.pow_succ, Int.pow_zero, Int.one_mul]; exact Int.mul_pos (Int.mul_pos h h) h
theorem rep_det {n : Nat} (hn : n = 1 ∨ n = 2 ∨ n = 3) {M : Nat → Nat → Int} {R : List (List Int)} {g : Int} (h : ∀ i k, i < n → k < n → M i k = g * at2 R i k) : detF n M = g ^ n * detF n (at2 R) := by
  rw [det_congr hn h, det_scale hn]
/-- with denominators above 0 the sign is that of the determinant -/
theorem rep_sign {n : Nat} (hn : n = 1 ∨ n = 2 ∨ n = 3) {M : Nat → Nat → Int} {D d : Int} {R : List (List Int)} (h : Rep n M D R d) (hD : 0 < D) (hd : 0 < d) (hR : detF n (at2 R) ≠ 0) : sg (detF n (at2 R)) = sg (detF n M) := by
  obtain ⟨g, hg, hM, e⟩ := h
  have hg0 : 0 < g := by
    refine Classical.byContradiction fun hc => ?_
    have : g * d ≤ 0 := Int.mul_nonpos_of_nonpos_of_nonneg (by omega) (by omega)
    omega
  have hp := pow_pos3 hn hg0
  rw [rep_det hn hM, sg_mul (by omega) hR, sg_pos hp, Int.one_mul]
theorem sign_ok {xs : List Int} {R : List (List Int)} {d : Int} (h : MoveOk xs R d) : signW xs R d = sg (detF xs.length (at2 R)) := by unfold signW; rw [moveB_iff.2 h, if_pos rfl]
theorem sign_stay {xs : List Int} (hf : fvB xs = true) (h3 : xs.length ≤ 3) : signW xs (stayL xs.length) 1 = 1 := by
  have hn := form_n3 hf h3
  rw [sign_ok (stay_ok hf h3), det_congr hn fun i k hi hk => stay_at hi hk, det_id hn]
  rcases hn with e | e | e <;> rw [e] <;> rfl
theorem sign_mul {xs : List Int} {A B R : List (List Int)} {a b d : Int} (h : mulV xs A a B b = some (R, d)) : signW xs R d = signW xs A a * signW xs B b := by
  obtain ⟨hA, hB, hR, hr⟩ := mul_some h
  rw [sign_ok hA, sign_ok hB, sign_ok hR, rep_sign hR.n3 hr (Int.mul_pos (by have := hA.den; omega) (by have := hB.den; omega)) (by have := hR.den; omega) hR.det_ne, det_mul hR.n3, sg_mul hA.det_ne hB.det_ne]
theorem sign_back {xs : List Int} {R R' : List (List Int)} {d d' : Int} (h : backW xs R d = some (R', d')) : signW xs R' d' = signW xs R d := by
  have h1 := sign_mul (back_both h).1
  obtain ⟨hR, hR', _⟩ := back_some h
  rw [sign_stay hR.form hR.l3] at h1
  have p1 := sg_pm (detF xs.length (at2 R))
  have p2 := sg_pm (detF xs.length (at2 R'))
  rw [← sign_ok hR] at p1
  rw [← sign_ok hR'] at p2
  rcases p1 with e | e <;> rcases p2 with e' | e' <;> rw [e, e'] at h1 ⊢ <;> revert h1 <;> decide
/-- a product that stays -/
theorem mul_stays {xs : List Int} {A B : List (List Int)} {a b : Int} (h : mulV xs A a B b = some (stayL xs.length, 1)) : ∀ i k, i < xs.length → k < xs.length → mulF (at2 A) (at2 B) xs.length i k = idF (a * b) i k := by
  obtain ⟨_, _, _, g, hg, hM, hD⟩ := mul_some h
  intro i k hi hk
  rw [hM i k hi hk, stay_at hi hk, ← id_scale]
  rw [Int.mul_one] at hD
  rw [hD]
/-- there is one way back alone -/
theorem inv_one {xs : List Int} {A B C : List (List Int)} {a b c : Int} (h1 : mulV xs A a B b = some (stayL xs.length, 1)) (h2 : mulV xs C c A a = some (stayL xs.length, 1)) : B = C ∧ b = c := by
  obtain ⟨hA, hB, _⟩ := mul_some h1
  obtain ⟨hC, _⟩ := mul_some h2
  have e1 := mul_stays h1
  have e2 := mul_stays h2
  refine move_eq (k := c) (l := b) hB hC hC.d0 hB.d0 (Int.mul_comm ..) fun i j hi hj => ?_
  -- (C A) B = C (A B)
  have s1 : mulF (mulF (at2 C) (at2 A) xs.length) (at2 B) xs.length i j = c * a * at2 B i j := by
    rw [mul_congr (A' := idF (c * a)) (B' := at2 B) (fun r hr => e2 i r hi hr) (fun _ _ => rfl), id_mul _ hi]
  have s2 : mulF (at2 C) (mulF (at2 A) (at2 B) xs.length) xs.length i j = at2 C i j * (a * b) := by
    rw [mul_congr (A' := at2 C) (B' := idF (a * b)) (fun _ _ => rfl) (fun r hr => e1 r j hr hj), mul_id _ hj]
  rw [mul_assocF, s2] at s1
  refine Int.eq_of_mul_eq_mul_left hA.d0 ?_
  have t1 : a * (c * at2 B i j) = c * a * at2 B i j := by grind
  have t2 : a * (b * at2 C i j) = at2 C i j * (a * b) := by grind
  rw [t1, t2, s1]
/-- back from back -/
theorem back_back {xs : List Int} {R R' R'' : List (List Int)} {d d' d'' : Int} (h : backW xs R d = some (R', d')) (h' : backW xs R' d' = some (R'', d'')) : R'' = R ∧ d'' = d := inv_one (back_both h').1 (back_both h).1
theorem back_stay {xs : List Int} (hf : fvB xs = true) (h3 : xs.length ≤ 3) : backW xs (stayL xs.length) 1 = some (stayL xs.length, 1) := by
  have ha := all_pos hf
  refine back_is (k := 1) (l := allI xs) (stay_ok hf h3) (stay_ok hf h3) (by decide) (by omega) (by omega) fun i j hi hj => ?_
  unfold backF
  rw [stay_at hj hi, stay_at hi hj]
  unfold idF
  by_cases e : i = j
  · subst e
    rw [if_pos rfl]
    have := all_div hf hi
    grind
  · rw [if_neg e, if_neg (fun h => e h.symm)]; grind

/-! ### mirrors -/
def mirV (xs ws : List Int) : Option (List (List Int) × Int) := if frm3B xs && (vecB xs ws 1000 && !decide (valI xs ws xs.length = 0)) then tidyV xs (matL xs.length (mirF (fF xs) (fF ws) (valI xs ws xs.length))) (valI xs ws xs.length) else none
theorem mir_some {xs ws : List Int} {R : List (List Int)} {d : Int} (h : mirV xs ws = some (R, d)) : MoveOk xs R d ∧ vecB xs ws 1000 = true ∧ prF (fF xs) xs.length (fF ws) (fF ws) ≠ 0 ∧ Rep xs.length (mirF (fF xs) (fF ws) (prF (fF xs) xs.length (fF ws) (fF ws))) (prF (fF xs) xs.length (fF ws) (fF ws)) R d := by
  unfold mirV at h
  split at h
  · next hm =>
    rw [Bool.and_eq_true, Bool.and_eq_true, Bool.not_eq_true', decide_eq_false_iff_not] at hm
    obtain ⟨h1, h2, h3⟩ := hm
    have hv := val_pr xs ws xs.length
    rw [hv] at h h3
    obtain ⟨k1, k2⟩ := tidy_some h3 h
    exact ⟨k1, h2, h3, k2⟩
  · cases h
theorem mir_is {xs ws : List Int} {R : List (List Int)} {d k l : Int} (hf : frm3B xs = true) (hv : vecB xs ws 1000 = true) (h0 : prF (fF xs) xs.length (fF ws) (fF ws) ≠ 0) (hR : MoveOk xs R d) (hk : k ≠ 0) (hl : l ≠ 0) (hd : k * prF (fF xs) xs.length (fF ws) (fF ws) = l * d) (hM : ∀ i j, i < xs.length → j < xs.length → k * mirF (fF xs) (fF ws) (prF (fF xs) xs.length (fF ws) (fF ws)) i j = l * at2 R i j) : mirV xs ws = some (R, d) := by
  unfold mirV
  rw [val_pr, hf, hv, decide_eq_false h0, if_pos (by rfl)]
  exact tidy_is hR hk hl h0 hd hM
theorem mir_sign {xs ws : List Int} {R : List (List Int)} {d : Int} (h : mirV xs ws = some (R, d)) : signW xs R d = -1 := by
  obtain ⟨hR, _, h0, g, hg, hM, hD⟩ := mir_some h
  have hn := hR.n3
  have e1 := rep_det hn hM
  rw [mir_det hn, hD] at e1
  rw [sign_ok hR]
  have hgn : g ^ xs.length ≠ 0 := by
    rcases hn with e | e | e <;> rw [e]
    · rw [Int.pow_succ, Int.pow_zero, Int.one_mul]; exact hg
    · rw [Int.pow_succ, Int.pow_succ, Int.pow_zero, Int.one_mul]; exact Int.mul_ne_zero hg hg
    · rw [Int.pow_succ, Int.pow_succ, Int.pow_succ, Int.pow_zero, Int.one_mul]; exact Int.mul_ne_zero (Int.mul_ne_zero hg hg) hg
  have e2 : detF xs.length (at2 R) = -d ^ xs.length := by
    refine Int.eq_of_mul_eq_mul_left hgn ?_
    rw [← e1]
    have : (g * d) ^ xs.length = g ^ xs.length * d ^ xs.length := Int.mul_pow ..
    rw [this]
    grind
  have hp := pow_pos3 hn (show 0 < d by have := hR.den; omega)
  exact sg_neg (by omega)
/-- twice the same mirror stays -/
theorem mir_mul_self {xs ws : List Int} {R : List (List Int)} {d : Int} (h : mirV xs ws = some (R, d)) : mulV xs R d R d = some (stayL xs.length, 1) := by
  obtain ⟨hR, _, h0, g, hg, hM, hD⟩ := mir_some h
  refine mul_is (k := g * g) (l := prF (fF xs) xs.length (fF ws) (fF ws) * prF (fF xs) xs.length (fF ws) (fF ws)) hR hR (stay_ok hR.form hR.l3) (Int.mul_ne_zero hg hg) (Int.mul_ne_zero h0 h0) (by rw [hD]; grind) fun i j hi hj => ?_
  rw [stay_at hi hj, ← id_scale, ← mir_mul (fF xs) (fF ws) hi hj]
  have e1 := mul_scale_l (A := at2 R) (C := mirF (fF xs) (fF ws) (prF (fF xs) xs.length (fF ws) (fF ws))) (B := mirF (fF xs) (fF ws) (prF (fF xs) xs.length (fF ws) (fF ws))) (n := xs.length) (i := i) (k := j) (g := g) fun r hr => hM i r hi hr
  have e2 := mul_scale_r (A := at2 R) (B := at2 R) (C := mirF (fF xs) (fF ws) (prF (fF xs) xs.length (fF ws) (fF ws))) (n := xs.length) (i := i) (k := j) (g := g) fun r hr => hM r j hr hj
  rw [e1, e2, Int.mul_assoc]
theorem fF_minus (ws : List Int) : fF (ws.map (fun x => -x)) = fun i => -fF ws i := by
  funext i
  unfold fF
  by_cases h : i < ws.length
  · rw [List.getD_eq_getElem?_getD, List.getD_eq_getElem?_getD, List.getElem?_map, List.getElem?_eq_getElem h]; rfl
  · rw [List.getD_eq_getElem?_getD, List.getD_eq_getElem?_getD, List.getElem?_map, List.getElem?_eq_none (by omega)]; rfl
theorem vec_minus {xs ws : List Int} {m : Int} : vecB xs (ws.map (fun x => -x)) m = vecB xs ws m := by
  rw [Bool.eq_iff_iff, vecB_iff, vecB_iff, List.length_map]
  constructor
  · rintro ⟨h1, h2⟩
    refine ⟨fun v hv => ?_, h2⟩
    have := h1 (-v) (List.mem_map.2 ⟨v, hv, rfl⟩)
    omega
  · rintro ⟨h1, h2⟩
    refine ⟨fun v hv => ?_, h2⟩
    obtain ⟨u, hu, rfl⟩ := List.mem_map.1 hv
    have := h1 u hu
    omega
/-- the mirror of the opposite vector -/
theorem mir_opposite (xs ws : List Int) : mirV xs (ws.map (fun x => -x)) = mirV xs ws := by
  unfold mirV
  rw [val_pr, val_pr, fF_minus, pr_minus, vec_minus]
  have e : mirF (fF xs) (fun i => -fF ws i) (prF (fF xs) xs.length (fF ws) (fF ws)) = mirF (fF xs) (fF ws) (prF (fF xs) xs.length (fF ws) (fF ws)) := by
    funext i k; exact mir_minus ..
  rw [e]
/-- unit vectors have a mirror -/
def unL (n j : Nat) : List Int := (List.range n).map (unF j)
theorem un_at {n j i : Nat} (hi : i < n) : fF (unL n j) i = unF j i := by
  unfold fF unL
  rw [List.getD_eq_getElem?_getD, List.getElem?_map, List.getElem?_range hi]
  rfl
def flipF (j : Nat) : Nat → Nat → Int := fun i k => if i = k then (if i = j then -1 else 1) else 0
theorem mir_unit {xs : List Int} (hf : fvB xs = true) (h3 : xs.length ≤ 3) {j : Nat} (hj : j < xs.length) : mirV xs (unL xs.length j) = some (matL xs.length (flipF j), 1) := by
  have hq : prF (fF xs) xs.length (fF (unL xs.length j)) (fF (unL xs.length j)) = fF xs j := by
    rw [pr_congr (fun i hi => un_at hi) (fun i hi => un_at hi), pr_unit _ hj]
    unfold unF
    rw [if_pos rfl, Int.mul_one]
  have h0 : fF xs j ≠ 0 := term_ne hf hj
  have hM : ∀ i k, i < xs.length → k < xs.length → mirF (fF xs) (fF (unL xs.length j)) (fF xs j) i k = fF xs j * flipF j i k := fun i k hi hk => by
    unfold mirF flipF
    rw [un_at hi, un_at hk]
    unfold unF
    by_cases e : i = k
    · subst e
      rw [if_pos rfl, if_pos rfl]
      by_cases e2 : i = j
      · subst e2; rw [if_pos rfl, if_pos rfl]; grind
      · rw [if_neg e2, if_neg e2]; grind
    · rw [if_neg e, if_neg e]
      by_cases e2 : i = j
      · rw [if_neg (show ¬ k = j by omega)]; grind
      · rw [if_neg e2]; grind
  have hO : Orth (fF xs) xs.length (flipF j) 1 := by
    have h1 := mir_orth (fF xs) (fF (unL xs.length j)) xs.length
    rw [hq] at h1
    exact orth_scale h0 hM (Int.mul_one _).symm h1
  have hok : MoveOk xs (matL xs.length (flipF j)) 1 := by
    refine ⟨hf, h3, mat_sq _ _, by omega, fun r hr x hx => ?_, ?_, orth_congr (fun i k hi hk => (mat_at _ hi hk).symm) hO⟩
    · obtain ⟨i, _, rfl⟩ := List.mem_map.1 hr
      obtain ⟨k, _, rfl⟩ := List.mem_map.1 hx
      unfold flipF
      split
      · split <;> omega
      · omega
    · have h2 : gcdL (1 :: (matL xs.length (flipF j)).flatten) ∣ 1 := (gcdL_dvdG (1 :: (matL xs.length (flipF j)).flatten) 0).2 1 (List.mem_cons_self ..)
      exact Nat.dvd_one.1 h2
  refine mir_is (k := 1) (l := fF xs j) (by unfold frm3B; rw [hf, decide_eq_true h3]; rfl) ?_ (by rw [hq]; exact h0) hok (by decide) h0 (by rw [hq]; omega) fun i k hi hk => ?_
  · refine vecB_iff.2 ⟨fun v hv => ?_, hf, by unfold unL; simp⟩
    obtain ⟨i, _, rfl⟩ := List.mem_map.1 hv
    unfold unF
    split <;> omega
  · rw [hq, Int.one_mul, mat_at _ hi hk]
    exact hM i k hi hk

end Go.Proofs.Ytjabklpnohfjpab

/-! MvG -/
set_option linter.unusedVariables false
namespace Go.Proofs.Ytjabklpnohfjpab
open Go.RowKit

def rowL (n : Nat) (f : Nat → Int) : List Int := (List.range n).map f
theorem row_at {n i : Nat} {f : Nat → Int} (hi : i < n) : fF (rowL n f) i = f i := by
  unfold fF rowL
  rw [List.getD_eq_getElem?_getD, List.getElem?_map, List.getElem?_range hi]
  rfl
theorem row_len (n : Nat) (f : Nat → Int) : (rowL n f).length = n := by unfold rowL; simp
theorem list_ext {n : Nat} {a b : List Int} (ha : a.length = n) (hb : b.length = n) (h : ∀ i, i < n → fF a i = fF b i) : a = b := by
  refine List.ext_getElem (by rw [ha, hb]) fun i h1 h2 => ?_
  have e := h i (by omega)
  unfold fF at e
  rw [List.getD_eq_getElem?_getD, List.getD_eq_getElem?_getD, List.getElem?_eq_getElem h1, List.getElem?_eq_getElem h2] at e
  exact e
def onV (xs : List Int) (R : List (List Int)) (d : Int) (vs : List Int) : Option (List Int × Int) := if moveB xs R d && vecB xs vs 1000 then some ((rowL xs.length (apF (at2 R) xs.length (fF vs))).map (fun x => x.tdiv (gM [rowL xs.length (apF (at2 R) xs.length (fF vs))] d)), lowD [rowL xs.length (apF (at2 R) xs.length (fF vs))] d) else none
theorem one_flat (r : List Int) : [r].flatten = r := by simp
structure OnOk (xs : List Int) (R : List (List Int)) (d : Int) (vs us : List Int) (e : Int) : Prop where
  ok : MoveOk xs R d
  vec : vecB xs vs 1000 = true
  len : us.length = xs.length
  red : Red [us] e
  eq : ∃ g : Int, g ≠ 0 ∧ (∀ i, i < xs.length → apF (at2 R) xs.length (fF vs) i = g * fF us i) ∧ d = g * e
theorem on_some {xs : List Int} {R : List (List Int)} {d : Int} {vs us : List Int} {e : Int} (h : onV xs R d vs = some (us, e)) : OnOk xs R d vs us e := by
  unfold onV at h
  split at h
  · next hm =>
    rw [Bool.and_eq_true] at hm
    have hR := moveB_iff.1 hm.1
    obtain ⟨L, hL⟩ : ∃ L, L = rowL xs.length (apF (at2 R) xs.length (fF vs)) := ⟨_, rfl⟩
    rw [← hL] at h
    simp only [Option.some.injEq, Prod.mk.injEq] at h
    obtain ⟨h1, h2⟩ := h
    have hr := low_red (R := [L]) hR.d0
    have e1 : lowR [L] d = [us] := by rw [← h1]; rfl
    rw [e1, h2] at hr
    refine ⟨hR, hm.2, ?_, hr, gM [L] d, gM_ne hR.d0, fun i hi => ?_, ?_⟩
    · rw [← h1, List.length_map, hL, row_len]
    · have e2 := low_at [L] d 0 i
      rw [e1] at e2
      have e3 : at2 [us] 0 i = fF us i := rfl
      have e4 : at2 [L] 0 i = fF L i := rfl
      rw [e3, e4, hL, row_at hi] at e2
      rw [hL]
      exact e2.symm
    · rw [← h2]; exact lowD_back.symm
  · cases h
theorem on_is {xs : List Int} {R : List (List Int)} {d : Int} {vs us : List Int} {e k l : Int} (hR : MoveOk xs R d) (hv : vecB xs vs 1000 = true) (hl : us.length = xs.length) (hr : Red [us] e) (hk : k ≠ 0) (hl0 : l ≠ 0) (hd : k * d = l * e) (hM : ∀ i, i < xs.length → k * apF (at2 R) xs.length (fF vs) i = l * fF us i) : onV xs R d vs = some (us, e) := by
  unfold onV
  rw [moveB_iff.2 hR, hv, Bool.and_self, if_pos rfl]
  obtain ⟨e1, e2⟩ := low_prop (R0 := [rowL xs.length (apF (at2 R) xs.length (fF vs))]) (R := [us]) hk hl0 hR.d0 hd (by
    unfold mapM
    rw [List.map_cons, List.map_cons, List.map_nil, List.map_nil]
    congr 1
    refine list_ext (n := xs.length) (by rw [List.length_map, row_len]) (by rw [List.length_map, hl]) fun i hi => ?_
    have h1 : ∀ (c : Int) (l : List Int), fF (l.map (fun x => c * x)) i = c * fF l i := fun c l => getD_map0 (fun v => c * v) (Int.mul_zero c) l i
    rw [h1, h1, row_at hi]
    exact hM i hi) hr
  have e3 : (rowL xs.length (apF (at2 R) xs.length (fF vs))).map (fun x => x.tdiv (gM [rowL xs.length (apF (at2 R) xs.length (fF vs))] d)) = us := by
    have : lowR [rowL xs.length (apF (at2 R) xs.length (fF vs))] d = [(rowL xs.length (apF (at2 R) xs.length (fF vs))).map (fun x => x.tdiv (gM [rowL xs.length (apF (at2 R) xs.length (fF vs))] d))] := rfl
    rw [this] at e1
    exact (List.cons.inj e1).1
  rw [e3, e2]
theorem red_one (us : List Int) : Red [us] 1 := ⟨by omega, Nat.dvd_one.1 ((gcdL_dvdG (1 :: [us].flatten) 0).2 1 (List.mem_cons_self ..))⟩
/-- a vector is taken to its opposite -/
theorem mir_on {xs ws : List Int} {R : List (List Int)} {d : Int} (h : mirV xs ws = some (R, d)) : onV xs R d ws = some (ws.map (fun x => -x), 1) := by
  obtain ⟨hR, hv, h0, g, hg, hM, hD⟩ := mir_some h
  have hl := (vecB_iff.1 hv).2.2
  refine on_is (k := g) (l := prF (fF xs) xs.length (fF ws) (fF ws)) hR hv (by rw [List.length_map, hl]) (red_one _) hg h0 (by rw [hD]; omega) fun i hi => ?_
  rw [fF_minus, ← mir_self (fF xs) (fF ws) hi, ← ap_scale2]
  exact ap_congr (fun k hk => (hM i k hi hk).symm) fun _ _ => rfl
/-- a product of moves at a vector -/
theorem mul_on {xs : List Int} {A B R : List (List Int)} {a b c : Int} {v x y z : List Int} {d e f : Int} (h : mulV xs A a B b = some (R, c)) (h1 : onV xs B b v = some (x, d)) (h2 : onV xs R c v = some (y, e)) (hd : d = 1) (h3 : onV xs A a x = some (z, f)) : e = f ∧ y = z := by
  obtain ⟨hA, hB, hR, g3, hg3, hM3, hD3⟩ := mul_some h
  obtain ⟨_, _, lx, _, g1, hg1, hM1, hD1⟩ := on_some h1
  obtain ⟨_, _, ly, ry, g4, hg4, hM4, hD4⟩ := on_some h2
  obtain ⟨_, _, lz, rz, g2, hg2, hM2, hD2⟩ := on_some h3
  subst hd
  have key : ∀ i, i < xs.length → g3 * g4 * fF y i = g1 * g2 * fF z i := fun i hi => by
    have e1 : apF (mulF (at2 A) (at2 B) xs.length) xs.length (fF v) i = g3 * (g4 * fF y i) := by
      rw [← hM4 i hi, ← ap_scale2]
      exact ap_congr (fun k hk => hM3 i k hi hk) fun _ _ => rfl
    have e2 : apF (at2 A) xs.length (apF (at2 B) xs.length (fF v)) i = g1 * (g2 * fF z i) := by
      rw [← hM2 i hi, ← ap_scale]
      exact ap_congr (fun _ _ => rfl) fun k hk => hM1 k hk
    rw [ap_mul, e2] at e1
    rw [Int.mul_assoc, ← e1, Int.mul_assoc]
  have hden : g3 * g4 * e = g1 * g2 * f := by
    have : g3 * (g4 * e) = g1 * (g2 * f) := by rw [← hD4, ← hD2, ← hD3, hD1]; grind
    grind
  have he : e ≠ 0 := by have := ry.1; omega
  obtain ⟨e1, e2⟩ := low_prop (R0 := [y]) (R := [z]) (d0 := e) (d := f) (Int.mul_ne_zero hg3 hg4) (Int.mul_ne_zero hg1 hg2) he hden (by
    unfold mapM
    rw [List.map_cons, List.map_cons, List.map_nil, List.map_nil]
    congr 1
    refine list_ext (n := xs.length) (by rw [List.length_map, ly]) (by rw [List.length_map, lz]) fun i hi => ?_
    have h1 : ∀ (c : Int) (l : List Int), fF (l.map (fun x => c * x)) i = c * fF l i := fun c l => getD_map0 (fun v => c * v) (Int.mul_zero c) l i
    rw [h1, h1]
    exact key i hi) rz
  obtain ⟨e3, e4⟩ := red_low ry
  rw [e3] at e1
  rw [e4] at e2
  exact ⟨e2, (List.cons.inj e1).1⟩
/-- moves keep values -/
theorem on_value {xs : List Int} {R : List (List Int)} {d : Int} {vs us : List Int} {e : Int} (h : onV xs R d vs = some (us, e)) : valI xs us xs.length = valI xs vs xs.length * e * e := by
  obtain ⟨hR, _, _, _, g, hg, hM, hD⟩ := on_some h
  have e1 := orth_pair hR.orth (fF vs) (fF vs)
  rw [pr_congr hM hM, pr_scale, pr_comm, pr_scale, hD] at e1
  rw [val_pr, val_pr]
  refine Int.eq_of_mul_eq_mul_left (Int.mul_ne_zero hg hg) ?_
  grind

/-! ### mirrors done one after the other -/
def qF (xs ws : List Int) : Int := prF (fF xs) xs.length (fF ws) (fF ws)
def mirM (xs ws : List Int) : Nat → Nat → Int := mirF (fF xs) (fF ws) (qF xs ws)
def PM (xs : List Int) : List (List Int) → Nat → Nat → Int
  | [] => idF 1
  | w :: l => mulF (mirM xs w) (PM xs l) xs.length
def PQ (xs : List Int) : List (List Int) → Int
  | [] => 1
  | w :: l => qF xs w * PQ xs l
def ofStep (xs : List Int) (acc : Option (List (List Int) × Int)) (ws : List Int) : Option (List (List Int) × Int) := acc.bind fun m => (mirV xs ws).bind fun M => mulV xs m.1 m.2 M.1 M.2
def ofV (xs : List Int) (list : List (List Int)) : Option (List (List Int) × Int) := if frm3B xs && decide (list.length ≤ 6) then list.foldl (ofStep xs) (some (stayL xs.length, 1)) else none
theorem step_none (xs : List Int) : ∀ list : List (List Int), list.foldl (ofStep xs) none = none
  | [] => rfl
  | w :: l => step_none xs l
theorem PM_app (xs : List Int) : ∀ (a b : List (List Int)) {i k : Nat}, i < xs.length → k < xs.length → PM xs (a ++ b) i k = mulF (PM xs a) (PM xs b) xs.length i k
  | [], b, i, k, hi, hk => by
    show PM xs b i k = mulF (idF 1) (PM xs b) xs.length i k
    rw [id_mul _ hi, Int.one_mul]
  | w :: a, b, i, k, hi, hk => by
    show mulF (mirM xs w) (PM xs (a ++ b)) xs.length i k = mulF (mulF (mirM xs w) (PM xs a) xs.length) (PM xs b) xs.length i k
    rw [mul_assocF]
    exact mul_congr (fun _ _ => rfl) fun r hr => PM_app xs a b hr hk
theorem PQ_app (xs : List Int) : ∀ a b : List (List Int), PQ xs (a ++ b) = PQ xs a * PQ xs b
  | [], b => (Int.one_mul _).symm
  | w :: a, b => by
    show qF xs w * PQ xs (a ++ b) = qF xs w * PQ xs a * PQ xs b
    rw [PQ_app xs a b, Int.mul_assoc]
theorem PQ_rev (xs : List Int) : ∀ a : List (List Int), PQ xs a.reverse = PQ xs a
  | [] => rfl
  | w :: a => by
    rw [List.reverse_cons, PQ_app, PQ_rev xs a]
    show PQ xs a * (qF xs w * 1) = qF xs w * PQ xs a
    rw [Int.mul_one, Int.mul_comm]
/-- there and back -/
theorem PM_rev (xs : List Int) : ∀ (a : List (List Int)) {i k : Nat}, i < xs.length → k < xs.length → mulF (PM xs a) (PM xs a.reverse) xs.length i k = idF (PQ xs a * PQ xs a) i k
  | [], i, k, hi, hk => by
    show mulF (idF 1) (idF 1) xs.length i k = idF (1 * 1) i k
    rw [id_mul _ hi, Int.one_mul]; rfl
  | w :: a, i, k, hi, hk => by
    have e1 : mulF (PM xs (w :: a)) (PM xs (w :: a).reverse) xs.length i k = mulF (mulF (mirM xs w) (PM xs a) xs.length) (mulF (PM xs a.reverse) (mirM xs w) xs.length) xs.length i k := by
      refine mul_congr (fun _ _ => rfl) fun r hr => ?_
      rw [List.reverse_cons, PM_app xs _ _ hr hk]
      refine mul_congr (fun _ _ => rfl) fun s hs => ?_
      show mulF (mirM xs w) (idF 1) xs.length s k = _
      rw [mul_id _ hk, Int.mul_one]
    rw [e1, mul_assocF]
    have e2 : ∀ r, r < xs.length → mulF (PM xs a) (mulF (PM xs a.reverse) (mirM xs w) xs.length) xs.length r k = PQ xs a * PQ xs a * mirM xs w r k := fun r hr => by
      rw [← mul_assocF, mul_congr (A' := idF (PQ xs a * PQ xs a)) (B' := mirM xs w) (fun s hs => PM_rev xs a hr hs) (fun _ _ => rfl), id_mul _ hr]
    rw [mul_scale_r (B := mirM xs w) e2, show mulF (mirM xs w) (mirM xs w) xs.length i k = _ from mir_mul (fF xs) (fF w) hi hk]
    show PQ xs a * PQ xs a * idF (qF xs w * qF xs w) i k = idF (qF xs w * PQ xs a * (qF xs w * PQ xs a)) i k
    unfold idF
    split <;> grind
def alt (k : Nat) : Int := if k % 2 = 0 then 1 else -1
theorem alt_succ (k : Nat) : alt (k + 1) = -alt k := by
  unfold alt
  by_cases e : k % 2 = 0
  · rw [if_pos e, if_neg (show ¬ (k + 1) % 2 = 0 by omega)]
  · rw [if_neg e, if_pos (show (k + 1) % 2 = 0 by omega)]; rfl
/-- what a chain of mirrors makes of a move -/
theorem of_chain {xs : List Int} : ∀ {list : List (List Int)} {R0 R : List (List Int)} {d0 d : Int}, MoveOk xs R0 d0 → list.foldl (ofStep xs) (some (R0, d0)) = some (R, d) → MoveOk xs R d ∧ Rep xs.length (mulF (at2 R0) (PM xs list) xs.length) (d0 * PQ xs list) R d ∧ signW xs R d = signW xs R0 d0 * alt list.length ∧ PQ xs list ≠ 0
  | [], R0, R, d0, d, h0, h => by
    simp only [List.foldl_nil, Option.some.injEq, Prod.mk.injEq] at h
    obtain ⟨rfl, rfl⟩ := h
    refine ⟨h0, ⟨1, by decide, fun i k hi hk => ?_, ?_⟩, ?_, by show (1 : Int) ≠ 0; decide⟩
    · show mulF (at2 R0) (idF 1) xs.length i k = _
      rw [mul_id _ hk]; omega
    · show d0 * 1 = 1 * d0; omega
    · show _ = _ * 1; omega
  | w :: l, R0, R, d0, d, h0, h => by
    rw [List.foldl_cons] at h
    cases hm : mirV xs w with
    | none =>
      have : ofStep xs (some (R0, d0)) w = none := by unfold ofStep; rw [hm]; rfl
      rw [this, step_none] at h; cases h
    | some M =>
      obtain ⟨M, m⟩ := M
      cases hmul : mulV xs R0 d0 M m with
      | none =>
        have : ofStep xs (some (R0, d0)) w = none := by unfold ofStep; rw [hm]; exact hmul
        rw [this, step_none] at h; cases h
      | some R1 =>
        obtain ⟨R1, d1⟩ := R1
        have e : ofStep xs (some (R0, d0)) w = some (R1, d1) := by unfold ofStep; rw [hm]; exact hmul
        rw [e] at h
        obtain ⟨_, _, h1, g1, hg1, hM1, hD1⟩ := mul_some hmul
        obtain ⟨_, _, hq, g2, hg2, hM2, hD2⟩ := mir_some hm
        obtain ⟨hR, ⟨g3, hg3, hM3, hD3⟩, hs, hpq⟩ := of_chain h1 h
        have hs1 := sign_mul hmul
        rw [mir_sign hm] at hs1
        refine ⟨hR, ⟨g2 * g1 * g3, Int.mul_ne_zero (Int.mul_ne_zero hg2 hg1) hg3, fun i k hi hk => ?_, ?_⟩, ?_, Int.mul_ne_zero hq hpq⟩
        · have e1 : ∀ r, r < xs.length → mulF (at2 R0) (mirM xs w) xs.length i r = g2 * g1 * at2 R1 i r := fun r hr => by
            rw [mul_scale_r (B := at2 M) (C := mirM xs w) (fun s hs => hM2 s r hs hr), hM1 i r hi hr, Int.mul_assoc]
          show mulF (at2 R0) (mulF (mirM xs w) (PM xs l) xs.length) xs.length i k = _
          rw [← mul_assocF, mul_scale_l (A := at2 R1) e1, hM3 i k hi hk, Int.mul_assoc, Int.mul_assoc, Int.mul_assoc]
        · show d0 * (qF xs w * PQ xs l) = g2 * g1 * g3 * d
          have hq2 : qF xs w = g2 * m := hD2
          rw [hq2]
          have : d0 * (g2 * m * PQ xs l) = g2 * (d0 * m) * PQ xs l := by grind
          rw [this, hD1]
          have : g2 * (g1 * d1) * PQ xs l = g2 * g1 * (d1 * PQ xs l) := by grind
          rw [this, hD3]
          grind
        · rw [hs, hs1, List.length_cons, alt_succ]; grind
theorem of_some {xs : List Int} {list R : List (List Int)} {d : Int} (h : ofV xs list = some (R, d)) : fvB xs = true ∧ xs.length ≤ 3 ∧ list.length ≤ 6 ∧ MoveOk xs R d ∧ Rep xs.length (PM xs list) (PQ xs list) R d ∧ signW xs R d = alt list.length ∧ PQ xs list ≠ 0 := by
  unfold ofV at h
  split at h
  · next hm =>
    unfold frm3B at hm
    rw [Bool.and_eq_true, Bool.and_eq_true, decide_eq_true_eq, decide_eq_true_eq] at hm
    obtain ⟨⟨hf, h3⟩, h6⟩ := hm
    obtain ⟨h1, ⟨g, hg, hM, hD⟩, hs, hq⟩ := of_chain (stay_ok hf h3) h
    refine ⟨hf, h3, h6, h1, ⟨g, hg, fun i k hi hk => ?_, by rw [← hD, Int.one_mul]⟩, ?_, hq⟩
    · rw [← hM i k hi hk, mul_congr (A' := idF 1) (B' := PM xs list) (fun r hr => stay_at hi hr) (fun _ _ => rfl), id_mul _ hi, Int.one_mul]
    · rw [hs, sign_stay hf h3, Int.one_mul]
  · cases h
/-- the mirrors in the opposite order lead back -/
theorem of_back {xs : List Int} {list R R' R'' : List (List Int)} {d d' d'' : Int} (h : ofV xs list = some (R, d)) (h' : ofV xs list.reverse = some (R', d')) (h'' : backW xs R d = some (R'', d'')) : R' = R'' ∧ d' = d'' := by
  obtain ⟨hf, h3, _, hR, ⟨g, hg, hM, hD⟩, _, hq⟩ := of_some h
  obtain ⟨_, _, _, hR', ⟨g', hg', hM', hD'⟩, _, _⟩ := of_some h'
  refine inv_one ?_ (back_both h'').2
  rw [PQ_rev] at hD'
  have hden : g * g' * (d * d') = PQ xs list * PQ xs list := by
    have e : g * g' * (d * d') = (g * d) * (g' * d') := by grind
    rw [e, ← hD, ← hD']
  refine mul_is (k := g * g') (l := PQ xs list * PQ xs list) hR hR' (stay_ok hf h3) (Int.mul_ne_zero hg hg') (Int.mul_ne_zero hq hq) (by rw [Int.mul_one]; exact hden) fun i k hi hk => ?_
  rw [stay_at hi hk, ← id_scale, ← PM_rev xs list hi hk, mul_scale_l (A := at2 R) (fun r hr => hM i r hi hr), mul_scale_r (B := at2 R') (fun r hr => hM' r k hr hk), Int.mul_assoc]

end Go.Proofs.Ytjabklpnohfjpab
