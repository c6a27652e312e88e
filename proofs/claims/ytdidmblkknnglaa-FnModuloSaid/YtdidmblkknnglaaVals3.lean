/-
  Plain values of chapter 3: what its functions answer.
-/
import Derived.Test.YtdidmblkknnglaaSym2
import Derived.Test.YtdidmblkknnglaaPlacesG
set_option linter.unusedVariables false
namespace Go.Proofs.Ytdidmblkknnglaa
open Go.RowKit

def okAB (a b : Int) : Bool := factB a && factB b
theorem okAB_cases (a b : Int) : (-5000 ≤ a ∧ a ≤ 5000 ∧ a ≠ 0 ∧ -5000 ≤ b ∧ b ≤ 5000 ∧ b ≠ 0 ∧ okAB a b = true) ∨ okAB a b = false := by
  unfold okAB
  rcases factB_cases a with ⟨h1, h2, h0, _, hF⟩ | ⟨_, hF⟩ | ⟨_, _, hF⟩
  · rcases factB_cases b with ⟨k1, k2, k0, _, kF⟩ | ⟨_, kF⟩ | ⟨_, _, kF⟩
    · left; exact ⟨h1, h2, h0, k1, k2, k0, by rw [hF, kF]; rfl⟩
    · right; rw [kF, Bool.and_false]
    · right; rw [kF, Bool.and_false]
  · right; rw [hF]; rfl
  · right; rw [hF]; rfl
def symOfV (a b q : Int) : Int := if okAB a b && plI q then symV a b q else 0
def splL (a b : Int) : List Int := if okAB a b then (placesG (a * b)).filter (fun q => decide (symV a b q = -1)) else []
theorem placesG_len {n : Int} (h0 : n ≠ 0) (h1 : -1000000000000 ≤ n) (h2 : n ≤ 1000000000000) : (placesG n).length ≤ 1000000000002 := by
  have h3 := (plistG_ok h0 h1 h2).1
  unfold placesG
  have h4 := List.length_filter_le (fun x : Int => decide (2 < x)) (natsI (plistG n.natAbs))
  have h5 : (natsI (plistG n.natAbs)).length = (plistG n.natAbs).length := by unfold natsI; rw [List.length_map]
  rw [List.length_append]
  simp only [List.length_cons, List.length_nil]
  omega

theorem splL_len {a b : Int} : (splL a b).length ≤ 1000000000002 := by
  rcases okAB_cases a b with ⟨a1, a2, a0, b1, b2, b0, O⟩ | O
  · unfold splL
    rw [O, if_pos rfl]
    have hmb := mul_bdI a1 a2 b1 b2
    exact Nat.le_trans (List.length_filter_le _ _) (placesG_len (Int.mul_ne_zero a0 b0) (by omega) (by omega))
  · unfold splL; rw [O]; simp
def sgnV (a b : Int) : Int := if okAB a b then halfI ((splL a b).length : Nat) else 0
def spltV (a b : Int) : Bool := okAB a b && ((splL a b).length == 0)
def normC (a q : Int) : Nat := ((namesOf q).filter (fun m => decide (symV a m q = 1))).length
def normV (a q : Int) : Int := if okAt a q then (normC a q : Nat) else -1

theorem sym_some {q : Int} {c : Nat × Int} (hc : c ∈ clsList q) (hne : c ≠ (0, 1)) : ∃ d ∈ clsList q, symC q c d = -1 := by
  have := K_all (Q := fun k c _ _ => c == (0, 1) || (listK k).any (fun d => symK k c d == -1)) (by decide +kernel) hc hc hc
  rw [Bool.or_eq_true] at this
  rcases this with h | h
  · exact absurd (beq_iff_eq.1 h) hne
  · obtain ⟨d, hd, e⟩ := List.any_eq_true.1 h
    refine ⟨d, by rw [clsList_k]; exact hd, ?_⟩
    rw [sym_k]
    exact beq_iff_eq.1 e
/-- where the first name with the symbol -1 stands -/
def findI (a q : Int) : Nat := (namesOf q).findIdx (fun m => decide (symV a m q ≠ 1))
theorem findI_lt {a q : Int} (h0 : a ≠ 0) (hq : plI q = true) (hs : sqAt a q = false) : findI a q < (namesOf q).length := by
  have hne : cls a q ≠ (0, 1) := by
    unfold sqAt at hs
    rw [beq_eq_false_iff_ne] at hs
    exact hs
  obtain ⟨d, hd, e⟩ := sym_some (cls_mem h0 hq) hne
  rw [← names_cls hq, List.mem_map] at hd
  obtain ⟨m, hm, rfl⟩ := hd
  unfold findI
  refine List.findIdx_lt_length_of_exists ⟨m, hm, decide_eq_true ?_⟩
  unfold symV
  rw [e]
  decide
theorem findI_at {a q : Int} (h : findI a q < (namesOf q).length) : symV a ((namesOf q).getD (findI a q) 0) q ≠ 1 := by
  have := List.findIdx_getElem (w := h)
  rw [getD_at _ _ h]
  exact of_decide_eq_true this
theorem findI_below {a q : Int} {i : Nat} (h : i < findI a q) (hl : i < (namesOf q).length) : symV a ((namesOf q).getD i 0) q = 1 := by
  have := List.not_of_lt_findIdx h
  rw [getD_at _ _ hl]
  simpa using this
def sfindV (a q : Int) : Value := if okAt a q && !sqAt a q then .tuple #[.int .i64 ((namesOf q).getD (findI a q) 0), .bool true] else .tuple #[.int .i64 0, .bool false]

def sol3 (a b x y z : Int) : Bool := okAB a b && (okN x && (okN y && (okN z && ((!(decide (x = 0) && (decide (y = 0) && decide (z = 0)))) && decide (z * z = a * x * x + b * y * y)))))
theorem cube_bd {a x : Int} (a1 : -5000 ≤ a) (a2 : a ≤ 5000) (x1 : -5000 ≤ x) (x2 : x ≤ 5000) : -25000000 ≤ a * x ∧ a * x ≤ 25000000 ∧ -125000000000 ≤ a * x * x ∧ a * x * x ≤ 125000000000 := by
  have h1 : (a * x).natAbs ≤ 5000 * 5000 := by rw [Int.natAbs_mul]; exact Nat.mul_le_mul (by omega) (by omega)
  have h2 : (a * x * x).natAbs ≤ 5000 * 5000 * 5000 := by rw [Int.natAbs_mul]; exact Nat.mul_le_mul h1 (by omega)
  omega
def sym4 (a b c d : Int) : Bool := okAB a b && (okAB c d && decide (splL a b = splL c d))

def hitB (a b : Int) (P m x y z : Nat) : Bool := (x % P != 0 || (y % P != 0 || z % P != 0)) && ((a * (x : Int) * (x : Int) + b * (y : Int) * (y : Int) - (z : Int) * (z : Int)) % (m : Int) == 0)
def anyHit (a b : Int) (P m : Nat) : Bool := (List.range m).any (fun x => (List.range m).any (fun y => (List.range m).any (fun z => hitB a b P m x y z)))
theorem anyHit_yes {a b : Int} {P m x y z : Nat} (hx : x < m) (hy : y < m) (hz : z < m) (h : hitB a b P m x y z = true) : anyHit a b P m = true :=
  List.any_eq_true.2 ⟨x, List.mem_range.2 hx, List.any_eq_true.2 ⟨y, List.mem_range.2 hy, List.any_eq_true.2 ⟨z, List.mem_range.2 hz, h⟩⟩⟩
/-- none has been met yet -/
def NoHit (a b : Int) (P m X Y Z : Nat) : Prop := ∀ u v t, u < m → v < m → t < m → (u < X ∨ (u = X ∧ (v < Y ∨ (v = Y ∧ t < Z)))) → hitB a b P m u v t = false
theorem anyHit_no {a b : Int} {P m : Nat} (h : NoHit a b P m m 0 0) : anyHit a b P m = false := by
  cases hh : anyHit a b P m with
  | false => rfl
  | true =>
    obtain ⟨x, hx, h1⟩ := List.any_eq_true.1 hh
    obtain ⟨y, hy, h2⟩ := List.any_eq_true.1 h1
    obtain ⟨z, hz, h3⟩ := List.any_eq_true.1 h2
    rw [h x y z (List.mem_range.1 hx) (List.mem_range.1 hy) (List.mem_range.1 hz) (.inl (List.mem_range.1 hx))] at h3
    cases h3
theorem noHit_z {a b : Int} {P m X Y Z : Nat} (h : NoHit a b P m X Y Z) (hz : hitB a b P m X Y Z = false) : NoHit a b P m X Y (Z + 1) := fun u v t hu hv ht hc => by
  by_cases e : u = X ∧ v = Y ∧ t = Z
  · rw [e.1, e.2.1, e.2.2]; exact hz
  · exact h u v t hu hv ht (by omega)
theorem noHit_y {a b : Int} {P m X Y : Nat} (h : NoHit a b P m X Y m) : NoHit a b P m X (Y + 1) 0 := fun u v t hu hv ht hc => h u v t hu hv ht (by omega)
theorem noHit_x {a b : Int} {P m X : Nat} (h : NoHit a b P m X m 0) : NoHit a b P m (X + 1) 0 0 := fun u v t hu hv ht hc => h u v t hu hv ht (by omega)
theorem tri_bd {a : Int} {x m : Nat} (a1 : -5000 ≤ a) (a2 : a ≤ 5000) (hx : x ≤ m) (hm : m ≤ 32) : -160000 ≤ a * (x : Int) ∧ a * (x : Int) ≤ 160000 ∧ -5120000 ≤ a * (x : Int) * (x : Int) ∧ a * (x : Int) * (x : Int) ≤ 5120000 := by
  have h1 : (a * (x : Int)).natAbs ≤ 5000 * 32 := by rw [Int.natAbs_mul]; exact Nat.mul_le_mul (by omega) (by omega)
  have h2 : (a * (x : Int) * (x : Int)).natAbs ≤ 5000 * 32 * 32 := by rw [Int.natAbs_mul]; exact Nat.mul_le_mul h1 (by omega)
  omega
def modOk (a b p k : Int) : Bool := okAB a b && (primeI p && (decide (p ≤ 31) && inR k 1 5))
def smodV (a b p k : Int) : Bool := modOk a b p k && (decide (p.toNat ^ k.toNat ≤ 32) && anyHit a b p.toNat (p.toNat ^ k.toNat))
theorem smodV_no {a b p k : Int} (h : modOk a b p k = false) : smodV a b p k = false := by unfold smodV; rw [h, Bool.false_and]

def wayB (a b : Int) (P x y z : Nat) : Bool := decide (0 < x + y + z) && ((a * (x : Int) * (x : Int) + b * (y : Int) * (y : Int) - (z : Int) * (z : Int)) % (P : Int) == 0)
def cntZ (a b : Int) (P x y : Nat) : Nat → Nat
  | 0 => 0
  | Z + 1 => cntZ a b P x y Z + (if wayB a b P x y Z then 1 else 0)
def cntY (a b : Int) (P x : Nat) : Nat → Nat
  | 0 => 0
  | Y + 1 => cntY a b P x Y + cntZ a b P x Y P
def cntX (a b : Int) (P : Nat) : Nat → Nat
  | 0 => 0
  | X + 1 => cntX a b P X + cntY a b P X P
theorem cntZ_le (a b : Int) (P x y : Nat) : ∀ Z, cntZ a b P x y Z ≤ Z
  | 0 => Nat.le_refl _
  | Z + 1 => by
    have := cntZ_le a b P x y Z
    unfold cntZ
    split <;> omega
theorem cntY_le (a b : Int) (P x : Nat) : ∀ Y, cntY a b P x Y ≤ Y * P
  | 0 => Nat.zero_le _
  | Y + 1 => by
    have h1 := cntY_le a b P x Y
    have h2 := cntZ_le a b P x Y P
    unfold cntY
    rw [Nat.succ_mul]
    omega
theorem cntX_le (a b : Int) (P : Nat) : ∀ X, cntX a b P X ≤ X * (P * P)
  | 0 => Nat.zero_le _
  | X + 1 => by
    have h1 := cntX_le a b P X
    have h2 := cntY_le a b P X P
    unfold cntX
    rw [Nat.succ_mul]
    omega
def wayOk (a b p : Int) : Bool := okAB a b && (primeI p && decide (p ≤ 31))
def swayV (a b p : Int) : Int := if wayOk a b p then (cntX a b p.toNat p.toNat : Nat) else -1
theorem swayV_no {a b p : Int} (h : wayOk a b p = false) : swayV a b p = -1 := by unfold swayV; rw [if_neg (by rw [h]; decide)]

end Go.Proofs.Ytdidmblkknnglaa
