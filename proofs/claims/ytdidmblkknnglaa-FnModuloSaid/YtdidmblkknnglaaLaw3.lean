/-
  Plain arithmetic behind the laws of chapter 3: places of symbols; equations up to a power; how many ways.
-/
import Derived.Test.YtdidmblkknnglaaVals3
import Derived.Test.YtdidmblkknnglaaStein
set_option linter.unusedVariables false
namespace Go.Proofs.Ytdidmblkknnglaa
open Go.RowKit

theorem sym_away2 {a b : Int} {P : Nat} (hP : primeN P = true) (h3 : 3 ≤ P) (ha : ¬ P ∣ a.natAbs) (hb : ¬ P ∣ b.natAbs) : symV a b (P : Int) = 1 :=
  sym_units hP h3 (by rw [Int.ofNat_dvd_left]; exact ha) (by rw [Int.ofNat_dvd_left]; exact hb)
/-- the places with the symbol -1 -/
theorem mem_spl {a b q : Int} (O : okAB a b = true) : q ∈ splL a b ↔ plI q = true ∧ symV a b q = -1 := by
  rcases okAB_cases a b with ⟨a1, a2, a0, b1, b2, b0, _⟩ | hO
  · have hab := Int.mul_ne_zero a0 b0
    obtain ⟨_, _, s3⟩ := plistG_spec (show 0 < (a * b).natAbs by omega)
    unfold splL
    rw [O, if_pos rfl, List.mem_filter, decide_eq_true_eq]
    constructor
    · rintro ⟨h1, h2⟩
      exact ⟨placesG_pl a0 b0 a1 a2 b1 b2 q h1, h2⟩
    · rintro ⟨hq, h2⟩
      refine ⟨?_, h2⟩
      rcases plI_cases hq with rfl | rfl | ⟨P, rfl, hP, h3, h5⟩
      · unfold placesG; simp
      · unfold placesG; simp
      · by_cases hd : P ∣ (a * b).natAbs
        · unfold placesG
          simp only [List.cons_append, List.nil_append, List.mem_cons]
          right; right
          refine List.mem_filter.2 ⟨?_, decide_eq_true (by omega)⟩
          unfold natsI
          exact List.mem_map.2 ⟨P, s3 P (primeN_prG hP) hd, rfl⟩
        · rw [Int.natAbs_mul] at hd
          rw [sym_away2 hP h3 (fun h => hd (Nat.dvd_mul_right_of_dvd h _)) (fun h => hd (Nat.dvd_mul_left_of_dvd h _))] at h2
          cases h2
  · rw [O] at hO; cases hO
theorem spl_comm (a b : Int) : splL a b = splL b a := by
  unfold splL
  rw [show okAB b a = okAB a b by unfold okAB; exact Bool.and_comm _ _, Int.mul_comm b a]
  rcases okAB_cases a b with ⟨a1, a2, a0, b1, b2, b0, O⟩ | O
  · rw [O, if_pos rfl, if_pos rfl]
    refine List.filter_congr fun q hq => ?_
    rw [symV_comm a0 b0 (placesG_pl a0 b0 a1 a2 b1 b2 q hq)]
  · rw [O, if_neg (by decide), if_neg (by decide)]
theorem same_sym {a b c d q : Int} (h : sym4 a b c d = true) (hq : plI q = true) : symV a b q = symV c d q := by
  unfold sym4 at h
  rw [Bool.and_eq_true, Bool.and_eq_true, decide_eq_true_eq] at h
  obtain ⟨O1, O2, e⟩ := h
  rcases okAB_cases a b with ⟨_, _, a0, _, _, b0, _⟩ | hO
  · rcases okAB_cases c d with ⟨_, _, c0, _, _, d0, _⟩ | hO
    · have h1 := mem_spl (q := q) O1
      have h2 := mem_spl (q := q) O2
      rw [e, h2] at h1
      simp only [hq, true_and] at h1
      rcases symV_val a0 b0 hq with e1 | e1 <;> rcases symV_val c0 d0 hq with e2 | e2 <;> rw [e1, e2] at h1 ⊢
      · exact absurd (h1.1 rfl) (by decide)
      · exact absurd (h1.2 rfl) (by decide)
    · rw [O2] at hO; cases hO
  · rw [O1] at hO; cases hO

/-- ways depend on the rests alone -/
theorem wayB_mod (a b : Int) (P x y z : Nat) : wayB a b P x y z = wayB (a % (P : Int)) (b % (P : Int)) P x y z := by
  unfold wayB
  congr 2
  simp only [Int.sub_emod, Int.add_emod, Int.mul_emod, Int.emod_emod_of_dvd _ (Int.dvd_refl (P : Int))]
theorem cntZ_mod (a b : Int) (P x y : Nat) : ∀ Z, cntZ a b P x y Z = cntZ (a % (P : Int)) (b % (P : Int)) P x y Z
  | 0 => rfl
  | Z + 1 => by unfold cntZ; rw [cntZ_mod a b P x y Z, wayB_mod]
theorem cntY_mod (a b : Int) (P x : Nat) : ∀ Y, cntY a b P x Y = cntY (a % (P : Int)) (b % (P : Int)) P x Y
  | 0 => rfl
  | Y + 1 => by unfold cntY; rw [cntY_mod a b P x Y, cntZ_mod]
theorem cntX_mod (a b : Int) (P : Nat) : ∀ X, cntX a b P X = cntX (a % (P : Int)) (b % (P : Int)) P X
  | 0 => rfl
  | X + 1 => by unfold cntX; rw [cntX_mod a b P X, cntY_mod]
/-- the same count by squares -/
def wayN (a b : Nat) (P : Nat) : Nat := ((List.range P).flatMap (fun x => (List.range P).map (fun y => ((List.range P).filter (fun z => decide (z * z % P = (a * x * x + b * y * y) % P))).length))).sum
def waysOk (P : Nat) : Bool := (List.range P).all (fun a => (List.range P).all (fun b => decide ((a = 0) ≠ (b = 0)) || cntX (a : Int) (b : Int) P P == P * P - 1))
theorem waysOk3 : waysOk 3 = true := by decide +kernel
theorem waysOk5 : waysOk 5 = true := by decide +kernel
theorem waysOk7 : waysOk 7 = true := by decide +kernel

end Go.Proofs.Ytdidmblkknnglaa
