/-
  Plain values of chapter 2: what its functions answer.
-/
import Derived.Test.YtdidmblkknnglaaCls
import Derived.Test.YtdidmblkknnglaaLists
set_option linter.unusedVariables false
namespace Go.Proofs.Ytdidmblkknnglaa
open Go.RowKit

def okAt (n q : Int) : Bool := factB n && plI q
theorem okAt_cases (n q : Int) : (-5000 ≤ n ∧ n ≤ 5000 ∧ n ≠ 0 ∧ plI q = true ∧ okAt n q = true) ∨ okAt n q = false := by
  unfold okAt
  rcases factB_cases n with ⟨h1, h2, h0, O, hF⟩ | ⟨rfl, hF⟩ | ⟨h0, O, hF⟩
  · cases h : plI q
    · right; simp
    · left; exact ⟨h1, h2, h0, rfl, by rw [hF]; rfl⟩
  · right; rw [hF]; rfl
  · right; rw [hF]; rfl
def lsV (n q : Int) : Bool := okAt n q && sqAt n q
def lsameV (a b q : Int) : Bool := okAt a q && (okAt b q && decide (cls a q = cls b q))
def lnamesL (q : Int) : List Int := if plI q then namesOf q else []
def lnameV (n q : Int) : Value := if okAt n q then .tuple #[.int .i64 (nameOf n q), .bool true] else .tuple #[.int .i64 0, .bool false]
theorem lnameV_yes {n q : Int} (h : okAt n q = true) : lnameV n q = .tuple #[.int .i64 (nameOf n q), .bool true] := by unfold lnameV; rw [if_pos h]
theorem lnameV_no {n q : Int} (h : okAt n q = false) : lnameV n q = .tuple #[.int .i64 0, .bool false] := by unfold lnameV; rw [if_neg (by rw [h]; decide)]
def lmulV (a b q : Int) : Value := if okAt a q && okAt b q then .tuple #[.int .i64 (nameOf (a * b) q), .bool true] else .tuple #[.int .i64 0, .bool false]
def lunitV (n p : Int) : Value := if factB n && primeI p then .tuple #[.int .i64 (unitI n p), .bool true] else .tuple #[.int .i64 0, .bool false]
/-- the odd primes of a number behind 0 and 2 -/
def placesOf (n : Int) : List Int := [0, 2] ++ (natsI (plist n.natAbs)).filter (fun x => decide (2 < x))
theorem natsI_get {l : List Nat} {i : Nat} (h : i < (natsI l).length) : ∃ x : Nat, (natsI l).getD i 0 = (x : Int) ∧ x ∈ l := by
  unfold natsI at h ⊢
  rw [List.length_map] at h
  exact ⟨l[i], by rw [getD_at _ _ (by rw [List.length_map]; exact h)]; simp, List.getElem_mem h⟩
def plistOk (N : Nat) : Bool := (plist N).all (fun x => primeN x && decide (N = 0 ∨ N % x = 0)) && decide ((plist N).length ≤ 70)
theorem plistOk_all : (List.range 5001).all plistOk = true := by decide +kernel
theorem plist_ok {N : Nat} (h2 : N ≤ 5000) : (plist N).length ≤ 70 ∧ ∀ x ∈ plist N, primeN x = true ∧ (N = 0 ∨ N % x = 0) := by
  have := List.all_eq_true.1 plistOk_all N (List.mem_range.2 (by omega))
  unfold plistOk at this
  rw [Bool.and_eq_true] at this
  refine ⟨of_decide_eq_true this.2, fun x hx => ?_⟩
  have := List.all_eq_true.1 this.1 x hx
  rw [Bool.and_eq_true] at this
  exact ⟨this.1, of_decide_eq_true this.2⟩
theorem placesOf_ok {n : Int} (h0 : n ≠ 0) (h1 : -5000 ≤ n) (h2 : n ≤ 5000) : (placesOf n).length ≤ 72 ∧ ∀ q ∈ placesOf n, plI q = true := by
  obtain ⟨hl, hp⟩ := plist_ok (show n.natAbs ≤ 5000 by omega)
  unfold placesOf
  constructor
  · have h3 := List.length_filter_le (fun x : Int => decide (2 < x)) (natsI (plist n.natAbs))
    have h4 : (natsI (plist n.natAbs)).length = (plist n.natAbs).length := by unfold natsI; rw [List.length_map]
    rw [List.length_append]
    simp only [List.length_cons, List.length_nil]
    omega
  · intro q hq
    simp only [List.cons_append, List.nil_append, List.mem_cons] at hq
    rcases hq with rfl | rfl | hq
    · rfl
    · rfl
    · have hm := (List.mem_filter.1 hq).1
      unfold natsI at hm
      rw [List.mem_map] at hm
      obtain ⟨x, hx, rfl⟩ := hm
      have := (hp x hx).1
      unfold plI
      rw [show primeI (x : Int) = true from this, Bool.or_true]
def lplacesL (n : Int) : List Int := if factB n then (placesOf n).filter (fun q => !sqAt n q) else []
def lrootOk (n p k : Int) : Bool := okN n && (primeI p && (inR k 1 12 && decide (p.toNat ^ k.toNat ≤ 5000)))
def rootT (o : Option Nat) : Value := match o with | some x => .tuple #[.int .i64 (x : Nat), .bool true] | none => .tuple #[.int .i64 0, .bool false]
def lrootV (n p k : Int) : Value := if lrootOk n p k then rootT (rootF (n % ((p.toNat ^ k.toNat : Nat) : Int)).toNat (p.toNat ^ k.toNat)) else .tuple #[.int .i64 0, .bool false]
theorem lrootV_no {n p k : Int} (h : lrootOk n p k = false) : lrootV n p k = .tuple #[.int .i64 0, .bool false] := by unfold lrootV; rw [if_neg (by rw [h]; decide)]
theorem cap_step {P A i : Nat} (hP : 1 ≤ P) (h : A = min (P ^ i) 5001) : min (A * P) 5001 = min (P ^ (i + 1)) 5001 := by
  rw [Nat.pow_succ]
  have h1 : 1 ≤ P ^ i := Nat.pow_pos (by omega)
  by_cases hc : P ^ i ≤ 5001
  · rw [h, Nat.min_eq_left hc]
  · have e : min (P ^ i) 5001 = 5001 := Nat.min_eq_right (by omega)
    rw [h, e]
    have h2 := Nat.mul_le_mul_left 5001 hP
    have h3 := Nat.mul_le_mul_left (P ^ i) hP
    omega

end Go.Proofs.Ytdidmblkknnglaa
