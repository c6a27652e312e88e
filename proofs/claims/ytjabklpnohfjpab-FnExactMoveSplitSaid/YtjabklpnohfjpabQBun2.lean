/-
  Some texts in one file: Arith Arith2 Arith3 Prime Res.
-/
import Derived.Test.YtjabklpnohfjpabQBun0
import Derived.BigQuiet
import Derived.Test.YtjabklpnohfjpabQIter
/-! Arith -/
set_option linter.unusedVariables false
namespace Go.Proofs.Ytjabklpnohfjpab
open Go.RowKit



def optV : Option Nat → Value
  | some x => .tuple #[.int .i64 x, .bool true]
  | none => .tuple #[.int .i64 0, .bool false]
/-- what RootMod answers -/
def rootV (n m : Int) : Value := optV (if okN n && inR m 1 5000 then rootF (n % m).toNat m.toNat else none)
theorem rootV_yes {n m : Int} (h : (okN n && inR m 1 5000) = true) : rootV n m = optV (rootF (n % m).toNat m.toNat) := by unfold rootV; rw [if_pos h]
theorem rootV_no {n m : Int} (h : (okN n && inR m 1 5000) = false) : rootV n m = .tuple #[.int .i64 0, .bool false] := by unfold rootV; rw [if_neg (by rw [h]; decide)]; rfl
/-- what InverseMod answers -/
def invV (n m : Int) : Value := optV (if okN n && inR m 2 5000 then invF (n % m).toNat m.toNat else none)
theorem invV_yes {n m : Int} (h : (okN n && inR m 2 5000) = true) : invV n m = optV (invF (n % m).toNat m.toNat) := by unfold invV; rw [if_pos h]
theorem invV_no {n m : Int} (h : (okN n && inR m 2 5000) = false) : invV n m = .tuple #[.int .i64 0, .bool false] := by unfold invV; rw [if_neg (by rw [h]; decide)]; rfl
theorem optV_form (o : Option Nat) : ∃ (x : Int) (b : Bool), optV o = .tuple #[.int .i64 x, .bool b] := by
  cases o with
  | none => exact ⟨0, false, rfl⟩
  | some x => exact ⟨x, true, rfl⟩
theorem rootV_form (n m : Int) : ∃ (x : Int) (b : Bool), rootV n m = .tuple #[.int .i64 x, .bool b] := optV_form _
theorem invV_form (n m : Int) : ∃ (x : Int) (b : Bool), invV n m = .tuple #[.int .i64 x, .bool b] := optV_form _
theorem retV {a b : Value} (h : a = b) : Ending.returned a = .returned b := by rw [h]



end Go.Proofs.Ytjabklpnohfjpab

/-! Arith2 -/
set_option linter.unusedVariables false
namespace Go.Proofs.Ytjabklpnohfjpab
open Go.RowKit

def gcdV (a b : Int) : Int := if okN a && okN b then (Nat.gcd a.natAbs b.natAbs : Nat) else -1
theorem gcdV_yes {a b : Int} (h : (okN a && okN b) = true) : gcdV a b = (Nat.gcd a.natAbs b.natAbs : Nat) := by unfold gcdV; rw [if_pos h]
theorem gcdV_no {a b : Int} (h : (okN a && okN b) = false) : gcdV a b = -1 := by unfold gcdV; rw [if_neg (by rw [h]; decide)]

set_option maxHeartbeats 400000 in
theorem l1Gcd_any (a b : Int) (a1 : -100000000000 ≤ a) (a2 : a ≤ 100000000000) (b1 : -100000000000 ≤ b) (b2 : b ≤ 100000000000) (w : World) :
    Calls Try.prog 83 #[.int .i64 a, .int .i64 b] w fun e w' => e = .returned (.int .i64 (Nat.gcd a.natAbs b.natAbs : Nat)) ∧ w = w' := by
  go_enter Try.func83, Try.ntmps83
  go_wp2_with fail
  refine (l1Size_any a (by omega) (by omega) _).mono ?_
  rintro e w' ⟨rfl, rfl⟩
  go_wp2_with fail
  refine (l1Size_any b (by omega) (by omega) _).mono ?_
  rintro e w' ⟨rfl, rfl⟩
  go_wp2_with fail
  go_loop [0, 1] (fun x y => ∃ (X Y : Nat), x = .int .i64 X ∧ y = .int .i64 Y ∧ X ≤ 100000000000 ∧ Y ≤ 100000000000 ∧ Hid (Nat.gcd X Y = Nat.gcd a.natAbs b.natAbs)) (fun _ y => (intOf y).toNat)
  case atStart => exact ⟨_, _, rfl, rfl, by omega, by omega, hid rfl⟩
  case round =>
    obtain ⟨X, Y, rfl, rfl, hX, hY, HV⟩ := hrel
    by_cases h0 : Y = 0
    · subst h0
      go_wp2
      go_ret
      exact ⟨retI (by rw [← HV.out, Nat.gcd_zero_right]), rfl⟩
    · have T : ((Y : Int) != 0) = true := by rw [bne_iff_ne]; omega
      have hlt := Nat.mod_lt X (show Y > 0 by omega)
      go_wp2
      go_round
      case rel => exact ⟨Y, X % Y, rfl, vI (by push_cast; rfl), hY, by omega, hid (by rw [← HV.out, Nat.gcd_comm X Y, Nat.gcd_rec Y X, Nat.gcd_comm])⟩
      case measure => simp only [intOf]; omega

theorem primeI_no {n : Int} (h : n < 2 ∨ 5000 < n) : primeI n = false := by
  unfold primeI primeN
  rcases h with h | h
  · simp [show ¬ 2 ≤ n.toNat by omega]
  · simp [show ¬ n.toNat ≤ 5000 by omega]
theorem primeI_yes {n : Int} (h1 : 2 ≤ n) (h2 : n ≤ 5000) : primeI n = primeGo 70 2 n.toNat := by
  unfold primeI primeN
  simp [show 2 ≤ n.toNat by omega, show n.toNat ≤ 5000 by omega]




end Go.Proofs.Ytjabklpnohfjpab

/-! Arith3 -/
set_option linter.unusedVariables false
namespace Go.Proofs.Ytjabklpnohfjpab
open Go.RowKit

set_option maxHeartbeats 400000 in
theorem common_any (a b : Int) (a1 : -100000000000 ≤ a) (a2 : a ≤ 100000000000) (b1 : -100000000000 ≤ b) (b2 : b ≤ 100000000000) (w : World) : Calls Try.prog 94 #[.int .i64 a, .int .i64 b] w fun e w' => e = .returned (.int .i64 (Nat.gcd a.natAbs b.natAbs : Nat)) ∧ ∃ k, w' = w.drewN k := by
  go_enter Try.func94, Try.ntmps94
  go_wp2_with fail
  refine (size_any a (by omega) (by omega) _).mono ?_
  rintro e w' ⟨rfl, rfl⟩
  go_wp2_with fail
  refine (size_any b (by omega) (by omega) _).mono ?_
  rintro e w' ⟨rfl, rfl⟩
  go_wp2_with fail
  go_loopw [5, 6] (fun x y wr => ∃ (X Y k : Nat), x = .int .i64 X ∧ y = .int .i64 Y ∧ X ≤ 100000000000 ∧ Y ≤ 100000000000 ∧ Hid (Nat.gcd X Y = Nat.gcd a.natAbs b.natAbs) ∧ wr = w.drewN k) (fun _ y _ => (intOf y).toNat)
  case atStart => exact ⟨_, _, 0, rfl, rfl, by omega, by omega, hid rfl, rfl⟩
  case round =>
    obtain ⟨X, Y, k, rfl, rfl, hX, hY, HV, rfl⟩ := hrel
    by_cases h0 : Y = 0
    · subst h0
      go_wp2
      go_ret
      exact ⟨retI (by rw [← HV.out, Nat.gcd_zero_right]), k, rfl⟩
    · have T : ((Y : Int) != 0) = true := by rw [bne_iff_ne]; omega
      have hlt := Nat.mod_lt X (show Y > 0 by omega)
      go_wp2
      go_quiet (fail)
      go_wp2
      go_roundw
      case rel => exact ⟨Y, X % Y, _, rfl, vI (by push_cast; rfl), hY, by omega, hid (by rw [← HV.out, Nat.gcd_comm X Y, Nat.gcd_rec Y X, Nat.gcd_comm]), World.drewN_drewN ..⟩
      case measure => simp only [intOf]; omega



end Go.Proofs.Ytjabklpnohfjpab

/-! Prime -/
set_option linter.unusedVariables false
namespace Go.Proofs.Ytjabklpnohfjpab
open Go.RowKit Go.Shelf
attribute [local go_sem] Oper.semAt_some

/-- the least prime that divides, 0 for 1 -/
def leastN (N : Nat) : Nat := ((ppow N).head?.map (·.1)).getD 0
theorem least_prime {N : Nat} (h2 : 2 ≤ N) (hN : N ≤ 5000) : (((leastN N : Nat) : Int) == (N : Int)) = primeN N := by
  rw [← ppow_prime h2 hN]
  unfold leastN
  cases (ppow N).head? with
  | none => simp; omega
  | some x =>
    simp only [Option.map_some, Option.getD_some]
    rw [Bool.eq_iff_iff, beq_iff_eq, beq_iff_eq, Option.some.injEq]
    omega
theorem head_pre {N : Nat} {x : Nat × Nat} (h : [x] <+: ppow N) : x.1 = leastN N := by
  obtain ⟨t, ht⟩ := h
  unfold leastN
  rw [← ht]
  rfl
theorem head_none {N : Nat} (h : [] = ppow N) : leastN N = 0 := by
  unfold leastN
  rw [← h]
  rfl
theorem primeI_cast (N : Nat) : primeI (N : Int) = primeN N := rfl
theorem boxed_putObjP {W : World} {B D : Nat} {t : TypeId} {v : Value} {o : Obj} (h : Boxed W B t v) (hD : D ≠ B) : Boxed (W.putObj D o) B t v := by
  unfold Boxed at *
  rw [← h]
  simp [World.putObj, hD]

end Go.Proofs.Ytjabklpnohfjpab

/-! Res -/
set_option linter.unusedVariables false
namespace Go.Proofs.Ytjabklpnohfjpab
open Go.RowKit

theorem primeI_bd {n : Int} (h : primeI n = true) : 2 ≤ n ∧ n ≤ 5000 := by
  unfold primeI primeN at h
  simp at h
  omega


def oddP (p : Int) : Bool := primeI p && decide (p ≠ 2)
theorem oddP_cases (p : Int) : (3 ≤ p ∧ p ≤ 5000 ∧ p ≠ 2 ∧ primeI p = true ∧ oddP p = true) ∨ (p = 2 ∧ oddP p = false) ∨ (p ≠ 2 ∧ primeI p = false ∧ oddP p = false) := by
  unfold oddP
  by_cases h2 : p = 2
  · exact .inr (.inl ⟨h2, by simp [h2]⟩)
  · cases h : primeI p with
    | true => have := primeI_bd h; exact .inl ⟨by omega, by omega, h2, rfl, by simp [h2]⟩
    | false => exact .inr (.inr ⟨h2, rfl, rfl⟩)


/-- what ValuationOf answers -/
def valV (n p : Int) : Int := if factB n && primeI p then (val n.natAbs p.toNat : Nat) else -1
theorem valV_yes {n p : Int} (h1 : factB n = true) (h2 : primeI p = true) : valV n p = (val n.natAbs p.toNat : Nat) := by unfold valV; rw [if_pos (by rw [h1, h2]; rfl)]
theorem valV_no {n p : Int} (h : factB n = false ∨ primeI p = false) : valV n p = -1 := by unfold valV; rw [if_neg (by rcases h with h | h <;> simp [h])]
theorem factB_cases (n : Int) : (-5000 ≤ n ∧ n ≤ 5000 ∧ n ≠ 0 ∧ okN n = true ∧ factB n = true) ∨ (n = 0 ∧ factB n = false) ∨ (n ≠ 0 ∧ okN n = false ∧ factB n = false) := by
  rcases okN_cases n with ⟨h1, h2, H⟩ | ⟨h1, H⟩ | ⟨h1, h2, H⟩
  · by_cases h0 : n = 0
    · exact .inr (.inl ⟨h0, factB_no (by omega)⟩)
    · exact .inl ⟨h1, h2, h0, H, factB_yes h1 h2 h0⟩
  · exact .inr (.inr ⟨by omega, H, factB_no (by omega)⟩)
  · exact .inr (.inr ⟨by omega, H, factB_no (by omega)⟩)




/-- what ResidueIs answers -/
def resV (n p : Int) : Int := if okN n && oddP p then resN (n % p).toNat p.toNat else -2
theorem resV_yes {n p : Int} (h1 : okN n = true) (h2 : oddP p = true) : resV n p = resN (n % p).toNat p.toNat := by unfold resV; rw [if_pos (by rw [h1, h2]; rfl)]
theorem resV_no {n p : Int} (h : okN n = false ∨ oddP p = false) : resV n p = -2 := by unfold resV; rw [if_neg (by rcases h with h | h <;> simp [h])]


end Go.Proofs.Ytjabklpnohfjpab
