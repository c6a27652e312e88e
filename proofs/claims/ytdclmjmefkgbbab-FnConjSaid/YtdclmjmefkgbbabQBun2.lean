/-
  Some texts in one file: Arith Arith2 Arith3 Prime Res.
-/
import Derived.Test.YtdclmjmefkgbbabQBun0
import Derived.BigQuiet
import Derived.Test.YtdclmjmefkgbbabQIter
/-! Arith -/
set_option linter.unusedVariables false
namespace Go.Proofs.Ytdclmjmefkgbbab
open Go.RowKit



def optV : Option Nat → Value
  | some x => .tuple #[.int .i64 x, .bool true]
  | none => .tuple #[.int .i64 0, .bool false]
/-- what RootMod answers -/
def rootV (n m : Int) : Value := optV (if okN n && inR m 1 5000 then rootF (n % m).toNat m.toNat else none)
theorem rootV_yes {n m : Int} (h : (okN n && inR m 1 5000) = true) : rootV n m = optV (rootF (n % m).toNat m.toNat) := by unfold rootV; rw [if_pos h]
theorem rootV_no {n m : Int} (h : (okN n && inR m 1 5000) = false) : rootV n m = .tuple #[.int .i64 0, .bool false] := by unfold rootV; rw [if_neg (by rw [h]; decide)]; rfl
/-- what InverseMod answers -/
def invV (n m : Int) : Value := optV (if okN n && inR m 2 5000 then invF (n % m).toNat m.toNat else none)
theorem invV_yes {n m : Int} (h : (okN n && inR m 2 5000) = true) : invV n m = optV (invF (n % m).toNat m.toNat) := by unfold invV; rw [if_pos h]
theorem invV_no {n m : Int} (h : (okN n && inR m 2 5000) = false) : invV n m = .tuple #[.int .i64 0, .bool false] := by unfold invV; rw [if_neg (by rw [h]; decide)]; rfl
theorem optV_form (o : Option Nat) : ∃ (x : Int) (b : Bool), optV o = .tuple #[.int .i64 x, .bool b] := by
  cases o with
  | none => exact ⟨0, false, rfl⟩
  | some x => exact ⟨x, true, rfl⟩
theorem rootV_form (n m : Int) : ∃ (x : Int) (b : Bool), rootV n m = .tuple #[.int .i64 x, .bool b] := optV_form _
theorem invV_form (n m : Int) : ∃ (x : Int) (b : Bool), invV n m = .tuple #[.int .i64 x, .bool b] := optV_form _
theorem retV {a b : Value} (h : a = b) : Ending.returned a = .returned b := by rw [h]



end Go.Proofs.Ytdclmjmefkgbbab

/-! Arith2 -/
set_option linter.unusedVariables false
namespace Go.Proofs.Ytdclmjmefkgbbab
open Go.RowKit

def gcdV (a b : Int) : Int := if okN a && okN b then (Nat.gcd a.natAbs b.natAbs : Nat) else -1
theorem gcdV_yes {a b : Int} (h : (okN a && okN b) = true) : gcdV a b = (Nat.gcd a.natAbs b.natAbs : Nat) := by unfold gcdV; rw [if_pos h]
theorem gcdV_no {a b : Int} (h : (okN a && okN b) = false) : gcdV a b = -1 := by unfold gcdV; rw [if_neg (by rw [h]; decide)]


theorem primeI_no {n : Int} (h : n < 2 ∨ 5000 < n) : primeI n = false := by
  unfold primeI primeN
  rcases h with h | h
  · simp [show ¬ 2 ≤ n.toNat by omega]
  · simp [show ¬ n.toNat ≤ 5000 by omega]
theorem primeI_yes {n : Int} (h1 : 2 ≤ n) (h2 : n ≤ 5000) : primeI n = primeGo 70 2 n.toNat := by
  unfold primeI primeN
  simp [show 2 ≤ n.toNat by omega, show n.toNat ≤ 5000 by omega]




end Go.Proofs.Ytdclmjmefkgbbab

/-! Arith3 -/
set_option linter.unusedVariables false
namespace Go.Proofs.Ytdclmjmefkgbbab
open Go.RowKit




end Go.Proofs.Ytdclmjmefkgbbab

/-! Prime -/
set_option linter.unusedVariables false
namespace Go.Proofs.Ytdclmjmefkgbbab
open Go.RowKit Go.Shelf
attribute [local go_sem] Oper.semAt_some

/-- the least prime that divides, 0 for 1 -/
def leastN (N : Nat) : Nat := ((ppow N).head?.map (·.1)).getD 0
theorem least_prime {N : Nat} (h2 : 2 ≤ N) (hN : N ≤ 5000) : (((leastN N : Nat) : Int) == (N : Int)) = primeN N := by
  rw [← ppow_prime h2 hN]
  unfold leastN
  cases (ppow N).head? with
  | none => simp; omega
  | some x =>
    simp only [Option.map_some, Option.getD_some]
    rw [Bool.eq_iff_iff, beq_iff_eq, beq_iff_eq, Option.some.injEq]
    omega
theorem head_pre {N : Nat} {x : Nat × Nat} (h : [x] <+: ppow N) : x.1 = leastN N := by
  obtain ⟨t, ht⟩ := h
  unfold leastN
  rw [← ht]
  rfl
theorem head_none {N : Nat} (h : [] = ppow N) : leastN N = 0 := by
  unfold leastN
  rw [← h]
  rfl
theorem primeI_cast (N : Nat) : primeI (N : Int) = primeN N := rfl
theorem boxed_putObjP {W : World} {B D : Nat} {t : TypeId} {v : Value} {o : Obj} (h : Boxed W B t v) (hD : D ≠ B) : Boxed (W.putObj D o) B t v := by
  unfold Boxed at *
  rw [← h]
  simp [World.putObj, hD]

set_option maxRecDepth 100000 in
set_option maxHeartbeats 1000000 in
theorem leastPrime_any (N : Nat) (h1 : 1 ≤ N) (h2 : N ≤ 5000) (w : World) : Calls Try.prog 106 #[.int .i64 N] w fun e w' => e = .returned (.int .i64 (leastN N : Nat)) ∧ Below w.heap.size w w' := by
  have hB0 : Below w.heap.size w ((w.alloc (.cells #[.int .i64 0] 3)).alloc (.cells #[.int .i64 N] 48)) := ((Below.refl _ _).alloc (Nat.le_refl _) _).alloc (by simp) _
  have bL := (Boxed.new w 3 (.int .i64 0)).alloc (.cells #[.int .i64 N] 48)
  have bN := Boxed.new (w.alloc (.cells #[.int .i64 0] 3)) 48 (.int .i64 N)
  rw [World.size_alloc] at bN
  refine (callsIn_wide (n := 5)).1 ?_
  refine callsIn_of_wp_marks Try.func106 rfl trivial ?_ rfl
  simp only [Try.ntmps106, List.size_toArray, List.length_cons, List.length_nil, Nat.reduceAdd, Nat.reduceSub, Array.replicate_succ, Array.replicate_zero, List.push_toArray, List.append_toArray, List.nil_append, List.cons_append]
  gi_wp2_with (refine ⟨trivial, ?_⟩; gi_at_call 61; refine (callsIn_wide.2 (pp_make _ _)).mono ?_; rintro e w' ⟨rfl, rfl⟩)
  refine wpIn_rangeFunc_ownF rfl (by omega) (gf := 90) (lb := #[.pointer (some ⟨w.heap.size + 1, 0, none⟩)]) rfl trivial (enters_of Try.func90 (by kernel_rfl) rfl)
    (pp_stops _ (w.heap.size + 1) N (by omega) (by omega) (by omega) _ (by simp) bN.cell) walksK_t walksK_b (Below.refl _ _) (fun _ => rfl)
    (fun pre W => (pre = [] ∧ Boxed W w.heap.size 3 (.int .i64 0)) ∧ Below w.heap.size w W)
    (fun c pre W => (c = .ret ∧ ∃ x : PP, pre = [x] ∧ Boxed W w.heap.size 3 (.int .i64 x.1.1)) ∧ Below w.heap.size w W)
    (OwnFrom.and (OwnFrom.and (ownFrom_pure _ _) (Own.from (boxed_own _ _ (fun _ => .int .i64 0)) _)) (ownFrom_below (Nat.le_refl _) (by simp; omega)))
    (fun c => OwnFrom.and (fun s A B row hs hg hr => by obtain ⟨hc, x, hx, hb⟩ := hs; exact ⟨hc, x, hx, (Own.from (boxed_own _ _ (fun _ : Unit => Value.int .i64 x.1.1)) _) () A B row hb hg hr⟩) (ownFrom_below (Nat.le_refl _) (by simp; omega)))
    ⟨⟨rfl, bL⟩, hB0⟩ ?a1 ?assign ?body ?done ?stop
  case assign =>
    intro l x W K hK
    gi_wp2
    exact hK
  case body =>
    rintro l pre x W ⟨⟨rfl, hb⟩, hB⟩ _
    have hc := hb.cell
    have hf := hb.frozen
    gi_wp2
    exact ⟨KeepsOthers.setCell _ _ _, ⟨rfl, x, rfl, hb.set _⟩, hB.setCell (p := ⟨w.heap.size, 0, none⟩) (Nat.le_refl _) _⟩
  case done =>
    rintro D ys W hD hS ⟨⟨h, hb⟩, hB⟩ hK
    have hc := hb.cell
    have hf := hb.frozen
    have hn := hid (head_none (N := N) (by rw [h] at hS; simpa using hS))
    have hset := hb.set (.int .i64 0)
    have hB2 := hB.setCell (p := ⟨w.heap.size, 0, none⟩) (Nat.le_refl _) (.int .i64 0)
    gi_wp2
    have hD2 : D ≠ w.heap.size := by simp at hD; omega
    have hK2 := (KeepsOthers.setCell W ⟨w.heap.size, 0, none⟩ (.int .i64 0)).same D _ hK rfl
    refine ⟨by simp, .inl ⟨_, _, rfl, run_takeDeferred hK2, ?_⟩⟩
    have hfc : ∀ o, ((W.setCell ⟨w.heap.size, 0, none⟩ (.int .i64 0)).putObj D o).cell? ⟨w.heap.size, 0, none⟩ = some (.int .i64 0) := fun o => (boxed_putObjP hset hD2).cell
    refine ⟨.int .i64 0, by simp [results, Try.results106, go_sem, hfc] <;> go_simp, ?_⟩
    exact ⟨retI (by rw [hn.out]; rfl), hB2.trans (belowK_b (w := w) (Nat.le_refl _) _ D _ _ (by simp at hD; omega) hK2 rfl rfl)⟩
  case stop =>
    rintro D c pre W hD hSp ⟨⟨rfl, x, rfl, hb⟩, hB⟩ hK
    have hc := hb.cell
    have hn := hid (head_pre (N := N) (by simpa using hSp))
    gi_wp2
    have hD2 : D ≠ w.heap.size := by simp at hD; omega
    refine ⟨by simp, .inl ⟨_, _, rfl, run_takeDeferred hK, ?_⟩⟩
    have hfc : ∀ o, (W.putObj D o).cell? ⟨w.heap.size, 0, none⟩ = some (.int .i64 x.1.1) := fun o => (boxed_putObjP hb hD2).cell
    refine ⟨.int .i64 x.1.1, by simp [results, Try.results106, go_sem, hfc] <;> go_simp, ?_⟩
    exact ⟨retI (by rw [hn.out]), hB.trans (belowK_b (w := w) (Nat.le_refl _) W D _ _ (by simp at hD; omega) hK rfl rfl)⟩

set_option maxRecDepth 100000 in
set_option maxHeartbeats 1000000 in
theorem prime_any (n : Int) (w : World) : Calls Try.prog 97 #[.int .i64 n] w fun e w' => e = .returned (.bool (primeI n)) ∧ Below w.heap.size w w' := by
  rcases inR_cases n 2 5000 with ⟨h1, h2, H⟩ | ⟨h1, H⟩ | ⟨h1, h2, H⟩
  · have O : okN n = true := okN_iff.2 ⟨by omega, by omega⟩
    obtain ⟨N, rfl⟩ := Int.eq_ofNat_of_zero_le (show 0 ≤ n by omega)
    have P := hid (least_prime (N := N) (by omega) (by omega))
    go_enter Try.func97, Try.ntmps97
    go_wp2_with (first | (go_at_call 94; refine (valid_any _ _).mono ?_; rintro e w' ⟨rfl, rfl⟩) | (go_at_call 106; refine (leastPrime_any N (by omega) (by omega) _).mono ?_; rintro e w2 ⟨rfl, hb2⟩))
    go_ret
    exact ⟨retB P.out, hb2⟩
  · have P := hid (primeI_no (n := n) (by omega))
    go_enter Try.func97, Try.ntmps97
    go_wp2
    go_ret
    exact ⟨retB P.out.symm, Below.refl _ _⟩
  · have P := hid (primeI_no (n := n) (by omega))
    have O : okN n = false := okN_no.2 (by omega)
    go_enter Try.func97, Try.ntmps97
    go_wp2_with (go_at_call 94; refine (valid_any _ _).mono ?_; rintro e w' ⟨rfl, rfl⟩)
    go_ret
    exact ⟨retB P.out.symm, Below.refl _ _⟩

end Go.Proofs.Ytdclmjmefkgbbab

/-! Res -/
set_option linter.unusedVariables false
namespace Go.Proofs.Ytdclmjmefkgbbab
open Go.RowKit

theorem primeI_bd {n : Int} (h : primeI n = true) : 2 ≤ n ∧ n ≤ 5000 := by
  unfold primeI primeN at h
  simp at h
  omega


def oddP (p : Int) : Bool := primeI p && decide (p ≠ 2)
theorem oddP_cases (p : Int) : (3 ≤ p ∧ p ≤ 5000 ∧ p ≠ 2 ∧ primeI p = true ∧ oddP p = true) ∨ (p = 2 ∧ oddP p = false) ∨ (p ≠ 2 ∧ primeI p = false ∧ oddP p = false) := by
  unfold oddP
  by_cases h2 : p = 2
  · exact .inr (.inl ⟨h2, by simp [h2]⟩)
  · cases h : primeI p with
    | true => have := primeI_bd h; exact .inl ⟨by omega, by omega, h2, rfl, by simp [h2]⟩
    | false => exact .inr (.inr ⟨h2, rfl, rfl⟩)

theorem oddPrime_any (p : Int) (w : World) : Calls Try.prog 110 #[.int .i64 p] w fun e w' => e = .returned (.bool (oddP p)) ∧ Below w.heap.size w w' := by
  rcases oddP_cases p with ⟨h3, h5, h2, hp, H⟩ | ⟨rfl, H⟩ | ⟨h2, hp, H⟩
  · have T : (p != 2) = true := by rw [bne_iff_ne]; exact h2
    have HP := hid H
    clear h2 H
    go_enter Try.func110, Try.ntmps110
    go_wp2_with (go_at_call 97; refine (prime_any _ _).mono ?_; rintro e w' ⟨rfl, hb⟩)
    go_ret
    exact ⟨retB HP.out.symm, hb⟩
  · have HP := hid H
    go_enter Try.func110, Try.ntmps110
    go_wp2
    go_ret
    exact ⟨retB HP.out.symm, Below.refl _ _⟩
  · have T : (p != 2) = true := by rw [bne_iff_ne]; exact h2
    have HP := hid H
    clear h2 H
    go_enter Try.func110, Try.ntmps110
    go_wp2_with (go_at_call 97; refine (prime_any _ _).mono ?_; rintro e w' ⟨rfl, hb⟩)
    go_ret
    exact ⟨retB HP.out.symm, hb⟩

/-- what ValuationOf answers -/
def valV (n p : Int) : Int := if factB n && primeI p then (val n.natAbs p.toNat : Nat) else -1
theorem valV_yes {n p : Int} (h1 : factB n = true) (h2 : primeI p = true) : valV n p = (val n.natAbs p.toNat : Nat) := by unfold valV; rw [if_pos (by rw [h1, h2]; rfl)]
theorem valV_no {n p : Int} (h : factB n = false ∨ primeI p = false) : valV n p = -1 := by unfold valV; rw [if_neg (by rcases h with h | h <;> simp [h])]
theorem factB_cases (n : Int) : (-5000 ≤ n ∧ n ≤ 5000 ∧ n ≠ 0 ∧ okN n = true ∧ factB n = true) ∨ (n = 0 ∧ factB n = false) ∨ (n ≠ 0 ∧ okN n = false ∧ factB n = false) := by
  rcases okN_cases n with ⟨h1, h2, H⟩ | ⟨h1, H⟩ | ⟨h1, h2, H⟩
  · by_cases h0 : n = 0
    · exact .inr (.inl ⟨h0, factB_no (by omega)⟩)
    · exact .inl ⟨h1, h2, h0, H, factB_yes h1 h2 h0⟩
  · exact .inr (.inr ⟨by omega, H, factB_no (by omega)⟩)
  · exact .inr (.inr ⟨by omega, H, factB_no (by omega)⟩)




/-- what ResidueIs answers -/
def resV (n p : Int) : Int := if okN n && oddP p then resN (n % p).toNat p.toNat else -2
theorem resV_yes {n p : Int} (h1 : okN n = true) (h2 : oddP p = true) : resV n p = resN (n % p).toNat p.toNat := by unfold resV; rw [if_pos (by rw [h1, h2]; rfl)]
theorem resV_no {n p : Int} (h : okN n = false ∨ oddP p = false) : resV n p = -2 := by unfold resV; rw [if_neg (by rcases h with h | h <;> simp [h])]


end Go.Proofs.Ytdclmjmefkgbbab
