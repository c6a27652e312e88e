/-
  Some texts in one file: Pair Vec Fm3.
-/
import Derived.Test.YtdclmjmefkgbbabQBun9
import Derived.Test.YtdclmjmefkgbbabQFm2
/-! Pair -/
set_option linter.unusedVariables false
namespace Go.Proofs.Ytdclmjmefkgbbab
open Go.RowKit

/-- what a form pairs two vectors to -/
def pairI (xs vs ws : List Int) : Nat → Int
  | 0 => 0
  | i + 1 => pairI xs vs ws i + xs.getD i 0 * vs.getD i 0 * ws.getD i 0
theorem pair_comm (xs vs ws : List Int) : ∀ i, pairI xs vs ws i = pairI xs ws vs i
  | 0 => rfl
  | i + 1 => by unfold pairI; rw [pair_comm xs vs ws i, Int.mul_right_comm]
theorem pair_self (xs vs : List Int) : ∀ i, pairI xs vs vs i = valI xs vs i
  | 0 => rfl
  | i + 1 => by unfold pairI valI; rw [pair_self xs vs i]
theorem term_bd7 {x v u : Int} (h1 : -30 ≤ x) (h2 : x ≤ 30) (h3 : -1000000 ≤ v) (h4 : v ≤ 1000000) (h5 : -1000000 ≤ u) (h6 : u ≤ 1000000) : -30000000 ≤ x * v ∧ x * v ≤ 30000000 ∧ -30000000000000 ≤ x * v * u ∧ x * v * u ≤ 30000000000000 := by
  have e1 : (x * v).natAbs ≤ 30 * 1000000 := by rw [Int.natAbs_mul]; exact Nat.mul_le_mul (by omega) (by omega)
  have e2 : (x * v * u).natAbs ≤ 30 * 1000000 * 1000000 := by rw [Int.natAbs_mul]; exact Nat.mul_le_mul e1 (by omega)
  omega
def Vec6 (vs : List Int) : Prop := ∀ v ∈ vs, -1000000 ≤ v ∧ v ≤ 1000000
def Vec11 (vs : List Int) : Prop := ∀ v ∈ vs, -100000000000 ≤ v ∧ v ≤ 100000000000
theorem vec11 {vs : List Int} (h : Vec6 vs) : Vec11 vs := fun v hv => by have := h v hv; omega
theorem pair_bd {xs vs ws : List Int} (h : fvB xs = true) (hv : Vec6 vs) (hw : Vec6 ws) (hl : vs.length = xs.length) (hl2 : ws.length = xs.length) : ∀ i, i ≤ xs.length → -30000000000000 * (i : Int) ≤ pairI xs vs ws i ∧ pairI xs vs ws i ≤ 30000000000000 * (i : Int)
  | 0, _ => by simp [pairI]
  | i + 1, hi => by
    have ih := pair_bd h hv hw hl hl2 i (by omega)
    have ht := fv_at h (show i < xs.length by omega)
    have hvv := hv (vs.getD i 0) (by rw [getD_at _ _ (by omega)]; exact List.getElem_mem _)
    have hww := hw (ws.getD i 0) (by rw [getD_at _ _ (by omega)]; exact List.getElem_mem _)
    have hb := term_bd7 ht.2.1 ht.2.2 hvv.1 hvv.2 hww.1 hww.2
    unfold pairI
    push_cast
    omega
/-- are all integers within a limit? -/
def inAll (xs : List Int) (m : Int) : Bool := xs.all (fun x => inR x (-m) m)
theorem vecB_in (xs vs : List Int) (m : Int) : vecB xs vs m = (inAll vs m && (fvB xs && (vs.length == xs.length))) := rfl

end Go.Proofs.Ytdclmjmefkgbbab

/-! Vec -/
set_option linter.unusedVariables false
namespace Go.Proofs.Ytdclmjmefkgbbab
open Go.RowKit

set_option maxRecDepth 100000 in
set_option maxHeartbeats 1000000 in
theorem vectorWithin_any (v : Value) (xs : List Int) (count m : Int) (hm1 : 0 ≤ m) (hm2 : m ≤ 1000000) (w : World) (h : Rd w v xs) : Calls Try.prog 89 #[v, .int .i64 count, .int .i64 m] w fun e w' => e = .returned (.bool (inAll xs m && decide ((xs.length : Int) = count))) ∧ w = w' := by
  obtain ⟨a, cap, rfl, hform⟩ := h.form
  have HFM := hid hform
  have hmx : xs.length ≤ maxLen := by
    rcases Nat.eq_zero_or_pos xs.length with e | e
    · rw [e]; exact Nat.zero_le _
    · obtain ⟨_, _, _, hm, _⟩ := hform e; exact hm
  unfold maxLen at hmx
  clear hform h
  go_enter Try.func89, Try.ntmps89
  go_wp2_with fail
  go_loop [11] (fun si => ∃ K : Nat, si = .int .i64 K ∧ K ≤ xs.length ∧ Hid (∀ i, i < K → inR (xs.getD i 0) (-m) m = true)) (fun si => xs.length - (intOf si).toNat)
  case atStart => exact ⟨0, rfl, by omega, hid (fun i hi => by omega)⟩
  case round =>
    obtain ⟨K, rfl, hK, HE⟩ := hrel
    by_cases hlt : K < xs.length
    · obtain ⟨b, o, rfl, hml, hc⟩ := HFM.out (by omega)
      have hcell := hc K hlt
      obtain ⟨x, hx⟩ : ∃ x, x = xs.getD K 0 := ⟨_, rfl⟩
      rw [← hx] at hcell
      have HXE := hid hx
      have HLT := hid hlt
      have hKi : (K : Int) < (xs.length : Int) := by omega
      have HNO : Hid (inR x (-m) m = false → inAll xs m = false) := hid (fun e => by
        unfold inAll
        rw [List.all_eq_false]
        exact ⟨x, by rw [hx, getD_at _ _ hlt]; exact List.getElem_mem _, by rw [e]; decide⟩)
      have HIR : Hid (inR x (-m) m = true ↔ -m ≤ x ∧ x ≤ m) := hid (by unfold inR; rw [Bool.and_eq_true, decide_eq_true_eq, decide_eq_true_eq])
      clear hx hc hml hlt
      by_cases x1 : x < -m
      · have HR := hid (HNO.out (by
          cases e : inR x (-m) m with
          | false => rfl
          | true => have := HIR.out.1 e; omega))
        go_wp2_with fail
        go_ret
        exact ⟨retB (by rw [HR.out]; rfl), rfl⟩
      · by_cases x2 : x > m
        · have HR := hid (HNO.out (by
            cases e : inR x (-m) m with
            | false => rfl
            | true => have := HIR.out.1 e; omega))
          go_wp2_with fail
          go_ret
          exact ⟨retB (by rw [HR.out]; rfl), rfl⟩
        · have HIN : Hid (inR x (-m) m = true) := hid (HIR.out.2 ⟨by omega, by omega⟩)
          go_wp2_with fail
          go_round
          case measure => simp only [intOf]; have := HLT.out; omega
          case rel => exact ⟨K + 1, by go_num, by have := HLT.out; omega, hid (fun i hi => by
            by_cases e : i = K
            · rw [e, ← HXE.out]; exact HIN.out
            · exact HE.out i (by omega))⟩
    · obtain rfl : K = xs.length := by omega
      have HR : Hid (inAll xs m = true) := hid (List.all_eq_true.2 fun x hx => by
          obtain ⟨i, hi, rfl⟩ := List.getElem_of_mem hx
          have := HE.out i hi
          rwa [getD_at _ _ hi] at this)
      clear hlt
      by_cases hc : (xs.length : Int) = count
      · have T : ((xs.length : Int) == count) = true := by rw [beq_iff_eq]; exact hc
        have HD := hid (decide_eq_true hc)
        clear hc
        go_wp2_with fail
        go_ret
        exact ⟨retB (by rw [HR.out, HD.out]; rfl), rfl⟩
      · have T : ((xs.length : Int) == count) = false := by rw [beq_eq_false_iff_ne]; exact hc
        have HD := hid (decide_eq_false hc)
        clear hc
        go_wp2_with fail
        go_ret
        exact ⟨retB (by rw [HR.out, HD.out]; rfl), rfl⟩


end Go.Proofs.Ytdclmjmefkgbbab

/-! Fm3 -/
set_option linter.unusedVariables false
namespace Go.Proofs.Ytdclmjmefkgbbab
open Go.RowKit

theorem Rd.drewN {w : World} {v : Value} {xs : List Int} (h : Rd w v xs) (k : Nat) : Rd (w.drewN k) v xs := h
theorem Rd.keep {w w' : World} {v : Value} {xs : List Int} (h : Rd w v xs) (hb : Below w.heap.size w w') : Rd w' v xs := by
  rcases h with h | ⟨b, o, cap, hv, h0, hm, hc⟩
  · exact .inl h
  · refine .inr ⟨b, o, cap, hv, h0, hm, fun i hi => ?_⟩
    have hci := hc i hi
    obtain ⟨ob, ho, _⟩ := cells_of_cell hci
    have hlt : b < w.heap.size := (Array.getElem?_eq_some_iff.1 ho).1
    rw [hb.cell (p := ⟨b, o + i, none⟩) hlt]
    exact hci
theorem neg_bd {n : Int} (h : -810000 ≤ n ∧ n ≤ 810000) : -810000 ≤ -n ∧ -n ≤ 810000 := by omega





end Go.Proofs.Ytdclmjmefkgbbab
