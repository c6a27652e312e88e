/-
  Some texts in one file: Fm6 ImpA.
-/
import Derived.Test.YtbhlgdleklfonabFm5
import Derived.Test.YtbhlgdleklfonabBun8
import Derived.Test.YtbhlgdleklfonabRes2
import Derived.Laws.StructEq
import Derived.Laws.ResultCell
/-! Fm6 -/
set_option linter.unusedVariables false
namespace Go.Proofs.Ytbhlgdleklfonab
open Go.RowKit

/-- a slice with an address, or nil -/
def Firm (v : Value) : Prop := v = .slice none 0 0 ∨ ∃ ad n c, v = .slice (some ad) n c
theorem Owns.firm {W : World} {B : Nat} {v : Value} {xs : List Int} (h : Owns W B v xs) : Firm v := by
  rcases h.2 with ⟨rfl, _⟩ | ⟨g, cap, cur, rfl, _⟩
  · exact .inl rfl
  · exact .inr ⟨_, _, _, rfl⟩
theorem grownBy_refl (w : World) (r : Option Nat) : w.grownBy w r := ⟨rfl, rfl, rfl, Nat.le_refl _, fun _ _ _ => rfl⟩
/-- append(s, xs...) where s is the call's own and xs is any slice that reads as numbers -/
theorem append_rd {w : World} {ops : Array Oper} {rest : List Oper} {o : Oper} {a : Act} {Q : Exit → Act → World → Prop} (hgd : o.guard = none) (s x : Operand)
    (ho : o.op = .call { callee := .builtin .append, args := #[s, x], argTypes := #[22, 22] })
    (base : Nat) (v : Value) (xs : List Int) (hs : a.eval s = v) (hown : Owns w base v xs) (u : Value) (ys : List Int) (hx : a.eval x = u) (hrd : Rd w u ys) (hf : Firm u)
    (h63 : xs.length + ys.length ≤ 10000000) (hbase : base ≤ w.heap.size)
    (h : ∀ v' w', Owns w' base v' (xs ++ ys) → w.grownBy w' v.ownBlock → wpList Try.prog ops Q rest (a.put o.dst v') w') :
    wpList Try.prog ops Q (o :: rest) a w := by
  obtain ⟨i0, hi, hz0, hz1, hz2⟩ := info_parts infoInt
  rcases hf with rfl | ⟨ad, n, c, rfl⟩
  · have hy : ys = [] := by
      rcases hrd with ⟨_, _, _, hy⟩ | ⟨_, _, _, e, _⟩
      · exact hy
      · cases e
    subst hy
    exact wpList_append_own_none hgd s x 22 ho base 3 i0 1 Try.underlying22 hi v _ _ hs hown hx (h v w (by rw [List.append_nil]; exact hown) (grownBy_refl w _))
  · have hn : n = ys.length := by
      rcases hrd with ⟨_, _, e, hy⟩ | ⟨_, _, _, e, _⟩
      · cases e; rw [hy]; rfl
      · cases e; rfl
    have hnews : ∀ j z, (ys.map (Value.int .i64))[j]? = some z → w.cell? (ad.add j) = some z := fun j z hz => by
      rcases hrd with ⟨_, _, _, hy⟩ | ⟨b, off, cap, e, _, _, hc⟩
      · rw [hy] at hz; simp at hz
      · cases e
        rw [List.getElem?_map] at hz
        by_cases hj : j < ys.length
        · rw [List.getElem?_eq_getElem hj] at hz
          simp only [Option.map_some, Option.some.injEq] at hz
          rw [← hz, show (⟨b, off, none⟩ : Addr).add j = ⟨b, off + j, none⟩ by
            by_cases e : j = 0
            · subst e; simp [Addr.add]
            · simp [Addr.add, e], hc j hj, getD_at _ _ hj]
        · rw [List.getElem?_eq_none (by omega)] at hz; cases hz
    refine wpList_append_own_at w hgd s x 22 ho base 3 i0 (.int .i64 0) 1 8 Try.underlying22 hi hz0 hz1 hz2 rfl (by decide) v _ _ hs hown ad n c (ys.map (Value.int .i64)) hx (by rw [List.length_map, hn, Nat.mul_one]) hnews
      (fun z hz => by rw [List.mem_map] at hz; obtain ⟨y, _, rfl⟩ := hz; rfl) (by unfold maxLen; omega) (by omega) hbase ?_
    intro v' w' hown' hgrow _ _
    refine h v' w' ?_ hgrow
    unfold Owns
    rw [List.length_append, List.map_append, ← hn]
    exact hown'


end Go.Proofs.Ytbhlgdleklfonab

/-! ImpA -/
set_option linter.unusedVariables false
namespace Go.Proofs.Ytbhlgdleklfonab
open Go.RowKit

set_option maxHeartbeats 400000 in
theorem valuation2_any (n p : Int) (h0 : n ≠ 0) (h1 : -1000000000 ≤ n) (h2 : n ≤ 1000000000) (hp : 2 ≤ p) (hp2 : p ≤ 1000000) (w : World) :
    Calls Try.prog 88 #[.int .i64 n, .int .i64 p] w fun e w' => e = .returned (.int .i64 (val n.natAbs p.toNat)) ∧ w = w' := by
  go_enter Try.func88, Try.ntmps88
  go_wp2
  go_loop [5, 6] (fun k l => ∃ (K : Nat) (L : Int), k = .int .i64 K ∧ l = .int .i64 L ∧ L ≠ 0 ∧ -1000000000 ≤ L ∧ L ≤ 1000000000 ∧ K + L.natAbs ≤ n.natAbs ∧ Hid (val L.natAbs p.toNat + K = val n.natAbs p.toNat)) (fun _ l => (intOf l).natAbs)
  case atStart => exact ⟨0, n, rfl, rfl, h0, h1, h2, by omega, hid (by simp)⟩
  case round =>
    obtain ⟨K, L, rfl, rfl, hl0, hl1, hl2, hK, HV⟩ := hrel
    have T := tmod_eqz (L := L) hp
    by_cases hd : L.natAbs % p.toNat = 0
    · rw [decide_eq_true hd] at T
      have hs := hid (val_step (n := L.natAbs) (p := p.toNat) (by omega) (by omega) hd)
      have hA : L.natAbs / p.toNat < L.natAbs := Nat.div_lt_self (by omega) (by omega)
      have hB : 0 < L.natAbs / p.toNat := Nat.div_pos (Nat.le_of_dvd (by omega) (Nat.dvd_of_mod_eq_zero hd)) (by omega)
      have hq : (L.tdiv p).natAbs = L.natAbs / p.toNat := by rw [tdiv_natAbs, show p.natAbs = p.toNat by omega]
      have hq1 : (L.tdiv p).natAbs < L.natAbs := by omega
      have hq2 : L.tdiv p ≠ 0 := by omega
      have hq3 : -1000000000 ≤ L.tdiv p := by omega
      have hq4 : L.tdiv p ≤ 1000000000 := by omega
      have HQ := hid hq
      clear hq hd hA hB
      go_wp2
      go_round
      case rel => exact ⟨K + 1, L.tdiv p, by go_num, rfl, hq2, hq3, hq4, by omega, hid (by rw [HQ.out]; have := hs.out; have := HV.out; omega)⟩
      case measure => simp only [intOf]; omega
    · rw [decide_eq_false hd] at T
      have hs := hid (val_stop hd)
      clear hd
      go_wp2
      go_ret
      exact ⟨retI (by have := hs.out; have := HV.out; omega), rfl⟩

theorem tdiv_tdiv_nat (n : Int) (a b : Nat) : (n.tdiv (a : Int)).tdiv (b : Int) = n.tdiv ((a * b : Nat) : Int) := by
  rcases Int.natAbs_eq n with h | h
  · rw [h, ← Int.ofNat_tdiv, ← Int.ofNat_tdiv, ← Int.ofNat_tdiv, Nat.div_div_eq_div_mul]
  · rw [h, Int.neg_tdiv, Int.neg_tdiv, Int.neg_tdiv, ← Int.ofNat_tdiv, ← Int.ofNat_tdiv, ← Int.ofNat_tdiv, Nat.div_div_eq_div_mul]
theorem tdiv_step (n : Int) {p : Int} (hp : 2 ≤ p) (i : Nat) : (n.tdiv (p ^ i)).tdiv p = n.tdiv (p ^ (i + 1)) := by
  obtain ⟨P, rfl⟩ := Int.eq_ofNat_of_zero_le (show 0 ≤ p by omega)
  have e : ∀ k, ((P : Int) ^ k) = ((P ^ k : Nat) : Int) := fun k => by push_cast; rfl
  rw [e, e, tdiv_tdiv_nat, Nat.pow_succ]

theorem odd_beq (V : Nat) : ((V : Int) % 2 == 1) = (V % 2 == 1) := by
  rw [Bool.eq_iff_iff, beq_iff_eq, beq_iff_eq]; omega
def clsT (c : Nat × Int) : Value := .agg #[.bool (c.1 == 1), .int .i64 c.2]

end Go.Proofs.Ytbhlgdleklfonab
