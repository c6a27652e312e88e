/-
  Some texts in one file: Fm6 RowWord Mk2 Jac2.
-/
import Derived.Test.YtdclmjmefkgbbaaQFm5
import Derived.Below
import Derived.Test.YtdclmjmefkgbbaaQBun3
import Derived.Test.YtdclmjmefkgbbaaQBun8
import Derived.Test.YtdclmjmefkgbbaaQBun9
import Derived.BigQuiet
import Derived.Maps.AppendAt
import Derived.RangeFuncBox
import Derived.Deep.OwnRows
import Derived.Test.YtdclmjmefkgbbaaQBun5
/-! Fm6 -/
set_option linter.unusedVariables false
namespace Go.Proofs.Ytdclmjmefkgbbaa
open Go.RowKit

/-- a slice with an address, or nil -/
def Firm (v : Value) : Prop := v = .slice none 0 0 ∨ ∃ ad n c, v = .slice (some ad) n c
theorem Owns.firm {W : World} {B : Nat} {v : Value} {xs : List Int} (h : Owns W B v xs) : Firm v := by
  rcases h.2 with ⟨rfl, _⟩ | ⟨g, cap, cur, rfl, _⟩
  · exact .inl rfl
  · exact .inr ⟨_, _, _, rfl⟩
theorem grownBy_refl (w : World) (r : Option Nat) : w.grownBy w r := ⟨rfl, rfl, rfl, Nat.le_refl _, fun _ _ _ => rfl⟩
/-- append(s, xs...) where s is the call's own and xs is any slice that reads as numbers -/
theorem append_rd {w : World} {ops : Array Oper} {rest : List Oper} {o : Oper} {a : Act} {Q : Exit → Act → World → Prop} (hgd : o.guard = none) (s x : Operand)
    (ho : o.op = .call { callee := .builtin .append, args := #[s, x], argTypes := #[26, 26] })
    (base : Nat) (v : Value) (xs : List Int) (hs : a.eval s = v) (hown : Owns w base v xs) (u : Value) (ys : List Int) (hx : a.eval x = u) (hrd : Rd w u ys) (hf : Firm u)
    (h63 : xs.length + ys.length ≤ 10000000) (hbase : base ≤ w.heap.size)
    (h : ∀ v' w', Owns w' base v' (xs ++ ys) → w.grownBy w' v.ownBlock → wpList Try.prog ops Q rest (a.put o.dst v') w') :
    wpList Try.prog ops Q (o :: rest) a w := by
  obtain ⟨i0, hi, hz0, hz1, hz2⟩ := info_parts infoInt
  rcases hf with rfl | ⟨ad, n, c, rfl⟩
  · have hy : ys = [] := by
      rcases hrd with ⟨_, _, _, hy⟩ | ⟨_, _, _, e, _⟩
      · exact hy
      · cases e
    subst hy
    exact wpList_append_own_none hgd s x 26 ho base 3 i0 1 Try.underlying26 hi v _ _ hs hown hx (h v w (by rw [List.append_nil]; exact hown) (grownBy_refl w _))
  · have hn : n = ys.length := by
      rcases hrd with ⟨_, _, e, hy⟩ | ⟨_, _, _, e, _⟩
      · cases e; rw [hy]; rfl
      · cases e; rfl
    have hnews : ∀ j z, (ys.map (Value.int .i64))[j]? = some z → w.cell? (ad.add j) = some z := fun j z hz => by
      rcases hrd with ⟨_, _, _, hy⟩ | ⟨b, off, cap, e, _, _, hc⟩
      · rw [hy] at hz; simp at hz
      · cases e
        rw [List.getElem?_map] at hz
        by_cases hj : j < ys.length
        · rw [List.getElem?_eq_getElem hj] at hz
          simp only [Option.map_some, Option.some.injEq] at hz
          rw [← hz, show (⟨b, off, none⟩ : Addr).add j = ⟨b, off + j, none⟩ by
            by_cases e : j = 0
            · subst e; simp [Addr.add]
            · simp [Addr.add, e], hc j hj, getD_at _ _ hj]
        · rw [List.getElem?_eq_none (by omega)] at hz; cases hz
    refine wpList_append_own_at w hgd s x 26 ho base 3 i0 (.int .i64 0) 1 8 Try.underlying26 hi hz0 hz1 hz2 rfl (by decide) v _ _ hs hown ad n c (ys.map (Value.int .i64)) hx (by rw [List.length_map, hn, Nat.mul_one]) hnews
      (fun z hz => by rw [List.mem_map] at hz; obtain ⟨y, _, rfl⟩ := hz; rfl) (by unfold maxLen; omega) (by omega) hbase ?_
    intro v' w' hown' hgrow _ _
    refine h v' w' ?_ hgrow
    unfold Owns
    rw [List.length_append, List.map_append, ← hn]
    exact hown'


end Go.Proofs.Ytdclmjmefkgbbaa

/-! RowWord -/
namespace Go.Proofs.Ytdclmjmefkgbbaa
open Go.RowKit
/-- it is nil; or it leads to a row of 'cap' cells, the numbers 'zs' (the first 'len' are its elements), each fitting its kind -/
def IsRow (k : IntKind) (w : World) (a : Option Addr) (len cap : Nat) (zs : List Int) : Prop :=
  (a = none ∧ len = 0 ∧ cap = 0 ∧ zs = []) ∨
  ∃ x, a = some x ∧ len ≤ cap ∧ cap ≤ maxLen ∧ zs.length = cap ∧ (∀ i, i < zs.length → w.cell? (x.add i) = some (.int k (zs.getD i 0))) ∧ ∀ n ∈ zs, (Lit.int k n).wf = true
end Go.Proofs.Ytdclmjmefkgbbaa

/-! Mk2 -/
set_option linter.unusedVariables false
namespace Go.Proofs.Ytdclmjmefkgbbaa
open Go.RowKit

theorem all_eq_of {xs ys : List Int} (hl : xs.length = ys.length) (h : ∀ j, j < xs.length → xs.getD j 0 = ys.getD j 0) : xs = ys := by
  refine List.ext_getElem hl fun j h1 h2 => ?_
  have := h j h1
  simpa [List.getD, List.getElem?_eq_getElem h1, List.getElem?_eq_getElem h2] using this

theorem eqs_len {a b : Int} (h : a ≠ b) : (a != b) = true := by rw [bne_iff_ne]; exact h
theorem eqs_same {a b : Int} (h : a = b) : (a != b) = false := by rw [h]; simp

set_option maxHeartbeats 1000000 in
theorem eqIntS_any (v u : Value) (xs ys : List Int) (w : World) (hx : Rd w v xs) (hy : Rd w u ys) :
    Calls Try.prog 29 #[v, u] w fun e w' => e = .returned (.bool (decide (xs = ys))) ∧ ∃ k, w' = w.drewN k := by
  have form : ∀ {z : Value} {zs : List Int}, Rd w z zs → ∃ a cap, z = .slice a zs.length cap ∧ zs.length ≤ maxLen := by
    rintro z zs (⟨a, cap, rfl, rfl⟩ | ⟨b, o, cap, rfl, _, hm, _⟩)
    · exact ⟨a, cap, rfl, by simp⟩
    · exact ⟨_, _, rfl, hm⟩
  by_cases hl : xs.length = ys.length
  · rcases hx with ⟨a, cap, rfl, rfl⟩ | ⟨b, o, cap, rfl, hp, hm, hcx⟩
    · obtain ⟨a', cap', rfl, _⟩ := form hy
      have e : ys = [] := List.length_eq_zero_iff.1 hl.symm
      have HD : Hid (decide (([] : List Int) = ys) = true) := by show _ = _; rw [e]; rfl
      have HL : ys.length = 0 := hl.symm
      rw [HL]
      clear e hl HL hy
      go_enter Try.func29, Try.ntmps29
      go_wp2
      go_loop [5] (fun i => i = .int .i64 0) (fun _ => 0)
      case atStart => rfl
      case round =>
        obtain rfl := hrel
        go_wp2
        go_ret
        exact ⟨retB (by first | exact HD.out.symm | (rw [eq_comm]; exact HD.out.symm) | (have h := HD.out; simp at h; simp [← h])), 0, rfl⟩
    · rcases hy with ⟨a', cap', rfl, rfl⟩ | ⟨b', o', cap', rfl, _, _, hcy⟩
      · exact absurd hl (by simp; intro e; rw [e] at hp; simp at hp)
      · have T : ((xs.length : Int) != ys.length) = false := eqs_same (by omega)
        unfold maxLen at hm
        have HX := hid hcx
        have HY := hid hcy
        have HL := hid hl
        clear hcx hcy
        go_enter Try.func29, Try.ntmps29
        rw [← hl] at T ⊢
        clear hl
        go_wp2
        go_loopw [5] (fun i wr => ∃ K k : Nat, i = .int .i64 K ∧ K ≤ xs.length ∧ Hid (∀ j, j < K → xs.getD j 0 = ys.getD j 0) ∧ wr = w.drewN k) (fun i _ => xs.length - (intOf i).toNat)
        case atStart => exact ⟨0, 0, rfl, by omega, hid (by omega), rfl⟩
        case round =>
          obtain ⟨K, k, rfl, hK, HE, rfl⟩ := hrel
          by_cases hlt : K < xs.length
          · obtain ⟨x, hx⟩ : ∃ x, x = xs.getD K 0 := ⟨_, rfl⟩
            obtain ⟨y, hy⟩ : ∃ y, y = ys.getD K 0 := ⟨_, rfl⟩
            have c1 := HX.out K hlt
            have c2 := HY.out K (by have := HL.out; omega)
            rw [← hx] at c1
            rw [← hy] at c2
            have Hx := hid hx
            have Hy := hid hy
            clear hx hy
            have hi : (K : Int) < (xs.length : Int) := by omega
            by_cases hxy : x = y
            · have T2 : (x != y) = false := eqs_same hxy
              have HXY := hid hxy
              clear hxy
              go_wp2
              go_quiet (fail)
              go_wp2
              go_roundw
              case rel =>
                exact ⟨K + 1, _, by go_num, by omega, hid (by intro j hj; by_cases e : j = K; (· rw [e, ← Hx.out, ← Hy.out, HXY.out]); (· exact HE.out j (by omega))), by first | rfl | exact World.drewN_drewN ..⟩
              case measure => simp only [intOf]; omega
            · have T2 : (x != y) = true := eqs_len hxy
              have HXY := hid hxy
              clear hxy
              go_wp2
              go_quiet (fail)
              go_wp2
              go_ret
              refine ⟨retB (decide_eq_false fun e => HXY.out ?_).symm, _, by first | rfl | exact World.drewN_drewN ..⟩
              rw [Hx.out, Hy.out, e]
          · go_wp2
            go_ret
            refine ⟨retB (decide_eq_true (all_eq_of HL.out fun j hj => HE.out j (by omega))).symm, _, rfl⟩
  · obtain ⟨a, cap, rfl, m1⟩ := form hx
    obtain ⟨a', cap', rfl, m2⟩ := form hy
    have T : ((xs.length : Int) != ys.length) = true := eqs_len (by omega)
    have HD : Hid (decide (xs = ys) = false) := hid (decide_eq_false fun e => hl (by rw [e]))
    clear hl hx hy
    go_enter Try.func29, Try.ntmps29
    go_wp2
    go_ret
    exact ⟨retB HD.out.symm, 0, rfl⟩

/-- k, k + 1, .. -/
def marksL (k : Int) (n : Nat) : List Int := (List.range n).map (fun (i : Nat) => k + (i : Int))
theorem marksL_len (k : Int) (n : Nat) : (marksL k n).length = n := by simp [marksL]
theorem marksL_get (k : Int) (n i : Nat) (h : i < n) : (marksL k n).getD i 0 = k + i := by simp [marksL, List.getD, h]

set_option maxHeartbeats 1000000 in
theorem heldIntS_any (v : Value) (n : Nat) (k : Int) (hk : 0 ≤ k) (hk2 : k ≤ 1000000) (hn : n ≤ 1000000) (w : World) (hx : Rd w v (marksL k n)) :
    Calls Try.prog 31 #[v, .int .i64 k] w fun e w' => e = .returned (.int .i64 (k + n)) ∧ w = w' := by
  rcases hx with ⟨a, cap, rfl, h0⟩ | ⟨b, o, cap, rfl, hp, hm, hc⟩
  · obtain rfl : n = 0 := by have := marksL_len k n; rw [h0] at this; simpa using this.symm
    clear h0
    go_enter Try.func31, Try.ntmps31
    go_wp2
    go_loop [1, 5] (fun k' i => k' = .int .i64 k ∧ i = .int .i64 0) (fun _ _ => 0)
    case atStart => exact ⟨rfl, rfl⟩
    case round =>
      obtain ⟨rfl, rfl⟩ := hrel
      go_wp2
      go_ret
      exact ⟨retI (by simp), rfl⟩
  · rw [marksL_len] at *
    have HC := hid hc
    clear hc
    go_enter Try.func31, Try.ntmps31
    go_wp2
    go_loop [1, 5] (fun k' i => ∃ K : Nat, k' = .int .i64 (k + K) ∧ i = .int .i64 K ∧ K ≤ n) (fun _ i => n - (intOf i).toNat)
    case atStart => exact ⟨0, by simp, rfl, by omega⟩
    case round =>
      obtain ⟨K, rfl, rfl, hK⟩ := hrel
      by_cases hlt : K < n
      · have c1 := HC.out K (by omega)
        rw [marksL_get k n K hlt] at c1
        have T : ((k + (K : Int)) != k + K) = false := by simp
        have hi : (K : Int) < (n : Int) := by omega
        go_wp2
        go_round
        case rel => exact ⟨K + 1, vI (by push_cast; omega), by go_num, by omega⟩
        case measure => simp only [intOf]; omega
      · obtain rfl : K = n := by omega
        go_wp2
        go_ret
        exact ⟨rfl, rfl⟩

/-- the first i numbers are marked -/
def halfL (k : Int) (i : Nat) (xs : List Int) : List Int := marksL k i ++ xs.drop i
theorem halfL_len (k : Int) (i : Nat) (xs : List Int) (h : i ≤ xs.length) : (halfL k i xs).length = xs.length := by simp [halfL, marksL_len]; omega
theorem halfL_step (k : Int) (i : Nat) (xs : List Int) (h : i < xs.length) : (halfL k i xs).set i (k + i) = halfL k (i + 1) xs := by
  unfold halfL
  rw [List.set_append_right _ _ (by simp [marksL_len]), marksL_len, Nat.sub_self, List.drop_eq_getElem_cons h, List.set_cons_zero]
  simp [marksL, List.range_succ]
theorem halfL_end (k : Int) (xs : List Int) : halfL k xs.length xs = marksL k xs.length := by simp [halfL]

set_option maxHeartbeats 1000000 in
theorem markIntS_any (v : Value) (xs : List Int) (B : Nat) (k : Int) (hk : 0 ≤ k) (hk2 : k ≤ 1000000) (hn : xs.length ≤ 1000000) (w : World) (hx : Owns w B v xs) :
    Calls Try.prog 30 #[v, .int .i64 k] w fun e w' => e = .returned (.int .i64 (k + xs.length)) ∧ Owns w' B v (marksL k xs.length) ∧ Below B w w' := by
  by_cases h0 : xs.length = 0
  · have hx0 : xs = [] := List.length_eq_zero_iff.1 h0
    subst hx0
    have hf : ∃ a cap, v = .slice a 0 cap := by
      rcases hx.2 with ⟨rfl, _⟩ | ⟨g, cap, _, rfl, _⟩
      · exact ⟨_, _, rfl⟩
      · exact ⟨_, _, rfl⟩
    obtain ⟨a, cap, rfl⟩ := hf
    have HX := hid hx
    clear hx h0
    go_enter Try.func30, Try.ntmps30
    go_wp2
    go_loop [1, 5] (fun k' i => k' = .int .i64 k ∧ i = .int .i64 0) (fun _ _ => 0)
    case atStart => exact ⟨rfl, rfl⟩
    case round =>
      obtain ⟨rfl, rfl⟩ := hrel
      go_wp2
      go_ret
      exact ⟨retI (by simp), HX.out, Below.refl _ _⟩
  · have hf : ∃ g cap, v = .slice (some ⟨g, 0, none⟩) xs.length cap ∧ B ≤ g := by
      rcases hx.2 with ⟨_, h⟩ | ⟨g, cap, _, rfl, hg, _⟩
      · omega
      · exact ⟨g, cap, rfl, hg⟩
    obtain ⟨g, cap, rfl, hg⟩ := hf
    obtain ⟨n, hnx⟩ : ∃ n, n = xs.length := ⟨_, rfl⟩
    have HN := hid hnx
    rw [← hnx] at h0 hn ⊢
    have HX : Hid (Owns w B (.slice (some ⟨g, 0, none⟩) n cap) xs) := by rw [hnx]; exact hx
    clear hx hnx
    go_enter Try.func30, Try.ntmps30
    go_wp2
    go_loopw [1, 5] (fun k' i wr => ∃ K : Nat, k' = .int .i64 (k + K) ∧ i = .int .i64 K ∧ K ≤ n ∧ Hid (wr.ownsRow B 3 1 (.slice (some ⟨g, 0, none⟩) n cap) n ((halfL k K xs).map (Value.int .i64))) ∧ Below B w wr) (fun _ i _ => n - (intOf i).toNat)
    case atStart =>
      refine ⟨0, by simp, rfl, by omega, hid ?_, Below.refl _ _⟩
      have := HX.out
      unfold Owns at this
      rw [← HN.out] at this
      simpa [halfL, marksL] using this
    case round =>
      obtain ⟨K, rfl, rfl, hK, HO, hB⟩ := hrel
      by_cases hlt : K < n
      · have hl := halfL_len k K xs (by have := HN.out; omega)
        have c1 : wr.cell? ⟨g, K, none⟩ = some (.int .i64 ((halfL k K xs).getD K 0)) := by
          have hK2 : K < (halfL k K xs).length := by rw [hl, ← HN.out]; exact hlt
          rw [World.ownsRow.cellAt HO.out K (by omega), List.getElem?_map, List.getElem?_eq_getElem hK2]
          simp [List.getD, List.getElem?_eq_getElem hK2]
        obtain ⟨z, hz⟩ : ∃ z, z = (halfL k K xs).getD K 0 := ⟨_, rfl⟩
        rw [← hz] at c1
        have f1 := World.ownsRow.frozenAt HO.out K
        have hi : (K : Int) < (n : Int) := by omega
        have HS := hid (World.ownsRow.stored HO.out K (.int .i64 (k + K)))
        have HT := hid (halfL_step k K xs (by have := HN.out; omega))
        clear hz hl
        go_wp2
        go_roundw
        case rel =>
          refine ⟨K + 1, vI (by push_cast; omega), by go_num, by omega, hid ?_, hB.setCell (p := ⟨g, K, none⟩) hg _⟩
          have := HS.out.1
          rw [← HT.out, List.map_set]
          exact this
        case measure => simp only [intOf]; omega
      · obtain rfl : K = n := by omega
        go_wp2
        go_ret
        refine ⟨rfl, ?_, hB⟩
        have := HO.out
        unfold Owns
        rw [marksL_len]
        have e : halfL k K xs = marksL k K := by
          have h := halfL_end k xs
          rw [← HN.out] at h
          exact h
        rw [e] at this
        exact this

theorem grownBy_rf (w : World) (r : Option Nat) : w.grownBy w r := ⟨rfl, rfl, rfl, Nat.le_refl _, fun _ _ _ => rfl⟩
theorem grownBy_set (W : World) (b o : Nat) (v : Value) : W.grownBy (W.setCell ⟨b, o, none⟩ v) (some b) :=
  ⟨rfl, rfl, rfl, (KeepsWalks.setCell W _ v).size, fun k _ hk => Below.heap_setCell _ _ _ k (fun e => hk (by rw [e]))⟩
theorem Owns.kept {W W' : World} {B : Nat} {v : Value} {xs : List Int} {r : Option Nat} (h : Owns W B v xs) (hg : W.grownBy W' r) (hne : v.ownBlock = none ∨ v.ownBlock ≠ r) : Owns W' B v xs := World.ownsRow.kept h hg hne
/-- the elder of two lists of the call's own, and the younger one, lie apart -/
theorem elder_apart {x y : Value} {W : World} {C : Nat} {ys : List Int} (hlt : ∀ g, x.ownBlock = some g → g < C) (hy : Owns W C y ys) : y.ownBlock = none ∨ y.ownBlock ≠ x.ownBlock := by
  cases hb : y.ownBlock with
  | none => exact .inl rfl
  | some b =>
    right
    intro e
    have h1 := hlt b e.symm
    have h2 := hy.ge b hb
    omega
theorem younger_apart {x y : Value} {W : World} {C : Nat} {xs : List Int} (hlt : ∀ g, y.ownBlock = some g → g < C) (hx : Owns W C x xs) : y.ownBlock = none ∨ y.ownBlock ≠ x.ownBlock := by
  cases hb : y.ownBlock with
  | none => exact .inl rfl
  | some b =>
    right
    intro e
    have h1 := hlt b hb
    have h2 := hx.ge b e.symm
    omega

set_option maxHeartbeats 1000000 in
theorem markIntS2_any (v : Value) (xs : List Int) (B : Nat) (k : Int) (hk : 0 ≤ k) (hk2 : k ≤ 3000000) (hn : xs.length ≤ 3000000) (w : World) (hx : Owns w B v xs) :
    Calls Try.prog 30 #[v, .int .i64 k] w fun e w' => e = .returned (.int .i64 (k + xs.length)) ∧ Owns w' B v (marksL k xs.length) ∧ Below B w w' ∧ w.grownBy w' v.ownBlock := by
  by_cases h0 : xs.length = 0
  · have hx0 : xs = [] := List.length_eq_zero_iff.1 h0
    subst hx0
    have hf : ∃ a cap, v = .slice a 0 cap := by
      rcases hx.2 with ⟨rfl, _⟩ | ⟨g, cap, _, rfl, _⟩
      · exact ⟨_, _, rfl⟩
      · exact ⟨_, _, rfl⟩
    obtain ⟨a, cap, rfl⟩ := hf
    have HX := hid hx
    clear hx h0
    go_enter Try.func30, Try.ntmps30
    go_wp2
    go_loop [1, 5] (fun k' i => k' = .int .i64 k ∧ i = .int .i64 0) (fun _ _ => 0)
    case atStart => exact ⟨rfl, rfl⟩
    case round =>
      obtain ⟨rfl, rfl⟩ := hrel
      go_wp2
      go_ret
      exact ⟨retI (by simp), HX.out, Below.refl _ _, grownBy_rf _ _⟩
  · have hf : ∃ g cap, v = .slice (some ⟨g, 0, none⟩) xs.length cap ∧ B ≤ g := by
      rcases hx.2 with ⟨_, h⟩ | ⟨g, cap, _, rfl, hg, _⟩
      · omega
      · exact ⟨g, cap, rfl, hg⟩
    obtain ⟨g, cap, rfl, hg⟩ := hf
    obtain ⟨n, hnx⟩ : ∃ n, n = xs.length := ⟨_, rfl⟩
    have HN := hid hnx
    rw [← hnx] at h0 hn ⊢
    have HX : Hid (Owns w B (.slice (some ⟨g, 0, none⟩) n cap) xs) := by rw [hnx]; exact hx
    clear hx hnx
    go_enter Try.func30, Try.ntmps30
    go_wp2
    go_loopw [1, 5] (fun k' i wr => ∃ K : Nat, k' = .int .i64 (k + K) ∧ i = .int .i64 K ∧ K ≤ n ∧ Hid (wr.ownsRow B 3 1 (.slice (some ⟨g, 0, none⟩) n cap) n ((halfL k K xs).map (Value.int .i64))) ∧ Below B w wr ∧ Hid (w.grownBy wr (some g))) (fun _ i _ => n - (intOf i).toNat)
    case atStart =>
      refine ⟨0, by simp, rfl, by omega, hid ?_, Below.refl _ _, hid (grownBy_rf _ _)⟩
      have := HX.out
      unfold Owns at this
      rw [← HN.out] at this
      simpa [halfL, marksL] using this
    case round =>
      obtain ⟨K, rfl, rfl, hK, HO, hB, HG⟩ := hrel
      by_cases hlt : K < n
      · have hl := halfL_len k K xs (by have := HN.out; omega)
        have c1 : wr.cell? ⟨g, K, none⟩ = some (.int .i64 ((halfL k K xs).getD K 0)) := by
          have hK2 : K < (halfL k K xs).length := by rw [hl, ← HN.out]; exact hlt
          rw [World.ownsRow.cellAt HO.out K (by omega), List.getElem?_map, List.getElem?_eq_getElem hK2]
          simp [List.getD, List.getElem?_eq_getElem hK2]
        obtain ⟨z, hz⟩ : ∃ z, z = (halfL k K xs).getD K 0 := ⟨_, rfl⟩
        rw [← hz] at c1
        have f1 := World.ownsRow.frozenAt HO.out K
        have hi : (K : Int) < (n : Int) := by omega
        have HS := hid (World.ownsRow.stored HO.out K (.int .i64 (k + K)))
        have HT := hid (halfL_step k K xs (by have := HN.out; omega))
        clear hz hl
        go_wp2
        go_roundw
        case rel =>
          refine ⟨K + 1, vI (by push_cast; omega), by go_num, by omega, hid ?_, hB.setCell (p := ⟨g, K, none⟩) hg _, hid (HG.out.trans (grownBy_set _ g K _))⟩
          have := HS.out.1
          rw [← HT.out, List.map_set]
          exact this
        case measure => simp only [intOf]; omega
      · obtain rfl : K = n := by omega
        go_wp2
        go_ret
        refine ⟨rfl, ?_, hB, HG.out⟩
        have := HO.out
        unfold Owns
        rw [marksL_len]
        have e : halfL k K xs = marksL k K := by
          have h := halfL_end k xs
          rw [← HN.out] at h
          exact h
        rw [e] at this
        exact this

theorem Rd.keep2 {w w' : World} {v : Value} {xs : List Int} (h : Rd w v xs) (hb : Below w.heap.size w w') : Rd w' v xs := by
  rcases h with h | ⟨b, o, cap, hv, h0, hm, hc⟩
  · exact .inl h
  · refine .inr ⟨b, o, cap, hv, h0, hm, fun i hi => ?_⟩
    have hci := hc i hi
    obtain ⟨ob, ho, _⟩ := cells_of_cell hci
    have hlt : b < w.heap.size := (Array.getElem?_eq_some_iff.1 ho).1
    rw [hb.cell (p := ⟨b, o + i, none⟩) hlt]
    exact hci
theorem rowIs_owns {w : World} {b n B : Nat} {f : Nat → Value} {xs : List Int} (h : w.rowIs b 3 n f) (hn : n = xs.length) (hf : ∀ i, i < n → f i = .int .i64 (xs.getD i 0)) (hB : B ≤ b) (hm : n ≤ maxLen) : Owns w B (.slice (some ⟨b, 0, none⟩) n n) xs := by
  subst hn
  obtain ⟨c, hb, hs, hc⟩ := h
  refine ⟨by simp, .inr ⟨b, xs.length, c, rfl, hB, hb, Nat.le_refl _, hm, by rw [hs, Nat.mul_one], ?_⟩⟩
  rw [Nat.mul_one, List.take_of_length_le (by rw [Array.length_toList, hs]; exact Nat.le_refl _)]
  refine List.ext_getElem? fun i => ?_
  rw [Array.getElem?_toList]
  by_cases hi : i < xs.length
  · rw [hc i hi, hf i hi, List.getElem?_map, List.getElem?_eq_getElem hi, getD_at _ _ hi]; rfl
  · rw [List.getElem?_eq_none (by rw [List.length_map]; omega), Array.getElem?_eq_none (by omega)]

set_option maxRecDepth 100000 in
set_option maxHeartbeats 1000000 in
theorem toIntS_any (v : Value) (xs : List Int) (w : World) (h : Rd w v xs) (hl : xs.length ≤ 1048576) :
    Calls Try.prog 39 #[v] w fun e w' => ∃ u, e = .returned u ∧ Owns w' w.heap.size u xs ∧ Below w.heap.size w w' ∧ (∃ ad n c, u = .slice (some ad) n c) := by
  obtain ⟨i0, hi, hz0, hz1, hz2⟩ := info_parts infoInt
  have HH := hid h
  obtain ⟨a, cap, rfl, _⟩ := h.form
  obtain ⟨m, hm⟩ : ∃ m, m = xs.length := ⟨_, rfl⟩
  have HM := hid hm
  rw [← hm] at hl HH ⊢
  have HB0 := hid ((Below.refl w.heap.size w).alloc (Nat.le_refl _) (.cells (madeCells #[.int .i64 0] m) 3))
  have HR0 := hid (World.rowIs_made w (.int .i64 0) m 3)
  clear h hm
  go_enter Try.func39, Try.ntmps39
  go_wp2_with (at_make; refine wpList_make_row _ rfl _ _ 26 rfl 3 i0 (.int .i64 0) Try.underlying26 hi hz0 hz1 rfl .i64 .i64 m rfl rfl (by rw [hz2]; omega) (by omega) ?_)
  go_loopw [4] (fun si wr => ∃ K : Nat, si = .int .i64 K ∧ K ≤ m ∧ Hid (wr.rowIs w.heap.size 3 m (fun j => if j < K then .int .i64 (xs.getD j 0) else .int .i64 0)) ∧ Hid (Below w.heap.size w wr)) (fun si _ => m - (intOf si).toNat)
  case atStart => exact ⟨0, rfl, by omega, hid (HR0.out.congr (fun i hi => by simp)), HB0⟩
  case round =>
    obtain ⟨K, rfl, hK, HR, HB⟩ := hrel
    rename World => wr
    by_cases hlt : K < m
    · obtain ⟨a2, cap2, e2, hform⟩ := (HH.out.keep2 HB.out).form
      rw [← HM.out] at e2 hform
      cases e2
      obtain ⟨bb, o, rfl, hml, hc⟩ := hform (by omega)
      have c1 := hc K hlt
      have c2 := HR.out.cell hlt
      have f2 := HR.out.frozen K
      have hi0 : (K : Int) < (m : Int) := by omega
      obtain ⟨x, hx⟩ : ∃ x, x = xs.getD K 0 := ⟨_, rfl⟩
      rw [← hx] at c1
      have HS := hid ((HR.out.set K (.int .i64 x)).congr (g := fun j => if j < K + 1 then .int .i64 (xs.getD j 0) else .int .i64 0) (fun i hi => by
        by_cases e : i = K
        · rw [if_pos e, if_pos (by omega), e, hx]
        · rw [if_neg e]
          by_cases h : i < K
          · rw [if_pos h, if_pos (by omega)]
          · rw [if_neg h, if_neg (by omega)]))
      have HBs := hid (HB.out.setCell (p := ⟨w.heap.size, K, none⟩) (Nat.le_refl _) (.int .i64 x))
      have HLT := hid hlt
      rw [if_neg (by omega)] at c2
      unfold maxLen at hml
      clear hform hc hx hlt
      go_wp2_with fail
      go_roundw
      case measure => simp only [intOf]; have := HLT.out; omega
      case rel => exact ⟨K + 1, by go_num, by have := HLT.out; omega, HS, HBs⟩
    · obtain rfl : K = m := by omega
      have HO := hid (rowIs_owns (B := w.heap.size) HR.out HM.out (fun i hi => by rw [if_pos hi]) (Nat.le_refl _) (by unfold maxLen; omega))
      clear hlt
      go_wp2_with fail
      go_ret
      exact ⟨_, rfl, HO.out, HB.out, _, _, _, rfl⟩

theorem rd_row {w : World} {a : Option Addr} {len cap : Nat} {zs : List Int} (h : IsRow .i64 w a len cap zs) : ∃ xs : List Int, xs.length = len ∧ Rd w (.slice a len cap) xs := by
  rcases h with ⟨rfl, rfl, rfl, rfl⟩ | ⟨x, rfl, hl, hm, hz, hcell, hwz⟩
  · exact ⟨[], rfl, .inl ⟨_, _, rfl, rfl⟩⟩
  · refine ⟨zs.take len, by rw [List.length_take]; omega, ?_⟩
    by_cases h0 : len = 0
    · subst h0
      exact .inl ⟨_, _, rfl, by simp⟩
    · obtain ⟨b, off, spot⟩ := x
      have hspot : spot = none := by simpa [Addr.add] using World.cell?_spot (hcell 0 (by omega))
      subst hspot
      have hlen : (zs.take len).length = len := by rw [List.length_take]; omega
      refine .inr ⟨b, off, cap, by rw [hlen], by omega, by rw [hlen]; omega, fun i hi => ?_⟩
      rw [hlen] at hi
      have hc := hcell i (by omega)
      have hg : (zs.take len).getD i 0 = zs.getD i 0 := by
        rw [getD_at _ _ (by rw [hlen]; exact hi), getD_at _ _ (by omega), List.getElem_take]
      rw [hg]
      by_cases hi0 : i = 0
      · subst hi0; simpa [Addr.add] using hc
      · simpa [Addr.add, hi0] using hc
theorem fvalF (xs vs : List Int) : ∃ (x : Int) (c : Bool), fvalV xs vs = .tuple #[.int .i64 x, .bool c] := by
  unfold fvalV
  split
  · exact ⟨_, _, rfl⟩
  · exact ⟨_, _, rfl⟩
theorem signsF (xs : List Int) : ∃ (x : Int) (c : Bool), signsV xs = .tuple #[.int .i64 x, .bool c] := by
  unfold signsV
  split
  · exact ⟨_, _, rfl⟩
  · exact ⟨_, _, rfl⟩


end Go.Proofs.Ytdclmjmefkgbbaa

/-! Jac2 -/
set_option linter.unusedVariables false
namespace Go.Proofs.Ytdclmjmefkgbbaa
open Go.RowKit Go.Shelf
attribute [local go_sem] Oper.semAt_some

theorem others_of_below {W W' : World} (h : Below W.heap.size W W') : KeepsOthers W W' := ⟨h.size, fun k o hk _ => by
  rw [h.block k (Array.getElem?_eq_some_iff.1 hk).1]; exact hk⟩
theorem below_of_drew {W W' : World} (h : Below W.drew.heap.size W.drew W') : Below W.heap.size W W' := ⟨h.os, h.tape, h.output, h.size, h.block⟩
theorem boxed_below {W W' : World} {B : Nat} {t : TypeId} {v : Value} (h : Boxed W B t v) (hb : Below W.heap.size W W') : Boxed W' B t v := (hb.block B h.lt).trans h

def jacP (n : Int) (l : List PP) : Int := jacW n (l.map (·.1))
theorem jacP_snoc (n : Int) (l : List PP) (x : PP) : jacP n (l ++ [x]) = jmW (jacP n l) (resV n (x.1.1 : Int)) x.1.2 := by
  unfold jacP; rw [List.map_append]; exact jacW_step n _ _

end Go.Proofs.Ytdclmjmefkgbbaa
