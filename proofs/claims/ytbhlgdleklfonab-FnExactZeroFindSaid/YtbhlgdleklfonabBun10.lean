/-
  Some texts in one file: Fm6 Marks Marks2 ToInt RowWord ToRow FmLen Stein FmTh.
-/
import Derived.Test.YtbhlgdleklfonabBun9
import Derived.Test.YtbhlgdleklfonabBun4
import Derived.BigQuiet
import Derived.Maps.AppendAt
import Derived.RangeFuncBox
import Derived.Test.YtbhlgdleklfonabBun6
import Derived.Deep.OwnRows
import Derived.Below
import Derived.Test.YtbhlgdleklfonabBun7
/-! Fm6 -/
set_option linter.unusedVariables false
namespace Go.Proofs.Ytbhlgdleklfonab
open Go.RowKit

/-- a slice with an address, or nil -/
def Firm (v : Value) : Prop := v = .slice none 0 0 ∨ ∃ ad n c, v = .slice (some ad) n c
theorem Owns.firm {W : World} {B : Nat} {v : Value} {xs : List Int} (h : Owns W B v xs) : Firm v := by
  rcases h.2 with ⟨rfl, _⟩ | ⟨g, cap, cur, rfl, _⟩
  · exact .inl rfl
  · exact .inr ⟨_, _, _, rfl⟩
theorem grownBy_refl (w : World) (r : Option Nat) : w.grownBy w r := ⟨rfl, rfl, rfl, Nat.le_refl _, fun _ _ _ => rfl⟩
/-- append(s, xs...) where s is the call's own and xs is any slice that reads as numbers -/
theorem append_rd {w : World} {ops : Array Oper} {rest : List Oper} {o : Oper} {a : Act} {Q : Exit → Act → World → Prop} (hgd : o.guard = none) (s x : Operand)
    (ho : o.op = .call { callee := .builtin .append, args := #[s, x], argTypes := #[22, 22] })
    (base : Nat) (v : Value) (xs : List Int) (hs : a.eval s = v) (hown : Owns w base v xs) (u : Value) (ys : List Int) (hx : a.eval x = u) (hrd : Rd w u ys) (hf : Firm u)
    (h63 : xs.length + ys.length ≤ 10000000) (hbase : base ≤ w.heap.size)
    (h : ∀ v' w', Owns w' base v' (xs ++ ys) → w.grownBy w' v.ownBlock → wpList Try.prog ops Q rest (a.put o.dst v') w') :
    wpList Try.prog ops Q (o :: rest) a w := by
  obtain ⟨i0, hi, hz0, hz1, hz2⟩ := info_parts infoInt
  rcases hf with rfl | ⟨ad, n, c, rfl⟩
  · have hy : ys = [] := by
      rcases hrd with ⟨_, _, _, hy⟩ | ⟨_, _, _, e, _⟩
      · exact hy
      · cases e
    subst hy
    exact wpList_append_own_none hgd s x 22 ho base 3 i0 1 Try.underlying22 hi v _ _ hs hown hx (h v w (by rw [List.append_nil]; exact hown) (grownBy_refl w _))
  · have hn : n = ys.length := by
      rcases hrd with ⟨_, _, e, hy⟩ | ⟨_, _, _, e, _⟩
      · cases e; rw [hy]; rfl
      · cases e; rfl
    have hnews : ∀ j z, (ys.map (Value.int .i64))[j]? = some z → w.cell? (ad.add j) = some z := fun j z hz => by
      rcases hrd with ⟨_, _, _, hy⟩ | ⟨b, off, cap, e, _, _, hc⟩
      · rw [hy] at hz; simp at hz
      · cases e
        rw [List.getElem?_map] at hz
        by_cases hj : j < ys.length
        · rw [List.getElem?_eq_getElem hj] at hz
          simp only [Option.map_some, Option.some.injEq] at hz
          rw [← hz, show (⟨b, off, none⟩ : Addr).add j = ⟨b, off + j, none⟩ by
            by_cases e : j = 0
            · subst e; simp [Addr.add]
            · simp [Addr.add, e], hc j hj, getD_at _ _ hj]
        · rw [List.getElem?_eq_none (by omega)] at hz; cases hz
    refine wpList_append_own_at w hgd s x 22 ho base 3 i0 (.int .i64 0) 1 8 Try.underlying22 hi hz0 hz1 hz2 rfl (by decide) v _ _ hs hown ad n c (ys.map (Value.int .i64)) hx (by rw [List.length_map, hn, Nat.mul_one]) hnews
      (fun z hz => by rw [List.mem_map] at hz; obtain ⟨y, _, rfl⟩ := hz; rfl) (by unfold maxLen; omega) (by omega) hbase ?_
    intro v' w' hown' hgrow _ _
    refine h v' w' ?_ hgrow
    unfold Owns
    rw [List.length_append, List.map_append, ← hn]
    exact hown'


end Go.Proofs.Ytbhlgdleklfonab

/-! Marks -/
set_option linter.unusedVariables false
namespace Go.Proofs.Ytbhlgdleklfonab
open Go.RowKit

theorem all_eq_of {xs ys : List Int} (hl : xs.length = ys.length) (h : ∀ j, j < xs.length → xs.getD j 0 = ys.getD j 0) : xs = ys := by
  refine List.ext_getElem hl fun j h1 h2 => ?_
  have := h j h1
  simpa [List.getD, List.getElem?_eq_getElem h1, List.getElem?_eq_getElem h2] using this

theorem eqs_len {a b : Int} (h : a ≠ b) : (a != b) = true := by rw [bne_iff_ne]; exact h
theorem eqs_same {a b : Int} (h : a = b) : (a != b) = false := by rw [h]; simp

set_option maxHeartbeats 1000000 in
theorem eqIntS_any (v u : Value) (xs ys : List Int) (w : World) (hx : Rd w v xs) (hy : Rd w u ys) :
    Calls Try.prog 15 #[v, u] w fun e w' => e = .returned (.bool (decide (xs = ys))) ∧ ∃ k, w' = w.drewN k := by
  have form : ∀ {z : Value} {zs : List Int}, Rd w z zs → ∃ a cap, z = .slice a zs.length cap ∧ zs.length ≤ maxLen := by
    rintro z zs (⟨a, cap, rfl, rfl⟩ | ⟨b, o, cap, rfl, _, hm, _⟩)
    · exact ⟨a, cap, rfl, by simp⟩
    · exact ⟨_, _, rfl, hm⟩
  by_cases hl : xs.length = ys.length
  · rcases hx with ⟨a, cap, rfl, rfl⟩ | ⟨b, o, cap, rfl, hp, hm, hcx⟩
    · obtain ⟨a', cap', rfl, _⟩ := form hy
      have e : ys = [] := List.length_eq_zero_iff.1 hl.symm
      have HD : Hid (decide (([] : List Int) = ys) = true) := by show _ = _; rw [e]; rfl
      have HL : ys.length = 0 := hl.symm
      rw [HL]
      clear e hl HL hy
      go_enter Try.func15, Try.ntmps15
      go_wp2
      go_loop [5] (fun i => i = .int .i64 0) (fun _ => 0)
      case atStart => rfl
      case round =>
        obtain rfl := hrel
        go_wp2
        go_ret
        exact ⟨retB (by first | exact HD.out.symm | (rw [eq_comm]; exact HD.out.symm) | (have h := HD.out; simp at h; simp [← h])), 0, rfl⟩
    · rcases hy with ⟨a', cap', rfl, rfl⟩ | ⟨b', o', cap', rfl, _, _, hcy⟩
      · exact absurd hl (by simp; intro e; rw [e] at hp; simp at hp)
      · have T : ((xs.length : Int) != ys.length) = false := eqs_same (by omega)
        unfold maxLen at hm
        have HX := hid hcx
        have HY := hid hcy
        have HL := hid hl
        clear hcx hcy
        go_enter Try.func15, Try.ntmps15
        rw [← hl] at T ⊢
        clear hl
        go_wp2
        go_loopw [5] (fun i wr => ∃ K k : Nat, i = .int .i64 K ∧ K ≤ xs.length ∧ Hid (∀ j, j < K → xs.getD j 0 = ys.getD j 0) ∧ wr = w.drewN k) (fun i _ => xs.length - (intOf i).toNat)
        case atStart => exact ⟨0, 0, rfl, by omega, hid (by omega), rfl⟩
        case round =>
          obtain ⟨K, k, rfl, hK, HE, rfl⟩ := hrel
          by_cases hlt : K < xs.length
          · obtain ⟨x, hx⟩ : ∃ x, x = xs.getD K 0 := ⟨_, rfl⟩
            obtain ⟨y, hy⟩ : ∃ y, y = ys.getD K 0 := ⟨_, rfl⟩
            have c1 := HX.out K hlt
            have c2 := HY.out K (by have := HL.out; omega)
            rw [← hx] at c1
            rw [← hy] at c2
            have Hx := hid hx
            have Hy := hid hy
            clear hx hy
            have hi : (K : Int) < (xs.length : Int) := by omega
            by_cases hxy : x = y
            · have T2 : (x != y) = false := eqs_same hxy
              have HXY := hid hxy
              clear hxy
              go_wp2
              go_quiet (fail)
              go_wp2
              go_roundw
              case rel =>
                exact ⟨K + 1, _, by go_num, by omega, hid (by intro j hj; by_cases e : j = K; (· rw [e, ← Hx.out, ← Hy.out, HXY.out]); (· exact HE.out j (by omega))), by first | rfl | exact World.drewN_drewN ..⟩
              case measure => simp only [intOf]; omega
            · have T2 : (x != y) = true := eqs_len hxy
              have HXY := hid hxy
              clear hxy
              go_wp2
              go_quiet (fail)
              go_wp2
              go_ret
              refine ⟨retB (decide_eq_false fun e => HXY.out ?_).symm, _, by first | rfl | exact World.drewN_drewN ..⟩
              rw [Hx.out, Hy.out, e]
          · go_wp2
            go_ret
            refine ⟨retB (decide_eq_true (all_eq_of HL.out fun j hj => HE.out j (by omega))).symm, _, rfl⟩
  · obtain ⟨a, cap, rfl, m1⟩ := form hx
    obtain ⟨a', cap', rfl, m2⟩ := form hy
    have T : ((xs.length : Int) != ys.length) = true := eqs_len (by omega)
    have HD : Hid (decide (xs = ys) = false) := hid (decide_eq_false fun e => hl (by rw [e]))
    clear hl hx hy
    go_enter Try.func15, Try.ntmps15
    go_wp2
    go_ret
    exact ⟨retB HD.out.symm, 0, rfl⟩

/-- k, k + 1, .. -/
def marksL (k : Int) (n : Nat) : List Int := (List.range n).map (fun (i : Nat) => k + (i : Int))
theorem marksL_len (k : Int) (n : Nat) : (marksL k n).length = n := by simp [marksL]
theorem marksL_get (k : Int) (n i : Nat) (h : i < n) : (marksL k n).getD i 0 = k + i := by simp [marksL, List.getD, h]

set_option maxHeartbeats 1000000 in
theorem heldIntS_any (v : Value) (n : Nat) (k : Int) (hk : 0 ≤ k) (hk2 : k ≤ 1000000) (hn : n ≤ 1000000) (w : World) (hx : Rd w v (marksL k n)) :
    Calls Try.prog 19 #[v, .int .i64 k] w fun e w' => e = .returned (.int .i64 (k + n)) ∧ w = w' := by
  rcases hx with ⟨a, cap, rfl, h0⟩ | ⟨b, o, cap, rfl, hp, hm, hc⟩
  · obtain rfl : n = 0 := by have := marksL_len k n; rw [h0] at this; simpa using this.symm
    clear h0
    go_enter Try.func19, Try.ntmps19
    go_wp2
    go_loop [1, 5] (fun k' i => k' = .int .i64 k ∧ i = .int .i64 0) (fun _ _ => 0)
    case atStart => exact ⟨rfl, rfl⟩
    case round =>
      obtain ⟨rfl, rfl⟩ := hrel
      go_wp2
      go_ret
      exact ⟨retI (by simp), rfl⟩
  · rw [marksL_len] at *
    have HC := hid hc
    clear hc
    go_enter Try.func19, Try.ntmps19
    go_wp2
    go_loop [1, 5] (fun k' i => ∃ K : Nat, k' = .int .i64 (k + K) ∧ i = .int .i64 K ∧ K ≤ n) (fun _ i => n - (intOf i).toNat)
    case atStart => exact ⟨0, by simp, rfl, by omega⟩
    case round =>
      obtain ⟨K, rfl, rfl, hK⟩ := hrel
      by_cases hlt : K < n
      · have c1 := HC.out K (by omega)
        rw [marksL_get k n K hlt] at c1
        have T : ((k + (K : Int)) != k + K) = false := by simp
        have hi : (K : Int) < (n : Int) := by omega
        go_wp2
        go_round
        case rel => exact ⟨K + 1, vI (by push_cast; omega), by go_num, by omega⟩
        case measure => simp only [intOf]; omega
      · obtain rfl : K = n := by omega
        go_wp2
        go_ret
        exact ⟨rfl, rfl⟩

/-- the first i numbers are marked -/
def halfL (k : Int) (i : Nat) (xs : List Int) : List Int := marksL k i ++ xs.drop i
theorem halfL_len (k : Int) (i : Nat) (xs : List Int) (h : i ≤ xs.length) : (halfL k i xs).length = xs.length := by simp [halfL, marksL_len]; omega
theorem halfL_step (k : Int) (i : Nat) (xs : List Int) (h : i < xs.length) : (halfL k i xs).set i (k + i) = halfL k (i + 1) xs := by
  unfold halfL
  rw [List.set_append_right _ _ (by simp [marksL_len]), marksL_len, Nat.sub_self, List.drop_eq_getElem_cons h, List.set_cons_zero]
  simp [marksL, List.range_succ]
theorem halfL_end (k : Int) (xs : List Int) : halfL k xs.length xs = marksL k xs.length := by simp [halfL]

set_option maxHeartbeats 1000000 in
theorem markIntS_any (v : Value) (xs : List Int) (B : Nat) (k : Int) (hk : 0 ≤ k) (hk2 : k ≤ 1000000) (hn : xs.length ≤ 1000000) (w : World) (hx : Owns w B v xs) :
    Calls Try.prog 18 #[v, .int .i64 k] w fun e w' => e = .returned (.int .i64 (k + xs.length)) ∧ Owns w' B v (marksL k xs.length) ∧ Below B w w' := by
  by_cases h0 : xs.length = 0
  · have hx0 : xs = [] := List.length_eq_zero_iff.1 h0
    subst hx0
    have hf : ∃ a cap, v = .slice a 0 cap := by
      rcases hx.2 with ⟨rfl, _⟩ | ⟨g, cap, _, rfl, _⟩
      · exact ⟨_, _, rfl⟩
      · exact ⟨_, _, rfl⟩
    obtain ⟨a, cap, rfl⟩ := hf
    have HX := hid hx
    clear hx h0
    go_enter Try.func18, Try.ntmps18
    go_wp2
    go_loop [1, 5] (fun k' i => k' = .int .i64 k ∧ i = .int .i64 0) (fun _ _ => 0)
    case atStart => exact ⟨rfl, rfl⟩
    case round =>
      obtain ⟨rfl, rfl⟩ := hrel
      go_wp2
      go_ret
      exact ⟨retI (by simp), HX.out, Below.refl _ _⟩
  · have hf : ∃ g cap, v = .slice (some ⟨g, 0, none⟩) xs.length cap ∧ B ≤ g := by
      rcases hx.2 with ⟨_, h⟩ | ⟨g, cap, _, rfl, hg, _⟩
      · omega
      · exact ⟨g, cap, rfl, hg⟩
    obtain ⟨g, cap, rfl, hg⟩ := hf
    obtain ⟨n, hnx⟩ : ∃ n, n = xs.length := ⟨_, rfl⟩
    have HN := hid hnx
    rw [← hnx] at h0 hn ⊢
    have HX : Hid (Owns w B (.slice (some ⟨g, 0, none⟩) n cap) xs) := by rw [hnx]; exact hx
    clear hx hnx
    go_enter Try.func18, Try.ntmps18
    go_wp2
    go_loopw [1, 5] (fun k' i wr => ∃ K : Nat, k' = .int .i64 (k + K) ∧ i = .int .i64 K ∧ K ≤ n ∧ Hid (wr.ownsRow B 3 1 (.slice (some ⟨g, 0, none⟩) n cap) n ((halfL k K xs).map (Value.int .i64))) ∧ Below B w wr) (fun _ i _ => n - (intOf i).toNat)
    case atStart =>
      refine ⟨0, by simp, rfl, by omega, hid ?_, Below.refl _ _⟩
      have := HX.out
      unfold Owns at this
      rw [← HN.out] at this
      simpa [halfL, marksL] using this
    case round =>
      obtain ⟨K, rfl, rfl, hK, HO, hB⟩ := hrel
      by_cases hlt : K < n
      · have hl := halfL_len k K xs (by have := HN.out; omega)
        have c1 : wr.cell? ⟨g, K, none⟩ = some (.int .i64 ((halfL k K xs).getD K 0)) := by
          have hK2 : K < (halfL k K xs).length := by rw [hl, ← HN.out]; exact hlt
          rw [World.ownsRow.cellAt HO.out K (by omega), List.getElem?_map, List.getElem?_eq_getElem hK2]
          simp [List.getD, List.getElem?_eq_getElem hK2]
        obtain ⟨z, hz⟩ : ∃ z, z = (halfL k K xs).getD K 0 := ⟨_, rfl⟩
        rw [← hz] at c1
        have f1 := World.ownsRow.frozenAt HO.out K
        have hi : (K : Int) < (n : Int) := by omega
        have HS := hid (World.ownsRow.stored HO.out K (.int .i64 (k + K)))
        have HT := hid (halfL_step k K xs (by have := HN.out; omega))
        clear hz hl
        go_wp2
        go_roundw
        case rel =>
          refine ⟨K + 1, vI (by push_cast; omega), by go_num, by omega, hid ?_, hB.setCell (p := ⟨g, K, none⟩) hg _⟩
          have := HS.out.1
          rw [← HT.out, List.map_set]
          exact this
        case measure => simp only [intOf]; omega
      · obtain rfl : K = n := by omega
        go_wp2
        go_ret
        refine ⟨rfl, ?_, hB⟩
        have := HO.out
        unfold Owns
        rw [marksL_len]
        have e : halfL k K xs = marksL k K := by
          have h := halfL_end k xs
          rw [← HN.out] at h
          exact h
        rw [e] at this
        exact this

end Go.Proofs.Ytbhlgdleklfonab

/-! Marks2 -/
set_option linter.unusedVariables false
namespace Go.Proofs.Ytbhlgdleklfonab
open Go.RowKit

theorem grownBy_rf (w : World) (r : Option Nat) : w.grownBy w r := ⟨rfl, rfl, rfl, Nat.le_refl _, fun _ _ _ => rfl⟩
theorem grownBy_set (W : World) (b o : Nat) (v : Value) : W.grownBy (W.setCell ⟨b, o, none⟩ v) (some b) :=
  ⟨rfl, rfl, rfl, (KeepsWalks.setCell W _ v).size, fun k _ hk => Below.heap_setCell _ _ _ k (fun e => hk (by rw [e]))⟩
theorem Owns.kept {W W' : World} {B : Nat} {v : Value} {xs : List Int} {r : Option Nat} (h : Owns W B v xs) (hg : W.grownBy W' r) (hne : v.ownBlock = none ∨ v.ownBlock ≠ r) : Owns W' B v xs := World.ownsRow.kept h hg hne
/-- the elder of two lists of the call's own, and the younger one, lie apart -/
theorem elder_apart {x y : Value} {W : World} {C : Nat} {ys : List Int} (hlt : ∀ g, x.ownBlock = some g → g < C) (hy : Owns W C y ys) : y.ownBlock = none ∨ y.ownBlock ≠ x.ownBlock := by
  cases hb : y.ownBlock with
  | none => exact .inl rfl
  | some b =>
    right
    intro e
    have h1 := hlt b e.symm
    have h2 := hy.ge b hb
    omega
theorem younger_apart {x y : Value} {W : World} {C : Nat} {xs : List Int} (hlt : ∀ g, y.ownBlock = some g → g < C) (hx : Owns W C x xs) : y.ownBlock = none ∨ y.ownBlock ≠ x.ownBlock := by
  cases hb : y.ownBlock with
  | none => exact .inl rfl
  | some b =>
    right
    intro e
    have h1 := hlt b hb
    have h2 := hx.ge b e.symm
    omega

set_option maxHeartbeats 1000000 in
theorem markIntS2_any (v : Value) (xs : List Int) (B : Nat) (k : Int) (hk : 0 ≤ k) (hk2 : k ≤ 3000000) (hn : xs.length ≤ 3000000) (w : World) (hx : Owns w B v xs) :
    Calls Try.prog 18 #[v, .int .i64 k] w fun e w' => e = .returned (.int .i64 (k + xs.length)) ∧ Owns w' B v (marksL k xs.length) ∧ Below B w w' ∧ w.grownBy w' v.ownBlock := by
  by_cases h0 : xs.length = 0
  · have hx0 : xs = [] := List.length_eq_zero_iff.1 h0
    subst hx0
    have hf : ∃ a cap, v = .slice a 0 cap := by
      rcases hx.2 with ⟨rfl, _⟩ | ⟨g, cap, _, rfl, _⟩
      · exact ⟨_, _, rfl⟩
      · exact ⟨_, _, rfl⟩
    obtain ⟨a, cap, rfl⟩ := hf
    have HX := hid hx
    clear hx h0
    go_enter Try.func18, Try.ntmps18
    go_wp2
    go_loop [1, 5] (fun k' i => k' = .int .i64 k ∧ i = .int .i64 0) (fun _ _ => 0)
    case atStart => exact ⟨rfl, rfl⟩
    case round =>
      obtain ⟨rfl, rfl⟩ := hrel
      go_wp2
      go_ret
      exact ⟨retI (by simp), HX.out, Below.refl _ _, grownBy_rf _ _⟩
  · have hf : ∃ g cap, v = .slice (some ⟨g, 0, none⟩) xs.length cap ∧ B ≤ g := by
      rcases hx.2 with ⟨_, h⟩ | ⟨g, cap, _, rfl, hg, _⟩
      · omega
      · exact ⟨g, cap, rfl, hg⟩
    obtain ⟨g, cap, rfl, hg⟩ := hf
    obtain ⟨n, hnx⟩ : ∃ n, n = xs.length := ⟨_, rfl⟩
    have HN := hid hnx
    rw [← hnx] at h0 hn ⊢
    have HX : Hid (Owns w B (.slice (some ⟨g, 0, none⟩) n cap) xs) := by rw [hnx]; exact hx
    clear hx hnx
    go_enter Try.func18, Try.ntmps18
    go_wp2
    go_loopw [1, 5] (fun k' i wr => ∃ K : Nat, k' = .int .i64 (k + K) ∧ i = .int .i64 K ∧ K ≤ n ∧ Hid (wr.ownsRow B 3 1 (.slice (some ⟨g, 0, none⟩) n cap) n ((halfL k K xs).map (Value.int .i64))) ∧ Below B w wr ∧ Hid (w.grownBy wr (some g))) (fun _ i _ => n - (intOf i).toNat)
    case atStart =>
      refine ⟨0, by simp, rfl, by omega, hid ?_, Below.refl _ _, hid (grownBy_rf _ _)⟩
      have := HX.out
      unfold Owns at this
      rw [← HN.out] at this
      simpa [halfL, marksL] using this
    case round =>
      obtain ⟨K, rfl, rfl, hK, HO, hB, HG⟩ := hrel
      by_cases hlt : K < n
      · have hl := halfL_len k K xs (by have := HN.out; omega)
        have c1 : wr.cell? ⟨g, K, none⟩ = some (.int .i64 ((halfL k K xs).getD K 0)) := by
          have hK2 : K < (halfL k K xs).length := by rw [hl, ← HN.out]; exact hlt
          rw [World.ownsRow.cellAt HO.out K (by omega), List.getElem?_map, List.getElem?_eq_getElem hK2]
          simp [List.getD, List.getElem?_eq_getElem hK2]
        obtain ⟨z, hz⟩ : ∃ z, z = (halfL k K xs).getD K 0 := ⟨_, rfl⟩
        rw [← hz] at c1
        have f1 := World.ownsRow.frozenAt HO.out K
        have hi : (K : Int) < (n : Int) := by omega
        have HS := hid (World.ownsRow.stored HO.out K (.int .i64 (k + K)))
        have HT := hid (halfL_step k K xs (by have := HN.out; omega))
        clear hz hl
        go_wp2
        go_roundw
        case rel =>
          refine ⟨K + 1, vI (by push_cast; omega), by go_num, by omega, hid ?_, hB.setCell (p := ⟨g, K, none⟩) hg _, hid (HG.out.trans (grownBy_set _ g K _))⟩
          have := HS.out.1
          rw [← HT.out, List.map_set]
          exact this
        case measure => simp only [intOf]; omega
      · obtain rfl : K = n := by omega
        go_wp2
        go_ret
        refine ⟨rfl, ?_, hB, HG.out⟩
        have := HO.out
        unfold Owns
        rw [marksL_len]
        have e : halfL k K xs = marksL k K := by
          have h := halfL_end k xs
          rw [← HN.out] at h
          exact h
        rw [e] at this
        exact this

end Go.Proofs.Ytbhlgdleklfonab

/-! ToInt -/
set_option linter.unusedVariables false
namespace Go.Proofs.Ytbhlgdleklfonab
open Go.RowKit

theorem Rd.keep2 {w w' : World} {v : Value} {xs : List Int} (h : Rd w v xs) (hb : Below w.heap.size w w') : Rd w' v xs := by
  rcases h with h | ⟨b, o, cap, hv, h0, hm, hc⟩
  · exact .inl h
  · refine .inr ⟨b, o, cap, hv, h0, hm, fun i hi => ?_⟩
    have hci := hc i hi
    obtain ⟨ob, ho, _⟩ := cells_of_cell hci
    have hlt : b < w.heap.size := (Array.getElem?_eq_some_iff.1 ho).1
    rw [hb.cell (p := ⟨b, o + i, none⟩) hlt]
    exact hci
theorem rowIs_owns {w : World} {b n B : Nat} {f : Nat → Value} {xs : List Int} (h : w.rowIs b 3 n f) (hn : n = xs.length) (hf : ∀ i, i < n → f i = .int .i64 (xs.getD i 0)) (hB : B ≤ b) (hm : n ≤ maxLen) : Owns w B (.slice (some ⟨b, 0, none⟩) n n) xs := by
  subst hn
  obtain ⟨c, hb, hs, hc⟩ := h
  refine ⟨by simp, .inr ⟨b, xs.length, c, rfl, hB, hb, Nat.le_refl _, hm, by rw [hs, Nat.mul_one], ?_⟩⟩
  rw [Nat.mul_one, List.take_of_length_le (by rw [Array.length_toList, hs]; exact Nat.le_refl _)]
  refine List.ext_getElem? fun i => ?_
  rw [Array.getElem?_toList]
  by_cases hi : i < xs.length
  · rw [hc i hi, hf i hi, List.getElem?_map, List.getElem?_eq_getElem hi, getD_at _ _ hi]; rfl
  · rw [List.getElem?_eq_none (by rw [List.length_map]; omega), Array.getElem?_eq_none (by omega)]

set_option maxRecDepth 100000 in
set_option maxHeartbeats 1000000 in
theorem toIntS_any (v : Value) (xs : List Int) (w : World) (h : Rd w v xs) (hl : xs.length ≤ 1048576) :
    Calls Try.prog 13 #[v] w fun e w' => ∃ u, e = .returned u ∧ Owns w' w.heap.size u xs ∧ Below w.heap.size w w' ∧ (∃ ad n c, u = .slice (some ad) n c) := by
  obtain ⟨i0, hi, hz0, hz1, hz2⟩ := info_parts infoInt
  have HH := hid h
  obtain ⟨a, cap, rfl, _⟩ := h.form
  obtain ⟨m, hm⟩ : ∃ m, m = xs.length := ⟨_, rfl⟩
  have HM := hid hm
  rw [← hm] at hl HH ⊢
  have HB0 := hid ((Below.refl w.heap.size w).alloc (Nat.le_refl _) (.cells (madeCells #[.int .i64 0] m) 3))
  have HR0 := hid (World.rowIs_made w (.int .i64 0) m 3)
  clear h hm
  go_enter Try.func13, Try.ntmps13
  go_wp2_with (at_make; refine wpList_make_row _ rfl _ _ 22 rfl 3 i0 (.int .i64 0) Try.underlying22 hi hz0 hz1 rfl .i64 .i64 m rfl rfl (by rw [hz2]; omega) (by omega) ?_)
  go_loopw [4] (fun si wr => ∃ K : Nat, si = .int .i64 K ∧ K ≤ m ∧ Hid (wr.rowIs w.heap.size 3 m (fun j => if j < K then .int .i64 (xs.getD j 0) else .int .i64 0)) ∧ Hid (Below w.heap.size w wr)) (fun si _ => m - (intOf si).toNat)
  case atStart => exact ⟨0, rfl, by omega, hid (HR0.out.congr (fun i hi => by simp)), HB0⟩
  case round =>
    obtain ⟨K, rfl, hK, HR, HB⟩ := hrel
    rename World => wr
    by_cases hlt : K < m
    · obtain ⟨a2, cap2, e2, hform⟩ := (HH.out.keep2 HB.out).form
      rw [← HM.out] at e2 hform
      cases e2
      obtain ⟨bb, o, rfl, hml, hc⟩ := hform (by omega)
      have c1 := hc K hlt
      have c2 := HR.out.cell hlt
      have f2 := HR.out.frozen K
      have hi0 : (K : Int) < (m : Int) := by omega
      obtain ⟨x, hx⟩ : ∃ x, x = xs.getD K 0 := ⟨_, rfl⟩
      rw [← hx] at c1
      have HS := hid ((HR.out.set K (.int .i64 x)).congr (g := fun j => if j < K + 1 then .int .i64 (xs.getD j 0) else .int .i64 0) (fun i hi => by
        by_cases e : i = K
        · rw [if_pos e, if_pos (by omega), e, hx]
        · rw [if_neg e]
          by_cases h : i < K
          · rw [if_pos h, if_pos (by omega)]
          · rw [if_neg h, if_neg (by omega)]))
      have HBs := hid (HB.out.setCell (p := ⟨w.heap.size, K, none⟩) (Nat.le_refl _) (.int .i64 x))
      have HLT := hid hlt
      rw [if_neg (by omega)] at c2
      unfold maxLen at hml
      clear hform hc hx hlt
      go_wp2_with fail
      go_roundw
      case measure => simp only [intOf]; have := HLT.out; omega
      case rel => exact ⟨K + 1, by go_num, by have := HLT.out; omega, HS, HBs⟩
    · obtain rfl : K = m := by omega
      have HO := hid (rowIs_owns (B := w.heap.size) HR.out HM.out (fun i hi => by rw [if_pos hi]) (Nat.le_refl _) (by unfold maxLen; omega))
      clear hlt
      go_wp2_with fail
      go_ret
      exact ⟨_, rfl, HO.out, HB.out, _, _, _, rfl⟩

end Go.Proofs.Ytbhlgdleklfonab

/-! RowWord -/
namespace Go.Proofs.Ytbhlgdleklfonab
open Go.RowKit
/-- it is nil; or it leads to a row of 'cap' cells, the numbers 'zs' (the first 'len' are its elements), each fitting its kind -/
def IsRow (k : IntKind) (w : World) (a : Option Addr) (len cap : Nat) (zs : List Int) : Prop :=
  (a = none ∧ len = 0 ∧ cap = 0 ∧ zs = []) ∨
  ∃ x, a = some x ∧ len ≤ cap ∧ cap ≤ maxLen ∧ zs.length = cap ∧ (∀ i, i < zs.length → w.cell? (x.add i) = some (.int k (zs.getD i 0))) ∧ ∀ n ∈ zs, (Lit.int k n).wf = true
end Go.Proofs.Ytbhlgdleklfonab

/-! ToRow -/
set_option linter.unusedVariables false
namespace Go.Proofs.Ytbhlgdleklfonab
open Go.RowKit

theorem rd_row {w : World} {a : Option Addr} {len cap : Nat} {zs : List Int} (h : IsRow .i64 w a len cap zs) : ∃ xs : List Int, xs.length = len ∧ Rd w (.slice a len cap) xs := by
  rcases h with ⟨rfl, rfl, rfl, rfl⟩ | ⟨x, rfl, hl, hm, hz, hcell, hwz⟩
  · exact ⟨[], rfl, .inl ⟨_, _, rfl, rfl⟩⟩
  · refine ⟨zs.take len, by rw [List.length_take]; omega, ?_⟩
    by_cases h0 : len = 0
    · subst h0
      exact .inl ⟨_, _, rfl, by simp⟩
    · obtain ⟨b, off, spot⟩ := x
      have hspot : spot = none := by simpa [Addr.add] using World.cell?_spot (hcell 0 (by omega))
      subst hspot
      have hlen : (zs.take len).length = len := by rw [List.length_take]; omega
      refine .inr ⟨b, off, cap, by rw [hlen], by omega, by rw [hlen]; omega, fun i hi => ?_⟩
      rw [hlen] at hi
      have hc := hcell i (by omega)
      have hg : (zs.take len).getD i 0 = zs.getD i 0 := by
        rw [getD_at _ _ (by rw [hlen]; exact hi), getD_at _ _ (by omega), List.getElem_take]
      rw [hg]
      by_cases hi0 : i = 0
      · subst hi0; simpa [Addr.add] using hc
      · simpa [Addr.add, hi0] using hc
theorem fvalF (xs vs : List Int) : ∃ (x : Int) (c : Bool), fvalV xs vs = .tuple #[.int .i64 x, .bool c] := by
  unfold fvalV
  split
  · exact ⟨_, _, rfl⟩
  · exact ⟨_, _, rfl⟩
theorem signsF (xs : List Int) : ∃ (x : Int) (c : Bool), signsV xs = .tuple #[.int .i64 x, .bool c] := by
  unfold signsV
  split
  · exact ⟨_, _, rfl⟩
  · exact ⟨_, _, rfl⟩

end Go.Proofs.Ytbhlgdleklfonab

/-! FmLen -/
set_option linter.unusedVariables false
namespace Go.Proofs.Ytbhlgdleklfonab
open Go.RowKit

theorem fpl_len (xs : List Int) : (fplL xs).length ≤ 1000 := by
  unfold fplL
  cases hf : fvB xs with
  | false => simp
  | true =>
    have hp := prod_full hf
    obtain ⟨h1, h2, _⟩ := plistG_spec (show 0 < (prodI xs).natAbs by have := hp.1; omega)
    have h3 := asc_len _ 0 30 h2 (fun x hx => ⟨Nat.zero_le _, (small_prime (fvB_iff.1 hf).1 (h1 x hx).1 (h1 x hx).2).1⟩)
    rw [if_pos rfl]
    unfold placesG
    have h4 := List.length_filter_le (fun x : Int => decide (2 < x)) (natsI (plistG (prodI xs).natAbs))
    rw [natsI_len] at h4
    rw [List.length_append]
    simp only [List.length_cons, List.length_nil]
    omega
theorem bad_len (xs : List Int) : (badL xs).length ≤ 1000 := Nat.le_trans (List.length_filter_le _ _) (fpl_len xs)
theorem fcores_len (xs : List Int) : (fcoresL xs).length ≤ 1000 := by
  unfold fcoresL
  cases hf : fvB xs with
  | false => simp
  | true =>
    have := (fvB_iff.1 hf).2.2
    rw [if_pos rfl]
    unfold timesL
    rw [List.length_map]
    omega
theorem ftimes_len (xs : List Int) (n : Int) : (ftimesL xs n).length ≤ 1000 := by
  unfold ftimesL
  cases ht : timesOk xs n with
  | false => simp
  | true =>
    unfold timesOk at ht
    rw [Bool.and_eq_true] at ht
    have := (fvB_iff.1 ht.1).2.2
    rw [if_pos rfl]
    unfold timesL
    rw [List.length_map]
    omega
theorem join_len (xs ys : List Int) : (joinL xs ys).length ≤ 1000 := by
  unfold joinL
  cases ht : joinOk xs ys with
  | false => simp
  | true =>
    unfold joinOk at ht
    rw [Bool.and_eq_true, Bool.and_eq_true] at ht
    have := (fvB_iff.1 ht.2.2).2.2
    rw [if_pos rfl]
    omega

end Go.Proofs.Ytbhlgdleklfonab

/-! Stein -/
set_option linter.unusedVariables false
namespace Go.Proofs.Ytbhlgdleklfonab
open Go.RowKit

theorem cls_tt {t q : Int} (ht : t ≠ 0) (hq : plI q = true) : cls (t * t) q = (0, 1) := by
  rw [cls_mul ht ht hq]
  exact (comb_one hq (cls_mem ht hq) (cls_mem ht hq)).2 rfl
theorem cls_sqI {n t q : Int} (hn : n ≠ 0) (ht : t ≠ 0) (hq : plI q = true) : cls (n * (t * t)) q = cls n q := by
  have h1 := cls_mul hn (show (1 : Int) ≠ 0 by decide) hq
  rw [Int.mul_one] at h1
  have h2 := cls_tt (show (1 : Int) ≠ 0 by decide) hq
  rw [Int.mul_one] at h2
  rw [h2] at h1
  rw [cls_mul hn (Int.mul_ne_zero ht ht) hq, cls_tt ht hq, ← h1]
theorem primeI_dvd_mul {P : Nat} (hP : primeN P = true) {a b : Int} (h : (P : Int) ∣ a * b) : (P : Int) ∣ a ∨ (P : Int) ∣ b := by
  rw [Int.ofNat_dvd_left, Int.natAbs_mul] at h
  rw [Int.ofNat_dvd_left, Int.ofNat_dvd_left]
  exact prime_mul hP h
/-- what a prime does not divide has its residue for its class -/
theorem cls_ndvd {P : Nat} (hP : primeN P = true) (h3 : 3 ≤ P) {n : Int} (hn : ¬ (P : Int) ∣ n) : cls n (P : Int) = (0, resN (n % (P : Int)).toNat P) := by
  have h0 : n ≠ 0 := by rintro rfl; exact hn (Int.dvd_zero _)
  rw [Int.ofNat_dvd_left] at hn
  obtain ⟨a, b⟩ := unit_self hP hn h0
  rw [cls_odd h3, a, b]
theorem cls_cong {P : Nat} (hP : primeN P = true) (h3 : 3 ≤ P) {n m : Int} (hn : ¬ (P : Int) ∣ n) (h : (P : Int) ∣ n - m) : cls n (P : Int) = cls m (P : Int) := by
  have hm : ¬ (P : Int) ∣ m := fun hd => hn (by have := Int.dvd_add h hd; rwa [Int.sub_add_cancel] at this)
  rw [cls_ndvd hP h3 hn, cls_ndvd hP h3 hm, Int.emod_eq_emod_iff_emod_sub_eq_zero.2 (Int.emod_eq_zero_of_dvd h)]
theorem sym_units {P : Nat} (hP : primeN P = true) (h3 : 3 ≤ P) {a b : Int} (ha : ¬ (P : Int) ∣ a) (hb : ¬ (P : Int) ∣ b) : symV a b (P : Int) = 1 := by
  unfold symV symC
  rw [cls_ndvd hP h3 ha, cls_ndvd hP h3 hb, if_neg (by omega), if_neg (by omega)]
  simp [halfI]

theorem stein_odd {P : Nat} (hq : plI (P : Int) = true) (hP : primeN P = true) (h3 : 3 ≤ P) : ∀ (N : Nat) (u v z : Int), u.natAbs ≤ N → u ≠ 0 → v ≠ 0 → u + v = z * z → symV u v (P : Int) = 1
  | 0, u, v, z, hN, hu, _, _ => absurd hN (by omega)
  | N + 1, u, v, z, hN, hu, hv, he => by
    have hP0 : (P : Int) ≠ 0 := by omega
    by_cases hd : (P : Int) * P ∣ u ∧ (P : Int) * P ∣ v
    · obtain ⟨⟨u1, rfl⟩, ⟨v1, rfl⟩⟩ := hd
      have hz : (P : Int) ∣ z := by
        have h1 : (P : Int) ∣ z * z := by
          rw [← he, ← Int.mul_add, Int.mul_assoc]; exact Int.dvd_mul_right _ _
        rcases primeI_dvd_mul hP h1 with h | h <;> exact h
      obtain ⟨z1, rfl⟩ := hz
      have hu1 : u1 ≠ 0 := by rintro rfl; exact hu (Int.mul_zero _)
      have hv1 : v1 ≠ 0 := by rintro rfl; exact hv (Int.mul_zero _)
      have he1 : u1 + v1 = z1 * z1 := by
        refine Int.eq_of_mul_eq_mul_left (Int.mul_ne_zero hP0 hP0) ?_
        rw [Int.mul_add, he, Int.mul_assoc, Int.mul_assoc, ← Int.mul_assoc z1, Int.mul_comm z1 (P : Int), Int.mul_assoc]
      have hlt : u1.natAbs ≤ N := by
        rw [Int.natAbs_mul, Int.natAbs_mul, Int.natAbs_natCast] at hN
        have h1 : 1 ≤ u1.natAbs := by omega
        have h2 := Nat.mul_le_mul (show 2 ≤ P * P from Nat.le_trans (show 2 ≤ 3 * 3 by decide) (Nat.mul_le_mul h3 h3)) (Nat.le_refl u1.natAbs)
        omega
      rw [Int.mul_comm _ u1, Int.mul_comm _ v1]
      rw [symV_congr (cls_sqI hu1 hP0 hq) (cls_sqI hv1 hP0 hq)]
      exact stein_odd hq hP h3 N u1 v1 z1 hlt hu1 hv1 he1
    · by_cases hpu : (P : Int) ∣ u
      · by_cases hpv : (P : Int) ∣ v
        · have hz : (P : Int) ∣ z := by
            have h1 : (P : Int) ∣ z * z := by rw [← he]; exact Int.dvd_add hpu hpv
            rcases primeI_dvd_mul hP h1 with h | h <;> exact h
          obtain ⟨z1, rfl⟩ := hz
          obtain ⟨u1, rfl⟩ := hpu
          obtain ⟨v1, rfl⟩ := hpv
          have hu1 : u1 ≠ 0 := by rintro rfl; exact hu (Int.mul_zero _)
          have hv1 : v1 ≠ 0 := by rintro rfl; exact hv (Int.mul_zero _)
          have he1 : u1 + v1 = (P : Int) * (z1 * z1) := by
            refine Int.eq_of_mul_eq_mul_left hP0 ?_
            rw [Int.mul_add, he, Int.mul_assoc, Int.mul_left_comm z1]
          have hnv : ¬ (P : Int) ∣ v1 := fun h => hd ⟨Int.mul_dvd_mul_left _ (by
            have h1 : (P : Int) ∣ u1 + v1 := by rw [he1]; exact Int.dvd_mul_right _ _
            have := Int.dvd_sub h1 h
            rwa [Int.add_sub_cancel] at this), Int.mul_dvd_mul_left _ h⟩
          have hc : cls v1 (P : Int) = cls (-u1) (P : Int) := cls_cong hP h3 hnv (by
            rw [Int.sub_neg, Int.add_comm, he1]; exact Int.dvd_mul_right _ _)
          have hc2 : cls ((P : Int) * v1) (P : Int) = cls (-((P : Int) * u1)) (P : Int) := by
            rw [← Int.mul_neg, cls_mul hP0 hv1 hq, cls_mul hP0 (by omega) hq, hc]
          rw [symV_congr (c := (P : Int) * u1) (d := -((P : Int) * u1)) rfl hc2]
          exact symV_minus hu hq
        · have hc : cls v (P : Int) = cls (z * z) (P : Int) := cls_cong hP h3 hpv (by
            rw [← he, show v - (u + v) = -u by omega]; exact Int.dvd_neg.2 hpu)
          have hz : z ≠ 0 := by
            rintro rfl
            exact hpv (by rw [show v = -u by omega]; exact Int.dvd_neg.2 hpu)
          exact symV_sq hu hq (by unfold sqAt; rw [hc, cls_tt hz hq]; rfl)
      · by_cases hpv : (P : Int) ∣ v
        · have hc : cls u (P : Int) = cls (z * z) (P : Int) := cls_cong hP h3 hpu (by
            rw [← he, show u - (u + v) = -v by omega]; exact Int.dvd_neg.2 hpv)
          have hz : z ≠ 0 := by
            rintro rfl
            exact hpu (by rw [show u = -v by omega]; exact Int.dvd_neg.2 hpv)
          rw [symV_comm hu hv hq]
          exact symV_sq hv hq (by unfold sqAt; rw [hc, cls_tt hz hq]; rfl)
        · exact sym_units hP h3 hpu hpv

theorem plTwo : plI 2 = true := by decide
theorem cls2_odd {n : Int} (h : n % 2 = 1) : cls n 2 = (0, n % 8) := by
  have h0 : n ≠ 0 := by omega
  obtain ⟨a, b⟩ := unit_self prime2 (n := n) (by omega) h0
  rw [show ((2 : Nat) : Int) = 2 from rfl] at b
  rw [cls_two, a, b]
theorem cls2_two {n : Int} (h : n % 2 = 1) : cls (2 * n) 2 = (1, n % 8) := by
  rw [cls_mul (by decide) (by omega) plTwo, cls2_odd h, show cls 2 2 = (1, 1) by decide]
  unfold comb
  rw [if_pos rfl]
  simp
theorem cls2_four {n : Int} (h : n ≠ 0) : cls (4 * n) 2 = cls n 2 := by
  rw [show 4 * n = n * (2 * 2) by omega]
  exact cls_sqI h (by decide) plTwo
theorem sym2_fin1 : ∀ u ∈ ([1, 3, 5, 7] : List Int), ∀ v ∈ ([1, 3, 5, 7] : List Int), (u + v) % 4 = 0 → symC 2 (0, u) (0, v) = 1 := by decide +kernel
theorem sym2_fin2 : ∀ u ∈ ([1, 3, 5, 7] : List Int), ∀ v ∈ ([1, 3, 5, 7] : List Int), (u + 2 * v) % 8 = 1 → symC 2 (0, u) (1, v) = 1 := by decide +kernel
theorem sym2_fin3 : ∀ v ∈ ([1, 3, 5, 7] : List Int), symC 2 (0, 5) (0, v) = 1 := by decide +kernel
theorem sym2_fin4 : ∀ u ∈ ([1, 3, 5, 7] : List Int), ∀ v ∈ ([1, 3, 5, 7] : List Int), (u + v) % 8 = 0 ∨ (u + v) % 8 = 2 → symC 2 (1, u) (1, v) = 1 := by decide +kernel
theorem mod8_odd {n : Int} (h : n % 2 = 1) : n % 8 ∈ ([1, 3, 5, 7] : List Int) := by
  have : n % 8 = 1 ∨ n % 8 = 3 ∨ n % 8 = 5 ∨ n % 8 = 7 := by omega
  rcases this with h | h | h | h <;> rw [h] <;> decide
theorem sq_even {z : Int} (h : z % 2 = 0) : z * z % 4 = 0 := by
  obtain ⟨t, rfl⟩ : ∃ t, z = 2 * t := ⟨z / 2, by omega⟩
  rw [show 2 * t * (2 * t) = 4 * (t * t) by rw [Int.mul_assoc, Int.mul_left_comm t, ← Int.mul_assoc]; rfl]
  exact Int.mul_emod_right _ _
theorem sq_odd {z : Int} (h : z % 2 = 1) : z * z % 8 = 1 := by
  have h8 : z % 8 = 1 ∨ z % 8 = 3 ∨ z % 8 = 5 ∨ z % 8 = 7 := by omega
  rw [Int.mul_emod]
  rcases h8 with h | h | h | h <;> rw [h] <;> rfl
/-- an odd number and an even one -/
theorem stein2_oe {u v z : Int} (hu : u % 2 = 1) (hv : v % 2 = 0) (v0 : v ≠ 0) (he : u + v = z * z) : symV u v 2 = 1 := by
  have hz : z % 2 = 1 := by
    by_cases h : z % 2 = 0
    · have := sq_even h; omega
    · omega
  have hz8 := sq_odd hz
  rw [← he] at hz8
  obtain ⟨w, rfl⟩ : ∃ w, v = 2 * w := ⟨v / 2, by omega⟩
  by_cases hw : w % 2 = 1
  · unfold symV
    rw [cls2_odd hu, cls2_two hw]
    exact sym2_fin2 _ (mod8_odd hu) _ (mod8_odd hw) (by omega)
  · obtain ⟨t, rfl⟩ : ∃ t, w = 2 * t := ⟨w / 2, by omega⟩
    have ht0 : t ≠ 0 := by omega
    by_cases ht : t % 2 = 1
    · unfold symV
      rw [show 2 * (2 * t) = 4 * t by omega, cls2_four ht0, cls2_odd hu, cls2_odd ht, show u % 8 = 5 by omega]
      exact sym2_fin3 _ (mod8_odd ht)
    · have h1 : u % 8 = 1 := by omega
      rw [symV_comm (by omega) v0 plTwo]
      exact symV_sq v0 plTwo (by unfold sqAt; rw [cls2_odd hu, h1]; rfl)
theorem stein_two : ∀ (N : Nat) (u v z : Int), u.natAbs ≤ N → u ≠ 0 → v ≠ 0 → u + v = z * z → symV u v 2 = 1
  | 0, u, v, z, hN, hu, _, _ => absurd hN (by omega)
  | N + 1, u, v, z, hN, hu, hv, he => by
    by_cases hu2 : u % 2 = 1
    · by_cases hv2 : v % 2 = 1
      · have hz : z % 2 = 0 := by
          by_cases h : z % 2 = 1
          · have := sq_odd h; omega
          · omega
        have h4 := sq_even hz
        rw [← he] at h4
        unfold symV
        rw [cls2_odd hu2, cls2_odd hv2]
        exact sym2_fin1 _ (mod8_odd hu2) _ (mod8_odd hv2) (by omega)
      · exact stein2_oe hu2 (by omega) hv he
    · by_cases hv2 : v % 2 = 1
      · rw [symV_comm hu hv plTwo]
        exact stein2_oe (z := z) hv2 (by omega) hu (by omega)
      · have hz : z % 2 = 0 := by
          by_cases h : z % 2 = 1
          · have := sq_odd h; omega
          · omega
        obtain ⟨z1, rfl⟩ : ∃ t, z = 2 * t := ⟨z / 2, by omega⟩
        obtain ⟨u1, rfl⟩ : ∃ t, u = 2 * t := ⟨u / 2, by omega⟩
        obtain ⟨v1, rfl⟩ : ∃ t, v = 2 * t := ⟨v / 2, by omega⟩
        have he1 : u1 + v1 = 2 * (z1 * z1) := by
          have : 2 * z1 * (2 * z1) = 4 * (z1 * z1) := by rw [Int.mul_assoc, Int.mul_left_comm z1, ← Int.mul_assoc]; rfl
          omega
        by_cases hu3 : u1 % 2 = 1
        · have hv3 : v1 % 2 = 1 := by omega
          have hs : (u1 + v1) % 8 = 0 ∨ (u1 + v1) % 8 = 2 := by
            rw [he1]
            by_cases h : z1 % 2 = 0
            · have := sq_even h; omega
            · have := sq_odd (show z1 % 2 = 1 by omega); omega
          unfold symV
          rw [cls2_two hu3, cls2_two hv3]
          exact sym2_fin4 _ (mod8_odd hu3) _ (mod8_odd hv3) (by omega)
        · obtain ⟨u2, rfl⟩ : ∃ t, u1 = 2 * t := ⟨u1 / 2, by omega⟩
          obtain ⟨v2, rfl⟩ : ∃ t, v1 = 2 * t := ⟨v1 / 2, by omega⟩
          have hu4 : u2 ≠ 0 := by omega
          have hv4 : v2 ≠ 0 := by omega
          rw [show 2 * (2 * u2) = 4 * u2 by omega, show 2 * (2 * v2) = 4 * v2 by omega, symV_congr (cls2_four hu4) (cls2_four hv4)]
          exact stein_two N u2 v2 z1 (by omega) hu4 hv4 (by omega)

/-- where two numbers add up to a square, their symbol is 1 at each place -/
theorem stein_sq {u v z q : Int} (hu : u ≠ 0) (hv : v ≠ 0) (he : u + v = z * z) (hq : plI q = true) : symV u v q = 1 := by
  rcases plI_cases hq with rfl | rfl | ⟨P, rfl, hP, h3, h5⟩
  · have hz : 0 ≤ z * z := by
      rcases Int.le_total 0 z with h | h
      · exact Int.mul_nonneg h h
      · exact Int.mul_nonneg_of_nonpos_of_nonpos h h
    unfold symV symC
    rw [cls_zero, cls_zero, if_pos rfl]
    by_cases h : 0 < u
    · rw [if_pos h]; simp
    · rw [if_neg h, if_pos (by omega : 0 < v)]; simp
  · exact stein_two _ u v z (Nat.le_refl _) hu hv he
  · exact stein_odd hq hP h3 _ u v z (Nat.le_refl _) hu hv he
/-- what is solved has the symbol 1 -/
theorem solved_one {a b x y z q : Int} (ha : a ≠ 0) (hb : b ≠ 0) (hn : ¬ (x = 0 ∧ y = 0 ∧ z = 0)) (he : z * z = a * x * x + b * y * y) (hq : plI q = true) : symV a b q = 1 := by
  rw [Int.mul_assoc, Int.mul_assoc] at he
  by_cases hx : x = 0
  · subst hx
    rw [Int.mul_zero, Int.mul_zero, Int.zero_add] at he
    have hz : z ≠ 0 := by
      rintro rfl
      rw [Int.mul_zero] at he
      have hy : y ≠ 0 := fun h => hn ⟨rfl, h, rfl⟩
      exact Int.mul_ne_zero hb (Int.mul_ne_zero hy hy) he.symm
    have hy : y ≠ 0 := by
      rintro rfl
      rw [Int.mul_zero, Int.mul_zero] at he
      exact Int.mul_ne_zero hz hz he
    refine symV_sq ha hq ?_
    unfold sqAt
    rw [← cls_sqI hb hy hq, ← he, cls_tt hz hq]
    rfl
  · by_cases hy : y = 0
    · subst hy
      rw [Int.mul_zero, Int.mul_zero, Int.add_zero] at he
      have hz : z ≠ 0 := by
        rintro rfl
        rw [Int.mul_zero] at he
        exact Int.mul_ne_zero ha (Int.mul_ne_zero hx hx) he.symm
      rw [symV_comm ha hb hq]
      refine symV_sq hb hq ?_
      unfold sqAt
      rw [← cls_sqI ha hx hq, ← he, cls_tt hz hq]
      rfl
    · have h1 := stein_sq (Int.mul_ne_zero ha (Int.mul_ne_zero hx hx)) (Int.mul_ne_zero hb (Int.mul_ne_zero hy hy)) he.symm hq
      rwa [symV_congr (cls_sqI ha hx hq) (cls_sqI hb hy hq)] at h1

end Go.Proofs.Ytbhlgdleklfonab

/-! FmTh -/
set_option linter.unusedVariables false
namespace Go.Proofs.Ytbhlgdleklfonab
open Go.RowKit

def NZ (xs : List Int) : Prop := ∀ x ∈ xs, x ≠ 0
theorem NZ.tail {x : Int} {xs : List Int} (h : NZ (x :: xs)) : NZ xs := fun y hy => h y (List.mem_cons_of_mem _ hy)
theorem NZ.head {x : Int} {xs : List Int} (h : NZ (x :: xs)) : x ≠ 0 := h x (List.mem_cons_self ..)
theorem NZ.prod {xs : List Int} (h : NZ xs) : prodI xs ≠ 0 := prodI_ne h
theorem NZ.app {xs ys : List Int} (h : NZ xs) (k : NZ ys) : NZ (xs ++ ys) := fun x hx => by
  rcases List.mem_append.1 hx with h1 | h1
  · exact h x h1
  · exact k x h1
theorem NZ.left {xs ys : List Int} (h : NZ (xs ++ ys)) : NZ xs := fun x hx => h x (List.mem_append_left _ hx)
theorem NZ.right {xs ys : List Int} (h : NZ (xs ++ ys)) : NZ ys := fun x hx => h x (List.mem_append_right _ hx)
theorem fv_nz {xs : List Int} (h : fvB xs = true) : NZ xs := fun x hx => ((fvB_iff.1 h).1 x hx).1

theorem symV_one {a q : Int} (ha : a ≠ 0) (hq : plI q = true) : symV a 1 q = 1 := by
  refine symV_sq ha hq ?_
  unfold sqAt
  have := cls_tt (show (1 : Int) ≠ 0 by decide) hq
  rw [Int.mul_one] at this
  rw [this]; rfl
theorem symV_mul_left {a b c q : Int} (ha : a ≠ 0) (hb : b ≠ 0) (hc : c ≠ 0) (hq : plI q = true) : symV (a * b) c q = symV a c q * symV b c q := by
  rw [symV_comm (Int.mul_ne_zero ha hb) hc hq, symV_mul hc ha hb hq, symV_comm hc ha hq, symV_comm hc hb hq]

/-- the invariant, term by term -/
def hasC (q : Int) : List Int → Int
  | [] => 1
  | x :: xs => symV x (prodI xs) q * hasC q xs
theorem hasC_pm {q : Int} (hq : plI q = true) : ∀ {xs : List Int}, NZ xs → hasC q xs = 1 ∨ hasC q xs = -1
  | [], _ => .inl rfl
  | x :: xs, h => pm_mul (symV_val h.head h.tail.prod hq) (hasC_pm hq h.tail)
theorem hasC_app {q : Int} (hq : plI q = true) : ∀ {xs ys : List Int}, NZ xs → NZ ys → hasC q (xs ++ ys) = hasC q xs * hasC q ys * symV (prodI xs) (prodI ys) q
  | [], ys, _, hy => by
    show hasC q ys = 1 * hasC q ys * symV 1 (prodI ys) q
    rw [symV_comm (by decide) hy.prod hq, symV_one hy.prod hq, Int.one_mul, Int.mul_one]
  | x :: xs, ys, hx, hy => by
    show symV x (prodI (xs ++ ys)) q * hasC q (xs ++ ys) = symV x (prodI xs) q * hasC q xs * hasC q ys * symV (x * prodI xs) (prodI ys) q
    rw [prodI_app, symV_mul hx.head hx.tail.prod hy.prod hq, hasC_app hq hx.tail hy, symV_mul_left hx.head hx.tail.prod hy.prod hq]
    simp only [Int.mul_assoc, Int.mul_comm, Int.mul_left_comm]
theorem hasC_one (q : Int) (hq : plI q = true) {x : Int} (hx : x ≠ 0) : hasC q [x] = 1 := by
  show symV x 1 q * 1 = 1
  rw [symV_one hx hq]; rfl
theorem hasR_prod {xs : List Int} {q : Int} (hq : plI q = true) (h : NZ xs) {i : Nat} (hi : i < xs.length) : ∀ k, k ≤ xs.length → hasR xs q i k = symV (prodI (xs.take k)) (xs.getD i 0) q
  | 0, _ => by
    have hx : xs.getD i 0 ≠ 0 := by rw [getD_at _ _ hi]; exact h _ (List.getElem_mem _)
    show 1 = symV 1 (xs.getD i 0) q
    rw [symV_comm (by decide) hx hq, symV_one hx hq]
  | k + 1, hk => by
    have hx : xs.getD i 0 ≠ 0 := by rw [getD_at _ _ hi]; exact h _ (List.getElem_mem _)
    have hy : xs.getD k 0 ≠ 0 := by rw [getD_at _ _ (by omega)]; exact h _ (List.getElem_mem _)
    have hp : prodI (xs.take k) ≠ 0 := prodI_ne fun x hx => h x (List.mem_of_mem_take hx)
    show hasR xs q i k * symV (xs.getD k 0) (xs.getD i 0) q = _
    rw [hasR_prod hq h hi k (by omega), prodI_take (by omega), symV_mul_left hp hy hx hq]
theorem hasP_eq {xs : List Int} {q : Int} (hq : plI q = true) (h : NZ xs) : ∀ i, i ≤ xs.length → hasP xs q i = hasC q (xs.take i)
  | 0, _ => by rw [List.take_zero]; rfl
  | i + 1, hi => by
    have hx : xs.getD i 0 ≠ 0 := by rw [getD_at _ _ (by omega)]; exact h _ (List.getElem_mem _)
    have ht : NZ (xs.take i) := fun x hx => h x (List.mem_of_mem_take hx)
    show hasP xs q i * hasR xs q i i = _
    rw [hasP_eq hq h i (by omega), hasR_prod hq h (by omega) i (by omega), take_snoc _ _ (show i < xs.length by omega), hasC_app hq ht (fun y hy => by
      rw [List.mem_singleton] at hy; rw [hy]; exact h _ (List.getElem_mem _)), hasC_one q hq (h _ (List.getElem_mem _)), getD_at _ _ (show i < xs.length by omega)]
    show _ = hasC q (xs.take i) * 1 * symV (prodI (xs.take i)) (xs[i] * 1) q
    rw [Int.mul_one, Int.mul_one]
theorem hasF_eq {xs : List Int} {q : Int} (hq : plI q = true) (h : NZ xs) : hasF xs q = hasC q xs := by
  unfold hasF
  rw [hasP_eq hq h _ (Nat.le_refl _), List.take_length]

theorem prodI_perm {xs ys : List Int} (h : xs.Perm ys) : prodI xs = prodI ys := by
  induction h with
  | nil => rfl
  | cons x _ ih => show x * _ = x * _; rw [ih]
  | swap x y l => show y * (x * prodI l) = x * (y * prodI l); exact Int.mul_left_comm ..
  | trans _ _ ih1 ih2 => rw [ih1, ih2]
theorem NZ.perm {xs ys : List Int} (h : xs.Perm ys) (hx : NZ xs) : NZ ys := fun y hy => hx y (h.mem_iff.2 hy)
theorem hasC_perm {q : Int} (hq : plI q = true) {xs ys : List Int} (h : xs.Perm ys) : NZ xs → hasC q xs = hasC q ys := by
  induction h with
  | nil => intro _; rfl
  | cons x hp ih =>
    intro hx
    show symV x _ q * hasC q _ = symV x _ q * hasC q _
    rw [ih hx.tail, prodI_perm hp]
  | swap x y l =>
    intro hx
    have hy0 := hx.head
    have hx0 := hx.tail.head
    have hl := hx.tail.tail.prod
    show symV y (x * prodI l) q * (symV x (prodI l) q * hasC q l) = symV x (y * prodI l) q * (symV y (prodI l) q * hasC q l)
    rw [symV_mul hy0 hx0 hl hq, symV_mul hx0 hy0 hl hq, symV_comm hy0 hx0 hq]
    simp only [Int.mul_assoc, Int.mul_comm, Int.mul_left_comm]
  | trans h1 _ ih1 ih2 => intro hx; rw [ih1 hx, ih2 (NZ.perm h1 hx)]
theorem less_perm {xs ys : List Int} (h : xs.Perm ys) : lessN xs = lessN ys := (h.filter _).length_eq
theorem less_app (xs ys : List Int) : lessN (xs ++ ys) = lessN xs + lessN ys := by unfold lessN; rw [List.filter_append, List.length_append]

/-- terms of the same classes -/
theorem prod_cls {q : Int} (hq : plI q = true) {f : Int → Int} (hf : ∀ x, x ≠ 0 → f x ≠ 0 ∧ cls (f x) q = cls x q) : ∀ {xs : List Int}, NZ xs → NZ (xs.map f) ∧ cls (prodI (xs.map f)) q = cls (prodI xs) q
  | [], _ => ⟨fun x hx => by simp at hx, rfl⟩
  | x :: xs, h => by
    obtain ⟨h1, h2⟩ := prod_cls hq hf h.tail
    obtain ⟨f1, f2⟩ := hf x h.head
    refine ⟨fun y hy => ?_, ?_⟩
    · rw [List.map_cons, List.mem_cons] at hy
      rcases hy with rfl | hy
      · exact f1
      · exact h1 y hy
    · show cls (f x * prodI (xs.map f)) q = cls (x * prodI xs) q
      rw [cls_mul f1 h1.prod hq, cls_mul h.head h.tail.prod hq, f2, h2]
theorem hasC_cls {q : Int} (hq : plI q = true) {f : Int → Int} (hf : ∀ x, x ≠ 0 → f x ≠ 0 ∧ cls (f x) q = cls x q) : ∀ {xs : List Int}, NZ xs → hasC q (xs.map f) = hasC q xs
  | [], _ => rfl
  | x :: xs, h => by
    show symV (f x) (prodI (xs.map f)) q * hasC q (xs.map f) = symV x (prodI xs) q * hasC q xs
    rw [hasC_cls hq hf h.tail, symV_congr (hf x h.head).2 (prod_cls hq hf h.tail).2]
theorem core_cls {n q : Int} (hn : n ≠ 0) (hq : plI q = true) : coreG n ≠ 0 ∧ cls (coreG n) q = cls n q := by
  have h := core_is hn
  have hc := h.ne hn
  refine ⟨hc, ?_⟩
  conv => rhs; rw [← h.eq]
  exact (cls_sqI hc (by have := h.pos; omega) hq).symm
theorem core_sign {n : Int} (hn : n ≠ 0) : (coreG n < 0 ↔ n < 0) := by
  have h := core_is hn
  have hr : (0 : Int) < (rootG n : Int) * rootG n := Int.mul_pos (by have := h.pos; omega) (by have := h.pos; omega)
  constructor
  · intro hc
    rw [← h.eq]
    exact Int.mul_neg_of_neg_of_pos hc hr
  · intro hc
    rcases Int.lt_or_le (coreG n) 0 with h1 | h1
    · exact h1
    · exfalso
      have h2 := Int.mul_nonneg h1 (Int.le_of_lt hr)
      rw [h.eq] at h2
      omega

/-- scaled by n: the invariant -/
theorem hasC_scale {q n : Int} (hq : plI q = true) (hn : n ≠ 0) : ∀ {xs : List Int}, NZ xs → NZ (xs.map (n * ·)) ∧
    (xs.length % 2 = 0 → cls (prodI (xs.map (n * ·))) q = cls (prodI xs) q) ∧ (xs.length % 2 = 1 → cls (prodI (xs.map (n * ·))) q = cls (n * prodI xs) q)
  | [], _ => ⟨fun x hx => by simp at hx, fun _ => rfl, fun h => by simp at h⟩
  | x :: xs, h => by
    obtain ⟨h1, h2, h3⟩ := hasC_scale hq hn h.tail
    have hx := h.head
    have hp := h.tail.prod
    refine ⟨fun y hy => ?_, fun hl => ?_, fun hl => ?_⟩
    · rw [List.map_cons, List.mem_cons] at hy
      rcases hy with rfl | hy
      · exact Int.mul_ne_zero hn hx
      · exact h1 y hy
    · show cls (n * x * prodI (xs.map (n * ·))) q = cls (x * prodI xs) q
      rw [List.length_cons] at hl
      rw [cls_mul (Int.mul_ne_zero hn hx) h1.prod hq, h3 (by omega), ← cls_mul (Int.mul_ne_zero hn hx) (Int.mul_ne_zero hn hp) hq,
        show n * x * (n * prodI xs) = x * prodI xs * (n * n) by simp only [Int.mul_assoc, Int.mul_comm, Int.mul_left_comm]]
      exact cls_sqI (Int.mul_ne_zero hx hp) hn hq
    · show cls (n * x * prodI (xs.map (n * ·))) q = cls (n * (x * prodI xs)) q
      rw [List.length_cons] at hl
      rw [cls_mul (Int.mul_ne_zero hn hx) h1.prod hq, h2 (by omega), ← cls_mul (Int.mul_ne_zero hn hx) hp hq, Int.mul_assoc]

/-- equal forms: the same at all places -/
theorem sq_cls {a b q : Int} (ha : a ≠ 0) (hb : b ≠ 0) (hq : plI q = true) : sqAt (a * b) q = true ↔ cls a q = cls b q := by
  rw [sq_mul ha hb hq, decide_eq_true_eq]

end Go.Proofs.Ytbhlgdleklfonab
