/-
  Some texts in one file: Mk2 Mk3 Mk4 Mk5 Mk6.
-/
import Derived.Test.YtjabklpnohfjpabQBun5
import Derived.Test.YtjabklpnohfjpabQBun8
import Derived.Test.YtjabklpnohfjpabQBun9
import Derived.Test.YtjabklpnohfjpabQBun38
import Derived.BigQuiet
import Derived.Maps.AppendAt
import Derived.RangeFuncBox
import Derived.Deep.OwnRows
/-! Mk2 -/
set_option linter.unusedVariables false
namespace Go.Proofs.Ytjabklpnohfjpab
open Go.RowKit

theorem all_eq_of {xs ys : List Int} (hl : xs.length = ys.length) (h : ∀ j, j < xs.length → xs.getD j 0 = ys.getD j 0) : xs = ys := by
  refine List.ext_getElem hl fun j h1 h2 => ?_
  have := h j h1
  simpa [List.getD, List.getElem?_eq_getElem h1, List.getElem?_eq_getElem h2] using this

theorem eqs_len {a b : Int} (h : a ≠ b) : (a != b) = true := by rw [bne_iff_ne]; exact h
theorem eqs_same {a b : Int} (h : a = b) : (a != b) = false := by rw [h]; simp

set_option maxHeartbeats 1000000 in
theorem eqIntS_any (v u : Value) (xs ys : List Int) (w : World) (hx : Rd w v xs) (hy : Rd w u ys) :
    Calls Try.prog 18 #[v, u] w fun e w' => e = .returned (.bool (decide (xs = ys))) ∧ ∃ k, w' = w.drewN k := by
  have form : ∀ {z : Value} {zs : List Int}, Rd w z zs → ∃ a cap, z = .slice a zs.length cap ∧ zs.length ≤ maxLen := by
    rintro z zs (⟨a, cap, rfl, rfl⟩ | ⟨b, o, cap, rfl, _, hm, _⟩)
    · exact ⟨a, cap, rfl, by simp⟩
    · exact ⟨_, _, rfl, hm⟩
  by_cases hl : xs.length = ys.length
  · rcases hx with ⟨a, cap, rfl, rfl⟩ | ⟨b, o, cap, rfl, hp, hm, hcx⟩
    · obtain ⟨a', cap', rfl, _⟩ := form hy
      have e : ys = [] := List.length_eq_zero_iff.1 hl.symm
      have HD : Hid (decide (([] : List Int) = ys) = true) := by show _ = _; rw [e]; rfl
      have HL : ys.length = 0 := hl.symm
      rw [HL]
      clear e hl HL hy
      go_enter Try.func18, Try.ntmps18
      go_wp2
      go_loop [5] (fun i => i = .int .i64 0) (fun _ => 0)
      case atStart => rfl
      case round =>
        obtain rfl := hrel
        go_wp2
        go_ret
        exact ⟨retB (by first | exact HD.out.symm | (rw [eq_comm]; exact HD.out.symm) | (have h := HD.out; simp at h; simp [← h])), 0, rfl⟩
    · rcases hy with ⟨a', cap', rfl, rfl⟩ | ⟨b', o', cap', rfl, _, _, hcy⟩
      · exact absurd hl (by simp; intro e; rw [e] at hp; simp at hp)
      · have T : ((xs.length : Int) != ys.length) = false := eqs_same (by omega)
        unfold maxLen at hm
        have HX := hid hcx
        have HY := hid hcy
        have HL := hid hl
        clear hcx hcy
        go_enter Try.func18, Try.ntmps18
        rw [← hl] at T ⊢
        clear hl
        go_wp2
        go_loopw [5] (fun i wr => ∃ K k : Nat, i = .int .i64 K ∧ K ≤ xs.length ∧ Hid (∀ j, j < K → xs.getD j 0 = ys.getD j 0) ∧ wr = w.drewN k) (fun i _ => xs.length - (intOf i).toNat)
        case atStart => exact ⟨0, 0, rfl, by omega, hid (by omega), rfl⟩
        case round =>
          obtain ⟨K, k, rfl, hK, HE, rfl⟩ := hrel
          by_cases hlt : K < xs.length
          · obtain ⟨x, hx⟩ : ∃ x, x = xs.getD K 0 := ⟨_, rfl⟩
            obtain ⟨y, hy⟩ : ∃ y, y = ys.getD K 0 := ⟨_, rfl⟩
            have c1 := HX.out K hlt
            have c2 := HY.out K (by have := HL.out; omega)
            rw [← hx] at c1
            rw [← hy] at c2
            have Hx := hid hx
            have Hy := hid hy
            clear hx hy
            have hi : (K : Int) < (xs.length : Int) := by omega
            by_cases hxy : x = y
            · have T2 : (x != y) = false := eqs_same hxy
              have HXY := hid hxy
              clear hxy
              go_wp2
              go_quiet (fail)
              go_wp2
              go_roundw
              case rel =>
                exact ⟨K + 1, _, by go_num, by omega, hid (by intro j hj; by_cases e : j = K; (· rw [e, ← Hx.out, ← Hy.out, HXY.out]); (· exact HE.out j (by omega))), by first | rfl | exact World.drewN_drewN ..⟩
              case measure => simp only [intOf]; omega
            · have T2 : (x != y) = true := eqs_len hxy
              have HXY := hid hxy
              clear hxy
              go_wp2
              go_quiet (fail)
              go_wp2
              go_ret
              refine ⟨retB (decide_eq_false fun e => HXY.out ?_).symm, _, by first | rfl | exact World.drewN_drewN ..⟩
              rw [Hx.out, Hy.out, e]
          · go_wp2
            go_ret
            refine ⟨retB (decide_eq_true (all_eq_of HL.out fun j hj => HE.out j (by omega))).symm, _, rfl⟩
  · obtain ⟨a, cap, rfl, m1⟩ := form hx
    obtain ⟨a', cap', rfl, m2⟩ := form hy
    have T : ((xs.length : Int) != ys.length) = true := eqs_len (by omega)
    have HD : Hid (decide (xs = ys) = false) := hid (decide_eq_false fun e => hl (by rw [e]))
    clear hl hx hy
    go_enter Try.func18, Try.ntmps18
    go_wp2
    go_ret
    exact ⟨retB HD.out.symm, 0, rfl⟩

/-- k, k + 1, .. -/
def marksL (k : Int) (n : Nat) : List Int := (List.range n).map (fun (i : Nat) => k + (i : Int))
theorem marksL_len (k : Int) (n : Nat) : (marksL k n).length = n := by simp [marksL]
theorem marksL_get (k : Int) (n i : Nat) (h : i < n) : (marksL k n).getD i 0 = k + i := by simp [marksL, List.getD, h]

set_option maxHeartbeats 1000000 in
theorem heldIntS_any (v : Value) (n : Nat) (k : Int) (hk : 0 ≤ k) (hk2 : k ≤ 1000000) (hn : n ≤ 1000000) (w : World) (hx : Rd w v (marksL k n)) :
    Calls Try.prog 33 #[v, .int .i64 k] w fun e w' => e = .returned (.int .i64 (k + n)) ∧ w = w' := by
  rcases hx with ⟨a, cap, rfl, h0⟩ | ⟨b, o, cap, rfl, hp, hm, hc⟩
  · obtain rfl : n = 0 := by have := marksL_len k n; rw [h0] at this; simpa using this.symm
    clear h0
    go_enter Try.func33, Try.ntmps33
    go_wp2
    go_loop [1, 5] (fun k' i => k' = .int .i64 k ∧ i = .int .i64 0) (fun _ _ => 0)
    case atStart => exact ⟨rfl, rfl⟩
    case round =>
      obtain ⟨rfl, rfl⟩ := hrel
      go_wp2
      go_ret
      exact ⟨retI (by simp), rfl⟩
  · rw [marksL_len] at *
    have HC := hid hc
    clear hc
    go_enter Try.func33, Try.ntmps33
    go_wp2
    go_loop [1, 5] (fun k' i => ∃ K : Nat, k' = .int .i64 (k + K) ∧ i = .int .i64 K ∧ K ≤ n) (fun _ i => n - (intOf i).toNat)
    case atStart => exact ⟨0, by simp, rfl, by omega⟩
    case round =>
      obtain ⟨K, rfl, rfl, hK⟩ := hrel
      by_cases hlt : K < n
      · have c1 := HC.out K (by omega)
        rw [marksL_get k n K hlt] at c1
        have T : ((k + (K : Int)) != k + K) = false := by simp
        have hi : (K : Int) < (n : Int) := by omega
        go_wp2
        go_round
        case rel => exact ⟨K + 1, vI (by push_cast; omega), by go_num, by omega⟩
        case measure => simp only [intOf]; omega
      · obtain rfl : K = n := by omega
        go_wp2
        go_ret
        exact ⟨rfl, rfl⟩

/-- the first i numbers are marked -/
def halfL (k : Int) (i : Nat) (xs : List Int) : List Int := marksL k i ++ xs.drop i
theorem halfL_len (k : Int) (i : Nat) (xs : List Int) (h : i ≤ xs.length) : (halfL k i xs).length = xs.length := by simp [halfL, marksL_len]; omega
theorem halfL_step (k : Int) (i : Nat) (xs : List Int) (h : i < xs.length) : (halfL k i xs).set i (k + i) = halfL k (i + 1) xs := by
  unfold halfL
  rw [List.set_append_right _ _ (by simp [marksL_len]), marksL_len, Nat.sub_self, List.drop_eq_getElem_cons h, List.set_cons_zero]
  simp [marksL, List.range_succ]
theorem halfL_end (k : Int) (xs : List Int) : halfL k xs.length xs = marksL k xs.length := by simp [halfL]

set_option maxHeartbeats 1000000 in
theorem markIntS_any (v : Value) (xs : List Int) (B : Nat) (k : Int) (hk : 0 ≤ k) (hk2 : k ≤ 1000000) (hn : xs.length ≤ 1000000) (w : World) (hx : Owns w B v xs) :
    Calls Try.prog 22 #[v, .int .i64 k] w fun e w' => e = .returned (.int .i64 (k + xs.length)) ∧ Owns w' B v (marksL k xs.length) ∧ Below B w w' := by
  by_cases h0 : xs.length = 0
  · have hx0 : xs = [] := List.length_eq_zero_iff.1 h0
    subst hx0
    have hf : ∃ a cap, v = .slice a 0 cap := by
      rcases hx.2 with ⟨rfl, _⟩ | ⟨g, cap, _, rfl, _⟩
      · exact ⟨_, _, rfl⟩
      · exact ⟨_, _, rfl⟩
    obtain ⟨a, cap, rfl⟩ := hf
    have HX := hid hx
    clear hx h0
    go_enter Try.func22, Try.ntmps22
    go_wp2
    go_loop [1, 5] (fun k' i => k' = .int .i64 k ∧ i = .int .i64 0) (fun _ _ => 0)
    case atStart => exact ⟨rfl, rfl⟩
    case round =>
      obtain ⟨rfl, rfl⟩ := hrel
      go_wp2
      go_ret
      exact ⟨retI (by simp), HX.out, Below.refl _ _⟩
  · have hf : ∃ g cap, v = .slice (some ⟨g, 0, none⟩) xs.length cap ∧ B ≤ g := by
      rcases hx.2 with ⟨_, h⟩ | ⟨g, cap, _, rfl, hg, _⟩
      · omega
      · exact ⟨g, cap, rfl, hg⟩
    obtain ⟨g, cap, rfl, hg⟩ := hf
    obtain ⟨n, hnx⟩ : ∃ n, n = xs.length := ⟨_, rfl⟩
    have HN := hid hnx
    rw [← hnx] at h0 hn ⊢
    have HX : Hid (Owns w B (.slice (some ⟨g, 0, none⟩) n cap) xs) := by rw [hnx]; exact hx
    clear hx hnx
    go_enter Try.func22, Try.ntmps22
    go_wp2
    go_loopw [1, 5] (fun k' i wr => ∃ K : Nat, k' = .int .i64 (k + K) ∧ i = .int .i64 K ∧ K ≤ n ∧ Hid (wr.ownsRow B 3 1 (.slice (some ⟨g, 0, none⟩) n cap) n ((halfL k K xs).map (Value.int .i64))) ∧ Below B w wr) (fun _ i _ => n - (intOf i).toNat)
    case atStart =>
      refine ⟨0, by simp, rfl, by omega, hid ?_, Below.refl _ _⟩
      have := HX.out
      unfold Owns at this
      rw [← HN.out] at this
      simpa [halfL, marksL] using this
    case round =>
      obtain ⟨K, rfl, rfl, hK, HO, hB⟩ := hrel
      by_cases hlt : K < n
      · have hl := halfL_len k K xs (by have := HN.out; omega)
        have c1 : wr.cell? ⟨g, K, none⟩ = some (.int .i64 ((halfL k K xs).getD K 0)) := by
          have hK2 : K < (halfL k K xs).length := by rw [hl, ← HN.out]; exact hlt
          rw [World.ownsRow.cellAt HO.out K (by omega), List.getElem?_map, List.getElem?_eq_getElem hK2]
          simp [List.getD, List.getElem?_eq_getElem hK2]
        obtain ⟨z, hz⟩ : ∃ z, z = (halfL k K xs).getD K 0 := ⟨_, rfl⟩
        rw [← hz] at c1
        have f1 := World.ownsRow.frozenAt HO.out K
        have hi : (K : Int) < (n : Int) := by omega
        have HS := hid (World.ownsRow.stored HO.out K (.int .i64 (k + K)))
        have HT := hid (halfL_step k K xs (by have := HN.out; omega))
        clear hz hl
        go_wp2
        go_roundw
        case rel =>
          refine ⟨K + 1, vI (by push_cast; omega), by go_num, by omega, hid ?_, hB.setCell (p := ⟨g, K, none⟩) hg _⟩
          have := HS.out.1
          rw [← HT.out, List.map_set]
          exact this
        case measure => simp only [intOf]; omega
      · obtain rfl : K = n := by omega
        go_wp2
        go_ret
        refine ⟨rfl, ?_, hB⟩
        have := HO.out
        unfold Owns
        rw [marksL_len]
        have e : halfL k K xs = marksL k K := by
          have h := halfL_end k xs
          rw [← HN.out] at h
          exact h
        rw [e] at this
        exact this

theorem grownBy_rf (w : World) (r : Option Nat) : w.grownBy w r := ⟨rfl, rfl, rfl, Nat.le_refl _, fun _ _ _ => rfl⟩
theorem grownBy_set (W : World) (b o : Nat) (v : Value) : W.grownBy (W.setCell ⟨b, o, none⟩ v) (some b) :=
  ⟨rfl, rfl, rfl, (KeepsWalks.setCell W _ v).size, fun k _ hk => Below.heap_setCell _ _ _ k (fun e => hk (by rw [e]))⟩
theorem Owns.kept {W W' : World} {B : Nat} {v : Value} {xs : List Int} {r : Option Nat} (h : Owns W B v xs) (hg : W.grownBy W' r) (hne : v.ownBlock = none ∨ v.ownBlock ≠ r) : Owns W' B v xs := World.ownsRow.kept h hg hne
/-- the elder of two lists of the call's own, and the younger one, lie apart -/
theorem elder_apart {x y : Value} {W : World} {C : Nat} {ys : List Int} (hlt : ∀ g, x.ownBlock = some g → g < C) (hy : Owns W C y ys) : y.ownBlock = none ∨ y.ownBlock ≠ x.ownBlock := by
  cases hb : y.ownBlock with
  | none => exact .inl rfl
  | some b =>
    right
    intro e
    have h1 := hlt b e.symm
    have h2 := hy.ge b hb
    omega
theorem younger_apart {x y : Value} {W : World} {C : Nat} {xs : List Int} (hlt : ∀ g, y.ownBlock = some g → g < C) (hx : Owns W C x xs) : y.ownBlock = none ∨ y.ownBlock ≠ x.ownBlock := by
  cases hb : y.ownBlock with
  | none => exact .inl rfl
  | some b =>
    right
    intro e
    have h1 := hlt b hb
    have h2 := hx.ge b e.symm
    omega

set_option maxHeartbeats 1000000 in
theorem markIntS2_any (v : Value) (xs : List Int) (B : Nat) (k : Int) (hk : 0 ≤ k) (hk2 : k ≤ 3000000) (hn : xs.length ≤ 3000000) (w : World) (hx : Owns w B v xs) :
    Calls Try.prog 22 #[v, .int .i64 k] w fun e w' => e = .returned (.int .i64 (k + xs.length)) ∧ Owns w' B v (marksL k xs.length) ∧ Below B w w' ∧ w.grownBy w' v.ownBlock := by
  by_cases h0 : xs.length = 0
  · have hx0 : xs = [] := List.length_eq_zero_iff.1 h0
    subst hx0
    have hf : ∃ a cap, v = .slice a 0 cap := by
      rcases hx.2 with ⟨rfl, _⟩ | ⟨g, cap, _, rfl, _⟩
      · exact ⟨_, _, rfl⟩
      · exact ⟨_, _, rfl⟩
    obtain ⟨a, cap, rfl⟩ := hf
    have HX := hid hx
    clear hx h0
    go_enter Try.func22, Try.ntmps22
    go_wp2
    go_loop [1, 5] (fun k' i => k' = .int .i64 k ∧ i = .int .i64 0) (fun _ _ => 0)
    case atStart => exact ⟨rfl, rfl⟩
    case round =>
      obtain ⟨rfl, rfl⟩ := hrel
      go_wp2
      go_ret
      exact ⟨retI (by simp), HX.out, Below.refl _ _, grownBy_rf _ _⟩
  · have hf : ∃ g cap, v = .slice (some ⟨g, 0, none⟩) xs.length cap ∧ B ≤ g := by
      rcases hx.2 with ⟨_, h⟩ | ⟨g, cap, _, rfl, hg, _⟩
      · omega
      · exact ⟨g, cap, rfl, hg⟩
    obtain ⟨g, cap, rfl, hg⟩ := hf
    obtain ⟨n, hnx⟩ : ∃ n, n = xs.length := ⟨_, rfl⟩
    have HN := hid hnx
    rw [← hnx] at h0 hn ⊢
    have HX : Hid (Owns w B (.slice (some ⟨g, 0, none⟩) n cap) xs) := by rw [hnx]; exact hx
    clear hx hnx
    go_enter Try.func22, Try.ntmps22
    go_wp2
    go_loopw [1, 5] (fun k' i wr => ∃ K : Nat, k' = .int .i64 (k + K) ∧ i = .int .i64 K ∧ K ≤ n ∧ Hid (wr.ownsRow B 3 1 (.slice (some ⟨g, 0, none⟩) n cap) n ((halfL k K xs).map (Value.int .i64))) ∧ Below B w wr ∧ Hid (w.grownBy wr (some g))) (fun _ i _ => n - (intOf i).toNat)
    case atStart =>
      refine ⟨0, by simp, rfl, by omega, hid ?_, Below.refl _ _, hid (grownBy_rf _ _)⟩
      have := HX.out
      unfold Owns at this
      rw [← HN.out] at this
      simpa [halfL, marksL] using this
    case round =>
      obtain ⟨K, rfl, rfl, hK, HO, hB, HG⟩ := hrel
      by_cases hlt : K < n
      · have hl := halfL_len k K xs (by have := HN.out; omega)
        have c1 : wr.cell? ⟨g, K, none⟩ = some (.int .i64 ((halfL k K xs).getD K 0)) := by
          have hK2 : K < (halfL k K xs).length := by rw [hl, ← HN.out]; exact hlt
          rw [World.ownsRow.cellAt HO.out K (by omega), List.getElem?_map, List.getElem?_eq_getElem hK2]
          simp [List.getD, List.getElem?_eq_getElem hK2]
        obtain ⟨z, hz⟩ : ∃ z, z = (halfL k K xs).getD K 0 := ⟨_, rfl⟩
        rw [← hz] at c1
        have f1 := World.ownsRow.frozenAt HO.out K
        have hi : (K : Int) < (n : Int) := by omega
        have HS := hid (World.ownsRow.stored HO.out K (.int .i64 (k + K)))
        have HT := hid (halfL_step k K xs (by have := HN.out; omega))
        clear hz hl
        go_wp2
        go_roundw
        case rel =>
          refine ⟨K + 1, vI (by push_cast; omega), by go_num, by omega, hid ?_, hB.setCell (p := ⟨g, K, none⟩) hg _, hid (HG.out.trans (grownBy_set _ g K _))⟩
          have := HS.out.1
          rw [← HT.out, List.map_set]
          exact this
        case measure => simp only [intOf]; omega
      · obtain rfl : K = n := by omega
        go_wp2
        go_ret
        refine ⟨rfl, ?_, hB, HG.out⟩
        have := HO.out
        unfold Owns
        rw [marksL_len]
        have e : halfL k K xs = marksL k K := by
          have h := halfL_end k xs
          rw [← HN.out] at h
          exact h
        rw [e] at this
        exact this

theorem Rd.keep2 {w w' : World} {v : Value} {xs : List Int} (h : Rd w v xs) (hb : Below w.heap.size w w') : Rd w' v xs := by
  rcases h with h | ⟨b, o, cap, hv, h0, hm, hc⟩
  · exact .inl h
  · refine .inr ⟨b, o, cap, hv, h0, hm, fun i hi => ?_⟩
    have hci := hc i hi
    obtain ⟨ob, ho, _⟩ := cells_of_cell hci
    have hlt : b < w.heap.size := (Array.getElem?_eq_some_iff.1 ho).1
    rw [hb.cell (p := ⟨b, o + i, none⟩) hlt]
    exact hci
theorem rowIs_owns {w : World} {b n B : Nat} {f : Nat → Value} {xs : List Int} (h : w.rowIs b 3 n f) (hn : n = xs.length) (hf : ∀ i, i < n → f i = .int .i64 (xs.getD i 0)) (hB : B ≤ b) (hm : n ≤ maxLen) : Owns w B (.slice (some ⟨b, 0, none⟩) n n) xs := by
  subst hn
  obtain ⟨c, hb, hs, hc⟩ := h
  refine ⟨by simp, .inr ⟨b, xs.length, c, rfl, hB, hb, Nat.le_refl _, hm, by rw [hs, Nat.mul_one], ?_⟩⟩
  rw [Nat.mul_one, List.take_of_length_le (by rw [Array.length_toList, hs]; exact Nat.le_refl _)]
  refine List.ext_getElem? fun i => ?_
  rw [Array.getElem?_toList]
  by_cases hi : i < xs.length
  · rw [hc i hi, hf i hi, List.getElem?_map, List.getElem?_eq_getElem hi, getD_at _ _ hi]; rfl
  · rw [List.getElem?_eq_none (by rw [List.length_map]; omega), Array.getElem?_eq_none (by omega)]

set_option maxRecDepth 100000 in
set_option maxHeartbeats 1000000 in
theorem toIntS_any (v : Value) (xs : List Int) (w : World) (h : Rd w v xs) (hl : xs.length ≤ 1048576) :
    Calls Try.prog 15 #[v] w fun e w' => ∃ u, e = .returned u ∧ Owns w' w.heap.size u xs ∧ Below w.heap.size w w' ∧ (∃ ad n c, u = .slice (some ad) n c) := by
  obtain ⟨i0, hi, hz0, hz1, hz2⟩ := info_parts infoInt
  have HH := hid h
  obtain ⟨a, cap, rfl, _⟩ := h.form
  obtain ⟨m, hm⟩ : ∃ m, m = xs.length := ⟨_, rfl⟩
  have HM := hid hm
  rw [← hm] at hl HH ⊢
  have HB0 := hid ((Below.refl w.heap.size w).alloc (Nat.le_refl _) (.cells (madeCells #[.int .i64 0] m) 3))
  have HR0 := hid (World.rowIs_made w (.int .i64 0) m 3)
  clear h hm
  go_enter Try.func15, Try.ntmps15
  go_wp2_with (at_make; refine wpList_make_row _ rfl _ _ 22 rfl 3 i0 (.int .i64 0) Try.underlying22 hi hz0 hz1 rfl .i64 .i64 m rfl rfl (by rw [hz2]; omega) (by omega) ?_)
  go_loopw [4] (fun si wr => ∃ K : Nat, si = .int .i64 K ∧ K ≤ m ∧ Hid (wr.rowIs w.heap.size 3 m (fun j => if j < K then .int .i64 (xs.getD j 0) else .int .i64 0)) ∧ Hid (Below w.heap.size w wr)) (fun si _ => m - (intOf si).toNat)
  case atStart => exact ⟨0, rfl, by omega, hid (HR0.out.congr (fun i hi => by simp)), HB0⟩
  case round =>
    obtain ⟨K, rfl, hK, HR, HB⟩ := hrel
    rename World => wr
    by_cases hlt : K < m
    · obtain ⟨a2, cap2, e2, hform⟩ := (HH.out.keep2 HB.out).form
      rw [← HM.out] at e2 hform
      cases e2
      obtain ⟨bb, o, rfl, hml, hc⟩ := hform (by omega)
      have c1 := hc K hlt
      have c2 := HR.out.cell hlt
      have f2 := HR.out.frozen K
      have hi0 : (K : Int) < (m : Int) := by omega
      obtain ⟨x, hx⟩ : ∃ x, x = xs.getD K 0 := ⟨_, rfl⟩
      rw [← hx] at c1
      have HS := hid ((HR.out.set K (.int .i64 x)).congr (g := fun j => if j < K + 1 then .int .i64 (xs.getD j 0) else .int .i64 0) (fun i hi => by
        by_cases e : i = K
        · rw [if_pos e, if_pos (by omega), e, hx]
        · rw [if_neg e]
          by_cases h : i < K
          · rw [if_pos h, if_pos (by omega)]
          · rw [if_neg h, if_neg (by omega)]))
      have HBs := hid (HB.out.setCell (p := ⟨w.heap.size, K, none⟩) (Nat.le_refl _) (.int .i64 x))
      have HLT := hid hlt
      rw [if_neg (by omega)] at c2
      unfold maxLen at hml
      clear hform hc hx hlt
      go_wp2_with fail
      go_roundw
      case measure => simp only [intOf]; have := HLT.out; omega
      case rel => exact ⟨K + 1, by go_num, by have := HLT.out; omega, HS, HBs⟩
    · obtain rfl : K = m := by omega
      have HO := hid (rowIs_owns (B := w.heap.size) HR.out HM.out (fun i hi => by rw [if_pos hi]) (Nat.le_refl _) (by unfold maxLen; omega))
      clear hlt
      go_wp2_with fail
      go_ret
      exact ⟨_, rfl, HO.out, HB.out, _, _, _, rfl⟩

theorem rd_row {w : World} {a : Option Addr} {len cap : Nat} {zs : List Int} (h : IsRow .i64 w a len cap zs) : ∃ xs : List Int, xs.length = len ∧ Rd w (.slice a len cap) xs := by
  rcases h with ⟨rfl, rfl, rfl, rfl⟩ | ⟨x, rfl, hl, hm, hz, hcell, hwz⟩
  · exact ⟨[], rfl, .inl ⟨_, _, rfl, rfl⟩⟩
  · refine ⟨zs.take len, by rw [List.length_take]; omega, ?_⟩
    by_cases h0 : len = 0
    · subst h0
      exact .inl ⟨_, _, rfl, by simp⟩
    · obtain ⟨b, off, spot⟩ := x
      have hspot : spot = none := by simpa [Addr.add] using World.cell?_spot (hcell 0 (by omega))
      subst hspot
      have hlen : (zs.take len).length = len := by rw [List.length_take]; omega
      refine .inr ⟨b, off, cap, by rw [hlen], by omega, by rw [hlen]; omega, fun i hi => ?_⟩
      rw [hlen] at hi
      have hc := hcell i (by omega)
      have hg : (zs.take len).getD i 0 = zs.getD i 0 := by
        rw [getD_at _ _ (by rw [hlen]; exact hi), getD_at _ _ (by omega), List.getElem_take]
      rw [hg]
      by_cases hi0 : i = 0
      · subst hi0; simpa [Addr.add] using hc
      · simpa [Addr.add, hi0] using hc
theorem fvalF (xs vs : List Int) : ∃ (x : Int) (c : Bool), fvalV xs vs = .tuple #[.int .i64 x, .bool c] := by
  unfold fvalV
  split
  · exact ⟨_, _, rfl⟩
  · exact ⟨_, _, rfl⟩
theorem signsF (xs : List Int) : ∃ (x : Int) (c : Bool), signsV xs = .tuple #[.int .i64 x, .bool c] := by
  unfold signsV
  split
  · exact ⟨_, _, rfl⟩
  · exact ⟨_, _, rfl⟩


end Go.Proofs.Ytjabklpnohfjpab

/-! Mk3 -/
set_option linter.unusedVariables false
namespace Go.Proofs.Ytjabklpnohfjpab
open Go.RowKit

theorem rows_eq {R S : List (List Int)} (hl : R.length = S.length) (h : ∀ j, j < R.length → R.getD j [] = S.getD j []) : R = S := by
  refine List.ext_getElem hl fun j h1 h2 => ?_
  have := h j h1
  simpa [List.getD, List.getElem?_eq_getElem h1, List.getElem?_eq_getElem h2] using this

theorem RdM.short {W : World} {v : Value} {R : List (List Int)} (h : RdM W v R) : R.length ≤ maxLen := by
  rcases Nat.eq_zero_or_pos R.length with e | e
  · rw [e]; exact Nat.zero_le _
  · obtain ⟨_, _, _, _, _, h, _⟩ := h
    obtain ⟨_, _, _, h, _⟩ := h e
    exact h
set_option maxRecDepth 100000 in
set_option maxHeartbeats 1000000 in
theorem eqIntSS_any (v u : Value) (R S : List (List Int)) (w : World) (hR : RdM w v R) (hS : RdM w u S) :
    Calls Try.prog 40 #[v, u] w fun e w' => e = .returned (.bool (decide (R = S))) ∧ ∃ k, w' = w.drewN k := by
  obtain ⟨a, ca, rfl⟩ := hR.form
  obtain ⟨b, cb, rfl⟩ := hS.form
  have HR := hid hR
  have HS := hid hS
  have hmx := hR.short
  unfold maxLen at hmx
  clear hR hS
  by_cases hl : R.length = S.length
  · have T : ((R.length : Int) != S.length) = false := eqs_same (by omega)
    have HL := hid hl
    rw [← hl] at HS T ⊢
    clear hl
    go_enter Try.func40, Try.ntmps40
    go_wp2
    go_loopw [5] (fun i wr => ∃ K : Nat, i = .int .i64 K ∧ K ≤ R.length ∧ Hid (∀ j, j < K → R.getD j [] = S.getD j []) ∧ Hid (∃ k, wr = w.drewN k)) (fun i _ => R.length - (intOf i).toNat)
    case atStart => exact ⟨0, rfl, by omega, hid (by omega), hid ⟨0, rfl⟩⟩
    case round =>
      obtain ⟨K, rfl, hK, HE, HW⟩ := hrel
      rename World => wr
      have hRr : RdM wr (.slice a R.length ca) R := by obtain ⟨k, rfl⟩ := HW.out; exact HR.out
      have hSr : RdM wr (.slice b R.length cb) S := by obtain ⟨k, rfl⟩ := HW.out; exact HS.out
      have HRr := hid hRr
      have HSr := hid hSr
      clear hRr hSr
      by_cases hlt : K < R.length
      · obtain ⟨b1, o1, x1, rfl, c1, r1⟩ := HRr.out.row hlt
        obtain ⟨b2, o2, x2, rfl, c2, r2⟩ := HSr.out.row (i := K) (by have := HL.out; omega)
        obtain ⟨x, hx⟩ : ∃ x, x = R.getD K [] := ⟨_, rfl⟩
        obtain ⟨y, hy⟩ : ∃ y, y = S.getD K [] := ⟨_, rfl⟩
        rw [← hx] at r1
        rw [← hy] at r2
        have HC := hid (fun m => eqIntS_any x1 x2 x y (wr.drewN m) r1 r2)
        obtain ⟨f1, d1, rfl, _⟩ := r1.form
        obtain ⟨f2, d2, rfl, _⟩ := r2.form
        have Hx := hid hx
        have Hy := hid hy
        have hi : (K : Int) < (R.length : Int) := by omega
        have HLT := hid hlt
        clear hx hy r1 r2
        by_cases hxy : x = y
        · have HXY := hid hxy
          simp only [decide_eq_true hxy] at HC
          clear hxy
          go_wp2
          go_quiet ((go_at_call 18; exact Calls.quiet_of (HC.out _)))
          go_wp2
          go_roundw
          case rel =>
            exact ⟨K + 1, by go_num, HLT.out, hid (by intro j hj; by_cases e : j = K; (· rw [e, ← Hx.out, ← Hy.out, HXY.out]); (· exact HE.out j (by omega))), hid (by obtain ⟨k, rfl⟩ := HW.out; exact ⟨_, World.drewN_drewN ..⟩)⟩
          case measure => simp only [intOf]; have := HLT.out; omega
        · have HXY := hid hxy
          simp only [decide_eq_false hxy] at HC
          clear hxy
          go_wp2
          go_quiet ((go_at_call 18; exact Calls.quiet_of (HC.out _)))
          go_wp2
          go_ret
          refine ⟨retB (decide_eq_false fun e => HXY.out ?_).symm, by obtain ⟨k, rfl⟩ := HW.out; exact ⟨_, World.drewN_drewN ..⟩⟩
          rw [Hx.out, Hy.out, e]
      · go_wp2
        go_ret
        exact ⟨retB (decide_eq_true (rows_eq HL.out fun j hj => HE.out j (by omega))).symm, HW.out⟩
  · have T : ((R.length : Int) != S.length) = true := eqs_len (by omega)
    have HD : Hid (decide (R = S) = false) := hid (decide_eq_false fun e => hl (by rw [e]))
    clear hl
    go_enter Try.func40, Try.ntmps40
    go_wp2
    go_ret
    exact ⟨retB HD.out.symm, 0, rfl⟩

set_option maxRecDepth 100000 in
set_option maxHeartbeats 1000000 in
theorem eqMove_any (v u : Value) (R S : List (List Int)) (c d : Int) (w : World) (hR : RdM w v R) (hS : RdM w u S) :
    Calls Try.prog 19 #[.agg #[v, .int .i64 c], .agg #[u, .int .i64 d]] w fun e w' => e = .returned (.bool (decide (R = S) && decide (c = d))) ∧ Below w.heap.size w w' := by
  obtain ⟨a, ca, rfl⟩ := hR.form
  obtain ⟨b, cb, rfl⟩ := hS.form
  have hb : Below w.heap.size w ((w.alloc (.cells #[.slice a R.length ca, .int .i64 c] 29)).alloc (.cells #[.slice b S.length cb, .int .i64 d] 29)) := (below_box2 _ _).alloc (by simp) _
  have HEQ : Hid (Calls Try.prog 40 #[.slice a R.length ca, .slice b S.length cb] ((w.alloc (.cells #[.slice a R.length ca, .int .i64 c] 29)).alloc (.cells #[.slice b S.length cb, .int .i64 d] 29)) fun e w' => e = .returned (.bool (decide (R = S))) ∧ Below ((w.alloc (.cells #[.slice a R.length ca, .int .i64 c] 29)).alloc (.cells #[.slice b S.length cb, .int .i64 d] 29)).heap.size ((w.alloc (.cells #[.slice a R.length ca, .int .i64 c] 29)).alloc (.cells #[.slice b S.length cb, .int .i64 d] 29)) w') := hid ((eqIntSS_any _ _ R S _ (hR.keep hb) (hS.keep hb)).mono (by rintro e w' ⟨rfl, k, rfl⟩; exact ⟨rfl, below_drewN (Below.refl _ _) k⟩))
  have HB := hid hb
  have H1 : Hid (((w.alloc (.cells #[.slice a R.length ca, .int .i64 c] 29)).alloc (.cells #[.slice b S.length cb, .int .i64 d] 29)).heap[w.heap.size]? = some (.cells #[.slice a R.length ca, .int .i64 c] 29 (0, 0))) := hid (heap_up (heap_new rfl))
  have H2 : Hid (((w.alloc (.cells #[.slice a R.length ca, .int .i64 c] 29)).alloc (.cells #[.slice b S.length cb, .int .i64 d] 29)).heap[w.heap.size + 1]? = some (.cells #[.slice b S.length cb, .int .i64 d] 29 (0, 0))) := hid (heap_new (by simp))
  clear hb hR hS
  cases hRS : decide (R = S) with
  | false =>
    rw [hRS] at HEQ
    clear hRS
    go_enter Try.func19, Try.ntmps19
    go_wp2_with fail
    refine HEQ.out.mono ?_
    rintro e w2 ⟨rfl, hb2⟩
    have HB2 := hid (HB.out.trans (hb2.mono HB.out.size))
    clear hb2
    go_wp2_with fail
    go_ret
    exact ⟨rfl, HB2.out⟩
  | true =>
    rw [hRS] at HEQ
    clear hRS
    by_cases hcd : c = d
    · have T : (c != d) = false := eqs_same hcd
      have HD := hid (decide_eq_true hcd)
      clear hcd
      go_enter Try.func19, Try.ntmps19
      go_wp2_with fail
      refine HEQ.out.mono ?_
      rintro e w2 ⟨rfl, hb2⟩
      have HB2 := hid (HB.out.trans (hb2.mono HB.out.size))
      have q1 := cellB (i := 1) (heap_below hb2 H1.out)
      have q2 := cellB (i := 1) (heap_below hb2 H2.out)
      clear hb2
      go_wp2_with fail
      go_ret
      exact ⟨retB (by rw [HD.out]; rfl), HB2.out⟩
    · have T : (c != d) = true := eqs_len hcd
      have HD := hid (decide_eq_false hcd)
      clear hcd
      go_enter Try.func19, Try.ntmps19
      go_wp2_with fail
      refine HEQ.out.mono ?_
      rintro e w2 ⟨rfl, hb2⟩
      have HB2 := hid (HB.out.trans (hb2.mono HB.out.size))
      have q1 := cellB (i := 1) (heap_below hb2 H1.out)
      have q2 := cellB (i := 1) (heap_below hb2 H2.out)
      clear hb2
      go_wp2_with fail
      go_ret
      exact ⟨retB (by rw [HD.out]; rfl), HB2.out⟩

end Go.Proofs.Ytjabklpnohfjpab

/-! Mk4 -/
set_option linter.unusedVariables false
namespace Go.Proofs.Ytjabklpnohfjpab
open Go.RowKit

/-- how many numbers the first rows hold -/
def preL (R : List (List Int)) : Nat → Nat
  | 0 => 0
  | i + 1 => preL R i + (R.getD i []).length
theorem preL_mono (R : List (List Int)) {i j : Nat} (h : i ≤ j) : preL R i ≤ preL R j := by
  induction j with
  | zero => rw [show i = 0 by omega]; exact Nat.le_refl _
  | succ j ih =>
    by_cases e : i = j + 1
    · rw [e]; exact Nat.le_refl _
    · have := ih (by omega)
      show preL R i ≤ preL R j + _
      omega
/-- k, k + 1, .. from row to row -/
def markR (k : Int) (R : List (List Int)) : List (List Int) := (List.range R.length).map fun i => marksL (k + (preL R i : Nat)) (R.getD i []).length
theorem markR_len (k : Int) (R : List (List Int)) : (markR k R).length = R.length := by simp [markR]
theorem markR_at (k : Int) (R : List (List Int)) {i : Nat} (h : i < R.length) : (markR k R).getD i [] = marksL (k + (preL R i : Nat)) (R.getD i []).length := by simp [markR, List.getD, h]

set_option maxRecDepth 100000 in
set_option maxHeartbeats 1000000 in
theorem heldIntSS_any (v : Value) (R : List (List Int)) (k : Int) (hk : 0 ≤ k) (hk2 : k ≤ 100000) (hn : preL R R.length ≤ 100000) (w : World) (hx : RdM w v (markR k R)) :
    Calls Try.prog 44 #[v, .int .i64 k] w fun e w' => e = .returned (.int .i64 (k + (preL R R.length : Nat))) ∧ w = w' := by
  obtain ⟨a, cap, rfl⟩ := hx.form
  have hmx := hx.short
  unfold maxLen at hmx
  rw [markR_len] at hx hmx ⊢
  have HX := hid hx
  have HN := hid hn
  clear hx hn
  go_enter Try.func44, Try.ntmps44
  go_wp2
  go_loop [1, 5] (fun k' i => ∃ K : Nat, k' = .int .i64 (k + (preL R K : Nat)) ∧ i = .int .i64 K ∧ K ≤ R.length) (fun _ i => R.length - (intOf i).toNat)
  case atStart => exact ⟨0, by simp [preL], rfl, by omega⟩
  case round =>
    obtain ⟨K, rfl, rfl, hK⟩ := hrel
    by_cases hlt : K < R.length
    · obtain ⟨b1, o1, x1, rfl, c1, r1⟩ := HX.out.row (i := K) (by rw [markR_len]; exact hlt)
      rw [markR_at k R hlt] at r1
      have hp1 := preL_mono R (show K ≤ R.length by omega)
      have hp2 := preL_mono R (show K + 1 ≤ R.length by omega)
      have hp3 : preL R (K + 1) = preL R K + (R.getD K []).length := rfl
      have HP3 := hid hp3
      obtain ⟨n, hn⟩ : ∃ n, n = (R.getD K []).length := ⟨_, rfl⟩
      obtain ⟨p, hp⟩ : ∃ p, p = preL R K := ⟨_, rfl⟩
      rw [← hn, ← hp] at HP3
      rw [← hn, ← hp] at r1
      have hN := HN.out
      have HC := hid (heldIntS_any x1 n (k + (p : Nat)) (by omega) (by omega) (by omega) _ r1)
      obtain ⟨f1, d1, rfl, _⟩ := r1.form
      rw [← hp]
      have hi : (K : Int) < (R.length : Int) := by omega
      have HLT := hid hlt
      have hge : ¬ (k + (p : Int) + (n : Int) < 0) := by omega
      clear r1 hp1 hp2 hp3 hn hp hN
      go_wp2_with fail
      refine HC.out.mono ?_
      rintro e w' ⟨rfl, rfl⟩
      go_wp2_with fail
      go_round
      case rel => exact ⟨K + 1, vI (by rw [HP3.out]; push_cast; omega), by go_num, HLT.out⟩
      case measure => simp only [intOf]; have := HLT.out; omega
    · obtain rfl : K = R.length := by omega
      clear hlt
      go_wp2_with fail
      go_ret
      exact ⟨rfl, rfl⟩

/-- a list of lists of one's own, all its blocks below C -/
structure OwnC (W : World) (B C : Nat) (v : Value) (R : List (List Int)) (vals : List Value) : Prop where
  len : vals.length = R.length
  own : World.ownsRow W B 22 1 v R.length vals
  top : ∀ k, v.ownBlock = some k → k < C
  row : ∀ i, i < R.length → Owns W B (vals.getD i undef) (R.getD i []) ∧ ∀ k, (vals.getD i undef).ownBlock = some k → k < C ∧ v.ownBlock ≠ some k
  apart : ∀ i j k, i < j → j < R.length → (vals.getD i undef).ownBlock = some k → (vals.getD j undef).ownBlock ≠ some k
theorem OwnM.ownC {W : World} {B : Nat} {v : Value} {R : List (List Int)} (h : OwnM W B none v R) : ∃ vals, OwnC W B W.heap.size v R vals := by
  obtain ⟨vals, hl, ho, hx, hr, hd⟩ := h.own
  exact ⟨vals, hl, ho, fun k e => (World.ownsRow.lt ho k e).2, fun i hi => ⟨(hr i hi).1, fun k e => ⟨(hr i hi).1.lt k e, ((hr i hi).2 k e).1⟩⟩, hd⟩
theorem OwnC.ownM {W : World} {B C : Nat} {v : Value} {R : List (List Int)} {vals : List Value} (h : OwnC W B C v R vals) : OwnM W B none v R :=
  ⟨vals, h.len, h.own, fun _ _ => by simp, fun i hi => ⟨(h.row i hi).1, fun k e => ⟨((h.row i hi).2 k e).2, by simp⟩⟩, h.apart⟩
theorem OwnC.rd {W : World} {B C : Nat} {v : Value} {R : List (List Int)} {vals : List Value} (h : OwnC W B C v R vals) : RdM W v R := h.ownM.rd
theorem OwnC.at_blocks {W W' : World} {B C : Nat} {v : Value} {R : List (List Int)} {vals : List Value} (h : OwnC W B C v R vals) (hb : ∀ g, B ≤ g → g < C → W'.heap[g]? = W.heap[g]?) : OwnC W' B C v R vals :=
  ⟨h.len, row_at_block h.own fun g e => hb g (World.ownsRow.lt h.own g e).1 (h.top g e), h.top, fun i hi => ⟨(h.row i hi).1.at_block fun g e => hb g ((h.row i hi).1.ge g e) ((h.row i hi).2 g e).1, (h.row i hi).2⟩, h.apart⟩

set_option maxRecDepth 100000 in
set_option maxHeartbeats 1000000 in
theorem markIntSS_any (v : Value) (R : List (List Int)) (vals : List Value) (B C : Nat) (k : Int) (hk : 0 ≤ k) (hk2 : k + (preL R R.length : Nat) ≤ 3000000) (hn : preL R R.length ≤ 1048576) (w : World) (hx : OwnC w B C v R vals) :
    Calls Try.prog 41 #[v, .int .i64 k] w fun e w' => e = .returned (.int .i64 (k + (preL R R.length : Nat))) ∧ OwnC w' B C v (markR k R) vals ∧ Below B w w' ∧ ∀ g, C ≤ g → g < w.heap.size → w'.heap[g]? = w.heap[g]? := by
  obtain ⟨a, cap, rfl⟩ := hx.rd.form
  have hmx := hx.rd.short
  unfold maxLen at hmx
  have HX := hid hx
  have HN := hid hn
  clear hx hn
  go_enter Try.func41, Try.ntmps41
  go_wp2
  go_loopw [1, 5] (fun k' i wr => ∃ K : Nat, k' = .int .i64 (k + (preL R K : Nat)) ∧ i = .int .i64 K ∧ K ≤ R.length ∧ Hid (World.ownsRow wr B 22 1 (.slice a R.length cap) R.length vals) ∧ Hid (∀ i, i < R.length → Owns wr B (vals.getD i undef) (if i < K then marksL (k + (preL R i : Nat)) (R.getD i []).length else R.getD i [])) ∧ Hid (Below B w wr) ∧ Hid (∀ g, C ≤ g → g < w.heap.size → wr.heap[g]? = w.heap[g]?)) (fun _ i _ => R.length - (intOf i).toNat)
  case atStart => exact ⟨0, by simp [preL], rfl, by omega, hid HX.out.own, hid (fun i hi => by rw [if_neg (by omega)]; exact (HX.out.row i hi).1), hid (Below.refl _ _), hid (fun g _ _ => rfl)⟩
  case round =>
    obtain ⟨K, rfl, rfl, hK, HO, HR, HB, HU⟩ := hrel
    rename World => wr
    by_cases hlt : K < R.length
    · have hrow := HR.out K hlt
      rw [if_neg (by omega)] at hrow
      have hcell : ∃ b o, a = some ⟨b, o, none⟩ ∧ wr.cell? ⟨b, o + K, none⟩ = some (vals.getD K undef) := by
        rcases HO.out.2 with ⟨_, h4⟩ | ⟨g, cp, cur, h3, hg, hh, _⟩
        · have h4 : R.length = 0 := h4
          omega
        · simp only [Value.slice.injEq] at h3
          obtain ⟨rfl, _, rfl⟩ := h3
          refine ⟨g, 0, rfl, ?_⟩
          rw [Nat.zero_add, World.ownsRow.cellAt HO.out K (by omega), List.getElem?_eq_getElem (by rw [HX.out.len]; exact hlt)]
          simp [List.getD, List.getElem?_eq_getElem (show K < vals.length by rw [HX.out.len]; exact hlt)]
      obtain ⟨b, o, rfl, hc⟩ := hcell
      have hp1 := preL_mono R (show K ≤ R.length by omega)
      have hp2 := preL_mono R (show K + 1 ≤ R.length by omega)
      have hp3 : preL R (K + 1) = preL R K + (R.getD K []).length := rfl
      have HP3 := hid hp3
      have hN := HN.out
      obtain ⟨xs, hxs⟩ : ∃ xs, xs = R.getD K [] := ⟨_, rfl⟩
      obtain ⟨p, hp⟩ : ∃ p, p = preL R K := ⟨_, rfl⟩
      obtain ⟨u, hu⟩ : ∃ u, u = vals.getD K undef := ⟨_, rfl⟩
      rw [← hxs, ← hu] at hrow
      rw [← hu] at hc
      rw [← hxs, ← hp] at HP3 hp3
      rw [← hp] at hp1
      have HC := hid (markIntS2_any u xs B (k + (p : Nat)) (by omega) (by omega) (by omega) _ hrow)
      have HU0 := hid hu
      have HXS := hid hxs
      have HPE := hid hp
      obtain ⟨f1, d1, rfl⟩ := hrow.reads
      have hi : (K : Int) < (R.length : Int) := by omega
      have HLT := hid hlt
      rw [← hp]
      clear hrow hp1 hp2 hp3 hxs hp hu hN
      go_wp2_with fail
      refine HC.out.mono ?_
      rintro e w' ⟨rfl, ho, hb, hg⟩
      have HO2 := hid ho
      have HB2 := hid (HB.out.trans hb)
      have HG := hid hg
      clear ho hb hg
      go_wp2_with fail
      go_roundw
      case rel =>
        refine ⟨K + 1, vI (by rw [HP3.out]; push_cast; omega), by go_num, HLT.out, hid ?_, hid fun i hi => ?_, HB2, hid fun g h1 h2 => ?_⟩
        · refine World.ownsRow.kept HO.out HG.out ?_
          cases e : (Value.slice (some ⟨b, o, none⟩) R.length cap).ownBlock with
          | none => exact .inl rfl
          | some q =>
            right
            intro e2
            rw [HU0.out] at e2
            exact ((HX.out.row K HLT.out).2 q e2.symm).2 e
        · by_cases e : i = K
          · subst e
            rw [if_pos (Nat.lt_succ_self _), ← HU0.out, ← HXS.out, ← HPE.out]
            exact HO2.out
          · have h := HR.out i hi
            rw [show (if i < K + 1 then marksL (k + (preL R i : Nat)) (R.getD i []).length else R.getD i []) = (if i < K then marksL (k + (preL R i : Nat)) (R.getD i []).length else R.getD i []) by
              by_cases h1 : i < K
              · rw [if_pos h1, if_pos (by omega)]
              · rw [if_neg h1, if_neg (by omega)]]
            refine h.kept HG.out ?_
            rw [HU0.out]
            cases e3 : (vals.getD i undef).ownBlock with
            | none => exact .inl rfl
            | some q =>
              right
              intro e2
              rcases Nat.lt_or_gt_of_ne e with h1 | h1
              · exact HX.out.apart i K q h1 HLT.out e3 e2.symm
              · exact HX.out.apart K i q h1 hi e2.symm e3
        · have hsz := HB.out.size
          rw [HG.out.block g (by omega) (fun e => ?_), HU.out g h1 h2]
          rw [HU0.out] at e
          have := ((HX.out.row K HLT.out).2 g e.symm).1
          omega
      case measure => simp only [intOf]; have := HLT.out; omega
    · obtain rfl : K = R.length := by omega
      clear hlt
      go_wp2_with fail
      go_ret
      refine ⟨rfl, ⟨by rw [markR_len]; exact HX.out.len, by rw [markR_len]; exact HO.out, HX.out.top, fun i hi => ?_, fun i j q h1 h2 => HX.out.apart i j q h1 (by rw [markR_len] at h2; exact h2)⟩, HB.out, HU.out⟩
      rw [markR_len] at hi
      have h := HR.out i hi
      rw [if_pos hi] at h
      rw [markR_at k R hi]
      exact ⟨h, (HX.out.row i hi).2⟩

end Go.Proofs.Ytjabklpnohfjpab

/-! Mk5 -/
set_option linter.unusedVariables false
namespace Go.Proofs.Ytjabklpnohfjpab
open Go.RowKit

set_option maxRecDepth 100000 in
set_option maxHeartbeats 1000000 in
theorem szIntS_any (v : Value) (xs : List Int) (n : Int) (h1 : 0 ≤ n) (h2 : n ≤ 1048576) (w : World) (h : Rd w v xs) :
    Calls Try.prog 73 #[v, .int .i64 n] w fun e w' => e = .returned (.int .i64 (if n < xs.length then -1 else n - xs.length)) ∧ w = w' := by
  obtain ⟨a, cap, rfl, hf⟩ := h.form
  have hmx : xs.length ≤ maxLen := by
    rcases Nat.eq_zero_or_pos xs.length with e | e
    · rw [e]; exact Nat.zero_le _
    · obtain ⟨_, _, _, hm, _⟩ := hf e; exact hm
  unfold maxLen at hmx
  have f : IntKind.i64.wrap (n - (xs.length : Int)) = n - (xs.length : Int) := by rw [IntKind.wrap_i64]; omega
  clear h hf
  by_cases hlt : n < (xs.length : Int)
  · rw [if_pos hlt]
    have hl2 : n - (xs.length : Int) < 0 := by omega
    clear hlt
    go_enter Try.func73, Try.ntmps73
    go_wp2_with fail
    go_ret
    exact ⟨rfl, rfl⟩
  · rw [if_neg hlt]
    have hl2 : ¬ (n - (xs.length : Int) < 0) := by omega
    clear hlt
    go_enter Try.func73, Try.ntmps73
    go_wp2_with fail
    go_ret
    exact ⟨rfl, rfl⟩

set_option maxRecDepth 100000 in
set_option maxHeartbeats 1000000 in
theorem szIntSS_any (v : Value) (R : List (List Int)) (n : Int) (h1 : 0 ≤ n) (h2 : n ≤ 1048576) (w : World) (h : RdM w v R) :
    Calls Try.prog 36 #[v, .int .i64 n] w fun e w' => w = w' ∧ (e = .returned (.int .i64 (-1)) ∨ ((R.length : Int) + (preL R R.length : Nat) ≤ n ∧ e = .returned (.int .i64 (n - (R.length : Int) - (preL R R.length : Nat))))) := by
  obtain ⟨a, cap, rfl⟩ := h.form
  have hmx := h.short
  unfold maxLen at hmx
  have HX := hid h
  have f : IntKind.i64.wrap (n - (R.length : Int)) = n - (R.length : Int) := by rw [IntKind.wrap_i64]; omega
  clear h
  by_cases hlt : n < (R.length : Int)
  · have hl2 : n - (R.length : Int) < 0 := by omega
    clear hlt
    go_enter Try.func36, Try.ntmps36
    go_wp2_with fail
    go_ret
    exact ⟨rfl, .inl rfl⟩
  · have hl2 : ¬ (n - (R.length : Int) < 0) := by omega
    clear hlt
    go_enter Try.func36, Try.ntmps36
    go_wp2_with fail
    go_loop [1, 5] (fun k' i => ∃ (K : Nat) (x : Int), k' = .int .i64 x ∧ i = .int .i64 K ∧ K ≤ R.length ∧ 0 ≤ x ∧ x ≤ 1048576 ∧ Hid (x = n - (R.length : Int) - (preL R K : Nat))) (fun _ i => R.length - (intOf i).toNat)
    case atStart => exact ⟨0, _, rfl, rfl, by omega, by omega, by omega, hid (by simp [preL])⟩
    case round =>
      obtain ⟨K, x, rfl, rfl, hK, hx0, hx1, HXE⟩ := hrel
      by_cases hlt : K < R.length
      · obtain ⟨b1, o1, x1, rfl, c1, r1⟩ := HX.out.row (i := K) hlt
        have HC := hid (szIntS_any x1 (R.getD K []) x hx0 hx1 _ r1)
        have hp3 : preL R (K + 1) = preL R K + (R.getD K []).length := rfl
        have HP3 := hid hp3
        obtain ⟨f1, d1, rfl, _⟩ := r1.form
        have hi : (K : Int) < (R.length : Int) := by omega
        have HLT := hid hlt
        obtain ⟨q, hq⟩ : ∃ q, q = (R.getD K []).length := ⟨_, rfl⟩
        rw [← hq] at HC HP3 c1
        clear r1 hp3 hq
        by_cases hxq : x < (q : Int)
        · simp only [if_pos hxq] at HC
          clear hxq
          go_wp2_with fail
          refine HC.out.mono ?_
          rintro e w' ⟨rfl, rfl⟩
          go_wp2_with fail
          go_ret
          exact ⟨rfl, .inl rfl⟩
        · simp only [if_neg hxq] at HC
          have hge : ¬ (x - (q : Int) < 0) := by omega
          have hge2 : 0 ≤ x - (q : Int) := by omega
          have hge3 : x - (q : Int) ≤ 1048576 := by omega
          clear hxq
          go_wp2_with fail
          refine HC.out.mono ?_
          rintro e w' ⟨rfl, rfl⟩
          go_wp2_with fail
          go_round
          case rel => exact ⟨K + 1, x - (q : Int), rfl, by go_num, HLT.out, hge2, hge3, hid (by rw [HP3.out, HXE.out]; push_cast; omega)⟩
          case measure => simp only [intOf]; have := HLT.out; omega
      · obtain rfl : K = R.length := by omega
        clear hlt
        go_wp2_with fail
        go_ret
        refine ⟨rfl, .inr ⟨?_, ?_⟩⟩
        · have := HXE.out
          omega
        · exact retI HXE.out

theorem rowIs_own {w : World} {b n B : Nat} {t : TypeId} {f : Nat → Value} {vals : List Value} (h : w.rowIs b t n f) (hn : n = vals.length) (hf : ∀ i, i < n → f i = vals.getD i undef) (hB : B ≤ b) (hm : n ≤ maxLen) : World.ownsRow w B t 1 (.slice (some ⟨b, 0, none⟩) n n) n vals := by
  subst hn
  obtain ⟨c, hb, hs, hc⟩ := h
  refine ⟨by simp, .inr ⟨b, vals.length, c, rfl, hB, hb, Nat.le_refl _, hm, by rw [hs, Nat.mul_one], ?_⟩⟩
  rw [Nat.mul_one, List.take_of_length_le (by rw [Array.length_toList, hs]; exact Nat.le_refl _)]
  refine List.ext_getElem? fun i => ?_
  rw [Array.getElem?_toList]
  by_cases hi : i < vals.length
  · rw [hc i hi, hf i hi, List.getElem?_eq_getElem hi]
    simp [List.getD, List.getElem?_eq_getElem hi]
  · rw [List.getElem?_eq_none (by omega), Array.getElem?_eq_none (by omega)]
theorem rowIs_block {w w' : World} {b n : Nat} {t : TypeId} {f : Nat → Value} (h : w.rowIs b t n f) (hb : w'.heap[b]? = w.heap[b]?) : w'.rowIs b t n f := by
  obtain ⟨c, h1, h2, h3⟩ := h
  exact ⟨c, hb.trans h1, h2, h3⟩

set_option maxRecDepth 100000 in
set_option maxHeartbeats 2000000 in
theorem toIntSS_any (v : Value) (R : List (List Int)) (w : World) (h : RdM w v R) (hl : R.length ≤ 1048576) (hr : ∀ i, i < R.length → (R.getD i []).length ≤ 1048576) :
    Calls Try.prog 38 #[v] w fun e w' => ∃ u, e = .returned u ∧ OwnM w' w.heap.size none u R ∧ Below w.heap.size w w' ∧ (∃ ad n c, u = .slice (some ad) n c) := by
  obtain ⟨i1, hi1, hy0, hy1, hy2⟩ := info_parts infoRow
  obtain ⟨a, cap, rfl⟩ := h.form
  obtain ⟨m, hm⟩ : ∃ m, m = R.length := ⟨_, rfl⟩
  have HH := hid h
  have HM := hid hm
  have HRL := hid hr
  rw [← hm] at hl HH ⊢
  have HB0 := hid ((Below.refl w.heap.size w).alloc (Nat.le_refl _) (.cells (madeCells #[.slice none 0 0] m) 22))
  have HR0 := hid (World.rowIs_made w (.slice none 0 0) m 22)
  have HS0 : Hid (w.heap.size + 1 ≤ (w.alloc (.cells (madeCells #[.slice none 0 0] m) 22)).heap.size) := hid (by simp)
  clear h hm hr
  go_enter Try.func38, Try.ntmps38
  go_wp2_with (at_make; refine wpList_make_row _ rfl _ _ 23 rfl 22 i1 (.slice none 0 0) Try.underlying23 hi1 hy0 hy1 rfl .i64 .i64 m rfl rfl (by rw [hy2]; omega) (by omega) ?_)
  go_loopw [4] (fun si wr => ∃ (K : Nat) (vs : List Value), si = .int .i64 K ∧ K ≤ m ∧ Hid (vs.length = K) ∧ Hid (wr.rowIs w.heap.size 22 m (fun j => if j < K then vs.getD j undef else .slice none 0 0)) ∧ Hid (∀ i, i < K → Owns wr (w.heap.size + 1) (vs.getD i undef) (R.getD i [])) ∧ Hid (∀ i j k, i < j → j < K → (vs.getD i undef).ownBlock = some k → (vs.getD j undef).ownBlock ≠ some k) ∧ Hid (w.heap.size + 1 ≤ wr.heap.size) ∧ Hid (Below w.heap.size w wr)) (fun si _ => m - (intOf si).toNat)
  case atStart => exact ⟨0, [], rfl, by omega, hid rfl, hid (HR0.out.congr (fun i hi => by simp)), hid (fun i hi => by omega), hid (fun i j k h1 h2 => by omega), HS0, HB0⟩
  case round =>
    obtain ⟨K, vs, rfl, hK, HL, HR, HO, HA, HS, HB⟩ := hrel
    rename World => wr
    by_cases hlt : K < m
    · obtain ⟨b1, o1, x1, e1, c1, r1⟩ := RdM.row (HH.out.keep HB.out) (i := K) (by rw [← HM.out]; exact hlt)
      obtain rfl := e1
      have HC := hid (toIntS_any x1 (R.getD K []) wr r1 (HRL.out K (by rw [← HM.out]; exact hlt)))
      obtain ⟨f1, d1, rfl, _⟩ := r1.form
      have hi0 : (K : Int) < (m : Int) := by omega
      have HLT := hid hlt
      obtain ⟨zs, hzs⟩ : ∃ zs, zs = R.getD K [] := ⟨_, rfl⟩
      rw [← hzs] at HC c1
      have HZS := hid hzs
      clear r1 hzs hlt
      go_wp2_with fail
      refine HC.out.mono ?_
      rintro e w2 ⟨u, rfl, ho, hb, ad, un, uc, hu⟩
      have hs := HS.out
      have hsz := hb.size
      have hr2 := rowIs_block HR.out (hb.block w.heap.size (by omega))
      have c2 := hr2.cell HLT.out
      rw [if_neg (by omega)] at c2
      have f2 := hr2.frozen K
      have HS2 := hid ((hr2.set K u).congr (g := fun j => if j < K + 1 then (vs ++ [u]).getD j undef else .slice none 0 0) (fun i hi => by
        by_cases e : i = K
        · rw [if_pos e, if_pos (by omega), e]
          have h := getD_snoc_new vs u undef
          rw [HL.out] at h
          exact h.symm
        · rw [if_neg e]
          by_cases h : i < K
          · rw [if_pos h, if_pos (by omega), getD_snoc_old _ _ _ (by rw [HL.out]; exact h)]
          · rw [if_neg h, if_neg (by omega)]))
      have HU := hid ho
      have HBW := hid hb
      have HBs := hid ((HB.out.trans (hb.mono HB.out.size)).setCell (p := ⟨w.heap.size, K, none⟩) (Nat.le_refl _) u)
      have HUN := hid hu
      subst hu
      clear ho hb hr2 hs hsz
      go_wp2_with fail
      go_roundw
      case measure => simp only [intOf]; have := HLT.out; omega
      case rel =>
        have hl := HL.out
        have hsz := HBW.out.size
        have hs := HS.out
        refine ⟨K + 1, vs ++ [.slice (some ad) un uc], by go_num, HLT.out, hid (by rw [List.length_append, hl]; rfl), HS2, hid fun i hi => ?_, hid fun i j k h1 h2 => ?_, hid (by simp; omega), HBs⟩
        · by_cases e : i < K
          · rw [getD_snoc_old _ _ _ (by omega)]
            refine (HO.out i e).at_block fun g eg => ?_
            have h3 := (HO.out i e).ge g eg
            have h4 := (HO.out i e).lt g eg
            rw [Below.heap_setCell _ _ _ g (by show g ≠ w.heap.size; omega)]
            exact HBW.out.block g h4
          · obtain rfl : i = K := by omega
            rw [← hl, getD_snoc_new, hl, ← HZS.out]
            refine (HU.out.down (B := w.heap.size + 1) hs).at_block fun g eg => ?_
            have h3 := HU.out.ge g eg
            rw [Below.heap_setCell _ _ _ g (by show g ≠ w.heap.size; omega)]
        · rw [getD_snoc_old _ _ _ (by omega)]
          by_cases e : j < K
          · rw [getD_snoc_old _ _ _ (by omega)]
            exact HA.out i j k h1 e
          · obtain rfl : j = K := by omega
            intro e1 e2
            rw [← hl, getD_snoc_new] at e2
            have h3 := (HO.out i h1).lt k e1
            have h4 := HU.out.ge k e2
            omega
    · obtain rfl : K = m := by omega
      have HROW := hid (rowIs_own (B := w.heap.size) HR.out HL.out.symm (fun i hi => by rw [if_pos hi]) (Nat.le_refl _) (by unfold maxLen; omega))
      clear hlt
      go_wp2_with fail
      go_ret
      refine ⟨_, rfl, ⟨vs, by rw [HL.out, HM.out], by rw [← HM.out]; exact HROW.out, fun _ _ => by simp, fun i hi => ⟨(HO.out i (by rw [HM.out]; exact hi)).down (Nat.le_succ _), fun k e => ⟨fun e2 => ?_, by simp⟩⟩, fun i j k h1 h2 => HA.out i j k h1 (by rw [HM.out]; exact h2)⟩, HB.out, _, _, _, rfl⟩
      have h3 := (HO.out i (by rw [HM.out]; exact hi)).ge k e
      have e3 : w.heap.size = k := by simpa [Value.ownBlock] using e2
      omega

end Go.Proofs.Ytjabklpnohfjpab

/-! Mk6 -/
set_option linter.unusedVariables false
namespace Go.Proofs.Ytjabklpnohfjpab
open Go.RowKit

theorem below_box3 (w : World) (o : Obj) : Below w.heap.size w (w.alloc o) := (Below.refl _ _).alloc (Nat.le_refl _) _
set_option maxRecDepth 100000 in
set_option maxHeartbeats 1000000 in
theorem heldMove_any (v : Value) (R : List (List Int)) (d k : Int) (hk : 0 ≤ k) (hk2 : k ≤ 100000) (hn : preL R R.length ≤ 100000) (w : World) (hx : RdM w v (markR k R)) :
    Calls Try.prog 24 #[.agg #[v, .int .i64 d], .int .i64 k] w fun e w' => e = .returned (.int .i64 (k + (preL R R.length : Nat))) ∧ Below w.heap.size w w' := by
  obtain ⟨a, cap, rfl⟩ := hx.form
  have hb := below_box3 w (.cells #[.slice a (markR k R).length cap, .int .i64 d] 29)
  have HC := hid (heldIntSS_any _ R k hk hk2 hn _ (hx.keep hb))
  have HB := hid hb
  have hge : ¬ (k + ((preL R R.length : Nat) : Int) < 0) := by omega
  obtain ⟨q, hq⟩ : ∃ q, q = k + ((preL R R.length : Nat) : Int) := ⟨_, rfl⟩
  rw [← hq] at HC hge ⊢
  clear hx hb hq
  go_enter Try.func24, Try.ntmps24
  go_wp2_with fail
  refine HC.out.mono ?_
  rintro e w' ⟨rfl, rfl⟩
  go_wp2_with fail
  go_ret
  exact ⟨rfl, HB.out⟩
set_option maxRecDepth 100000 in
set_option maxHeartbeats 1000000 in
theorem markMove_any (v : Value) (R : List (List Int)) (vals : List Value) (B C : Nat) (d k : Int) (hk : 0 ≤ k) (hk2 : k + (preL R R.length : Nat) ≤ 3000000) (hn : preL R R.length ≤ 1048576) (w : World) (hx : OwnC w B C v R vals) (hB : B ≤ w.heap.size) (hC : C ≤ w.heap.size) :
    Calls Try.prog 23 #[.agg #[v, .int .i64 d], .int .i64 k] w fun e w' => e = .returned (.int .i64 (k + (preL R R.length : Nat))) ∧ OwnC w' B C v (markR k R) vals ∧ Below B w w' ∧ ∀ g, C ≤ g → g < w.heap.size → w'.heap[g]? = w.heap[g]? := by
  obtain ⟨a, cap, rfl⟩ := hx.rd.form
  have hb := below_box3 w (.cells #[.slice a R.length cap, .int .i64 d] 29)
  have HC := hid (markIntSS_any _ R vals B C k hk hk2 hn _ (hx.at_blocks fun g _ h2 => hb.block g (by omega)))
  have HB := hid hb
  have HBB := hid hB
  clear hx hb
  go_enter Try.func23, Try.ntmps23
  go_wp2_with fail
  refine HC.out.mono ?_
  rintro e w' ⟨rfl, h1, h2, h3⟩
  have H1 := hid h1
  have H2 := hid h2
  have H3 := hid h3
  clear h1 h2 h3
  go_wp2_with fail
  go_ret
  exact ⟨rfl, H1.out, (HB.out.mono HBB.out).trans H2.out, fun g h1 h2 => (H3.out g h1 (by simp; omega)).trans (HB.out.block g h2)⟩
set_option maxRecDepth 100000 in
set_option maxHeartbeats 1000000 in
theorem szMove_any (v : Value) (R : List (List Int)) (d n : Int) (h1 : 0 ≤ n) (h2 : n ≤ 1048576) (w : World) (h : RdM w v R) :
    Calls Try.prog 13 #[.agg #[v, .int .i64 d], .int .i64 n] w fun e w' => Below w.heap.size w w' ∧ (e = .returned (.int .i64 (-1)) ∨ ((R.length : Int) + (preL R R.length : Nat) ≤ n ∧ e = .returned (.int .i64 (n - (R.length : Int) - (preL R R.length : Nat))))) := by
  obtain ⟨a, cap, rfl⟩ := h.form
  have hb := below_box3 w (.cells #[.slice a R.length cap, .int .i64 d] 25)
  have HC := hid (szIntSS_any _ R n h1 h2 _ (h.keep hb))
  have HB := hid hb
  clear h hb
  go_enter Try.func13, Try.ntmps13
  go_wp2_with fail
  refine HC.out.mono ?_
  rintro e w' ⟨rfl, rfl | ⟨hle, rfl⟩⟩
  · go_wp2_with fail
    go_ret
    exact ⟨HB.out, .inl rfl⟩
  · have hge : ¬ (n - (R.length : Int) - ((preL R R.length : Nat) : Int) < 0) := by omega
    have HLE := hid hle
    obtain ⟨q, hq⟩ : ∃ q, q = n - (R.length : Int) - ((preL R R.length : Nat) : Int) := ⟨_, rfl⟩
    have HQ := hid hq
    rw [← hq] at hge ⊢
    clear hle hq
    go_wp2_with fail
    go_ret
    exact ⟨HB.out, .inr ⟨HLE.out, retI HQ.out⟩⟩
set_option maxRecDepth 100000 in
set_option maxHeartbeats 2000000 in
theorem toMove_any (v : Value) (R : List (List Int)) (d : Int) (w : World) (h : RdM w v R) (hl : R.length ≤ 1048576) (hr : ∀ i, i < R.length → (R.getD i []).length ≤ 1048576) :
    Calls Try.prog 16 #[.agg #[v, .int .i64 d]] w fun e w' => ∃ u, e = .returned (.agg #[u, .int .i64 d]) ∧ OwnM w' w.heap.size none u R ∧ Below w.heap.size w w' := by
  obtain ⟨a, cap, rfl⟩ := h.form
  have hb : Below w.heap.size w (((w.alloc (.cells #[.slice a R.length cap, .int .i64 d] 25)).alloc (.cells #[.slice none 0 0, .int .i64 0] 29)).alloc (.cells #[.slice none 0 0, .int .i64 0] 29)) := ((below_box3 _ _).alloc (by simp) _).alloc (by simp; omega) _
  have H1 : Hid ((((w.alloc (.cells #[.slice a R.length cap, .int .i64 d] 25)).alloc (.cells #[.slice none 0 0, .int .i64 0] 29)).alloc (.cells #[.slice none 0 0, .int .i64 0] 29)).heap[w.heap.size]? = some (.cells #[.slice a R.length cap, .int .i64 d] 25 (0, 0))) := hid (heap_up (heap_up (heap_new rfl)))
  have H2 : Hid ((((w.alloc (.cells #[.slice a R.length cap, .int .i64 d] 25)).alloc (.cells #[.slice none 0 0, .int .i64 0] 29)).alloc (.cells #[.slice none 0 0, .int .i64 0] 29)).heap[w.heap.size + 1]? = some (.cells #[.slice none 0 0, .int .i64 0] 29 (0, 0))) := hid (heap_up (heap_new (by simp)))
  have H3 : Hid ((((w.alloc (.cells #[.slice a R.length cap, .int .i64 d] 25)).alloc (.cells #[.slice none 0 0, .int .i64 0] 29)).alloc (.cells #[.slice none 0 0, .int .i64 0] 29)).heap[w.heap.size + 1 + 1]? = some (.cells #[.slice none 0 0, .int .i64 0] 29 (0, 0))) := hid (heap_new (by simp))
  have HC := hid (toIntSS_any _ R _ (h.keep hb) hl hr)
  have HB := hid hb
  obtain ⟨W3, hW3⟩ : ∃ W3, W3 = (((w.alloc (.cells #[.slice a R.length cap, .int .i64 d] 25)).alloc (.cells #[.slice none 0 0, .int .i64 0] 29)).alloc (.cells #[.slice none 0 0, .int .i64 0] 29)) := ⟨_, rfl⟩
  have HS : Hid (W3.heap.size = w.heap.size + 3) := hid (by rw [hW3]; simp)
  rw [← hW3] at HB H1 H2 H3 HC
  have HW := hid hW3
  clear h hb hW3
  go_enter Try.func16, Try.ntmps16
  go_wp2_with fail
  rw [← HW.out]
  refine HC.out.mono ?_
  rintro e w4 ⟨u, rfl, ho, hb4, _⟩
  have q1 := heap_below hb4 H1.out
  have q2 := heap_below hb4 H2.out
  have q3 := heap_below hb4 H3.out
  have x0 := cellB (i := 0) q1
  have x1 := cellB (i := 1) q1
  have y0 := cellB (i := 0) q2
  have y1 := cellB (i := 1) q2
  have z0 := cellB (i := 0) q3
  have z1 := cellB (i := 1) q3
  have f0 := frozenB (i := 0) q2
  have f1 := frozenB (i := 1) q2
  have g0 := frozenB (i := 0) q3
  have g1 := frozenB (i := 1) q3
  have HO := hid ho
  have HB4 := hid (HB.out.trans (hb4.mono HB.out.size))
  obtain ⟨au, cu, rfl⟩ := ho.rd.form
  have HQ2 := hid q2
  have HQ3 := hid q3
  clear ho hb4 q1 q2 q3
  go_wp2_with fail
  refine bodyPost_ret (v := .agg #[.slice au R.length cu, .int .i64 d]) (by simp [results, Try.results16, go_sem] <;> go_simp) rfl ?_
  have hs := HS.out
  have ho := HO.out
  refine ⟨_, rfl, ?_, ?_⟩
  · refine OwnM.down ?_ (show w.heap.size ≤ W3.heap.size by omega)
    refine OwnM.setLow (OwnM.setLow (OwnM.setLow (OwnM.setLow ho (.inl ?_) _) (.inl ?_) _) (.inl ?_) _) (.inl ?_) _ <;> (rw [hs]; show _ + _ < _; omega)
  · refine (((HB4.out.setCell ?_ _).setCell ?_ _).setCell ?_ _).setCell ?_ _ <;> (show _ ≤ _ + _; omega)

end Go.Proofs.Ytjabklpnohfjpab
