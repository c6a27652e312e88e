/-
  Some texts in one file: Marks2 FmLen.
-/
import Derived.Test.YtciajpimpjpnfabBun14
import Derived.RangeFuncBox
/-! Marks2 -/
set_option linter.unusedVariables false
namespace Go.Proofs.Ytciajpimpjpnfab
open Go.RowKit

theorem grownBy_rf (w : World) (r : Option Nat) : w.grownBy w r := ⟨rfl, rfl, rfl, Nat.le_refl _, fun _ _ _ => rfl⟩
theorem grownBy_set (W : World) (b o : Nat) (v : Value) : W.grownBy (W.setCell ⟨b, o, none⟩ v) (some b) :=
  ⟨rfl, rfl, rfl, (KeepsWalks.setCell W _ v).size, fun k _ hk => Below.heap_setCell _ _ _ k (fun e => hk (by rw [e]))⟩
theorem Owns.kept {W W' : World} {B : Nat} {v : Value} {xs : List Int} {r : Option Nat} (h : Owns W B v xs) (hg : W.grownBy W' r) (hne : v.ownBlock = none ∨ v.ownBlock ≠ r) : Owns W' B v xs := World.ownsRow.kept h hg hne
/-- the elder of two lists of the call's own, and the younger one, lie apart -/
theorem elder_apart {x y : Value} {W : World} {C : Nat} {ys : List Int} (hlt : ∀ g, x.ownBlock = some g → g < C) (hy : Owns W C y ys) : y.ownBlock = none ∨ y.ownBlock ≠ x.ownBlock := by
  cases hb : y.ownBlock with
  | none => exact .inl rfl
  | some b =>
    right
    intro e
    have h1 := hlt b e.symm
    have h2 := hy.ge b hb
    omega
theorem younger_apart {x y : Value} {W : World} {C : Nat} {xs : List Int} (hlt : ∀ g, y.ownBlock = some g → g < C) (hx : Owns W C x xs) : y.ownBlock = none ∨ y.ownBlock ≠ x.ownBlock := by
  cases hb : y.ownBlock with
  | none => exact .inl rfl
  | some b =>
    right
    intro e
    have h1 := hlt b hb
    have h2 := hx.ge b e.symm
    omega

set_option maxHeartbeats 1000000 in
theorem markIntS2_any (v : Value) (xs : List Int) (B : Nat) (k : Int) (hk : 0 ≤ k) (hk2 : k ≤ 3000000) (hn : xs.length ≤ 3000000) (w : World) (hx : Owns w B v xs) :
    Calls Try.prog 41 #[v, .int .i64 k] w fun e w' => e = .returned (.int .i64 (k + xs.length)) ∧ Owns w' B v (marksL k xs.length) ∧ Below B w w' ∧ w.grownBy w' v.ownBlock := by
  by_cases h0 : xs.length = 0
  · have hx0 : xs = [] := List.length_eq_zero_iff.1 h0
    subst hx0
    have hf : ∃ a cap, v = .slice a 0 cap := by
      rcases hx.2 with ⟨rfl, _⟩ | ⟨g, cap, _, rfl, _⟩
      · exact ⟨_, _, rfl⟩
      · exact ⟨_, _, rfl⟩
    obtain ⟨a, cap, rfl⟩ := hf
    have HX := hid hx
    clear hx h0
    go_enter Try.func41, Try.ntmps41
    go_wp2
    go_loop [1, 5] (fun k' i => k' = .int .i64 k ∧ i = .int .i64 0) (fun _ _ => 0)
    case atStart => exact ⟨rfl, rfl⟩
    case round =>
      obtain ⟨rfl, rfl⟩ := hrel
      go_wp2
      go_ret
      exact ⟨retI (by simp), HX.out, Below.refl _ _, grownBy_rf _ _⟩
  · have hf : ∃ g cap, v = .slice (some ⟨g, 0, none⟩) xs.length cap ∧ B ≤ g := by
      rcases hx.2 with ⟨_, h⟩ | ⟨g, cap, _, rfl, hg, _⟩
      · omega
      · exact ⟨g, cap, rfl, hg⟩
    obtain ⟨g, cap, rfl, hg⟩ := hf
    obtain ⟨n, hnx⟩ : ∃ n, n = xs.length := ⟨_, rfl⟩
    have HN := hid hnx
    rw [← hnx] at h0 hn ⊢
    have HX : Hid (Owns w B (.slice (some ⟨g, 0, none⟩) n cap) xs) := by rw [hnx]; exact hx
    clear hx hnx
    go_enter Try.func41, Try.ntmps41
    go_wp2
    go_loopw [1, 5] (fun k' i wr => ∃ K : Nat, k' = .int .i64 (k + K) ∧ i = .int .i64 K ∧ K ≤ n ∧ Hid (wr.ownsRow B 3 1 (.slice (some ⟨g, 0, none⟩) n cap) n ((halfL k K xs).map (Value.int .i64))) ∧ Below B w wr ∧ Hid (w.grownBy wr (some g))) (fun _ i _ => n - (intOf i).toNat)
    case atStart =>
      refine ⟨0, by simp, rfl, by omega, hid ?_, Below.refl _ _, hid (grownBy_rf _ _)⟩
      have := HX.out
      unfold Owns at this
      rw [← HN.out] at this
      simpa [halfL, marksL] using this
    case round =>
      obtain ⟨K, rfl, rfl, hK, HO, hB, HG⟩ := hrel
      by_cases hlt : K < n
      · have hl := halfL_len k K xs (by have := HN.out; omega)
        have c1 : wr.cell? ⟨g, K, none⟩ = some (.int .i64 ((halfL k K xs).getD K 0)) := by
          have hK2 : K < (halfL k K xs).length := by rw [hl, ← HN.out]; exact hlt
          rw [World.ownsRow.cellAt HO.out K (by omega), List.getElem?_map, List.getElem?_eq_getElem hK2]
          simp [List.getD, List.getElem?_eq_getElem hK2]
        obtain ⟨z, hz⟩ : ∃ z, z = (halfL k K xs).getD K 0 := ⟨_, rfl⟩
        rw [← hz] at c1
        have f1 := World.ownsRow.frozenAt HO.out K
        have hi : (K : Int) < (n : Int) := by omega
        have HS := hid (World.ownsRow.stored HO.out K (.int .i64 (k + K)))
        have HT := hid (halfL_step k K xs (by have := HN.out; omega))
        clear hz hl
        go_wp2
        go_roundw
        case rel =>
          refine ⟨K + 1, vI (by push_cast; omega), by go_num, by omega, hid ?_, hB.setCell (p := ⟨g, K, none⟩) hg _, hid (HG.out.trans (grownBy_set _ g K _))⟩
          have := HS.out.1
          rw [← HT.out, List.map_set]
          exact this
        case measure => simp only [intOf]; omega
      · obtain rfl : K = n := by omega
        go_wp2
        go_ret
        refine ⟨rfl, ?_, hB, HG.out⟩
        have := HO.out
        unfold Owns
        rw [marksL_len]
        have e : halfL k K xs = marksL k K := by
          have h := halfL_end k xs
          rw [← HN.out] at h
          exact h
        rw [e] at this
        exact this

end Go.Proofs.Ytciajpimpjpnfab

/-! FmLen -/
set_option linter.unusedVariables false
namespace Go.Proofs.Ytciajpimpjpnfab
open Go.RowKit

theorem fpl_len (xs : List Int) : (fplL xs).length ≤ 1000 := by
  unfold fplL
  cases hf : fvB xs with
  | false => simp
  | true =>
    have hp := prod_full hf
    obtain ⟨h1, h2, _⟩ := plistG_spec (show 0 < (prodI xs).natAbs by have := hp.1; omega)
    have h3 := asc_len _ 0 30 h2 (fun x hx => ⟨Nat.zero_le _, (small_prime (fvB_iff.1 hf).1 (h1 x hx).1 (h1 x hx).2).1⟩)
    rw [if_pos rfl]
    unfold placesG
    have h4 := List.length_filter_le (fun x : Int => decide (2 < x)) (natsI (plistG (prodI xs).natAbs))
    rw [natsI_len] at h4
    rw [List.length_append]
    simp only [List.length_cons, List.length_nil]
    omega
theorem bad_len (xs : List Int) : (badL xs).length ≤ 1000 := Nat.le_trans (List.length_filter_le _ _) (fpl_len xs)
theorem fcores_len (xs : List Int) : (fcoresL xs).length ≤ 1000 := by
  unfold fcoresL
  cases hf : fvB xs with
  | false => simp
  | true =>
    have := (fvB_iff.1 hf).2.2
    rw [if_pos rfl]
    unfold timesL
    rw [List.length_map]
    omega
theorem ftimes_len (xs : List Int) (n : Int) : (ftimesL xs n).length ≤ 1000 := by
  unfold ftimesL
  cases ht : timesOk xs n with
  | false => simp
  | true =>
    unfold timesOk at ht
    rw [Bool.and_eq_true] at ht
    have := (fvB_iff.1 ht.1).2.2
    rw [if_pos rfl]
    unfold timesL
    rw [List.length_map]
    omega
theorem join_len (xs ys : List Int) : (joinL xs ys).length ≤ 1000 := by
  unfold joinL
  cases ht : joinOk xs ys with
  | false => simp
  | true =>
    unfold joinOk at ht
    rw [Bool.and_eq_true, Bool.and_eq_true] at ht
    have := (fvB_iff.1 ht.2.2).2.2
    rw [if_pos rfl]
    omega

end Go.Proofs.Ytciajpimpjpnfab
