/-
  The laws' own comparison of two lists of integers.
-/
import Derived.Test.YtdidmblkknnglaaMarks
set_option linter.unusedVariables false
namespace Go.Proofs.Ytdidmblkknnglaa
open Go.RowKit

set_option maxHeartbeats 1000000 in
theorem sameInts_any (v u : Value) (xs ys : List Int) (w : World) (hx : Rd w v xs) (hy : Rd w u ys) :
    Calls Try.prog 25 #[v, u] w fun e w' => e = .returned (.bool (decide (xs = ys))) ∧ ∃ k, w' = w.drewN k := by
  have form : ∀ {z : Value} {zs : List Int}, Rd w z zs → ∃ a cap, z = .slice a zs.length cap ∧ zs.length ≤ maxLen := by
    rintro z zs (⟨a, cap, rfl, rfl⟩ | ⟨b, o, cap, rfl, _, hm, _⟩)
    · exact ⟨a, cap, rfl, by simp⟩
    · exact ⟨_, _, rfl, hm⟩
  by_cases hl : xs.length = ys.length
  · rcases hx with ⟨a, cap, rfl, rfl⟩ | ⟨b, o, cap, rfl, hp, hm, hcx⟩
    · obtain ⟨a', cap', rfl, _⟩ := form hy
      have e : ys = [] := List.length_eq_zero_iff.1 hl.symm
      have HD : Hid (decide (([] : List Int) = ys) = true) := by show _ = _; rw [e]; rfl
      have HL : ys.length = 0 := hl.symm
      rw [HL]
      clear e hl HL hy
      go_enter Try.func25, Try.ntmps25
      go_wp2
      go_loop [5] (fun i => i = .int .i64 0) (fun _ => 0)
      case atStart => rfl
      case round =>
        obtain rfl := hrel
        go_wp2
        go_ret
        exact ⟨retB (by first | exact HD.out.symm | (rw [eq_comm]; exact HD.out.symm) | (have h := HD.out; simp at h; simp [← h])), 0, rfl⟩
    · rcases hy with ⟨a', cap', rfl, rfl⟩ | ⟨b', o', cap', rfl, _, _, hcy⟩
      · exact absurd hl (by simp; intro e; rw [e] at hp; simp at hp)
      · have T : ((xs.length : Int) != ys.length) = false := eqs_same (by omega)
        unfold maxLen at hm
        have HX := hid hcx
        have HY := hid hcy
        have HL := hid hl
        clear hcx hcy
        go_enter Try.func25, Try.ntmps25
        rw [← hl] at T ⊢
        clear hl
        go_wp2
        go_loopw [5] (fun i wr => ∃ K k : Nat, i = .int .i64 K ∧ K ≤ xs.length ∧ Hid (∀ j, j < K → xs.getD j 0 = ys.getD j 0) ∧ wr = w.drewN k) (fun i _ => xs.length - (intOf i).toNat)
        case atStart => exact ⟨0, 0, rfl, by omega, hid (by omega), rfl⟩
        case round =>
          obtain ⟨K, k, rfl, hK, HE, rfl⟩ := hrel
          by_cases hlt : K < xs.length
          · obtain ⟨x, hx⟩ : ∃ x, x = xs.getD K 0 := ⟨_, rfl⟩
            obtain ⟨y, hy⟩ : ∃ y, y = ys.getD K 0 := ⟨_, rfl⟩
            have c1 := HX.out K hlt
            have c2 := HY.out K (by have := HL.out; omega)
            rw [← hx] at c1
            rw [← hy] at c2
            have Hx := hid hx
            have Hy := hid hy
            clear hx hy
            have hi : (K : Int) < (xs.length : Int) := by omega
            by_cases hxy : x = y
            · have T2 : (x != y) = false := eqs_same hxy
              have HXY := hid hxy
              clear hxy
              go_wp2
              go_quiet (fail)
              go_wp2
              go_roundw
              case rel =>
                exact ⟨K + 1, _, by go_num, by omega, hid (by intro j hj; by_cases e : j = K; (· rw [e, ← Hx.out, ← Hy.out, HXY.out]); (· exact HE.out j (by omega))), by first | rfl | exact World.drewN_drewN ..⟩
              case measure => simp only [intOf]; omega
            · have T2 : (x != y) = true := eqs_len hxy
              have HXY := hid hxy
              clear hxy
              go_wp2
              go_quiet (fail)
              go_wp2
              go_ret
              refine ⟨retB (decide_eq_false fun e => HXY.out ?_).symm, _, by first | rfl | exact World.drewN_drewN ..⟩
              rw [Hx.out, Hy.out, e]
          · go_wp2
            go_ret
            refine ⟨retB (decide_eq_true (all_eq_of HL.out fun j hj => HE.out j (by omega))).symm, _, rfl⟩
  · obtain ⟨a, cap, rfl, m1⟩ := form hx
    obtain ⟨a', cap', rfl, m2⟩ := form hy
    have T : ((xs.length : Int) != ys.length) = true := eqs_len (by omega)
    have HD : Hid (decide (xs = ys) = false) := hid (decide_eq_false fun e => hl (by rw [e]))
    clear hl hx hy
    go_enter Try.func25, Try.ntmps25
    go_wp2
    go_ret
    exact ⟨retB HD.out.symm, 0, rfl⟩

theorem rd_one {w : World} {k : Nat} (x : Int) (h : w.cell? ⟨k, 0, none⟩ = some (.int .i64 x)) : Rd w (.slice (some ⟨k, 0, none⟩) 1 1) [x] := by
  right
  refine ⟨k, 0, 1, rfl, by simp, by unfold maxLen; simp, fun i hi => ?_⟩
  obtain rfl : i = 0 := by simp at hi; exact hi
  simpa using h

end Go.Proofs.Ytdidmblkknnglaa
