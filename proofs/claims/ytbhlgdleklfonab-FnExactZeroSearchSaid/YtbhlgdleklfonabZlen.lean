/-
  Lengths and shapes of what chapter 5 answers.
-/
import Derived.Test.YtbhlgdleklfonabVals7
set_option linter.unusedVariables false
namespace Go.Proofs.Ytbhlgdleklfonab

theorem zpairF (xs vs ws : List Int) : ∃ (x : Int) (c : Bool), zpairV xs vs ws = .tuple #[.int .i64 x, .bool c] := by
  unfold zpairV
  cases zpairOk xs vs ws
  · exact ⟨_, _, rfl⟩
  · exact ⟨_, _, rfl⟩
theorem zplain_len (xs vs : List Int) : (zplainL xs vs).length ≤ 1000 := by
  unfold zplainL
  cases h : zeroB xs vs with
  | false => simp
  | true =>
    obtain ⟨_, h2, h3, _⟩ := zeroB_iff.1 h
    have := (fvB_iff.1 h2).2.2
    rw [if_pos rfl, plainL_len]
    omega
theorem zsearch_len (xs : List Int) : ((zsearchO xs).getD []).length ≤ 1000 := by
  unfold zsearchO
  split
  · cases h : searchO (T3.of xs) with
    | none => simp
    | some l =>
      obtain ⟨x, y, z, rfl, _⟩ := search_found h
      simp
  · simp
theorem zfind_len (xs : List Int) : ((zfindO xs).getD []).length ≤ 1000 := by
  cases h : zfindO xs with
  | none => simp
  | some v =>
    have hg := (zeroB_iff.1 (find_got h).zero)
    have := (fvB_iff.1 hg.2.1).2.2
    show v.length ≤ 1000
    omega

end Go.Proofs.Ytbhlgdleklfonab
