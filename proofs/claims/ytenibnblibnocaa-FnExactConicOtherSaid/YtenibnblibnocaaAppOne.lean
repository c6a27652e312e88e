/-
  append of one number, within a region that draws its order: its run, told ahead.
-/
import Derived.Test.YtenibnblibnocaaOwn2
import Derived.Maps.AppendAt
import Derived.Deep.RegionLaw
set_option linter.unusedVariables false
namespace Go.Proofs.Ytenibnblibnocaa
open Go.RowKit

theorem append_one {wd : World} {base : Nat} {so : Value} {xs : List Int} (x : Int) (ho : Owns wd base so xs) (hb : base ≤ wd.heap.size) (hl : xs.length ≤ 1000000) :
    ∃ v' w', (Builtin.append_ #[22, 22] 22 #[so, .slice (some ⟨wd.heap.size, 0, none⟩) 1 1]).run Try.prog (wd.alloc (.cells #[.int .i64 x] 3)) = .ok v' w' ∧ Owns w' base v' (xs ++ [x]) ∧ (wd.alloc (.cells #[.int .i64 x] 3)).grownBy w' so.ownBlock := by
  obtain ⟨i0, hi, hz0, hz1, hz2⟩ := info_parts infoInt
  obtain ⟨v', w', h1, h2, h3, _, _⟩ := run_append_own_at (P := Try.prog) (w := wd.alloc (.cells #[.int .i64 x] 3)) base 22 22 3 i0 (.int .i64 0) 1 8 Try.underlying22 hi hz0 hz1 hz2 rfl (by decide) so xs.length _ ((show World.ownsRow _ _ _ _ _ _ _ from ho).alloc _) ⟨wd.heap.size, 0, none⟩ 1 1 [.int .i64 x] rfl (cell_one_new _ _ _) (by simp [Value.oneCell']) (by unfold maxLen; omega) (by omega) (by simp; omega)
  refine ⟨v', w', h1, ?_, h3⟩
  unfold Owns
  rw [List.length_append, List.map_append]
  exact h2
/-- the same as one step of such a region -/
theorem step_append_told {ops : Array Oper} {o : Oper} {a : Act} {W w' : World} {K : Act → World → Prop} {Q : Exit → Act → World → Prop} {E : Prop} (hgd : o.guard = none) (s x : Operand) (so xv v' : Value)
    (hop : o.op = .call { callee := .builtin .append, args := #[s, x], argTypes := #[22, 22] }) (ht : o.type = 22) (hs : a.eval s = so) (hx : a.eval x = xv)
    (hrun : (Builtin.append_ #[22, 22] 22 #[so, xv]).run Try.prog W = .ok v' w') (hK : K (a.put o.dst v') w') :
    if Region.wanted o (yielded ops a.tmps) = true then Oper.wp Try.prog o a W K Q else E := by
  have hw : Region.wanted o (yielded ops a.tmps) = true := by simp [Region.wanted, hgd]
  rw [if_pos hw]
  unfold Oper.wp execOp
  simp only [hop, ht, resolve, invoke, builtin, Sem.run_bind, Sem.run_pure, Result.andThen_ok, List.map_toArray, List.map_cons, List.map_nil, hs, hx, hrun]
  exact hK

end Go.Proofs.Ytenibnblibnocaa
