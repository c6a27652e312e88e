/-
  Contracts of the program's chapter 5: ZeroMany.
-/
import Derived.Test.YtfjbdbfeolfcfaaQZvec2
import Derived.Test.YtfjbdbfeolfcfaaQVecs2
import Derived.Test.YtfjbdbfeolfcfaaQBun27
import Derived.Test.YtfjbdbfeolfcfaaQBun28
set_option linter.unusedVariables false
namespace Go.Proofs.Ytfjbdbfeolfcfaa
open Go.RowKit Go.Shelf
attribute [local go_sem] Oper.semAt_some

theorem good_zero {xs vs : List Int} (hf : fvB xs = true) (hl : vs.length = xs.length) (hb : ∀ v ∈ vs, -1000000 ≤ v ∧ v ≤ 1000000) : goodB xs vs = (zeroB xs vs && decide (plainL vs = vs)) := by
  rw [Bool.eq_iff_iff]
  unfold goodB
  rw [Bool.and_eq_true, Bool.and_eq_true, Bool.and_eq_true, zeroB_iff, someB_iff, decide_eq_true_eq, decide_eq_true_eq, hl]
  constructor
  · rintro ⟨h1, h2, h3⟩
    exact ⟨⟨hb, hf, rfl, h1, h2⟩, h3⟩
  · rintro ⟨⟨_, _, _, h1, h2⟩, h3⟩
    exact ⟨h1, h2, h3⟩
/-- a variable of a slice's type, in a block of its own -/
theorem below_three {n : Nat} {w0 w : World} (h : Below n w0 w) (hn : n ≤ w.heap.size) (o1 o2 o3 : Obj) : Below n w0 (((w.alloc o1).alloc o2).alloc o3) :=
  ((h.alloc hn _).alloc (by simp; omega) _).alloc (by simp; omega) _
theorem boxed_three {w : World} {B : Nat} {t : TypeId} {v : Value} (h : Boxed w B t v) (o1 o2 o3 : Obj) : Boxed (((w.alloc o1).alloc o2).alloc o3) B t v := ((h.alloc o1).alloc o2).alloc o3
theorem captV_new (lo : Int) (b c : Nat) (w : World) : CaptV w.heap.size lo b c (((w.alloc (.cells #[.int .i64 (c : Int)] 3)).alloc (.cells #[.int .i64 lo] 3)).alloc (.cells #[.int .i64 (lo + b - 1)] 3)) := by
  have c1 := ((Boxed.new w 3 (.int .i64 (c : Int))).alloc (.cells #[.int .i64 lo] 3)).alloc (.cells #[.int .i64 (lo + b - 1)] 3)
  have c2 := (Boxed.new (w.alloc (.cells #[.int .i64 (c : Int)] 3)) 3 (.int .i64 lo)).alloc (.cells #[.int .i64 (lo + b - 1)] 3)
  have c3 := Boxed.new ((w.alloc (.cells #[.int .i64 (c : Int)] 3)).alloc (.cells #[.int .i64 lo] 3)) 3 (.int .i64 (lo + b - 1))
  simp only [World.size_alloc] at c2 c3
  exact ⟨c1, c2, c3⟩
theorem turns_boxed {β : Type} {B k : Nat} (hk : k < B) (t : TypeId) (f : β → Value) : Turns B (fun s W => Boxed W k t (f s)) := turns_block hk fun s => .cells #[f s] t (0, 0)
theorem boxed_keeps {W W' : World} {B n : Nat} {t : TypeId} {v : Value} (h : Boxed W B t v) (hb : Below n W W') (hn : B < n) : Boxed W' B t v := (hb.block B hn).trans h


end Go.Proofs.Ytfjbdbfeolfcfaa
