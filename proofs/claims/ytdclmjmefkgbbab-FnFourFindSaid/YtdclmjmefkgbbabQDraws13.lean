/-
  What the drawing functions of chapter 4 hand out: two forms.
-/
import Derived.Test.YtdclmjmefkgbbabQDraws12
set_option linter.unusedVariables false
namespace Go.Proofs.Ytdclmjmefkgbbab
open Go.RowKit

def TwoPost (w : World) (B R : Nat) (v : Value) (n p : Nat) (e : Ending) (w' : World) : Prop :=
  ∃ (u u2 : Value) (xs ys : List Int), e = .returned (.tuple #[u, u2]) ∧ TermsOk xs ∧ TermsOk ys ∧ Hid (Owns w' w.heap.size u xs) ∧ Hid (Rd w' u2 ys) ∧ Firm u2 ∧ Hid (Only R w w')
theorem TwoPost.mk {w : World} {B R : Nat} {v : Value} {n p : Nat} {u u2 : Value} {xs ys : List Int} {w' : World} (h : TermsOk xs) (h2 : TermsOk ys) (ho : Owns w' w.heap.size u xs) (hr : Rd w' u2 ys) (hf : Firm u2) (hn : Only R w w') : TwoPost w B R v n p (.returned (.tuple #[u, u2])) w' :=
  ⟨u, u2, xs, ys, rfl, h, h2, hid ho, hid hr, hf, hid hn⟩



end Go.Proofs.Ytdclmjmefkgbbab
