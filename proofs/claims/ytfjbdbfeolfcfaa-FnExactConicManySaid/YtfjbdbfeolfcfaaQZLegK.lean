/-
  By the kernel: three terms of size at most 30, made normal, have a small zero where no odd prime and no sign forbids it.
-/
import Derived.Test.YtfjbdbfeolfcfaaQBun11
set_option linter.unusedVariables false
namespace Go.Proofs.Ytfjbdbfeolfcfaa
open Go.RowKit

def newt (n : Nat) : Nat → Nat → Nat
  | 0, x => x
  | f + 1, x => if (x + n / x) / 2 < x then newt n f ((x + n / x) / 2) else x
def sqrtK (n : Nat) : Nat := newt n 20 (2 ^ (Nat.log2 n / 2 + 1))
def hitZ (t : T3) (x y : Int) : Bool :=
  (-(t.a * x * x) - t.b * y * y) % t.c == 0 && (decide (0 ≤ (-(t.a * x * x) - t.b * y * y).tdiv t.c) &&
    (let q := ((-(t.a * x * x) - t.b * y * y).tdiv t.c).toNat
     let z : Int := sqrtK q
     t.a * x * x + t.b * y * y + t.c * z * z == 0 && (decide (x * x ≤ ((t.b * t.c).natAbs : Int)) && (decide (y * y ≤ ((t.a * t.c).natAbs : Int)) && !(x == 0 && y == 0)))))
def hitYs (t : T3) (x : Int) : Nat → Int → Bool
  | 0, _ => false
  | k + 1, y => hitZ t x y || hitYs t x k (y + 1)
def hitXs (t : T3) (ny : Nat) : Nat → Int → Bool
  | 0, _ => false
  | k + 1, x => hitYs t x ny 0 || hitXs t ny k (x + 1)
def oddL : List Nat := [3, 5, 7, 11, 13, 17, 19, 23, 29]
def lgT (t : T3) : Bool :=
  (decide (0 < t.a) && (decide (0 < t.b) && decide (0 < t.c))) || ((decide (t.a < 0) && (decide (t.b < 0) && decide (t.c < 0))) || (oddL.any (badP t) || hitXs t (sqrtK (t.a * t.c).natAbs + 1) (sqrtK (t.b * t.c).natAbs + 1) 0))
def freeL : List Int := [1, 2, 3, 5, 6, 7, 10, 11, 13, 14, 15, 17, 19, 21, 22, 23, 26, 29, 30]
def free2 : List Int := freeL ++ freeL.map (fun x => -x)
def lgN (t : T3) : Bool := twoD (normT 20 t).a (normT 20 t).b (normT 20 t).c == 1 && lgT (normT 20 t)
def lgA (l : List Int) : Bool := l.all (fun a => free2.all (fun b => free2.all (fun c => lgN ⟨a, b, c⟩)))
set_option maxRecDepth 100000 in
theorem lgA_1 : lgA [1, 2, 3, 5, 6] = true := by decide +kernel

end Go.Proofs.Ytfjbdbfeolfcfaa
