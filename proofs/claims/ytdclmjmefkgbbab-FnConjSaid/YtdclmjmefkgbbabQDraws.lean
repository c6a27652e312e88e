/-
  What the drawing functions of chapter 1 hand out.
-/
import Derived.Test.YtdclmjmefkgbbabQDraw
import Derived.Test.YtdclmjmefkgbbabQLawMath
import Derived.OpenShut
set_option linter.unusedVariables false
namespace Go.Proofs.Ytdclmjmefkgbbab
open Go.RowKit

def NumPost (P : Int → Prop) (c : Nat) (w : World) (B R : Nat) (v : Value) (n p : Nat) (e : Ending) (w' : World) : Prop :=
  ∃ (x : Int) (q : Nat), e = .returned (.int .i64 x) ∧ P x ∧ q ≤ p + c ∧ Hid (Rdr w' B R v n q) ∧ Hid (Only R w w')
theorem NumPost.mk {P : Int → Prop} {c : Nat} {w : World} {B R : Nat} {v : Value} {n p q : Nat} {w' : World} {x y : Int} (hxy : y = x) (h : P x) (hq : q ≤ p + c) (hr : Hid (Rdr w' B R v n q)) (ho : Only R w w') : NumPost P c w B R v n p (.returned (.int .i64 y)) w' := by
  rw [hxy]; exact ⟨x, q, rfl, h, hq, hr, ho⟩

theorem lit_cell {w w2 : World} {R : Nat} {cs : Array Value} {t : TypeId} {fr : Nat × Nat} (ho : Only R (w.alloc (.cells cs t)) w2) (hR : R < w.heap.size) (i : Nat) : w2.cell? ⟨w.heap.size, i, none⟩ = cs[i]? := by
  rw [ho.cell (by simp) (by omega)]
  exact Go.cell_of_row _ _ _ _ _ _ (World.alloc_heap_new w _)

/-- the code as it comes in -/
def CodeIn (w : World) (v : Value) (n : Nat) : Prop :=
  (∃ a cap, v = .slice a 0 cap ∧ n = 0) ∨ ∃ b o cap, v = .slice (some ⟨b, o, none⟩) n cap ∧ n ≤ cap ∧ cap ≤ maxLen ∧ b < w.heap.size ∧ 0 < n ∧ ∀ i, i < n → ∃ x, w.cell? ⟨b, o + i, none⟩ = some (.int .u8 x) ∧ 0 ≤ x ∧ x ≤ 255
theorem codeIn_of {w : World} {a : Option Addr} {len cap : Nat} {zs : List Int} (h : IsRow .u8 w a len cap zs) : CodeIn w (.slice a len cap) len := by
  rcases h with ⟨rfl, rfl, rfl, rfl⟩ | ⟨x, rfl, hl, hm, hz, hcell, hwz⟩
  · exact .inl ⟨_, _, rfl, rfl⟩
  · by_cases h0 : len = 0
    · subst h0; exact .inl ⟨_, _, rfl, rfl⟩
    · obtain ⟨b, off, spot⟩ := x
      have hc := hcell 0 (by omega)
      have hspot : spot = none := by simpa [Addr.add] using World.cell?_spot hc
      subst hspot
      have hb : b < w.heap.size := by
        obtain ⟨o, ho, _⟩ := cells_of_cell hc
        exact (Array.getElem?_eq_some_iff.1 ho).1
      refine .inr ⟨b, off, cap, rfl, hl, hm, hb, by omega, fun i hi => ?_⟩
      have hz' : i < zs.length := by omega
      have hca : w.cell? ⟨b, off + i, none⟩ = some (.int .u8 (zs.getD i 0)) := by
        have h5 := hcell i hz'
        by_cases hi0 : i = 0
        · subst hi0; simpa [Addr.add] using h5
        · simpa [Addr.add, hi0] using h5
      refine ⟨zs.getD i 0, hca, ?_⟩
      have e : zs.getD i 0 = zs[i] := by simp [List.getD, List.getElem?_eq_getElem hz']
      rw [e]
      exact bounds_u8 (hwz _ (List.getElem_mem hz'))

def OpenPost (w : World) (e : Ending) (w' : World) : Prop :=
  ∃ v n, e = .returned (.pointer (some ⟨w.heap.size, 0, none⟩)) ∧ Hid (Rdr w' w.heap.size w.heap.size v n 0) ∧ Below w.heap.size w w'
theorem OpenPost.mk {w : World} {v : Value} {n : Nat} (h : CodeAt w w.heap.size v n) : OpenPost w (.returned (.pointer (some ⟨w.heap.size, 0, none⟩))) (w.alloc (.cells #[v, .int .i64 0] 78)) :=
  ⟨v, n, rfl, ⟨Nat.le_refl _, h.below ((Below.refl _ _).alloc (Nat.le_refl _) _), World.alloc_heap_new w _⟩, (Below.refl _ _).alloc (Nat.le_refl _) _⟩

set_option maxRecDepth 100000 in
set_option maxHeartbeats 1000000 in
theorem open_any (v : Value) (n : Nat) (w : World) (h : CodeIn w v n) : Calls Try.prog 59 #[v] w (OpenPost w) := by
  rcases h with ⟨a, cap, rfl, rfl⟩ | ⟨b, o, cap, rfl, hl, hm, hb, hn0, hc⟩
  · go_enter Try.func59, Try.ntmps59
    go_wp2
    go_ret
    exact OpenPost.mk ⟨by omega, .inl ⟨_, _, rfl, rfl⟩⟩
  · unfold maxLen at hm
    have HC := hid hc
    clear hc
    by_cases h2 : n ≤ 2000
    · go_enter Try.func59, Try.ntmps59
      go_wp2
      go_ret
      exact OpenPost.mk ⟨h2, .inr ⟨b, o, cap, rfl, hb, hn0, HC.out⟩⟩
    · have h3 : (2000 : Int) < (n : Int) := by omega
      have h4 : (2000 : Nat) ≤ cap := by omega
      go_enter Try.func59, Try.ntmps59
      go_wp2
      go_ret
      exact OpenPost.mk (n := 2000) ⟨by omega, .inr ⟨b, o, cap, rfl, hb, by omega, fun i hi => HC.out i (by omega)⟩⟩

end Go.Proofs.Ytdclmjmefkgbbab
