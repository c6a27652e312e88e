/-
  Plain arithmetic of chapter 4: cores of forms, forms multiplied by a number.
-/
import Derived.Test.YtciajpimpjpnfaaFmSame
import Derived.Test.YtciajpimpjpnfaaFmCls
import Derived.Test.YtciajpimpjpnfaaBun26
set_option linter.unusedVariables false
namespace Go.Proofs.Ytciajpimpjpnfaa
open Go.RowKit

theorem core_idem {n : Int} (hn : n ≠ 0) : coreG (coreG n) = coreG n := by
  have h := core_is hn
  exact (core_eq (r := 1) (h.ne hn) ⟨by simp, Nat.le_refl _, h.free⟩).1
theorem core_bd2 {n : Int} (hn : n ≠ 0) : coreG n ≠ 0 ∧ (coreG n).natAbs ≤ n.natAbs := core_bd hn
/-- n times the core of n times x has the core of x -/
theorem core_twice {n x : Int} (hn : n ≠ 0) (hx : x ≠ 0) : coreG (n * coreG (n * x)) = coreG x := by
  have hnx := Int.mul_ne_zero hn hx
  have h := core_is hnx
  have hc := h.ne hnx
  rw [← core_sq (t := (rootG (n * x) : Int)) (Int.mul_ne_zero hn hc) (by have := h.pos; omega), Int.mul_assoc, h.eq,
    show n * (n * x) = x * (n * n) by simp only [Int.mul_comm, Int.mul_left_comm]]
  exact core_sq hx hn
theorem prod_cores : ∀ {xs : List Int}, NZ xs → NZ (xs.map coreG) ∧ ∃ s : Int, s ≠ 0 ∧ prodI (xs.map coreG) * (s * s) = prodI xs
  | [], _ => ⟨fun x hx => by simp at hx, 1, by decide, rfl⟩
  | x :: xs, h => by
    obtain ⟨h1, s, hs, e⟩ := prod_cores h.tail
    have hc := core_is h.head
    have hn := hc.ne h.head
    refine ⟨fun y hy => ?_, s * (rootG x : Int), Int.mul_ne_zero hs (by have := hc.pos; omega), ?_⟩
    · rw [List.map_cons, List.mem_cons] at hy
      rcases hy with rfl | hy
      · exact hn
      · exact h1 y hy
    · show coreG x * prodI (xs.map coreG) * _ = x * prodI xs
      conv => rhs; rw [← hc.eq, ← e]
      simp only [Int.mul_assoc, Int.mul_comm, Int.mul_left_comm]
theorem nz_scale {n : Int} (hn : n ≠ 0) {xs : List Int} (h : NZ xs) : NZ (xs.map (n * ·)) := fun y hy => by
  obtain ⟨x, hx, rfl⟩ := List.mem_map.1 hy
  exact Int.mul_ne_zero hn (h x hx)
theorem times_map (xs : List Int) (n : Int) : timesL xs n = (xs.map (n * ·)).map coreG := by
  unfold timesL
  rw [List.map_map]
  rfl
theorem times_one (xs : List Int) : timesL xs 1 = xs.map coreG := by
  unfold timesL
  congr 1
  funext x
  rw [Int.one_mul]
theorem fv_cores {xs : List Int} (h : fvB xs = true) : fvB (xs.map coreG) = true := by
  obtain ⟨h1, h2, h3⟩ := fvB_iff.1 h
  refine fvB_iff.2 ⟨fun y hy => ?_, by rw [List.length_map]; exact h2, by rw [List.length_map]; exact h3⟩
  obtain ⟨x, hx, rfl⟩ := List.mem_map.1 hy
  have h4 := h1 x hx
  have h5 := core_bd2 h4.1
  exact ⟨h5.1, by omega, by omega⟩
theorem cores_yes {xs : List Int} (h : fvB xs = true) : fcoresL xs = xs.map coreG := by unfold fcoresL; rw [h, if_pos rfl, times_one]
theorem cores_no {xs : List Int} (h : fvB xs = false) : fcoresL xs = [] := by unfold fcoresL; rw [h]; rfl
theorem cores_twice {xs : List Int} (h : fvB xs = true) : fcoresL (xs.map coreG) = xs.map coreG := by
  rw [cores_yes (fv_cores h), List.map_map]
  refine List.map_congr_left fun x hx => ?_
  exact core_idem ((fvB_iff.1 h).1 x hx).1
theorem van_yes {xs : List Int} {q : Int} (h : fvB xs = true) (hq : plI q = true) : fvanV xs q = vanB xs q := by unfold fvanV; rw [h, hq]; rfl
theorem van_no {xs : List Int} {q : Int} (hq : plI q = false) : fvanV xs q = false := by unfold fvanV; rw [hq]; simp
theorem van_cores {xs : List Int} (h : fvB xs = true) (q : Int) : fvanV (xs.map coreG) q = fvanV xs q := by
  cases hq : plI q with
  | false => rw [van_no hq, van_no hq]
  | true =>
    obtain ⟨h1, h2, h3⟩ := fvB_iff.1 h
    rw [van_yes h hq, van_yes (fv_cores h) hq]
    exact van_cls hq (fun x hx => core_cls hx hq) (fv_nz h) h2 h3
theorem less_cores : ∀ {xs : List Int}, NZ xs → lessN (xs.map coreG) = lessN xs
  | [], _ => rfl
  | x :: xs, h => by
    have ih := less_cores h.tail
    have hx := core_sign h.head
    unfold lessN at ih ⊢
    rw [List.map_cons, List.filter_cons, List.filter_cons]
    by_cases e : x < 0
    · rw [decide_eq_true e, decide_eq_true (hx.2 e), if_pos rfl, if_pos rfl, List.length_cons, List.length_cons, ih]
    · rw [decide_eq_false e, decide_eq_false (fun h => e (hx.1 h)), if_neg (by decide), if_neg (by decide), ih]
theorem cores_same {xs : List Int} (h : fvB xs = true) : fsameV (xs.map coreG) xs = true := by
  have hz := fv_nz h
  obtain ⟨h1, s, hs, e⟩ := prod_cores hz
  refine (same_iff (fv_cores h) h).2 ⟨by rw [List.length_map], ?_, fun q hq => ?_⟩
  · rw [← e]; exact (core_sq h1.prod hs).symm
  · by_cases h0 : q = 0
    · unfold alikeB
      rw [if_pos h0, less_cores hz]
      simp
    · rw [alike_def hq h1 hz h0, hasC_cls hq (fun x hx => core_cls hx hq) hz, (sq_cls h1.prod hz.prod hq).2 (prod_cls hq (fun x hx => core_cls hx hq) hz).2]
      simp
theorem scale_prod {n : Int} (hn : n ≠ 0) : ∀ {xs : List Int}, NZ xs → ∃ m : Int, m ≠ 0 ∧ (xs.length % 2 = 0 → prodI (xs.map (n * ·)) = prodI xs * (m * m)) ∧ (xs.length % 2 = 1 → prodI (xs.map (n * ·)) = n * (prodI xs * (m * m)))
  | [], _ => ⟨1, by decide, fun _ => rfl, fun h => by simp at h⟩
  | x :: xs, h => by
    obtain ⟨m, hm, h2, h3⟩ := scale_prod hn h.tail
    by_cases e : xs.length % 2 = 0
    · refine ⟨m, hm, fun hl => by rw [List.length_cons] at hl; omega, fun _ => ?_⟩
      show n * x * prodI (xs.map (n * ·)) = n * (x * prodI xs * (m * m))
      rw [h2 e]
      simp only [Int.mul_assoc]
    · refine ⟨n * m, Int.mul_ne_zero hn hm, fun _ => ?_, fun hl => by rw [List.length_cons] at hl; omega⟩
      show n * x * prodI (xs.map (n * ·)) = x * prodI xs * (n * m * (n * m))
      rw [h3 (by omega)]
      simp only [Int.mul_assoc, Int.mul_comm, Int.mul_left_comm]
theorem disc_times {xs : List Int} {n : Int} (hn : n ≠ 0) (h : fvB xs = true) (ht : fvB (timesL xs n) = true) (hl : xs.length % 2 = 0) : discV (timesL xs n) = discV xs := by
  have hz := fv_nz h
  obtain ⟨m, hm, e1, _⟩ := scale_prod hn hz
  obtain ⟨_, s, hs, e2⟩ := prod_cores (nz_scale hn hz)
  rw [disc_yes h, disc_yes ht]
  have hp := (fv_nz ht).prod
  rw [times_map] at hp ⊢
  rw [← core_sq hp hs, e2, e1 hl]
  exact core_sq hz.prod hm
theorem van_times {xs : List Int} {n : Int} (hn : n ≠ 0) (h : fvB xs = true) (ht : fvB (timesL xs n) = true) (q : Int) : fvanV (timesL xs n) q = fvanV xs q := by
  cases hq : plI q with
  | false => rw [van_no hq, van_no hq]
  | true =>
    obtain ⟨h1, h2, h3⟩ := fvB_iff.1 h
    rw [van_yes h hq, van_yes ht hq, times_map, van_cls hq (fun x hx => core_cls hx hq) (nz_scale hn (fv_nz h)) (by rw [List.length_map]; exact h2) (by rw [List.length_map]; exact h3)]
    exact van_scale hq hn (fv_nz h) h2 h3
theorem times_yes {xs : List Int} {n : Int} (h : timesOk xs n = true) : fvB xs = true ∧ factB n = true ∧ fvB (timesL xs n) = true ∧ ftimesL xs n = timesL xs n := by
  have h2 := h
  unfold timesOk at h
  rw [Bool.and_eq_true, Bool.and_eq_true] at h
  exact ⟨h.1, h.2.1, h.2.2, by unfold ftimesL; rw [h2]; rfl⟩
theorem times_no {xs : List Int} {n : Int} (h : timesOk xs n = false) : ftimesL xs n = [] := by unfold ftimesL; rw [h]; rfl
theorem times_twice {xs : List Int} {n : Int} (hn : n ≠ 0) (h : fvB xs = true) : timesL (timesL xs n) n = xs.map coreG := by
  unfold timesL
  rw [List.map_map]
  exact List.map_congr_left fun x hx => core_twice hn ((fvB_iff.1 h).1 x hx).1
theorem times_again {xs : List Int} {n : Int} (hn : n ≠ 0) (h : timesOk xs n = true) : timesOk (timesL xs n) n = true ∧ ftimesL (timesL xs n) n = xs.map coreG := by
  obtain ⟨h1, h2, h3, _⟩ := times_yes h
  have e := times_twice hn h1
  have ok : timesOk (timesL xs n) n = true := by
    unfold timesOk
    rw [h3, h2, e, fv_cores h1]
    rfl
  exact ⟨ok, by rw [(times_yes ok).2.2.2, e]⟩

end Go.Proofs.Ytciajpimpjpnfaa
