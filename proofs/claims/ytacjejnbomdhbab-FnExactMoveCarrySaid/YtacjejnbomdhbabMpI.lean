/-
  Contracts of the program's chapter 7: forms that have moves, the move that stays.
-/
import Derived.Test.YtacjejnbomdhbabMpH
import Derived.Test.YtacjejnbomdhbabPf
set_option linter.unusedVariables false
namespace Go.Proofs.Ytacjejnbomdhbab
open Go.RowKit

theorem hgt_leI {l : List Int} {m : Nat} : hgtL l ≤ m ↔ ∀ x ∈ l, x.natAbs ≤ m := by
  obtain ⟨_, h2, h3⟩ := hgt_fold l 0
  constructor
  · intro h x hx
    exact Nat.le_trans (h2 x hx) h
  · intro h
    rcases h3 with e | ⟨v, hv, e⟩
    · have : hgtL l = 0 := e
      omega
    · have : v.natAbs = hgtL l := e
      have := h v hv
      omega
theorem made_tidy {xs : List Int} (hf : fvB xs = true) (h3 : xs.length ≤ 3) {M : Nat → Nat → Int} {D : Int} (h0 : D ≠ 0) (ho : Orth (fF xs) xs.length M D) : madeV xs.length M D = tidyV xs (matL xs.length M) D := by
  unfold tidyV
  by_cases h : lowD (matL xs.length M) D ≤ 10000 ∧ hgtL (lowR (matL xs.length M) D).flatten ≤ 1000000
  · have hok : MoveOk xs (lowR (matL xs.length M) D) (lowD (matL xs.length M) D) := by
      refine ⟨hf, h3, sq_low (mat_sq _ _), ⟨lowD_pos h0, h.1⟩, fun r hr x hx => ?_, (low_red h0).2, orth_scale (gM_ne (R := matL xs.length M) h0) (fun i k hi hk => ?_) lowD_back.symm ho⟩
      · have := hgt_leI.1 h.2 x (List.mem_flatten.2 ⟨r, hr, hx⟩)
        omega
      · rw [low_at, mat_at _ hi hk]
    rw [made_some h.1 h.2, moveB_iff.2 hok, if_pos rfl]
  · rw [made_none h, if_neg]
    intro hm
    have hok := moveB_iff.1 hm
    refine h ⟨hok.den.2, hgt_leI.2 fun x hx => ?_⟩
    obtain ⟨r, hr, hx⟩ := List.mem_flatten.1 hx
    have := hok.bd r hr x hx
    omega
theorem stay_made {xs : List Int} (hf : fvB xs = true) (h3 : xs.length ≤ 3) : madeV xs.length (idF 1) 1 = some (stayL xs.length, 1) := by
  rw [made_tidy hf h3 (by decide) (id_orth _ _ _)]
  exact tidy_is (k := 1) (l := 1) (stay_ok hf h3) (by decide) (by decide) (by decide) (by decide) fun i j hi hj => by rw [stay_at hi hj]

set_option maxRecDepth 100000 in
set_option maxHeartbeats 1000000 in
theorem movable_any (v : Value) (xs : List Int) (w : World) (h : Rd w v xs) : Calls Try.prog 51 #[v] w fun e w' => e = .returned (.bool (frm3B xs)) ∧ w = w' := by
  obtain ⟨a, cap, rfl, _⟩ := h.form
  have HX := hid h
  clear h
  cases hf : fvB xs with
  | false =>
    have HF := hid hf
    have HE : Hid (frm3B xs = false) := hid (by unfold frm3B; rw [hf]; rfl)
    clear hf
    go_enter Try.func51, Try.ntmps51
    go_wp2_with (go_at_call 88; refine (formValidP_any _ xs _ HX.out).mono ?_; rw [HF.out]; rintro e w' ⟨rfl, rfl⟩)
    go_ret
    exact ⟨retB HE.out.symm, rfl⟩
  | true =>
    have HF := hid hf
    have HE : Hid (frm3B xs = decide (xs.length ≤ 3)) := hid (by unfold frm3B; rw [hf]; rfl)
    have hl := (fvB_iff.1 hf).2
    clear hf
    by_cases h3 : (xs.length : Int) ≤ 3
    · have HD : Hid (frm3B xs = true) := hid (by rw [HE.out]; exact decide_eq_true (by omega))
      go_enter Try.func51, Try.ntmps51
      go_wp2_with (go_at_call 88; refine (formValidP_any _ xs _ HX.out).mono ?_; rw [HF.out]; rintro e w' ⟨rfl, rfl⟩)
      go_ret
      exact ⟨retB HD.out.symm, rfl⟩
    · have HD : Hid (frm3B xs = false) := hid (by rw [HE.out]; exact decide_eq_false (by omega))
      go_enter Try.func51, Try.ntmps51
      go_wp2_with (go_at_call 88; refine (formValidP_any _ xs _ HX.out).mono ?_; rw [HF.out]; rintro e w' ⟨rfl, rfl⟩)
      go_ret
      exact ⟨retB (by rw [HD.out]; exact decide_eq_false (by omega)), rfl⟩

theorem movePost_un {o : Option (List (List Int) × Int)} {w w' : World} {e : Ending} (h : MovePost o w e w') : ∃ (R : List (List Int)) (d : Int) (b : Bool) (a : Option Addr) (c : Nat), e = .returned (.tuple #[.agg #[.slice a R.length c, .int .i64 d], .bool b]) ∧ OwnM w' w.heap.size none (.slice a R.length c) R ∧ Below w.heap.size w w' ∧ Hid (R = o.elim [] (·.1) ∧ d = o.elim 0 (·.2) ∧ b = o.isSome) := by
  obtain ⟨u, rfl, ho, hb⟩ := h
  obtain ⟨a, c, rfl⟩ := ho.rd.form
  exact ⟨_, _, _, a, c, rfl, ho, hb, hid ⟨rfl, rfl, rfl⟩⟩
theorem movePost_o {o : Option (List (List Int) × Int)} {w w2 : World} {k B : Nat} {u : Value} {R : List (List Int)} {d : Int} {b : Bool} (ho : OwnM w2 B none u R) (hb : Below w.heap.size w w2) (hk : w.heap.size ≤ k) (hkB : k < B) (v0 v1 : Value) (he : R = o.elim [] (·.1) ∧ d = o.elim 0 (·.2) ∧ b = o.isSome) : MovePost o w (.returned (.tuple #[.agg #[u, .int .i64 d], .bool b])) ((w2.setCell ⟨k, 0, none⟩ v0).setCell ⟨k, 1, none⟩ v1) := by
  obtain ⟨rfl, rfl, rfl⟩ := he
  exact ⟨u, rfl, ((ho.setLow (a := ⟨k, 0, none⟩) (.inl hkB) v0).setLow (a := ⟨k, 1, none⟩) (.inl hkB) v1).down (by omega), (hb.setCell hk _).setCell hk _⟩
set_option maxRecDepth 100000 in
set_option maxHeartbeats 2000000 in
theorem moveStay_any (v : Value) (xs : List Int) (w : World) (h : Rd w v xs) : Calls Try.prog 21 #[v] w (MovePost (stayV xs) w) := by
  obtain ⟨a, cap, rfl, _⟩ := h.form
  have hbl : Below w.heap.size w (w.alloc (.cells #[.slice none 0 0, .int .i64 0] 29)) := below_box2 _ _
  have HX := hid (h.keep hbl)
  have HB := hid hbl
  have HR : Hid ((w.alloc (.cells #[.slice none 0 0, .int .i64 0] 29)).heap[w.heap.size]? = some (.cells #[.slice none 0 0, .int .i64 0] 29 (0, 0))) := hid (heap_new rfl)
  clear h hbl
  cases hf : frm3B xs with
  | false =>
    have HF := hid hf
    have HE : Hid (stayV xs = none) := hid (by unfold stayV; rw [hf]; rfl)
    clear hf
    go_enter Try.func21, Try.ntmps21
    go_wp2_with (go_at_call 51; refine (movable_any _ xs _ HX.out).mono ?_; rw [HF.out]; rintro e w' ⟨rfl, rfl⟩)
    refine bodyPost_ret (v := .tuple #[.agg #[.slice none 0 0, .int .i64 0], .bool false]) (by simp [results, Try.results21, go_sem] <;> go_simp) rfl ?_
    rw [HE.out]
    first | exact ⟨_, rfl, ownM_nil _ _ _, HB.out⟩ | exact movePost_none HB.out (Nat.le_refl _) _ _
  | true =>
    have HF := hid hf
    have hf2 : fvB xs = true ∧ xs.length ≤ 3 := by unfold frm3B at hf; rwa [Bool.and_eq_true, decide_eq_true_eq] at hf
    have HE : Hid (stayV xs = some (stayL xs.length, 1)) := hid (by unfold stayV; rw [hf]; rfl)
    have HM := hid (fun w => moveOf_any xs.length (form_n3 hf2.1 hf2.2) 53 #[] (idF 1) 1 (by decide) (by unfold B14; omega) (fun i j _ _ => by unfold B14 idF; split <;> omega) w (enters_of Try.func53 (by kernel_rfl) rfl) (fun i j w' hi hj _ => by
      refine (stayAt_any i j (by omega) (by omega) w').mono ?_
      rintro e w'' ⟨rfl, hb⟩
      refine ⟨_, _, rfl, ⟨by omega, Nat.gcd_one_right _, ?_⟩, hb⟩
      unfold idF
      rfl))
    rw [stay_made hf2.1 hf2.2, ← HE.out] at HM
    clear hf hf2
    go_enter Try.func21, Try.ntmps21
    go_wp2_with (go_at_call 51; refine (movable_any _ xs _ HX.out).mono ?_; rw [HF.out]; rintro e w' ⟨rfl, rfl⟩)
    refine (HM.out _).mono ?_
    rintro e w2 hp
    obtain ⟨R2, d2, b2, au, cu, rfl, ho, hb2, HE2⟩ := movePost_un hp
    have HO := hid ho
    have hq := heap_below hb2 HR.out
    have z0 := cellB (i := 0) hq
    have z1 := cellB (i := 1) hq
    have y0 := frozenB (i := 0) hq
    have y1 := frozenB (i := 1) hq
    have HB2 := hid (HB.out.trans (hb2.mono HB.out.size))
    clear ho hb2 hq hp
    go_wp2_with fail
    refine bodyPost_ret (v := .tuple #[.agg #[.slice au R2.length cu, .int .i64 d2], .bool b2]) (by simp [results, Try.results21, go_sem] <;> go_simp) rfl ?_
    exact movePost_o HO.out HB2.out (Nat.le_refl _) (by simp) _ _ HE2.out

end Go.Proofs.Ytacjejnbomdhbab
