/-
  Contracts of the model's quaternions.
-/
import Derived.Test.YtdclmjmefkgbbabQuA
import Derived.Test.YtdclmjmefkgbbabQBun3
import Derived.Test.YtdclmjmefkgbbabQBun8
import Derived.StillTailTactics
set_option linter.unusedVariables false
namespace Go.Proofs.Ytdclmjmefkgbbab
open Go.RowKit

theorem rd_quat {w : World} {v : Value} {a b c d : Int} (h : Rd w v [a, b, c, d]) : ∃ g o cap, v = .slice (some ⟨g, o, none⟩) 4 cap ∧ w.cell? ⟨g, o, none⟩ = some (.int .i64 a) ∧ w.cell? ⟨g, o + 1, none⟩ = some (.int .i64 b) ∧ w.cell? ⟨g, o + 2, none⟩ = some (.int .i64 c) ∧ w.cell? ⟨g, o + 3, none⟩ = some (.int .i64 d) := by
  obtain ⟨ad, cap, rfl, hform⟩ := h.form
  obtain ⟨g, o, rfl, _, hc⟩ := hform (by simp)
  exact ⟨g, o, cap, rfl, hc 0 (by simp), hc 1 (by simp), hc 2 (by simp), hc 3 (by simp)⟩
theorem rd_vec3 {w : World} {v : Value} {a b c : Int} (h : Rd w v [a, b, c]) : ∃ g o cap, v = .slice (some ⟨g, o, none⟩) 3 cap ∧ w.cell? ⟨g, o, none⟩ = some (.int .i64 a) ∧ w.cell? ⟨g, o + 1, none⟩ = some (.int .i64 b) ∧ w.cell? ⟨g, o + 2, none⟩ = some (.int .i64 c) := by
  obtain ⟨ad, cap, rfl, hform⟩ := h.form
  obtain ⟨g, o, rfl, _, hc⟩ := hform (by simp)
  exact ⟨g, o, cap, rfl, hc 0 (by simp), hc 1 (by simp), hc 2 (by simp)⟩
theorem row_new4 (w : World) (a b c d : Int) : Owns (w.alloc (.cells #[.int .i64 a, .int .i64 b, .int .i64 c, .int .i64 d] 3)) w.heap.size (.slice (some ⟨w.heap.size, 0, none⟩) 4 4) [a, b, c, d] :=
  ⟨by simp, .inr ⟨w.heap.size, 4, _, rfl, Nat.le_refl _, heap_alloc_new w _, Nat.le_refl _, by unfold maxLen; omega, by simp, by simp⟩⟩
theorem row_new3 (w : World) (a b c : Int) : Owns (w.alloc (.cells #[.int .i64 a, .int .i64 b, .int .i64 c] 3)) w.heap.size (.slice (some ⟨w.heap.size, 0, none⟩) 3 3) [a, b, c] :=
  ⟨by simp, .inr ⟨w.heap.size, 3, _, rfl, Nat.le_refl _, heap_alloc_new w _, Nat.le_refl _, by unfold maxLen; omega, by simp, by simp⟩⟩
theorem row_new0 (w : World) : Owns (w.alloc (.cells #[] 3)) w.heap.size (.slice (some ⟨w.heap.size, 0, none⟩) 0 0) [] :=
  ⟨by simp, .inr ⟨w.heap.size, 0, _, rfl, Nat.le_refl _, heap_alloc_new w _, Nat.le_refl _, by unfold maxLen; omega, by simp, by simp⟩⟩
theorem Owns.low8 {W : World} {B C : Nat} {v : Value} {xs : List Int} (h : Owns W C v xs) (hb : B ≤ C) : Owns W B v xs := by
  obtain ⟨h1, h2⟩ := h
  refine ⟨h1, ?_⟩
  rcases h2 with h2 | ⟨g, cap, cur, hv, hB, r⟩
  · exact .inl h2
  · exact .inr ⟨g, cap, cur, hv, Nat.le_trans hb hB, r⟩
theorem still_tail_gen {P : Program} {id : Nat} {Q : Exit → Act → World → Prop} {a : Act} {w : World} {l : List Oper} (n : Nat) (hm : P.follows .mixedOrders = true) (hB : Region.lexTailB .any l.toArray n = true)
    (h : ∀ ops : Array Oper, wpStill P ops { w with drawn := w.drawn + 1 } (fun a' => wpList P ops Q (l.drop n) a' { w with drawn := w.drawn + 1 }) (l.take n) a) : (Code.region id l.toArray true).wp P Q a w :=
  wp_region_still_tail n hm hB (h _)
theorem wrap_q8 {x : Int} (h1 : -100000000 ≤ x) (h2 : x ≤ 100000000) : wrap64 x = x := by unfold wrap64; omega
theorem wrap_q9 {x : Int} (h1 : -1000000000 ≤ x) (h2 : x ≤ 1000000000) : wrap64 x = x := by unfold wrap64; omega
theorem below_w8 {w : World} {o : Obj} : Below w.heap.size w (w.alloc o) := (Below.refl _ _).alloc (Nat.le_refl _) _
theorem quat_end {xs : List Int} (h : ∀ i, i < xs.length → inR (xs.getD i 0) (-10000) 10000 = true) : ((xs.length : Int) == 4) = quatB xs := by
  have e : inAll xs 10000 = true := by
    unfold inAll
    rw [List.all_eq_true]
    intro x hx
    obtain ⟨i, hi, rfl⟩ := List.mem_iff_getElem.1 hx
    have := h i hi
    rwa [getD_at _ _ hi] at this
  unfold quatB
  rw [e, Bool.true_and]
  by_cases h4 : (xs.length : Int) = 4
  · rw [decide_eq_true h4, beq_iff_eq]; exact h4
  · rw [decide_eq_false h4, beq_eq_false_iff_ne]; exact h4
theorem quat_bad {xs : List Int} {i : Nat} (hi : i < xs.length) (h : inR (xs.getD i 0) (-10000) 10000 = false) : quatB xs = false := by
  have e : inAll xs 10000 = false := by
    unfold inAll
    rw [List.all_eq_false]
    exact ⟨xs.getD i 0, by rw [getD_at _ _ hi]; exact List.getElem_mem _, by rw [h]; decide⟩
  unfold quatB
  rw [e, Bool.false_and]

set_option maxRecDepth 100000 in
set_option maxHeartbeats 1000000 in
theorem quatValidS_any (v : Value) (xs : List Int) (w : World) (h : Rd w v xs) : Calls Try.prog 85 #[v] w fun e w' => e = .returned (.bool (quatB xs)) ∧ w = w' := by
  obtain ⟨a, cap, rfl, hform⟩ := h.form
  have HFM := hid hform
  have hmx : xs.length ≤ maxLen := by
    rcases Nat.eq_zero_or_pos xs.length with e | e
    · rw [e]; exact Nat.zero_le _
    · obtain ⟨_, _, _, hm, _⟩ := hform e; exact hm
  unfold maxLen at hmx
  clear hform h
  go_enter Try.func85, Try.ntmps85
  go_wp2_with fail
  go_loop [3] (fun si => ∃ K : Nat, si = .int .i64 K ∧ K ≤ xs.length ∧ Hid (∀ i, i < K → inR (xs.getD i 0) (-10000) 10000 = true)) (fun si => xs.length - (intOf si).toNat)
  case atStart => exact ⟨0, rfl, by omega, hid (fun i hi => by omega)⟩
  case round =>
    obtain ⟨K, rfl, hK, HE⟩ := hrel
    by_cases hlt : K < xs.length
    · obtain ⟨b, o, rfl, hml, hc⟩ := HFM.out (by omega)
      have hcell := hc K hlt
      have hKi : (K : Int) < (xs.length : Int) := by omega
      have HLT := hid hlt
      cases hB : inR (xs.getD K 0) (-10000) 10000 with
      | false =>
        have HX := hid (quat_bad hlt hB)
        have HL := hid (fun w => l6In_any (xs.getD K 0) (-10000) 10000 w)
        rw [hB] at HL
        obtain ⟨x, hx⟩ : ∃ x, x = xs.getD K 0 := ⟨_, rfl⟩
        rw [← hx] at hcell HL
        clear hc hml hlt hB hx
        go_wp2_with (go_at_call 80; refine (HL.out _).mono ?_; rintro e w' ⟨rfl, rfl⟩)
        go_ret
        exact ⟨retB HX.out.symm, rfl⟩
      | true =>
        have HX := hid hB
        have HL := hid (fun w => l6In_any (xs.getD K 0) (-10000) 10000 w)
        rw [hB] at HL
        obtain ⟨x, hx⟩ : ∃ x, x = xs.getD K 0 := ⟨_, rfl⟩
        rw [← hx] at hcell HL
        clear hc hml hlt hB hx
        go_wp2_with (go_at_call 80; refine (HL.out _).mono ?_; rintro e w' ⟨rfl, rfl⟩)
        go_round
        case measure => simp only [intOf]; have := HLT.out; omega
        case rel => exact ⟨K + 1, by go_num, by have := HLT.out; omega, hid (fun i hi => by
          rcases Nat.lt_or_ge i K with h | h
          · exact HE.out i h
          · rw [show i = K by omega]; exact HX.out)⟩
    · obtain rfl : K = xs.length := by omega
      have HX := hid (quat_end HE.out)
      clear hlt
      go_wp2_with fail
      go_ret
      exact ⟨retB HX.out, rfl⟩

theorem qnorm_yes {a b c d : Int} (h : quatB [a, b, c, d] = true) : qnormV [a, b, c, d] = a * a + b * b + c * c + d * d := by unfold qnormV normI; rw [if_pos h]; rfl
theorem qnorm_no {xs : List Int} (h : quatB xs = false) : qnormV xs = -1 := by unfold qnormV; rw [h]; rfl
set_option maxRecDepth 100000 in
set_option maxHeartbeats 1000000 in
theorem quatNormS_any (v : Value) (xs : List Int) (w : World) (h : Rd w v xs) : Calls Try.prog 47 #[v] w fun e w' => e = .returned (.int .i64 (qnormV xs)) ∧ ∃ k, w' = w.drewN k := by
  have HV := hid (quatValidS_any v xs w h)
  cases hq : quatB xs with
  | false =>
    rw [hq] at HV
    have HF := hid (qnorm_no hq)
    clear h hq
    go_enter Try.func47, Try.ntmps47
    go_wp2_with (go_at_call 85; refine HV.out.mono ?_; rintro e w' ⟨rfl, rfl⟩)
    go_ret
    exact ⟨retI HF.out.symm, 0, rfl⟩
  | true =>
    rw [hq] at HV
    obtain ⟨a, b, c, d, rfl, ha, hb, hc, hd⟩ := quat_list hq
    have HF := hid (qnorm_yes hq)
    obtain ⟨g, o, cap, rfl, c0, c1, c2, c3⟩ := rd_quat h
    have ma := ha.mul ha
    have mb := hb.mul hb
    have mc := hc.mul hc
    have md := hd.mul hd
    unfold InQ at ha hb hc hd
    clear h hq
    go_enter Try.func47, Try.ntmps47
    go_wp2_with (go_at_call 85; refine HV.out.mono ?_; rintro e w' ⟨rfl, rfl⟩)
    go_quiet (fail)
    go_wp2
    go_ret
    exact ⟨retI HF.out.symm, _, rfl⟩

theorem qmul_no {xs ys : List Int} (h : quatB xs = false ∨ quatB ys = false) : qmulOk xs ys = false ∧ qmulL xs ys = [] := by
  have e : qmulOk xs ys = false := by unfold qmulOk; rcases h with h | h <;> rw [h] <;> simp
  exact ⟨e, by unfold qmulL; rw [e]; rfl⟩
theorem qmul_out {xs ys : List Int} (h1 : quatB xs = true) (h2 : quatB ys = true) (h : quatB (mulQ xs ys) = false) : qmulOk xs ys = false ∧ qmulL xs ys = [] := by
  have e : qmulOk xs ys = false := by unfold qmulOk; rw [h1, h2, h]; rfl
  exact ⟨e, by unfold qmulL; rw [e]; rfl⟩
theorem qmul_yes {xs ys : List Int} (h1 : quatB xs = true) (h2 : quatB ys = true) (h : quatB (mulQ xs ys) = true) : qmulOk xs ys = true ∧ qmulL xs ys = mulQ xs ys := by
  have e : qmulOk xs ys = true := by unfold qmulOk; rw [h1, h2, h]; rfl
  exact ⟨e, by unfold qmulL; rw [if_pos e]⟩
def QPost (ok : Bool) (L : List Int) (w : World) (e : Ending) (w' : World) : Prop := ∃ u, e = .returned (.tuple #[u, .bool ok]) ∧ Owns w' w.heap.size u L ∧ Below w.heap.size w w'
theorem qpost_none {w wr : World} (hb : Below w.heap.size w wr) : QPost false [] w (.returned (.tuple #[.slice (some ⟨wr.heap.size, 0, none⟩) 0 0, .bool false])) (wr.alloc (.cells #[] 3)) :=
  ⟨_, rfl, (row_new0 wr).low8 hb.size, hb.alloc hb.size _⟩

theorem qconj_no {xs : List Int} (h : quatB xs = false) : qconjL xs = [] := by unfold qconjL; rw [h]; rfl
theorem qconj_yes {a b c d : Int} (h : quatB [a, b, c, d] = true) : qconjL [a, b, c, d] = [a, -b, -c, -d] := by unfold qconjL; rw [if_pos h]; rfl
set_option maxRecDepth 100000 in
set_option maxHeartbeats 1000000 in
theorem quatConjS_any (v : Value) (xs : List Int) (w : World) (h : Rd w v xs) : Calls Try.prog 53 #[v] w (QPost (quatB xs) (qconjL xs) w) := by
  have HV := hid (quatValidS_any v xs w h)
  have HN := hid (qpost_none (Below.refl w.heap.size w))
  cases hq : quatB xs with
  | false =>
    rw [hq] at HV
    rw [qconj_no hq]
    clear h hq
    go_enter Try.func53, Try.ntmps53
    go_wp2_with (go_at_call 85; refine HV.out.mono ?_; rintro e w' ⟨rfl, rfl⟩)
    go_ret2
    exact HN.out
  | true =>
    rw [hq] at HV
    obtain ⟨a, b, c, d, rfl, ha, hb, hc, hd⟩ := quat_list hq
    rw [qconj_yes hq]
    obtain ⟨g, o, cap, rfl, c0, c1, c2, c3⟩ := rd_quat h
    unfold InQ at ha hb hc hd
    have HBD : Hid (Below w.heap.size w w.drew) := hid (⟨rfl, rfl, rfl, Nat.le_refl _, fun _ _ => rfl⟩)
    clear h hq
    go_enter Try.func53, Try.ntmps53
    go_wp2_with (go_at_call 85; refine HV.out.mono ?_; rintro e w' ⟨rfl, rfl⟩)
    go_still_tail 15, (by kernel_rfl)
    change wpList _ _ _ _ _ w.drew
    generalize w.drew = wd at HBD ⊢
    clear c0 c1 c2 c3
    have HO := hid ((row_new4 wd a (-b) (-c) (-d)).low8 HBD.out.size)
    have HBX := hid (HBD.out.alloc HBD.out.size (.cells #[.int .i64 a, .int .i64 (-b), .int .i64 (-c), .int .i64 (-d)] 3))
    go_wp2_with fail
    go_ret2
    exact ⟨_, rfl, HO.out, HBX.out⟩

end Go.Proofs.Ytdclmjmefkgbbab
