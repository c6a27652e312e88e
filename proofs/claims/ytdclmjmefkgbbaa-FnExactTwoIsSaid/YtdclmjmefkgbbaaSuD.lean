/-
  Contract of the program's TwoIs: a loop over the prime powers that returns at once.
-/
import Derived.Test.YtdclmjmefkgbbaaQIter
import Derived.Test.YtdclmjmefkgbbaaSuC
import Derived.Test.YtdclmjmefkgbbaaQBun14
set_option linter.unusedVariables false
namespace Go.Proofs.Ytdclmjmefkgbbaa
open Go.RowKit Go.Shelf
attribute [local go_sem] Oper.semAt_some

def badPP (x : Nat × Nat) : Bool := decide (x.1 % 4 = 3) && decide (x.2 % 2 = 1)
theorem twoIs_yes {N : Nat} (h : sumB (N : Int) = true) : twoIsB (N : Int) = (ppow N).all (fun x => !badPP x) := by unfold twoIsB; rw [h, Int.toNat_natCast]; rfl
theorem twoIs_no {n : Int} (h : sumB n = false) : twoIsB n = false := by unfold twoIsB; rw [h]; rfl

set_option maxRecDepth 100000 in
set_option maxHeartbeats 1000000 in
theorem pp_in0 (n l Bn : Nat) (W : World) (hBn : W.cell? ⟨Bn, 0, none⟩ = some (.int .i64 0)) :
    CallsIn Fence.wide n Try.prog 71 #[.func (.yield l) #[] #[], .pointer (some ⟨Bn, 0, none⟩)] W fun e W' => (∃ v, e = .returned v) ∧ W' = W := by
  have hs := hid (fun w => size_any 0 (by omega) (by omega) w)
  refine callsIn_of_wp Try.func71 rfl trivial ?_ rfl
  simp only [Try.ntmps71, List.size_toArray, List.length_cons, List.length_nil, Nat.reduceAdd, Nat.reduceSub, Array.replicate_succ, Array.replicate_zero, List.push_toArray, List.append_toArray, List.nil_append, List.cons_append]
  gi_wp2_with (refine ⟨trivial, wide_depth n, ?_⟩; gi_at_call 72; refine (callsIn_wide.2 (hs.out _)).mono ?_; rintro e w' ⟨rfl, rfl⟩)
  gi_loop [3, 4] (fun sl sp => sl = .int .i64 0 ∧ sp = .int .i64 2) (fun _ _ => 0)
  case atStart => exact ⟨rfl, rfl⟩
  case round =>
    obtain ⟨rfl, rfl⟩ := hrel
    gi_wp2
    go_end0
    exact ⟨⟨_, rfl⟩, rfl⟩

theorem pp_stops0 (n Bn : Nat) (w : World) (hBn : Bn < w.heap.size) (hc : w.cell? ⟨Bn, 0, none⟩ = some (.int .i64 0)) :
    SeqStopsK Fence.wide n Try.prog 71 #[.pointer (some ⟨Bn, 0, none⟩)] encP KeepsWalks (fun ys => ys.map (·.1) = ppow 0) (fun pre => pre.map (·.1) <+: ppow 0) (ppow 0).length w := fun l J Jx W hW _ _ hY hJ0 => by
  refine (pp_in0 n l Bn W ((hW.cell (p := ⟨Bn, 0, none⟩) hBn).trans hc)).mono ?_
  rintro e W' ⟨hv, rfl⟩
  exact ⟨hv, .inl ⟨[], rfl, hJ0⟩⟩
theorem pp_stopsN (n Bn N : Nat) (h2 : N ≤ 2000) (w : World) (hBn : Bn < w.heap.size) (hc : w.cell? ⟨Bn, 0, none⟩ = some (.int .i64 (N : Int))) :
    SeqStopsK Fence.wide n Try.prog 71 #[.pointer (some ⟨Bn, 0, none⟩)] encP KeepsWalks (fun ys => ys.map (·.1) = ppow N) (fun pre => pre.map (·.1) <+: ppow N) (ppow N).length w := by
  rcases Nat.eq_zero_or_pos N with e | e
  · subst e
    exact pp_stops0 n Bn w hBn hc
  · have := pp_stops n Bn (N : Int) (by omega) (by omega) (by omega) w hBn hc
    rwa [Int.natAbs_natCast] at this

theorem all_end {N : Nat} {ys : List PP} (hS : ys.map (·.1) = ppow N) (h : ∀ x ∈ ys, badPP x.1 = false) : (ppow N).all (fun x => !badPP x) = true := by
  rw [← hS, List.all_eq_true]
  intro x hx
  obtain ⟨y, hy, rfl⟩ := List.mem_map.1 hx
  rw [h y hy]; rfl
theorem all_stop {N : Nat} {pre : List PP} (hS : pre.map (·.1) <+: ppow N) (h : ∃ x ∈ pre, badPP x.1 = true) : (ppow N).all (fun x => !badPP x) = false := by
  rw [List.all_eq_false]
  obtain ⟨x, hx, hb⟩ := h
  refine ⟨x.1, hS.subset (List.mem_map.2 ⟨x, hx, rfl⟩), ?_⟩
  rw [hb]; decide

set_option maxRecDepth 100000 in
set_option maxHeartbeats 1000000 in
theorem twoIs_in (N : Nat) (h2 : N ≤ 2000) (w : World) : Calls Try.prog 18 #[.int .i64 (N : Int)] w fun e w' => e = .returned (.bool ((ppow N).all (fun x => !badPP x))) ∧ Below w.heap.size w w' := by
  have hmx : (Try.prog).follows .mixedOrders = true := by kernel_rfl
  have HS := hid (fun w => summed_any (N : Int) w)
  rw [show sumB (N : Int) = true by unfold sumB inR; simp; omega] at HS
  have hB0 : Below w.heap.size w ((w.alloc (.cells #[.bool false] 4)).alloc (.cells #[.int .i64 N] 42)) := ((Below.refl _ _).alloc (Nat.le_refl _) _).alloc (by simp) _
  have bL := (Boxed.new w 4 (.bool false)).alloc (.cells #[.int .i64 N] 42)
  have bN := Boxed.new (w.alloc (.cells #[.bool false] 4)) 42 (.int .i64 N)
  rw [World.size_alloc] at bN
  refine (callsIn_wide (n := 5)).1 ?_
  refine callsIn_of_wp_marks Try.func18 rfl trivial ?_ rfl
  simp only [Try.ntmps18, List.size_toArray, List.length_cons, List.length_nil, Nat.reduceAdd, Nat.reduceSub, Array.replicate_succ, Array.replicate_zero, List.push_toArray, List.append_toArray, List.nil_append, List.cons_append]
  gi_wp2_with (first | (refine ⟨trivial, ?_⟩; gi_at_call 53; refine (callsIn_wide.2 (pp_make _ _)).mono ?_; rintro e w' ⟨rfl, rfl⟩) | (refine ⟨trivial, ?_⟩; gi_at_call 52; refine (callsIn_wide.2 (HS.out _)).mono ?_; rintro e w' ⟨rfl, rfl⟩))
  refine wpIn_rangeFunc_ownF rfl (by omega) (gf := 71) (lb := #[.pointer (some ⟨w.heap.size + 1, 0, none⟩)]) rfl trivial (enters_of Try.func71 (by kernel_rfl) rfl)
    (pp_stopsN _ (w.heap.size + 1) N h2 _ (by simp) bN.cell) walksK_t walksK_b (Below.refl _ _) (fun _ => rfl)
    (fun pre W => ((∀ x ∈ pre, badPP x.1 = false) ∧ Boxed W w.heap.size 4 (.bool false)) ∧ Below w.heap.size w W)
    (fun c pre W => (c = .ret ∧ (∃ x ∈ pre, badPP x.1 = true) ∧ Boxed W w.heap.size 4 (.bool false)) ∧ Below w.heap.size w W)
    (OwnFrom.and (OwnFrom.and (ownFrom_pure _ _) (Own.from (boxed_own _ _ (fun _ => .bool false)) _)) (ownFrom_below (Nat.le_refl _) (by simp; omega)))
    (fun c => OwnFrom.and (fun s A B row hs hg hr => by obtain ⟨hc, x, hb⟩ := hs; exact ⟨hc, x, (Own.from (boxed_own _ _ (fun _ : Unit => Value.bool false)) _) () A B row hb hg hr⟩) (ownFrom_below (Nat.le_refl _) (by simp; omega)))
    ⟨⟨(fun x hx => by cases hx), bL⟩, hB0⟩ ?a1 ?assign ?body ?done ?stop
  case assign =>
    intro l x W K hK
    gi_wp2
    exact hK
  case body =>
    rintro l pre x W ⟨⟨hp, hb⟩, hB⟩ hlt
    obtain ⟨⟨p, k⟩, hp1, hk1⟩ := x
    dsimp only at hp1 hk1
    have HP := hid hp
    have HBX := hid hb
    have HBL := hid hB
    have hc := hb.cell
    have hf := hb.frozen
    clear hp hb hB
    by_cases d3 : p % 4 = 3
    · have T : ((p : Int) % 4 == 3) = true := mod4_is d3
      by_cases d1 : k % 2 = 1
      · have T2 : ((k : Int) % 2 == 1) = true := by rw [beq_iff_eq]; omega
        have HX : Hid (badPP (p, k) = true) := hid (by unfold badPP; rw [decide_eq_true d3, decide_eq_true d1]; rfl)
        clear d3 d1
        gi_wp2
        exact ⟨KeepsOthers.setCell _ _ _, ⟨rfl, ⟨_, List.mem_append_right _ (List.mem_singleton.2 rfl), HX.out⟩, HBX.out.set _⟩, HBL.out.setCell (p := ⟨w.heap.size, 0, none⟩) (Nat.le_refl _) _⟩
      · have T2 : ((k : Int) % 2 == 1) = false := by rw [beq_eq_false_iff_ne]; omega
        have HX : Hid (badPP (p, k) = false) := hid (by unfold badPP; rw [decide_eq_false d1, Bool.and_false])
        clear d3 d1
        gi_wp2
        exact ⟨KeepsOthers.refl _, (KeepsOthers.refl _).walks, ⟨fun y hy => by
          rcases List.mem_append.1 hy with h | h
          · exact HP.out y h
          · rw [List.mem_singleton.1 h]; exact HX.out, HBX.out⟩, HBL.out⟩
    · have T : ((p : Int) % 4 == 3) = false := mod4_not (D := p) (k := 3) d3
      have HX : Hid (badPP (p, k) = false) := hid (by unfold badPP; rw [decide_eq_false d3, Bool.false_and])
      clear d3
      gi_wp2
      exact ⟨KeepsOthers.refl _, (KeepsOthers.refl _).walks, ⟨fun y hy => by
        rcases List.mem_append.1 hy with h | h
        · exact HP.out y h
        · rw [List.mem_singleton.1 h]; exact HX.out, HBX.out⟩, HBL.out⟩
  case done =>
    rintro D ys W hD hS ⟨⟨h, hb⟩, hB⟩ hK
    have hc := hb.cell
    have hf := hb.frozen
    have hn := hid (all_end hS h)
    have hset := hb.set (.bool true)
    have hB2 := hB.setCell (p := ⟨w.heap.size, 0, none⟩) (Nat.le_refl _) (.bool true)
    clear h
    gi_wp2
    have hD2 : D ≠ w.heap.size := by simp at hD; omega
    have hK2 := (KeepsOthers.setCell W ⟨w.heap.size, 0, none⟩ (.bool true)).same D _ hK rfl
    refine ⟨by simp, .inl ⟨_, _, rfl, run_takeDeferred hK2, ?_⟩⟩
    have hfc : ∀ o, ((W.setCell ⟨w.heap.size, 0, none⟩ (.bool true)).putObj D o).cell? ⟨w.heap.size, 0, none⟩ = some (.bool true) := fun o => (boxed_putObjP hset hD2).cell
    refine ⟨.bool true, by simp [results, Try.results18, go_sem, hfc] <;> go_simp, ?_⟩
    exact ⟨retB (by rw [hn.out]), hB2.trans (belowK_b (w := w) (Nat.le_refl _) _ D _ _ (by simp at hD; omega) hK2 rfl rfl)⟩
  case stop =>
    rintro D c pre W hD hSp ⟨⟨rfl, hx, hb⟩, hB⟩ hK
    have hc := hb.cell
    have hn := hid (all_stop hSp hx)
    clear hx
    gi_wp2
    have hD2 : D ≠ w.heap.size := by simp at hD; omega
    refine ⟨by simp, .inl ⟨_, _, rfl, run_takeDeferred hK, ?_⟩⟩
    have hfc : ∀ o, (W.putObj D o).cell? ⟨w.heap.size, 0, none⟩ = some (.bool false) := fun o => (boxed_putObjP hb hD2).cell
    refine ⟨.bool false, by simp [results, Try.results18, go_sem, hfc] <;> go_simp, ?_⟩
    exact ⟨retB (by rw [hn.out]), hB.trans (belowK_b (w := w) (Nat.le_refl _) W D _ _ (by simp at hD; omega) hK rfl rfl)⟩

set_option maxRecDepth 100000 in
theorem twoIs_any (n : Int) (w : World) : Calls Try.prog 18 #[.int .i64 n] w fun e w' => e = .returned (.bool (twoIsB n)) ∧ Below w.heap.size w w' := by
  have HS := hid (fun w : World => summed_any n w)
  cases H : sumB n with
  | false =>
    rw [H] at HS
    have HF := hid (twoIs_no H)
    have hc := (Boxed.new w 4 (.bool false)).cell
    have hf := (Boxed.new w 4 (.bool false)).frozen
    have hB : Below w.heap.size w (w.alloc (.cells #[.bool false] 4)) := (Below.refl _ _).alloc (Nat.le_refl _) _
    clear H
    go_enter Try.func18, Try.ntmps18
    go_wp2_with (go_at_call 52; refine (HS.out _).mono ?_; rintro e w' ⟨rfl, rfl⟩)
    refine bodyPost_ret (v := .bool false) (by simp [results, Try.results18, go_sem] <;> go_simp) rfl ?_
    exact ⟨retB HF.out.symm, hB⟩
  | true =>
    have hn : 0 ≤ n ∧ n ≤ 2000 := by
      rcases sumB_cases n with ⟨a, b, _⟩ | ⟨_, c⟩ | ⟨_, _, c⟩
      · exact ⟨a, b⟩
      · rw [H] at c; cases c
      · rw [H] at c; cases c
    obtain ⟨N, rfl⟩ := Int.eq_ofNat_of_zero_le hn.1
    rw [twoIs_yes H]
    exact twoIs_in N (by omega) w

end Go.Proofs.Ytdclmjmefkgbbaa
