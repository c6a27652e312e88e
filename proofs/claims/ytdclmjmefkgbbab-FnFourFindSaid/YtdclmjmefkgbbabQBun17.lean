/-
  Some texts in one file: SuD SuE.
-/
import Derived.Test.YtdclmjmefkgbbabQIter
import Derived.Test.YtdclmjmefkgbbabQBun16
import Derived.Test.YtdclmjmefkgbbabQBun14
import Derived.Test.YtdclmjmefkgbbabQBun3
import Derived.Test.YtdclmjmefkgbbabQBun8
import Derived.Test.YtdclmjmefkgbbabQBun5
/-! SuD -/
set_option linter.unusedVariables false
namespace Go.Proofs.Ytdclmjmefkgbbab
open Go.RowKit Go.Shelf
attribute [local go_sem] Oper.semAt_some

def badPP (x : Nat × Nat) : Bool := decide (x.1 % 4 = 3) && decide (x.2 % 2 = 1)
theorem twoIs_yes {N : Nat} (h : sumB (N : Int) = true) : twoIsB (N : Int) = (ppow N).all (fun x => !badPP x) := by unfold twoIsB; rw [h, Int.toNat_natCast]; rfl
theorem twoIs_no {n : Int} (h : sumB n = false) : twoIsB n = false := by unfold twoIsB; rw [h]; rfl

set_option maxRecDepth 100000 in
set_option maxHeartbeats 1000000 in
theorem pp_in0 (n l Bn : Nat) (W : World) (hBn : W.cell? ⟨Bn, 0, none⟩ = some (.int .i64 0)) :
    CallsIn Fence.wide n Try.prog 90 #[.func (.yield l) #[] #[], .pointer (some ⟨Bn, 0, none⟩)] W fun e W' => (∃ v, e = .returned v) ∧ W' = W := by
  have hs := hid (fun w => size_any 0 (by omega) (by omega) w)
  refine callsIn_of_wp Try.func90 rfl trivial ?_ rfl
  simp only [Try.ntmps90, List.size_toArray, List.length_cons, List.length_nil, Nat.reduceAdd, Nat.reduceSub, Array.replicate_succ, Array.replicate_zero, List.push_toArray, List.append_toArray, List.nil_append, List.cons_append]
  gi_wp2_with (refine ⟨trivial, wide_depth n, ?_⟩; gi_at_call 91; refine (callsIn_wide.2 (hs.out _)).mono ?_; rintro e w' ⟨rfl, rfl⟩)
  gi_loop [3, 4] (fun sl sp => sl = .int .i64 0 ∧ sp = .int .i64 2) (fun _ _ => 0)
  case atStart => exact ⟨rfl, rfl⟩
  case round =>
    obtain ⟨rfl, rfl⟩ := hrel
    gi_wp2
    go_end0
    exact ⟨⟨_, rfl⟩, rfl⟩

theorem pp_stops0 (n Bn : Nat) (w : World) (hBn : Bn < w.heap.size) (hc : w.cell? ⟨Bn, 0, none⟩ = some (.int .i64 0)) :
    SeqStopsK Fence.wide n Try.prog 90 #[.pointer (some ⟨Bn, 0, none⟩)] encP KeepsWalks (fun ys => ys.map (·.1) = ppow 0) (fun pre => pre.map (·.1) <+: ppow 0) (ppow 0).length w := fun l J Jx W hW _ _ hY hJ0 => by
  refine (pp_in0 n l Bn W ((hW.cell (p := ⟨Bn, 0, none⟩) hBn).trans hc)).mono ?_
  rintro e W' ⟨hv, rfl⟩
  exact ⟨hv, .inl ⟨[], rfl, hJ0⟩⟩
theorem pp_stopsN (n Bn N : Nat) (h2 : N ≤ 2000) (w : World) (hBn : Bn < w.heap.size) (hc : w.cell? ⟨Bn, 0, none⟩ = some (.int .i64 (N : Int))) :
    SeqStopsK Fence.wide n Try.prog 90 #[.pointer (some ⟨Bn, 0, none⟩)] encP KeepsWalks (fun ys => ys.map (·.1) = ppow N) (fun pre => pre.map (·.1) <+: ppow N) (ppow N).length w := by
  rcases Nat.eq_zero_or_pos N with e | e
  · subst e
    exact pp_stops0 n Bn w hBn hc
  · have := pp_stops n Bn (N : Int) (by omega) (by omega) (by omega) w hBn hc
    rwa [Int.natAbs_natCast] at this

theorem all_end {N : Nat} {ys : List PP} (hS : ys.map (·.1) = ppow N) (h : ∀ x ∈ ys, badPP x.1 = false) : (ppow N).all (fun x => !badPP x) = true := by
  rw [← hS, List.all_eq_true]
  intro x hx
  obtain ⟨y, hy, rfl⟩ := List.mem_map.1 hx
  rw [h y hy]; rfl
theorem all_stop {N : Nat} {pre : List PP} (hS : pre.map (·.1) <+: ppow N) (h : ∃ x ∈ pre, badPP x.1 = true) : (ppow N).all (fun x => !badPP x) = false := by
  rw [List.all_eq_false]
  obtain ⟨x, hx, hb⟩ := h
  refine ⟨x.1, hS.subset (List.mem_map.2 ⟨x, hx, rfl⟩), ?_⟩
  rw [hb]; decide

set_option maxRecDepth 100000 in
set_option maxHeartbeats 1000000 in
theorem twoIs_in (N : Nat) (h2 : N ≤ 2000) (w : World) : Calls Try.prog 16 #[.int .i64 (N : Int)] w fun e w' => e = .returned (.bool ((ppow N).all (fun x => !badPP x))) ∧ Below w.heap.size w w' := by
  have hmx : (Try.prog).follows .mixedOrders = true := by kernel_rfl
  have HS := hid (fun w => summed_any (N : Int) w)
  rw [show sumB (N : Int) = true by unfold sumB inR; simp; omega] at HS
  have hB0 : Below w.heap.size w ((w.alloc (.cells #[.bool false] 4)).alloc (.cells #[.int .i64 N] 48)) := ((Below.refl _ _).alloc (Nat.le_refl _) _).alloc (by simp) _
  have bL := (Boxed.new w 4 (.bool false)).alloc (.cells #[.int .i64 N] 48)
  have bN := Boxed.new (w.alloc (.cells #[.bool false] 4)) 48 (.int .i64 N)
  rw [World.size_alloc] at bN
  refine (callsIn_wide (n := 5)).1 ?_
  refine callsIn_of_wp_marks Try.func16 rfl trivial ?_ rfl
  simp only [Try.ntmps16, List.size_toArray, List.length_cons, List.length_nil, Nat.reduceAdd, Nat.reduceSub, Array.replicate_succ, Array.replicate_zero, List.push_toArray, List.append_toArray, List.nil_append, List.cons_append]
  gi_wp2_with (first | (refine ⟨trivial, ?_⟩; gi_at_call 61; refine (callsIn_wide.2 (pp_make _ _)).mono ?_; rintro e w' ⟨rfl, rfl⟩) | (refine ⟨trivial, ?_⟩; gi_at_call 60; refine (callsIn_wide.2 (HS.out _)).mono ?_; rintro e w' ⟨rfl, rfl⟩))
  refine wpIn_rangeFunc_ownF rfl (by omega) (gf := 90) (lb := #[.pointer (some ⟨w.heap.size + 1, 0, none⟩)]) rfl trivial (enters_of Try.func90 (by kernel_rfl) rfl)
    (pp_stopsN _ (w.heap.size + 1) N h2 _ (by simp) bN.cell) walksK_t walksK_b (Below.refl _ _) (fun _ => rfl)
    (fun pre W => ((∀ x ∈ pre, badPP x.1 = false) ∧ Boxed W w.heap.size 4 (.bool false)) ∧ Below w.heap.size w W)
    (fun c pre W => (c = .ret ∧ (∃ x ∈ pre, badPP x.1 = true) ∧ Boxed W w.heap.size 4 (.bool false)) ∧ Below w.heap.size w W)
    (OwnFrom.and (OwnFrom.and (ownFrom_pure _ _) (Own.from (boxed_own _ _ (fun _ => .bool false)) _)) (ownFrom_below (Nat.le_refl _) (by simp; omega)))
    (fun c => OwnFrom.and (fun s A B row hs hg hr => by obtain ⟨hc, x, hb⟩ := hs; exact ⟨hc, x, (Own.from (boxed_own _ _ (fun _ : Unit => Value.bool false)) _) () A B row hb hg hr⟩) (ownFrom_below (Nat.le_refl _) (by simp; omega)))
    ⟨⟨(fun x hx => by cases hx), bL⟩, hB0⟩ ?a1 ?assign ?body ?done ?stop
  case assign =>
    intro l x W K hK
    gi_wp2
    exact hK
  case body =>
    rintro l pre x W ⟨⟨hp, hb⟩, hB⟩ hlt
    obtain ⟨⟨p, k⟩, hp1, hk1⟩ := x
    dsimp only at hp1 hk1
    have HP := hid hp
    have HBX := hid hb
    have HBL := hid hB
    have hc := hb.cell
    have hf := hb.frozen
    clear hp hb hB
    by_cases d3 : p % 4 = 3
    · have T : ((p : Int) % 4 == 3) = true := mod4_is d3
      by_cases d1 : k % 2 = 1
      · have T2 : ((k : Int) % 2 == 1) = true := by rw [beq_iff_eq]; omega
        have HX : Hid (badPP (p, k) = true) := hid (by unfold badPP; rw [decide_eq_true d3, decide_eq_true d1]; rfl)
        clear d3 d1
        gi_wp2
        exact ⟨KeepsOthers.setCell _ _ _, ⟨rfl, ⟨_, List.mem_append_right _ (List.mem_singleton.2 rfl), HX.out⟩, HBX.out.set _⟩, HBL.out.setCell (p := ⟨w.heap.size, 0, none⟩) (Nat.le_refl _) _⟩
      · have T2 : ((k : Int) % 2 == 1) = false := by rw [beq_eq_false_iff_ne]; omega
        have HX : Hid (badPP (p, k) = false) := hid (by unfold badPP; rw [decide_eq_false d1, Bool.and_false])
        clear d3 d1
        gi_wp2
        exact ⟨KeepsOthers.refl _, (KeepsOthers.refl _).walks, ⟨fun y hy => by
          rcases List.mem_append.1 hy with h | h
          · exact HP.out y h
          · rw [List.mem_singleton.1 h]; exact HX.out, HBX.out⟩, HBL.out⟩
    · have T : ((p : Int) % 4 == 3) = false := mod4_not (D := p) (k := 3) d3
      have HX : Hid (badPP (p, k) = false) := hid (by unfold badPP; rw [decide_eq_false d3, Bool.false_and])
      clear d3
      gi_wp2
      exact ⟨KeepsOthers.refl _, (KeepsOthers.refl _).walks, ⟨fun y hy => by
        rcases List.mem_append.1 hy with h | h
        · exact HP.out y h
        · rw [List.mem_singleton.1 h]; exact HX.out, HBX.out⟩, HBL.out⟩
  case done =>
    rintro D ys W hD hS ⟨⟨h, hb⟩, hB⟩ hK
    have hc := hb.cell
    have hf := hb.frozen
    have hn := hid (all_end hS h)
    have hset := hb.set (.bool true)
    have hB2 := hB.setCell (p := ⟨w.heap.size, 0, none⟩) (Nat.le_refl _) (.bool true)
    clear h
    gi_wp2
    have hD2 : D ≠ w.heap.size := by simp at hD; omega
    have hK2 := (KeepsOthers.setCell W ⟨w.heap.size, 0, none⟩ (.bool true)).same D _ hK rfl
    refine ⟨by simp, .inl ⟨_, _, rfl, run_takeDeferred hK2, ?_⟩⟩
    have hfc : ∀ o, ((W.setCell ⟨w.heap.size, 0, none⟩ (.bool true)).putObj D o).cell? ⟨w.heap.size, 0, none⟩ = some (.bool true) := fun o => (boxed_putObjP hset hD2).cell
    refine ⟨.bool true, by simp [results, Try.results16, go_sem, hfc] <;> go_simp, ?_⟩
    exact ⟨retB (by rw [hn.out]), hB2.trans (belowK_b (w := w) (Nat.le_refl _) _ D _ _ (by simp at hD; omega) hK2 rfl rfl)⟩
  case stop =>
    rintro D c pre W hD hSp ⟨⟨rfl, hx, hb⟩, hB⟩ hK
    have hc := hb.cell
    have hn := hid (all_stop hSp hx)
    clear hx
    gi_wp2
    have hD2 : D ≠ w.heap.size := by simp at hD; omega
    refine ⟨by simp, .inl ⟨_, _, rfl, run_takeDeferred hK, ?_⟩⟩
    have hfc : ∀ o, (W.putObj D o).cell? ⟨w.heap.size, 0, none⟩ = some (.bool false) := fun o => (boxed_putObjP hb hD2).cell
    refine ⟨.bool false, by simp [results, Try.results16, go_sem, hfc] <;> go_simp, ?_⟩
    exact ⟨retB (by rw [hn.out]), hB.trans (belowK_b (w := w) (Nat.le_refl _) W D _ _ (by simp at hD; omega) hK rfl rfl)⟩

set_option maxRecDepth 100000 in
theorem twoIs_any (n : Int) (w : World) : Calls Try.prog 16 #[.int .i64 n] w fun e w' => e = .returned (.bool (twoIsB n)) ∧ Below w.heap.size w w' := by
  have HS := hid (fun w : World => summed_any n w)
  cases H : sumB n with
  | false =>
    rw [H] at HS
    have HF := hid (twoIs_no H)
    have hc := (Boxed.new w 4 (.bool false)).cell
    have hf := (Boxed.new w 4 (.bool false)).frozen
    have hB : Below w.heap.size w (w.alloc (.cells #[.bool false] 4)) := (Below.refl _ _).alloc (Nat.le_refl _) _
    clear H
    go_enter Try.func16, Try.ntmps16
    go_wp2_with (go_at_call 60; refine (HS.out _).mono ?_; rintro e w' ⟨rfl, rfl⟩)
    refine bodyPost_ret (v := .bool false) (by simp [results, Try.results16, go_sem] <;> go_simp) rfl ?_
    exact ⟨retB HF.out.symm, hB⟩
  | true =>
    have hn : 0 ≤ n ∧ n ≤ 2000 := by
      rcases sumB_cases n with ⟨a, b, _⟩ | ⟨_, c⟩ | ⟨_, _, c⟩
      · exact ⟨a, b⟩
      · rw [H] at c; cases c
      · rw [H] at c; cases c
    obtain ⟨N, rfl⟩ := Int.eq_ofNat_of_zero_le hn.1
    rw [twoIs_yes H]
    exact twoIs_in N (by omega) w

end Go.Proofs.Ytdclmjmefkgbbab

/-! SuE -/
set_option linter.unusedVariables false
namespace Go.Proofs.Ytdclmjmefkgbbab
open Go.RowKit

def badPn (N p : Nat) : Bool := decide (p % 4 = 3) && decide (val N p % 2 = 1)
theorem plist_all {N : Nat} (h1 : 1 ≤ N) (h2 : N ≤ 5000) : (ppow N).all (fun x => !badPP x) = (plist N).all (fun p => !badPn N p) := by
  rw [plist_eq, List.all_map, Bool.eq_iff_iff, List.all_eq_true, List.all_eq_true]
  have e : ∀ x ∈ ppow N, badPP x = badPn N x.1 := fun x hx => by
    unfold badPP badPn
    rw [(pp_mem h1 h2 hx).2.2.1]
  exact ⟨fun h x hx => by show (!badPn N x.1) = true; rw [← e x hx]; exact h x hx, fun h x hx => by rw [e x hx]; exact h x hx⟩
theorem plist_bd {N : Nat} (h1 : 1 ≤ N) (h2 : N ≤ 5000) {p : Nat} (hp : p ∈ plist N) : 2 ≤ p ∧ p ≤ 5000 := by
  rw [plist_eq] at hp
  obtain ⟨x, hx, rfl⟩ := List.mem_map.1 hp
  have := primeN_bd (pp_mem h1 h2 hx).1
  exact ⟨this.1, this.2.1⟩
def primes8 (N : Nat) : List Nat := if N = 0 then [] else plist N
theorem primes8_all (N : Nat) (h2 : N ≤ 2000) : (ppow N).all (fun x => !badPP x) = (primes8 N).all (fun p => !badPn N p) := by
  unfold primes8
  by_cases h : N = 0
  · rw [if_pos h, h]; rfl
  · rw [if_neg h]; exact plist_all (by omega) (by omega)
theorem primes8_bd {N : Nat} (h2 : N ≤ 2000) {p : Nat} (hp : p ∈ primes8 N) : 2 ≤ p ∧ p ≤ 5000 ∧ 1 ≤ N := by
  unfold primes8 at hp
  by_cases h : N = 0
  · rw [if_pos h] at hp; cases hp
  · rw [if_neg h] at hp
    have := plist_bd (by omega) (by omega) hp
    omega
theorem natsI_at (l : List Nat) {i : Nat} (h : i < l.length) : (natsI l).getD i 0 = ((l.getD i 0 : Nat) : Int) := by
  unfold natsI
  simp [List.getD, h]
theorem natsI_len8 (l : List Nat) : (natsI l).length = l.length := by unfold natsI; rw [List.length_map]
theorem all_bad {l : List Nat} {f : Nat → Bool} {i : Nat} (h : i < l.length) (hb : f (l.getD i 0) = true) : l.all (fun p => !f p) = false := by
  rw [List.all_eq_false]
  refine ⟨l.getD i 0, ?_, by rw [hb]; decide⟩
  rw [List.getD_eq_getElem?_getD, List.getElem?_eq_getElem h]; exact List.getElem_mem _
theorem all_good {l : List Nat} {f : Nat → Bool} (h : ∀ i, i < l.length → f (l.getD i 0) = false) : l.all (fun p => !f p) = true := by
  rw [List.all_eq_true]
  intro p hp
  obtain ⟨i, hi, rfl⟩ := List.mem_iff_getElem.1 hp
  have := h i hi
  rw [List.getD_eq_getElem?_getD, List.getElem?_eq_getElem hi] at this
  rw [show f l[i] = false from this]; rfl

theorem l8Primes_any (N : Nat) (h2 : N ≤ 2000) (w : World) : Calls Try.prog 63 #[.int .i64 (N : Int)] w fun e w' => ∃ v, e = .returned v ∧ Owns w' w.heap.size v (natsI (primes8 N)) ∧ Below w.heap.size w w' := by
  by_cases h : N = 0
  · subst h
    have HO : Hid (Owns (w.alloc (.cells #[] 3)) w.heap.size (.slice (some ⟨w.heap.size, 0, none⟩) 0 0) (natsI (primes8 0))) := hid (World.ownsRow_made (size := 1) w #[] 0 (Nat.le_refl _) (by unfold maxLen; omega) rfl)
    go_enter Try.func63, Try.ntmps63
    go_wp2
    go_ret
    exact ⟨_, rfl, HO.out, (Below.refl _ _).alloc (Nat.le_refl _) _⟩
  · have T : ((N : Int) == 0) = false := by rw [beq_eq_false_iff_ne]; omega
    have HP := hid (fun w => l1Primes_any (N : Int) (by omega) (by omega) (by omega) w)
    rw [Int.natAbs_natCast, show plist N = primes8 N by unfold primes8; rw [if_neg h]] at HP
    clear h
    go_enter Try.func63, Try.ntmps63
    go_wp2_with (go_at_call 93; refine (HP.out _).mono ?_; rintro e w' ⟨v, rfl, ho, hb⟩; have HO := hid ho; have HB := hid hb; clear ho hb)
    go_ret
    exact ⟨_, rfl, HO.out, HB.out⟩

set_option maxRecDepth 100000 in
set_option maxHeartbeats 2000000 in
theorem twoIsS_any (n : Int) (w : World) : Calls Try.prog 17 #[.int .i64 n] w fun e w' => e = .returned (.bool (twoIsB n)) ∧ Below w.heap.size w w' := by
  have HS0 := hid (fun w : World => l8Sum_any n 0 w)
  cases H : sumB n with
  | false =>
    rw [show inR n 0 2000 = false from H] at HS0
    have HF := hid (twoIs_no H)
    clear H
    go_enter Try.func17, Try.ntmps17
    go_wp2_with (go_at_call 62; refine (HS0.out _).mono ?_; rintro e w' ⟨rfl, rfl⟩)
    go_ret
    exact ⟨retB HF.out.symm, Below.refl _ _⟩
  | true =>
    rw [show inR n 0 2000 = true from H] at HS0
    have hn : 0 ≤ n ∧ n ≤ 2000 := by
      rcases sumB_cases n with ⟨a, b, _⟩ | ⟨_, c⟩ | ⟨_, _, c⟩
      · exact ⟨a, b⟩
      · rw [H] at c; cases c
      · rw [H] at c; cases c
    obtain ⟨N, rfl⟩ := Int.eq_ofNat_of_zero_le hn.1
    have hN2 : N ≤ 2000 := by omega
    have HF := hid ((twoIs_yes H).trans (primes8_all N hN2))
    have HP := hid (fun w => l8Primes_any N hN2 w)
    obtain ⟨L, hL⟩ : ∃ L, L = primes8 N := ⟨_, rfl⟩
    have HBD := hid (fun (p : Nat) (hp : p ∈ L) => primes8_bd hN2 (hL ▸ hp))
    rw [← hL] at HF HP
    clear H hn hL
    go_enter Try.func17, Try.ntmps17
    go_wp2_with (first | (go_at_call 63; refine (HP.out _).mono ?_; rintro e w1 ⟨v, rfl, ho, hb⟩; have HR := hid ho.rd; have HB := hid hb; obtain ⟨av, cv, rfl, hform⟩ := ho.rd.form; rw [natsI_len8] at *; have HFM := hid hform; clear ho hb hform) | (go_at_call 62; refine (HS0.out _).mono ?_; rintro e w' ⟨rfl, rfl⟩))
    go_loop [4] (fun si => ∃ K : Nat, si = .int .i64 K ∧ K ≤ L.length ∧ Hid (∀ i, i < K → badPn N (L.getD i 0) = false)) (fun si => L.length - (intOf si).toNat)
    case atStart => exact ⟨0, rfl, by omega, hid (fun i hi => by omega)⟩
    case round =>
      obtain ⟨K, rfl, hK, HE⟩ := hrel
      by_cases hlt : K < L.length
      · have hi : (K : Int) < (L.length : Int) := by omega
        obtain ⟨b, o, rfl, hml, hc⟩ := HFM.out (by omega)
        have c1 := hc K hlt
        rw [natsI_at L hlt] at c1
        obtain ⟨p, hp⟩ : ∃ p, p = L.getD K 0 := ⟨_, rfl⟩
        rw [← hp] at c1
        have hpb := HBD.out p (by rw [hp, List.getD_eq_getElem?_getD, List.getElem?_eq_getElem hlt]; exact List.getElem_mem _)
        have HPE := hid hp
        have HV := hid (fun w => l1Valuation_any (N : Int) (p : Int) (by omega) (by omega) (by omega) (by omega) (by omega) w)
        obtain ⟨k, hk⟩ : ∃ k, k = val N p := ⟨_, rfl⟩
        have HKV := hid hk
        have HLT := hid hlt
        unfold maxLen at hml
        clear hc hp hk hlt
        have hN1 : N ≠ 0 := by omega
        by_cases d3 : p % 4 = 3
        · have T : ((p : Int) % 4 == 3) = true := mod4_is d3
          by_cases d1 : k % 2 = 1
          · have T2 : ((k : Int) % 2 == 1) = true := by rw [beq_iff_eq]; omega
            have HX : Hid (L.all (fun p => !badPn N p) = false) := hid (all_bad HLT.out (by rw [← HPE.out]; unfold badPn; rw [← HKV.out, decide_eq_true d3, decide_eq_true d1]; rfl))
            clear d3 d1
            go_wp2_with (go_at_call 64; refine (HV.out _).mono ?_; rw [Int.natAbs_natCast, Int.toNat_natCast, ← HKV.out]; rintro e w' ⟨rfl, rfl⟩)
            go_ret
            exact ⟨retB (by rw [HF.out, HX.out]), HB.out⟩
          · have T2 : ((k : Int) % 2 == 1) = false := by rw [beq_eq_false_iff_ne]; omega
            have HX : Hid (badPn N (L.getD K 0) = false) := hid (by rw [← HPE.out]; unfold badPn; rw [← HKV.out, decide_eq_false d1, Bool.and_false])
            clear d3 d1
            go_wp2_with (go_at_call 64; refine (HV.out _).mono ?_; rw [Int.natAbs_natCast, Int.toNat_natCast, ← HKV.out]; rintro e w' ⟨rfl, rfl⟩)
            go_round
            case measure => simp only [intOf]; have := HLT.out; omega
            case rel => exact ⟨K + 1, by go_num, by have := HLT.out; omega, hid (fun i hi => by
              rcases Nat.lt_or_ge i K with h | h
              · exact HE.out i h
              · rw [show i = K by omega]; exact HX.out)⟩
        · have T : ((p : Int) % 4 == 3) = false := mod4_not (D := p) (k := 3) d3
          have HX : Hid (badPn N (L.getD K 0) = false) := hid (by rw [← HPE.out]; unfold badPn; rw [decide_eq_false d3, Bool.false_and])
          clear d3
          go_wp2_with (go_at_call 64; refine (HV.out _).mono ?_; rw [Int.natAbs_natCast, Int.toNat_natCast, ← HKV.out]; rintro e w' ⟨rfl, rfl⟩)
          go_round
          case measure => simp only [intOf]; have := HLT.out; omega
          case rel => exact ⟨K + 1, by go_num, by have := HLT.out; omega, hid (fun i hi => by
            rcases Nat.lt_or_ge i K with h | h
            · exact HE.out i h
            · rw [show i = K by omega]; exact HX.out)⟩
      · obtain rfl : K = L.length := by omega
        have HT := hid (all_good HE.out)
        go_wp2
        go_ret
        exact ⟨retB (by rw [HF.out, HT.out]), HB.out⟩

end Go.Proofs.Ytdclmjmefkgbbab
