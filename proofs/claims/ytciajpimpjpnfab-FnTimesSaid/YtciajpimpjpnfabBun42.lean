/-
  Some texts in one file: Same LawKit LawFm LawFm2 FmCore.
-/
import Derived.Test.YtciajpimpjpnfabBun14
import Derived.Test.YtciajpimpjpnfabDraws13
import Derived.Test.YtciajpimpjpnfabBun32
import Derived.Test.YtciajpimpjpnfabFmCls
/-! Same -/
set_option linter.unusedVariables false
namespace Go.Proofs.Ytciajpimpjpnfab
open Go.RowKit

set_option maxHeartbeats 1000000 in
theorem sameInts_any (v u : Value) (xs ys : List Int) (w : World) (hx : Rd w v xs) (hy : Rd w u ys) :
    Calls Try.prog 18 #[v, u] w fun e w' => e = .returned (.bool (decide (xs = ys))) ∧ ∃ k, w' = w.drewN k := by
  have form : ∀ {z : Value} {zs : List Int}, Rd w z zs → ∃ a cap, z = .slice a zs.length cap ∧ zs.length ≤ maxLen := by
    rintro z zs (⟨a, cap, rfl, rfl⟩ | ⟨b, o, cap, rfl, _, hm, _⟩)
    · exact ⟨a, cap, rfl, by simp⟩
    · exact ⟨_, _, rfl, hm⟩
  by_cases hl : xs.length = ys.length
  · rcases hx with ⟨a, cap, rfl, rfl⟩ | ⟨b, o, cap, rfl, hp, hm, hcx⟩
    · obtain ⟨a', cap', rfl, _⟩ := form hy
      have e : ys = [] := List.length_eq_zero_iff.1 hl.symm
      have HD : Hid (decide (([] : List Int) = ys) = true) := by show _ = _; rw [e]; rfl
      have HL : ys.length = 0 := hl.symm
      rw [HL]
      clear e hl HL hy
      go_enter Try.func18, Try.ntmps18
      go_wp2
      go_loop [5] (fun i => i = .int .i64 0) (fun _ => 0)
      case atStart => rfl
      case round =>
        obtain rfl := hrel
        go_wp2
        go_ret
        exact ⟨retB (by first | exact HD.out.symm | (rw [eq_comm]; exact HD.out.symm) | (have h := HD.out; simp at h; simp [← h])), 0, rfl⟩
    · rcases hy with ⟨a', cap', rfl, rfl⟩ | ⟨b', o', cap', rfl, _, _, hcy⟩
      · exact absurd hl (by simp; intro e; rw [e] at hp; simp at hp)
      · have T : ((xs.length : Int) != ys.length) = false := eqs_same (by omega)
        unfold maxLen at hm
        have HX := hid hcx
        have HY := hid hcy
        have HL := hid hl
        clear hcx hcy
        go_enter Try.func18, Try.ntmps18
        rw [← hl] at T ⊢
        clear hl
        go_wp2
        go_loopw [5] (fun i wr => ∃ K k : Nat, i = .int .i64 K ∧ K ≤ xs.length ∧ Hid (∀ j, j < K → xs.getD j 0 = ys.getD j 0) ∧ wr = w.drewN k) (fun i _ => xs.length - (intOf i).toNat)
        case atStart => exact ⟨0, 0, rfl, by omega, hid (by omega), rfl⟩
        case round =>
          obtain ⟨K, k, rfl, hK, HE, rfl⟩ := hrel
          by_cases hlt : K < xs.length
          · obtain ⟨x, hx⟩ : ∃ x, x = xs.getD K 0 := ⟨_, rfl⟩
            obtain ⟨y, hy⟩ : ∃ y, y = ys.getD K 0 := ⟨_, rfl⟩
            have c1 := HX.out K hlt
            have c2 := HY.out K (by have := HL.out; omega)
            rw [← hx] at c1
            rw [← hy] at c2
            have Hx := hid hx
            have Hy := hid hy
            clear hx hy
            have hi : (K : Int) < (xs.length : Int) := by omega
            by_cases hxy : x = y
            · have T2 : (x != y) = false := eqs_same hxy
              have HXY := hid hxy
              clear hxy
              go_wp2
              go_quiet (fail)
              go_wp2
              go_roundw
              case rel =>
                exact ⟨K + 1, _, by go_num, by omega, hid (by intro j hj; by_cases e : j = K; (· rw [e, ← Hx.out, ← Hy.out, HXY.out]); (· exact HE.out j (by omega))), by first | rfl | exact World.drewN_drewN ..⟩
              case measure => simp only [intOf]; omega
            · have T2 : (x != y) = true := eqs_len hxy
              have HXY := hid hxy
              clear hxy
              go_wp2
              go_quiet (fail)
              go_wp2
              go_ret
              refine ⟨retB (decide_eq_false fun e => HXY.out ?_).symm, _, by first | rfl | exact World.drewN_drewN ..⟩
              rw [Hx.out, Hy.out, e]
          · go_wp2
            go_ret
            refine ⟨retB (decide_eq_true (all_eq_of HL.out fun j hj => HE.out j (by omega))).symm, _, rfl⟩
  · obtain ⟨a, cap, rfl, m1⟩ := form hx
    obtain ⟨a', cap', rfl, m2⟩ := form hy
    have T : ((xs.length : Int) != ys.length) = true := eqs_len (by omega)
    have HD : Hid (decide (xs = ys) = false) := hid (decide_eq_false fun e => hl (by rw [e]))
    clear hl hx hy
    go_enter Try.func18, Try.ntmps18
    go_wp2
    go_ret
    exact ⟨retB HD.out.symm, 0, rfl⟩

theorem rd_one {w : World} {k : Nat} (x : Int) (h : w.cell? ⟨k, 0, none⟩ = some (.int .i64 x)) : Rd w (.slice (some ⟨k, 0, none⟩) 1 1) [x] := by
  right
  refine ⟨k, 0, 1, rfl, by simp, by unfold maxLen; simp, fun i hi => ?_⟩
  obtain rfl : i = 0 := by simp at hi; exact hi
  simpa using h

end Go.Proofs.Ytciajpimpjpnfab

/-! LawKit -/
set_option linter.unusedVariables false
namespace Go.Proofs.Ytciajpimpjpnfab
open Go.RowKit

end Go.Proofs.Ytciajpimpjpnfab

/-! LawFm -/
set_option linter.unusedVariables false
namespace Go.Proofs.Ytciajpimpjpnfab
open Go.RowKit

def MildT (xs : List Int) : Prop := xs.length ≤ 1000 ∧ ∀ x ∈ xs, -1000000 ≤ x ∧ x ≤ 1000000
theorem TermsOk.mild {xs : List Int} (h : TermsOk xs) : MildT xs := ⟨by have := h.1; omega, fun x hx => by have := h.2 x hx; omega⟩
theorem VecGood.mild {m : Nat} {xs : List Int} (h : VecGood m xs) (hm : m ≤ 10) : MildT xs := ⟨by have := h.1; omega, fun x hx => by have := h.2 x hx; omega⟩
theorem MildT.at {xs : List Int} (h : MildT xs) {i : Nat} (hi : i < xs.length) : -1000000 ≤ xs.getD i 0 ∧ xs.getD i 0 ≤ 1000000 := by
  rw [getD_at _ _ hi]; exact h.2 _ (List.getElem_mem _)



end Go.Proofs.Ytciajpimpjpnfab

/-! LawFm2 -/
set_option linter.unusedVariables false
namespace Go.Proofs.Ytciajpimpjpnfab
open Go.RowKit

def sg (xs : List Int) : Int := (xs.length : Int) - 2 * (lessN xs : Int)
theorem signs_yes {xs : List Int} (h : fvB xs = true) : signsV xs = .tuple #[.int .i64 (sg xs), .bool true] := by unfold signsV; rw [h]; rfl
theorem signs_no {xs : List Int} (h : fvB xs = false) : signsV xs = .tuple #[.int .i64 0, .bool false] := by unfold signsV; rw [h]; rfl
theorem fv_neg {xs : List Int} (h : fvB xs = true) : fvB (xs.map (fun x => -x)) = true := by
  obtain ⟨h1, h2, h3⟩ := fvB_iff.1 h
  refine fvB_iff.2 ⟨fun y hy => ?_, by rw [List.length_map]; exact h2, by rw [List.length_map]; exact h3⟩
  obtain ⟨x, hx, rfl⟩ := List.mem_map.1 hy
  have := h1 x hx
  omega
theorem less_neg : ∀ {xs : List Int}, NZ xs → lessN (xs.map (fun x => -x)) + lessN xs = xs.length
  | [], _ => rfl
  | x :: xs, h => by
    have ih := less_neg h.tail
    have hx := h.head
    unfold lessN at ih ⊢
    rw [List.map_cons, List.filter_cons, List.filter_cons, List.length_cons]
    by_cases e : x < 0
    · rw [decide_eq_true e, decide_eq_false (show ¬ -x < 0 by omega), if_neg (by decide), if_pos rfl, List.length_cons]; omega
    · rw [decide_eq_false e, decide_eq_true (show -x < 0 by omega), if_pos rfl, if_neg (by decide), List.length_cons]; omega
theorem fv_take {xs : List Int} (h : fvB xs = true) {k : Nat} (h1 : 1 ≤ k) (h2 : k ≤ xs.length) : fvB (xs.take k) = true := by
  obtain ⟨a1, a2, a3⟩ := fvB_iff.1 h
  exact fvB_iff.2 ⟨fun x hx => a1 x (List.mem_of_mem_take hx), by rw [List.length_take]; omega, by rw [List.length_take]; omega⟩
theorem fv_drop {xs : List Int} (h : fvB xs = true) {k : Nat} (h2 : k < xs.length) : fvB (xs.drop k) = true := by
  obtain ⟨a1, a2, a3⟩ := fvB_iff.1 h
  exact fvB_iff.2 ⟨fun x hx => a1 x (List.mem_of_mem_drop hx), by rw [List.length_drop]; omega, by rw [List.length_drop]; omega⟩
theorem less_split (xs : List Int) (k : Nat) : lessN (xs.take k) + lessN (xs.drop k) = lessN xs := by
  rw [← less_app, List.take_append_drop]

theorem sg_neg {xs : List Int} (h : fvB xs = true) : sg (xs.map (fun x => -x)) = -(sg xs) := by
  have := less_neg (fv_nz h)
  unfold sg
  rw [List.length_map]
  omega
theorem sg_split (xs : List Int) (k : Nat) : sg (xs.take k) + sg (xs.drop k) = sg xs := by
  have h1 := less_split xs k
  have h2 : (xs.take k).length + (xs.drop k).length = xs.length := by rw [← List.length_append, List.take_append_drop]
  unfold sg
  omega
theorem sg_bd (xs : List Int) : -(xs.length : Int) ≤ sg xs ∧ sg xs ≤ xs.length ∧ ((xs.length : Int) - sg xs) % 2 = 0 := by
  have := less_le xs
  unfold sg
  omega
theorem sg_one {x : Int} : sg [x] = if x < 0 then -1 else 1 := by
  unfold sg lessN
  by_cases h : x < 0
  · rw [if_pos h, List.filter_cons, decide_eq_true h, if_pos rfl]; rfl
  · rw [if_neg h, List.filter_cons, decide_eq_false h, if_neg (by decide)]; rfl

theorem sg_app (xs ys : List Int) : sg (xs ++ ys) = sg xs + sg ys := by
  unfold sg
  rw [less_app, List.length_append]
  omega
theorem join_yes {a b : List Int} (h : joinOk a b = true) : fvB a = true ∧ fvB b = true ∧ fvB (a ++ b) = true ∧ joinL a b = a ++ b := by
  have h2 := h
  unfold joinOk at h
  rw [Bool.and_eq_true, Bool.and_eq_true] at h
  exact ⟨h.1, h.2.1, h.2.2, by unfold joinL; rw [h2]; rfl⟩
theorem join_no {a b : List Int} (h : joinOk a b = false) : joinL a b = [] := by unfold joinL; rw [h]; rfl
theorem fv_perm {a b : List Int} (hp : a.Perm b) (h : fvB a = true) : fvB b = true := by
  obtain ⟨h1, h2, h3⟩ := fvB_iff.1 h
  exact fvB_iff.2 ⟨fun x hx => h1 x (hp.mem_iff.2 hx), by rw [← hp.length_eq]; exact h2, by rw [← hp.length_eq]; exact h3⟩
theorem join_comm {a b : List Int} (h : joinOk a b = true) : joinOk b a = true := by
  obtain ⟨h1, h2, h3, _⟩ := join_yes h
  unfold joinOk
  rw [h1, h2, fv_perm List.perm_append_comm h3]
  rfl
theorem disc_yes {a : List Int} (h : fvB a = true) : discV a = coreG (prodI a) := by unfold discV; rw [h]; rfl
theorem disc_perm {a b : List Int} (hp : a.Perm b) (h : fvB a = true) : discV a = discV b := by
  rw [disc_yes h, disc_yes (fv_perm hp h), prodI_perm hp]
theorem below_dn {w w' : World} {B k : Nat} (h : Below B w w') : Below B w (w'.drewN k) := below_drewN h k

end Go.Proofs.Ytciajpimpjpnfab

/-! FmCore -/
set_option linter.unusedVariables false
namespace Go.Proofs.Ytciajpimpjpnfab
open Go.RowKit

theorem core_idem {n : Int} (hn : n ≠ 0) : coreG (coreG n) = coreG n := by
  have h := core_is hn
  exact (core_eq (r := 1) (h.ne hn) ⟨by simp, Nat.le_refl _, h.free⟩).1
theorem core_bd2 {n : Int} (hn : n ≠ 0) : coreG n ≠ 0 ∧ (coreG n).natAbs ≤ n.natAbs := core_bd hn
/-- n times the core of n times x has the core of x -/
theorem core_twice {n x : Int} (hn : n ≠ 0) (hx : x ≠ 0) : coreG (n * coreG (n * x)) = coreG x := by
  have hnx := Int.mul_ne_zero hn hx
  have h := core_is hnx
  have hc := h.ne hnx
  rw [← core_sq (t := (rootG (n * x) : Int)) (Int.mul_ne_zero hn hc) (by have := h.pos; omega), Int.mul_assoc, h.eq,
    show n * (n * x) = x * (n * n) by simp only [Int.mul_comm, Int.mul_left_comm]]
  exact core_sq hx hn
theorem prod_cores : ∀ {xs : List Int}, NZ xs → NZ (xs.map coreG) ∧ ∃ s : Int, s ≠ 0 ∧ prodI (xs.map coreG) * (s * s) = prodI xs
  | [], _ => ⟨fun x hx => by simp at hx, 1, by decide, rfl⟩
  | x :: xs, h => by
    obtain ⟨h1, s, hs, e⟩ := prod_cores h.tail
    have hc := core_is h.head
    have hn := hc.ne h.head
    refine ⟨fun y hy => ?_, s * (rootG x : Int), Int.mul_ne_zero hs (by have := hc.pos; omega), ?_⟩
    · rw [List.map_cons, List.mem_cons] at hy
      rcases hy with rfl | hy
      · exact hn
      · exact h1 y hy
    · show coreG x * prodI (xs.map coreG) * _ = x * prodI xs
      conv => rhs; rw [← hc.eq, ← e]
      simp only [Int.mul_assoc, Int.mul_comm, Int.mul_left_comm]
theorem nz_scale {n : Int} (hn : n ≠ 0) {xs : List Int} (h : NZ xs) : NZ (xs.map (n * ·)) := fun y hy => by
  obtain ⟨x, hx, rfl⟩ := List.mem_map.1 hy
  exact Int.mul_ne_zero hn (h x hx)
theorem times_map (xs : List Int) (n : Int) : timesL xs n = (xs.map (n * ·)).map coreG := by
  unfold timesL
  rw [List.map_map]
  rfl
theorem times_one (xs : List Int) : timesL xs 1 = xs.map coreG := by
  unfold timesL
  congr 1
  funext x
  rw [Int.one_mul]
theorem fv_cores {xs : List Int} (h : fvB xs = true) : fvB (xs.map coreG) = true := by
  obtain ⟨h1, h2, h3⟩ := fvB_iff.1 h
  refine fvB_iff.2 ⟨fun y hy => ?_, by rw [List.length_map]; exact h2, by rw [List.length_map]; exact h3⟩
  obtain ⟨x, hx, rfl⟩ := List.mem_map.1 hy
  have h4 := h1 x hx
  have h5 := core_bd2 h4.1
  exact ⟨h5.1, by omega, by omega⟩
theorem cores_yes {xs : List Int} (h : fvB xs = true) : fcoresL xs = xs.map coreG := by unfold fcoresL; rw [h, if_pos rfl, times_one]
theorem cores_no {xs : List Int} (h : fvB xs = false) : fcoresL xs = [] := by unfold fcoresL; rw [h]; rfl
theorem cores_twice {xs : List Int} (h : fvB xs = true) : fcoresL (xs.map coreG) = xs.map coreG := by
  rw [cores_yes (fv_cores h), List.map_map]
  refine List.map_congr_left fun x hx => ?_
  exact core_idem ((fvB_iff.1 h).1 x hx).1
theorem van_yes {xs : List Int} {q : Int} (h : fvB xs = true) (hq : plI q = true) : fvanV xs q = vanB xs q := by unfold fvanV; rw [h, hq]; rfl
theorem van_no {xs : List Int} {q : Int} (hq : plI q = false) : fvanV xs q = false := by unfold fvanV; rw [hq]; simp
theorem van_cores {xs : List Int} (h : fvB xs = true) (q : Int) : fvanV (xs.map coreG) q = fvanV xs q := by
  cases hq : plI q with
  | false => rw [van_no hq, van_no hq]
  | true =>
    obtain ⟨h1, h2, h3⟩ := fvB_iff.1 h
    rw [van_yes h hq, van_yes (fv_cores h) hq]
    exact van_cls hq (fun x hx => core_cls hx hq) (fv_nz h) h2 h3
theorem less_cores : ∀ {xs : List Int}, NZ xs → lessN (xs.map coreG) = lessN xs
  | [], _ => rfl
  | x :: xs, h => by
    have ih := less_cores h.tail
    have hx := core_sign h.head
    unfold lessN at ih ⊢
    rw [List.map_cons, List.filter_cons, List.filter_cons]
    by_cases e : x < 0
    · rw [decide_eq_true e, decide_eq_true (hx.2 e), if_pos rfl, if_pos rfl, List.length_cons, List.length_cons, ih]
    · rw [decide_eq_false e, decide_eq_false (fun h => e (hx.1 h)), if_neg (by decide), if_neg (by decide), ih]
theorem cores_same {xs : List Int} (h : fvB xs = true) : fsameV (xs.map coreG) xs = true := by
  have hz := fv_nz h
  obtain ⟨h1, s, hs, e⟩ := prod_cores hz
  refine (same_iff (fv_cores h) h).2 ⟨by rw [List.length_map], ?_, fun q hq => ?_⟩
  · rw [← e]; exact (core_sq h1.prod hs).symm
  · by_cases h0 : q = 0
    · unfold alikeB
      rw [if_pos h0, less_cores hz]
      simp
    · rw [alike_def hq h1 hz h0, hasC_cls hq (fun x hx => core_cls hx hq) hz, (sq_cls h1.prod hz.prod hq).2 (prod_cls hq (fun x hx => core_cls hx hq) hz).2]
      simp
theorem scale_prod {n : Int} (hn : n ≠ 0) : ∀ {xs : List Int}, NZ xs → ∃ m : Int, m ≠ 0 ∧ (xs.length % 2 = 0 → prodI (xs.map (n * ·)) = prodI xs * (m * m)) ∧ (xs.length % 2 = 1 → prodI (xs.map (n * ·)) = n * (prodI xs * (m * m)))
  | [], _ => ⟨1, by decide, fun _ => rfl, fun h => by simp at h⟩
  | x :: xs, h => by
    obtain ⟨m, hm, h2, h3⟩ := scale_prod hn h.tail
    by_cases e : xs.length % 2 = 0
    · refine ⟨m, hm, fun hl => by rw [List.length_cons] at hl; omega, fun _ => ?_⟩
      show n * x * prodI (xs.map (n * ·)) = n * (x * prodI xs * (m * m))
      rw [h2 e]
      simp only [Int.mul_assoc]
    · refine ⟨n * m, Int.mul_ne_zero hn hm, fun _ => ?_, fun hl => by rw [List.length_cons] at hl; omega⟩
      show n * x * prodI (xs.map (n * ·)) = x * prodI xs * (n * m * (n * m))
      rw [h3 (by omega)]
      simp only [Int.mul_assoc, Int.mul_comm, Int.mul_left_comm]
theorem disc_times {xs : List Int} {n : Int} (hn : n ≠ 0) (h : fvB xs = true) (ht : fvB (timesL xs n) = true) (hl : xs.length % 2 = 0) : discV (timesL xs n) = discV xs := by
  have hz := fv_nz h
  obtain ⟨m, hm, e1, _⟩ := scale_prod hn hz
  obtain ⟨_, s, hs, e2⟩ := prod_cores (nz_scale hn hz)
  rw [disc_yes h, disc_yes ht]
  have hp := (fv_nz ht).prod
  rw [times_map] at hp ⊢
  rw [← core_sq hp hs, e2, e1 hl]
  exact core_sq hz.prod hm
theorem van_times {xs : List Int} {n : Int} (hn : n ≠ 0) (h : fvB xs = true) (ht : fvB (timesL xs n) = true) (q : Int) : fvanV (timesL xs n) q = fvanV xs q := by
  cases hq : plI q with
  | false => rw [van_no hq, van_no hq]
  | true =>
    obtain ⟨h1, h2, h3⟩ := fvB_iff.1 h
    rw [van_yes h hq, van_yes ht hq, times_map, van_cls hq (fun x hx => core_cls hx hq) (nz_scale hn (fv_nz h)) (by rw [List.length_map]; exact h2) (by rw [List.length_map]; exact h3)]
    exact van_scale hq hn (fv_nz h) h2 h3
theorem times_yes {xs : List Int} {n : Int} (h : timesOk xs n = true) : fvB xs = true ∧ factB n = true ∧ fvB (timesL xs n) = true ∧ ftimesL xs n = timesL xs n := by
  have h2 := h
  unfold timesOk at h
  rw [Bool.and_eq_true, Bool.and_eq_true] at h
  exact ⟨h.1, h.2.1, h.2.2, by unfold ftimesL; rw [h2]; rfl⟩
theorem times_no {xs : List Int} {n : Int} (h : timesOk xs n = false) : ftimesL xs n = [] := by unfold ftimesL; rw [h]; rfl
theorem times_twice {xs : List Int} {n : Int} (hn : n ≠ 0) (h : fvB xs = true) : timesL (timesL xs n) n = xs.map coreG := by
  unfold timesL
  rw [List.map_map]
  exact List.map_congr_left fun x hx => core_twice hn ((fvB_iff.1 h).1 x hx).1
theorem times_again {xs : List Int} {n : Int} (hn : n ≠ 0) (h : timesOk xs n = true) : timesOk (timesL xs n) n = true ∧ ftimesL (timesL xs n) n = xs.map coreG := by
  obtain ⟨h1, h2, h3, _⟩ := times_yes h
  have e := times_twice hn h1
  have ok : timesOk (timesL xs n) n = true := by
    unfold timesOk
    rw [h3, h2, e, fv_cores h1]
    rfl
  exact ⟨ok, by rw [(times_yes ok).2.2.2, e]⟩

end Go.Proofs.Ytciajpimpjpnfab
