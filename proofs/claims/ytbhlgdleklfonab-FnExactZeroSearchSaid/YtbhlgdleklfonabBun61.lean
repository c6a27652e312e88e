/-
  Some texts in one file: FmProd Marks2 ToInt ToRow Lift2.
-/
import Derived.Test.YtbhlgdleklfonabBun32
import Derived.Test.YtbhlgdleklfonabFmCls
import Derived.Test.YtbhlgdleklfonabProd
import Derived.Test.YtbhlgdleklfonabBun57
import Derived.RangeFuncBox
import Derived.Test.YtbhlgdleklfonabBun5
import Derived.Test.YtbhlgdleklfonabBun8
import Derived.Deep.OwnRows
import Derived.Test.YtbhlgdleklfonabRowWord
import Derived.Test.YtbhlgdleklfonabBun9
import Derived.Test.YtbhlgdleklfonabBun53
/-! FmProd -/
set_option linter.unusedVariables false
namespace Go.Proofs.Ytbhlgdleklfonab
open Go.RowKit

def prodG (g : Int → Int) : List Int → Int
  | [] => 1
  | q :: t => g q * prodG g t
theorem prodG_half {g : Int → Int} : ∀ l : List Int, (∀ q ∈ l, g q = 1 ∨ g q = -1) → prodG g l = halfI ((l.filter (fun q => decide (g q = -1))).length : Nat)
  | [], _ => rfl
  | q :: t, h => by
    have ih := prodG_half t (fun x hx => h x (List.mem_cons_of_mem _ hx))
    unfold prodG
    rw [ih]
    rcases h q List.mem_cons_self with e | e
    · rw [e, List.filter_cons_of_neg (by rw [e]; decide), Int.one_mul]
    · rw [e, List.filter_cons_of_pos (by rw [e]; decide), List.length_cons]
      unfold halfI
      split <;> split <;> omega
theorem prodG_mul (f g : Int → Int) : ∀ l : List Int, prodG (fun q => f q * g q) l = prodG f l * prodG g l
  | [] => rfl
  | q :: t => by
    show f q * g q * prodG (fun q => f q * g q) t = f q * prodG f t * (g q * prodG g t)
    rw [prodG_mul f g t]
    simp only [Int.mul_assoc, Int.mul_left_comm]
theorem prodG_sym (a b : Int) : ∀ l : List Int, prodG (fun q => symV a b q) l = prodS a b l
  | [] => rfl
  | q :: t => by show symV a b q * _ = symV a b q * _; rw [prodG_sym a b t]
theorem places_in_plc {n : Int} (hs : Smooth n) {q : Int} (hq : q ∈ placesG n) : q ∈ plcL := by
  obtain ⟨s1, _, _⟩ := plistG_spec (show 0 < n.natAbs by have := hs.1; omega)
  unfold placesG at hq
  simp only [List.cons_append, List.nil_append, List.mem_cons] at hq
  rcases hq with rfl | rfl | hq
  · decide
  · decide
  · have hm := (List.mem_filter.1 hq).1
    unfold natsI at hm
    rw [List.mem_map] at hm
    obtain ⟨x, hx, rfl⟩ := hm
    obtain ⟨p1, p2⟩ := s1 x hx
    have := prime_gen p1 (hs.2 x p1 p2)
    unfold genL at this
    rcases List.mem_cons.1 this with e | h
    · omega
    · exact List.mem_cons_of_mem _ h
theorem places_filter {n : Int} (hs : Smooth n) {g : Int → Int} (h : ∀ q, plI q = true → q ∉ placesG n → g q = 1) : (placesG n).filter (fun q => decide (g q = -1)) = plcL.filter (fun q => decide (g q = -1)) := by
  refine asc_eq _ _ (List.Pairwise.filter _ (placesG_asc hs.1)) (List.Pairwise.filter _ plc_asc) fun q => ?_
  rw [List.mem_filter, List.mem_filter]
  constructor
  · rintro ⟨hq, hg⟩
    exact ⟨places_in_plc hs hq, hg⟩
  · rintro ⟨hq, hg⟩
    refine ⟨?_, hg⟩
    by_cases hm : q ∈ placesG n
    · exact hm
    · have := of_decide_eq_true hg
      rw [h q (plc_pl q hq) hm] at this
      cases this
theorem half_even2 {n : Nat} (h : halfI (n : Int) = 1) : n % 2 = 0 := by
  unfold halfI at h
  by_cases e : (n : Int) % 2 = 0
  · omega
  · rw [if_neg e] at h; cases h

def SmallT (xs : List Int) : Prop := ∀ x ∈ xs, x ≠ 0 ∧ -30 ≤ x ∧ x ≤ 30
theorem small_smooth {xs : List Int} (h : SmallT xs) : Smooth (prodI xs) :=
  ⟨prodI_ne fun x hx => (h x hx).1, fun p hp hd => by have := (small_prime h hp hd).1; omega⟩
theorem term_smooth {x : Int} (h : x ≠ 0 ∧ -30 ≤ x ∧ x ≤ 30) : Smooth x :=
  ⟨h.1, fun p hp hd => by have := Nat.le_of_dvd (by omega) hd; omega⟩
theorem neg_smooth {n : Int} (h : Smooth n) : Smooth (-n) := ⟨by have := h.1; omega, fun p hp hd => h.2 p hp (by rwa [Int.natAbs_neg] at hd)⟩
theorem prod_has : ∀ {xs : List Int}, SmallT xs → prodG (fun q => hasC q xs) plcL = 1
  | [], _ => by decide
  | x :: xs, h => by
    have ht : SmallT xs := fun y hy => h y (List.mem_cons_of_mem _ hy)
    show prodG (fun q => symV x (prodI xs) q * hasC q xs) plcL = 1
    rw [prodG_mul, prodG_sym, prod_all (term_smooth (h x (List.mem_cons_self ..))) (small_smooth ht), prod_has ht]
    rfl
theorem away_units {n q : Int} (hn : n ≠ 0) (hq : plI q = true) (hm : q ∉ placesG n) : ∃ P : Nat, q = (P : Int) ∧ primeN P = true ∧ 3 ≤ P ∧ ¬ (P : Int) ∣ n := by
  rcases plI_cases hq with rfl | rfl | ⟨P, rfl, hP, h3, h5⟩
  · exact absurd (by unfold placesG; simp) hm
  · exact absurd (by unfold placesG; simp) hm
  · refine ⟨P, rfl, hP, h3, fun hd => hm ?_⟩
    obtain ⟨_, _, s3⟩ := plistG_spec (show 0 < n.natAbs by omega)
    unfold placesG
    simp only [List.cons_append, List.nil_append, List.mem_cons]
    right; right
    refine List.mem_filter.2 ⟨?_, decide_eq_true (by omega)⟩
    unfold natsI
    exact List.mem_map.2 ⟨P, s3 P (primeN_prG hP) (Int.ofNat_dvd_left.1 hd), rfl⟩
theorem has_away {xs : List Int} (h : SmallT xs) {q : Int} (hq : plI q = true) (hm : q ∉ placesG (prodI xs)) : hasC q xs = 1 := by
  obtain ⟨P, rfl, hP, h3, hnd⟩ := away_units (prodI_ne fun x hx => (h x hx).1) hq hm
  exact hasC_units hP h3 fun x hx hd => hnd (dvd_term hx hd)
/-- INVARIANTS ARE -1 AT AN EVEN NUMBER OF PLACES -/
theorem has_even {xs : List Int} (h : SmallT xs) : ((placesG (prodI xs)).filter (fun q => decide (hasC q xs = -1))).length % 2 = 0 := by
  rw [places_filter (g := fun q => hasC q xs) (small_smooth h) (fun q hq hm => has_away h hq hm)]
  refine half_even2 ?_
  rw [← prodG_half (g := fun q => hasC q xs) plcL (fun q hq => hasC_pm (plc_pl q hq) fun x hx => (h x hx).1)]
  exact prod_has h

/-- three terms: bad exactly where two signs differ -/
def badG (xs : List Int) (q : Int) : Int := hasC q xs * symV (-1) (-(prodI xs)) q
theorem three_zero : (allL 0 3).all (fun cs => vanK 0 cs == (hasK 0 cs == symK 0 (minusK 0) (combK 0 (minusK 0) (prodK 0 cs)))) = true := by decide +kernel
theorem bad_sign {xs : List Int} (h : NZ xs) (hl : xs.length = 3) {q : Int} (hq : plI q = true) : (!vanB xs q) = decide (badG xs q = -1) := by
  have hp := h.prod
  have hm1 : symV (-1) (-(prodI xs)) q = symK (kOf q) (minusK (kOf q)) (combK (kOf q) (minusK (kOf q)) (prodK (kOf q) (xs.map (cls · q)))) := by
    unfold symV
    rw [sym_k, cls_minus hq, cls_neg hp hq, prodK_eq hq h]
  have hv : vanB xs q = (hasC q xs == symV (-1) (-(prodI xs)) q) := by
    rw [vanB_k hq h (by omega) (by omega), hm1, hasK_eq hq h]
    by_cases h0 : kOf q = 0
    · have := List.all_eq_true.1 three_zero (xs.map (cls · q)) (by
        have hm := mem_allL (cls_all hq h)
        rw [h0, List.length_map, hl] at hm
        exact hm)
      rw [h0]
      exact beq_iff_eq.1 this
    · unfold vanK
      rw [if_neg h0, List.length_map, hl, if_neg (by decide), if_neg (by decide), if_pos rfl]
  rw [hv]
  unfold badG
  rcases hasC_pm hq h with e | e <;> rcases symV_val (a := -1) (b := -(prodI xs)) (by decide) (by omega) hq with f | f <;> rw [e, f] <;> decide
theorem bad_even {xs : List Int} (hf : fvB xs = true) (hl : xs.length = 3) : (badL xs).length % 2 = 0 := by
  have h := (fvB_iff.1 hf).1
  have hz := fv_nz hf
  have e : badL xs = (placesG (prodI xs)).filter (fun q => decide (badG xs q = -1)) := by
    unfold badL fplL
    rw [hf, if_pos rfl]
    exact List.filter_congr fun q hq => bad_sign hz hl (places_fv hf q hq)
  rw [e, places_filter (g := badG xs) (small_smooth h) (fun q hq hm => by
    obtain ⟨P, rfl, hP, h3, hnd⟩ := away_units hz.prod hq hm
    unfold badG
    rw [hasC_units hP h3 fun x hx hd => hnd (dvd_term hx hd), sym_units hP h3 (fun hd => by
      have := Int.le_of_dvd (by decide) ((Int.dvd_neg (b := 1)).1 hd); omega) (fun hd => hnd (Int.dvd_neg.1 hd))]
    rfl)]
  refine half_even2 ?_
  rw [← prodG_half (g := badG xs) plcL (fun q hq => pm_mul (hasC_pm (plc_pl q hq) hz) (symV_val (by decide) (by have := hz.prod; omega) (plc_pl q hq)))]
  unfold badG
  rw [prodG_mul, prodG_sym, prod_has h, prod_all (neg_smooth (term_smooth (x := 1) (by decide))) (neg_smooth (small_smooth h))]
  rfl

end Go.Proofs.Ytbhlgdleklfonab

/-! Marks2 -/
set_option linter.unusedVariables false
namespace Go.Proofs.Ytbhlgdleklfonab
open Go.RowKit

theorem grownBy_rf (w : World) (r : Option Nat) : w.grownBy w r := ⟨rfl, rfl, rfl, Nat.le_refl _, fun _ _ _ => rfl⟩
theorem grownBy_set (W : World) (b o : Nat) (v : Value) : W.grownBy (W.setCell ⟨b, o, none⟩ v) (some b) :=
  ⟨rfl, rfl, rfl, (KeepsWalks.setCell W _ v).size, fun k _ hk => Below.heap_setCell _ _ _ k (fun e => hk (by rw [e]))⟩
theorem Owns.kept {W W' : World} {B : Nat} {v : Value} {xs : List Int} {r : Option Nat} (h : Owns W B v xs) (hg : W.grownBy W' r) (hne : v.ownBlock = none ∨ v.ownBlock ≠ r) : Owns W' B v xs := World.ownsRow.kept h hg hne
/-- the elder of two lists of the call's own, and the younger one, lie apart -/
theorem elder_apart {x y : Value} {W : World} {C : Nat} {ys : List Int} (hlt : ∀ g, x.ownBlock = some g → g < C) (hy : Owns W C y ys) : y.ownBlock = none ∨ y.ownBlock ≠ x.ownBlock := by
  cases hb : y.ownBlock with
  | none => exact .inl rfl
  | some b =>
    right
    intro e
    have h1 := hlt b e.symm
    have h2 := hy.ge b hb
    omega
theorem younger_apart {x y : Value} {W : World} {C : Nat} {xs : List Int} (hlt : ∀ g, y.ownBlock = some g → g < C) (hx : Owns W C x xs) : y.ownBlock = none ∨ y.ownBlock ≠ x.ownBlock := by
  cases hb : y.ownBlock with
  | none => exact .inl rfl
  | some b =>
    right
    intro e
    have h1 := hlt b hb
    have h2 := hx.ge b e.symm
    omega

set_option maxHeartbeats 1000000 in
theorem markIntS2_any (v : Value) (xs : List Int) (B : Nat) (k : Int) (hk : 0 ≤ k) (hk2 : k ≤ 3000000) (hn : xs.length ≤ 3000000) (w : World) (hx : Owns w B v xs) :
    Calls Try.prog 18 #[v, .int .i64 k] w fun e w' => e = .returned (.int .i64 (k + xs.length)) ∧ Owns w' B v (marksL k xs.length) ∧ Below B w w' ∧ w.grownBy w' v.ownBlock := by
  by_cases h0 : xs.length = 0
  · have hx0 : xs = [] := List.length_eq_zero_iff.1 h0
    subst hx0
    have hf : ∃ a cap, v = .slice a 0 cap := by
      rcases hx.2 with ⟨rfl, _⟩ | ⟨g, cap, _, rfl, _⟩
      · exact ⟨_, _, rfl⟩
      · exact ⟨_, _, rfl⟩
    obtain ⟨a, cap, rfl⟩ := hf
    have HX := hid hx
    clear hx h0
    go_enter Try.func18, Try.ntmps18
    go_wp2
    go_loop [1, 5] (fun k' i => k' = .int .i64 k ∧ i = .int .i64 0) (fun _ _ => 0)
    case atStart => exact ⟨rfl, rfl⟩
    case round =>
      obtain ⟨rfl, rfl⟩ := hrel
      go_wp2
      go_ret
      exact ⟨retI (by simp), HX.out, Below.refl _ _, grownBy_rf _ _⟩
  · have hf : ∃ g cap, v = .slice (some ⟨g, 0, none⟩) xs.length cap ∧ B ≤ g := by
      rcases hx.2 with ⟨_, h⟩ | ⟨g, cap, _, rfl, hg, _⟩
      · omega
      · exact ⟨g, cap, rfl, hg⟩
    obtain ⟨g, cap, rfl, hg⟩ := hf
    obtain ⟨n, hnx⟩ : ∃ n, n = xs.length := ⟨_, rfl⟩
    have HN := hid hnx
    rw [← hnx] at h0 hn ⊢
    have HX : Hid (Owns w B (.slice (some ⟨g, 0, none⟩) n cap) xs) := by rw [hnx]; exact hx
    clear hx hnx
    go_enter Try.func18, Try.ntmps18
    go_wp2
    go_loopw [1, 5] (fun k' i wr => ∃ K : Nat, k' = .int .i64 (k + K) ∧ i = .int .i64 K ∧ K ≤ n ∧ Hid (wr.ownsRow B 3 1 (.slice (some ⟨g, 0, none⟩) n cap) n ((halfL k K xs).map (Value.int .i64))) ∧ Below B w wr ∧ Hid (w.grownBy wr (some g))) (fun _ i _ => n - (intOf i).toNat)
    case atStart =>
      refine ⟨0, by simp, rfl, by omega, hid ?_, Below.refl _ _, hid (grownBy_rf _ _)⟩
      have := HX.out
      unfold Owns at this
      rw [← HN.out] at this
      simpa [halfL, marksL] using this
    case round =>
      obtain ⟨K, rfl, rfl, hK, HO, hB, HG⟩ := hrel
      by_cases hlt : K < n
      · have hl := halfL_len k K xs (by have := HN.out; omega)
        have c1 : wr.cell? ⟨g, K, none⟩ = some (.int .i64 ((halfL k K xs).getD K 0)) := by
          have hK2 : K < (halfL k K xs).length := by rw [hl, ← HN.out]; exact hlt
          rw [World.ownsRow.cellAt HO.out K (by omega), List.getElem?_map, List.getElem?_eq_getElem hK2]
          simp [List.getD, List.getElem?_eq_getElem hK2]
        obtain ⟨z, hz⟩ : ∃ z, z = (halfL k K xs).getD K 0 := ⟨_, rfl⟩
        rw [← hz] at c1
        have f1 := World.ownsRow.frozenAt HO.out K
        have hi : (K : Int) < (n : Int) := by omega
        have HS := hid (World.ownsRow.stored HO.out K (.int .i64 (k + K)))
        have HT := hid (halfL_step k K xs (by have := HN.out; omega))
        clear hz hl
        go_wp2
        go_roundw
        case rel =>
          refine ⟨K + 1, vI (by push_cast; omega), by go_num, by omega, hid ?_, hB.setCell (p := ⟨g, K, none⟩) hg _, hid (HG.out.trans (grownBy_set _ g K _))⟩
          have := HS.out.1
          rw [← HT.out, List.map_set]
          exact this
        case measure => simp only [intOf]; omega
      · obtain rfl : K = n := by omega
        go_wp2
        go_ret
        refine ⟨rfl, ?_, hB, HG.out⟩
        have := HO.out
        unfold Owns
        rw [marksL_len]
        have e : halfL k K xs = marksL k K := by
          have h := halfL_end k xs
          rw [← HN.out] at h
          exact h
        rw [e] at this
        exact this

end Go.Proofs.Ytbhlgdleklfonab

/-! ToInt -/
set_option linter.unusedVariables false
namespace Go.Proofs.Ytbhlgdleklfonab
open Go.RowKit

theorem Rd.keep2 {w w' : World} {v : Value} {xs : List Int} (h : Rd w v xs) (hb : Below w.heap.size w w') : Rd w' v xs := by
  rcases h with h | ⟨b, o, cap, hv, h0, hm, hc⟩
  · exact .inl h
  · refine .inr ⟨b, o, cap, hv, h0, hm, fun i hi => ?_⟩
    have hci := hc i hi
    obtain ⟨ob, ho, _⟩ := cells_of_cell hci
    have hlt : b < w.heap.size := (Array.getElem?_eq_some_iff.1 ho).1
    rw [hb.cell (p := ⟨b, o + i, none⟩) hlt]
    exact hci
theorem rowIs_owns {w : World} {b n B : Nat} {f : Nat → Value} {xs : List Int} (h : w.rowIs b 3 n f) (hn : n = xs.length) (hf : ∀ i, i < n → f i = .int .i64 (xs.getD i 0)) (hB : B ≤ b) (hm : n ≤ maxLen) : Owns w B (.slice (some ⟨b, 0, none⟩) n n) xs := by
  subst hn
  obtain ⟨c, hb, hs, hc⟩ := h
  refine ⟨by simp, .inr ⟨b, xs.length, c, rfl, hB, hb, Nat.le_refl _, hm, by rw [hs, Nat.mul_one], ?_⟩⟩
  rw [Nat.mul_one, List.take_of_length_le (by rw [Array.length_toList, hs]; exact Nat.le_refl _)]
  refine List.ext_getElem? fun i => ?_
  rw [Array.getElem?_toList]
  by_cases hi : i < xs.length
  · rw [hc i hi, hf i hi, List.getElem?_map, List.getElem?_eq_getElem hi, getD_at _ _ hi]; rfl
  · rw [List.getElem?_eq_none (by rw [List.length_map]; omega), Array.getElem?_eq_none (by omega)]

set_option maxRecDepth 100000 in
set_option maxHeartbeats 1000000 in
theorem toIntS_any (v : Value) (xs : List Int) (w : World) (h : Rd w v xs) (hl : xs.length ≤ 1048576) :
    Calls Try.prog 13 #[v] w fun e w' => ∃ u, e = .returned u ∧ Owns w' w.heap.size u xs ∧ Below w.heap.size w w' ∧ (∃ ad n c, u = .slice (some ad) n c) := by
  obtain ⟨i0, hi, hz0, hz1, hz2⟩ := info_parts infoInt
  have HH := hid h
  obtain ⟨a, cap, rfl, _⟩ := h.form
  obtain ⟨m, hm⟩ : ∃ m, m = xs.length := ⟨_, rfl⟩
  have HM := hid hm
  rw [← hm] at hl HH ⊢
  have HB0 := hid ((Below.refl w.heap.size w).alloc (Nat.le_refl _) (.cells (madeCells #[.int .i64 0] m) 3))
  have HR0 := hid (World.rowIs_made w (.int .i64 0) m 3)
  clear h hm
  go_enter Try.func13, Try.ntmps13
  go_wp2_with (at_make; refine wpList_make_row _ rfl _ _ 22 rfl 3 i0 (.int .i64 0) Try.underlying22 hi hz0 hz1 rfl .i64 .i64 m rfl rfl (by rw [hz2]; omega) (by omega) ?_)
  go_loopw [4] (fun si wr => ∃ K : Nat, si = .int .i64 K ∧ K ≤ m ∧ Hid (wr.rowIs w.heap.size 3 m (fun j => if j < K then .int .i64 (xs.getD j 0) else .int .i64 0)) ∧ Hid (Below w.heap.size w wr)) (fun si _ => m - (intOf si).toNat)
  case atStart => exact ⟨0, rfl, by omega, hid (HR0.out.congr (fun i hi => by simp)), HB0⟩
  case round =>
    obtain ⟨K, rfl, hK, HR, HB⟩ := hrel
    rename World => wr
    by_cases hlt : K < m
    · obtain ⟨a2, cap2, e2, hform⟩ := (HH.out.keep2 HB.out).form
      rw [← HM.out] at e2 hform
      cases e2
      obtain ⟨bb, o, rfl, hml, hc⟩ := hform (by omega)
      have c1 := hc K hlt
      have c2 := HR.out.cell hlt
      have f2 := HR.out.frozen K
      have hi0 : (K : Int) < (m : Int) := by omega
      obtain ⟨x, hx⟩ : ∃ x, x = xs.getD K 0 := ⟨_, rfl⟩
      rw [← hx] at c1
      have HS := hid ((HR.out.set K (.int .i64 x)).congr (g := fun j => if j < K + 1 then .int .i64 (xs.getD j 0) else .int .i64 0) (fun i hi => by
        by_cases e : i = K
        · rw [if_pos e, if_pos (by omega), e, hx]
        · rw [if_neg e]
          by_cases h : i < K
          · rw [if_pos h, if_pos (by omega)]
          · rw [if_neg h, if_neg (by omega)]))
      have HBs := hid (HB.out.setCell (p := ⟨w.heap.size, K, none⟩) (Nat.le_refl _) (.int .i64 x))
      have HLT := hid hlt
      rw [if_neg (by omega)] at c2
      unfold maxLen at hml
      clear hform hc hx hlt
      go_wp2_with fail
      go_roundw
      case measure => simp only [intOf]; have := HLT.out; omega
      case rel => exact ⟨K + 1, by go_num, by have := HLT.out; omega, HS, HBs⟩
    · obtain rfl : K = m := by omega
      have HO := hid (rowIs_owns (B := w.heap.size) HR.out HM.out (fun i hi => by rw [if_pos hi]) (Nat.le_refl _) (by unfold maxLen; omega))
      clear hlt
      go_wp2_with fail
      go_ret
      exact ⟨_, rfl, HO.out, HB.out, _, _, _, rfl⟩

end Go.Proofs.Ytbhlgdleklfonab

/-! ToRow -/
set_option linter.unusedVariables false
namespace Go.Proofs.Ytbhlgdleklfonab
open Go.RowKit

theorem rd_row {w : World} {a : Option Addr} {len cap : Nat} {zs : List Int} (h : IsRow .i64 w a len cap zs) : ∃ xs : List Int, xs.length = len ∧ Rd w (.slice a len cap) xs := by
  rcases h with ⟨rfl, rfl, rfl, rfl⟩ | ⟨x, rfl, hl, hm, hz, hcell, hwz⟩
  · exact ⟨[], rfl, .inl ⟨_, _, rfl, rfl⟩⟩
  · refine ⟨zs.take len, by rw [List.length_take]; omega, ?_⟩
    by_cases h0 : len = 0
    · subst h0
      exact .inl ⟨_, _, rfl, by simp⟩
    · obtain ⟨b, off, spot⟩ := x
      have hspot : spot = none := by simpa [Addr.add] using World.cell?_spot (hcell 0 (by omega))
      subst hspot
      have hlen : (zs.take len).length = len := by rw [List.length_take]; omega
      refine .inr ⟨b, off, cap, by rw [hlen], by omega, by rw [hlen]; omega, fun i hi => ?_⟩
      rw [hlen] at hi
      have hc := hcell i (by omega)
      have hg : (zs.take len).getD i 0 = zs.getD i 0 := by
        rw [getD_at _ _ (by rw [hlen]; exact hi), getD_at _ _ (by omega), List.getElem_take]
      rw [hg]
      by_cases hi0 : i = 0
      · subst hi0; simpa [Addr.add] using hc
      · simpa [Addr.add, hi0] using hc
theorem fvalF (xs vs : List Int) : ∃ (x : Int) (c : Bool), fvalV xs vs = .tuple #[.int .i64 x, .bool c] := by
  unfold fvalV
  split
  · exact ⟨_, _, rfl⟩
  · exact ⟨_, _, rfl⟩
theorem signsF (xs : List Int) : ∃ (x : Int) (c : Bool), signsV xs = .tuple #[.int .i64 x, .bool c] := by
  unfold signsV
  split
  · exact ⟨_, _, rfl⟩
  · exact ⟨_, _, rfl⟩

end Go.Proofs.Ytbhlgdleklfonab

/-! Lift2 -/
set_option linter.unusedVariables false
namespace Go.Proofs.Ytbhlgdleklfonab
open Go.RowKit

/-- what stands on the stack, cell by cell -/
def encS (S : List (Nat × Nat)) : List Value := S.flatMap (fun e => [.int .i64 (e.1 : Int), .int .i64 (e.2 : Int)])
theorem encS_len : ∀ S : List (Nat × Nat), (encS S).length = S.length * 2
  | [] => rfl
  | e :: S => by
    have := encS_len S
    unfold encS at this ⊢
    rw [List.flatMap_cons, List.length_append, this, List.length_cons]
    simp only [List.length_cons, List.length_nil]
    omega
theorem encS_snoc (S : List (Nat × Nat)) (e : Nat × Nat) : encS (S ++ [e]) = encS S ++ [.int .i64 (e.1 : Int), .int .i64 (e.2 : Int)] := by
  unfold encS
  rw [List.flatMap_append]
  simp
theorem encS_fst (S : List (Nat × Nat)) (e : Nat × Nat) : (encS (S ++ [e]))[S.length * 2]? = some (.int .i64 (e.1 : Int)) := by
  rw [encS_snoc, List.getElem?_append_right (by rw [encS_len]; omega), encS_len, Nat.sub_self]; rfl
theorem encS_snd (S : List (Nat × Nat)) (e : Nat × Nat) : (encS (S ++ [e]))[S.length * 2 + 1]? = some (.int .i64 (e.2 : Int)) := by
  rw [encS_snoc, List.getElem?_append_right (by rw [encS_len]; omega), encS_len, Nat.add_sub_cancel_left]; rfl

/-- how many rounds an element is worth -/
def wt1 (M m : Nat) : Nat := 2 * (M / m) - 1
def wtS (M : Nat) (S : List (Nat × Nat)) : Nat := (S.map (fun e => wt1 M e.2)).sum
theorem wtS_app (M : Nat) (S T : List (Nat × Nat)) : wtS M (S ++ T) = wtS M S + wtS M T := by
  unfold wtS
  rw [List.map_append, List.sum_append]
theorem wtS_one (M x m : Nat) : wtS M [(x, m)] = wt1 M m := by unfold wtS; simp
theorem wtS_nil (M : Nat) : wtS M [] = 0 := rfl
def RootAt (n : Int) (M x : Nat) : Prop := x < M ∧ ((x : Int) * x - n) % (M : Int) = 0
def OkE (n : Int) (P k : Nat) (e : Nat × Nat) : Prop := ∃ j, j ≤ k ∧ e.2 = P ^ j ∧ RootAt n e.2 e.1
structure StackOk (n : Int) (P k : Nat) (S : List (Nat × Nat)) (f : Bool) (L : Nat) : Prop where
  each : ∀ e ∈ S, OkE n P k e
  least : f = true → RootAt n (P ^ k) L
  none : f = false → L = 0
  cover : ∀ r, RootAt n (P ^ k) r → (f = true ∧ L ≤ r) ∨ ∃ e ∈ S, r % e.2 = e.1
theorem OkE.wt {n : Int} {P k : Nat} {e : Nat × Nat} (hP : 2 ≤ P) (h : OkE n P k e) : 1 ≤ wt1 (P ^ k) e.2 := by
  obtain ⟨j, hj, e2, _⟩ := h
  unfold wt1
  have h1 : 0 < P ^ j := Nat.pow_pos (by omega)
  have := Nat.div_pos (Nat.pow_le_pow_right (by omega) hj : P ^ j ≤ P ^ k) h1
  rw [e2]
  omega
theorem stack_len {n : Int} {P k : Nat} (hP : 2 ≤ P) : ∀ S : List (Nat × Nat), (∀ e ∈ S, OkE n P k e) → S.length ≤ wtS (P ^ k) S
  | [], _ => by simp
  | e :: S, h => by
    have h1 := (h e (List.mem_cons_self ..)).wt hP
    have h2 := stack_len hP S (fun x hx => h x (List.mem_cons_of_mem _ hx))
    unfold wtS at h2 ⊢
    rw [List.map_cons, List.sum_cons, List.length_cons]
    omega
theorem stack_start (n : Int) (P k : Nat) (hP : 2 ≤ P) : StackOk n P k [(0, 1)] false 0 where
  each := fun e he => by
    rw [List.mem_singleton] at he
    subst he
    exact ⟨0, by omega, by simp, by show 0 < 1; omega, by show ((0 : Nat) * (0 : Nat) - n : Int) % ((1 : Nat) : Int) = 0; exact Int.emod_one _⟩
  least := fun h => by cases h
  none := fun _ => rfl
  cover := fun r hr => .inr ⟨(0, 1), by simp, Nat.mod_one _⟩
theorem stack_at {n : Int} {P k : Nat} {S : List (Nat × Nat)} {f : Bool} {L x : Nat} (h : StackOk n P k (S ++ [(x, P ^ k)]) f L) :
    StackOk n P k S true (if f = true ∧ L ≤ x then L else x) := by
  obtain ⟨j, _, e2, hx⟩ := h.each (x, P ^ k) (by simp)
  simp only at hx
  refine ⟨fun e he => h.each e (List.mem_append_left _ he), fun _ => ?_, fun hf => (by cases hf), fun r hr => ?_⟩
  · by_cases c : f = true ∧ L ≤ x
    · rw [if_pos c]; exact h.least c.1
    · rw [if_neg c]; exact hx
  · rcases h.cover r hr with ⟨hf, hl⟩ | ⟨e, he, hm⟩
    · left
      refine ⟨rfl, ?_⟩
      by_cases c : f = true ∧ L ≤ x
      · rw [if_pos c]; exact hl
      · rw [if_neg c]
        have : ¬ L ≤ x := fun h2 => c ⟨hf, h2⟩
        omega
    · rcases List.mem_append.1 he with he | he
      · exact .inr ⟨e, he, hm⟩
      · rw [List.mem_singleton] at he
        subst he
        left
        refine ⟨rfl, ?_⟩
        simp only [Nat.mod_eq_of_lt hr.1] at hm
        by_cases c : f = true ∧ L ≤ x
        · rw [if_pos c]; omega
        · rw [if_neg c]; omega

def rootB (n : Int) (M x : Nat) : Bool := ((x : Int) * x - n) % (M : Int) == 0
/-- what a round lays behind the stack -/
def pushL (n : Int) (P m x : Nat) (d : Nat) : List (Nat × Nat) := ((List.range d).filter (fun i => rootB n (m * P) (x + i * m))).map (fun i => (x + i * m, m * P))
theorem pushL_yes {n : Int} {P m x d : Nat} (h : rootB n (m * P) (x + d * m) = true) : pushL n P m x (d + 1) = pushL n P m x d ++ [(x + d * m, m * P)] := by
  unfold pushL
  rw [List.range_succ, List.filter_append, List.map_append, List.filter_cons, if_pos h]
  rfl
theorem pushL_no {n : Int} {P m x d : Nat} (h : rootB n (m * P) (x + d * m) = false) : pushL n P m x (d + 1) = pushL n P m x d := by
  unfold pushL
  rw [List.range_succ, List.filter_append, List.map_append, List.filter_cons, if_neg (by rw [h]; decide)]
  simp
theorem pushL_len (n : Int) (P m x d : Nat) : (pushL n P m x d).length ≤ d := by
  unfold pushL
  rw [List.length_map]
  exact Nat.le_trans (List.length_filter_le _ _) (by rw [List.length_range]; omega)
theorem mem_push {n : Int} {P m x d : Nat} {e : Nat × Nat} : e ∈ pushL n P m x d ↔ ∃ i, i < d ∧ rootB n (m * P) (x + i * m) = true ∧ e = (x + i * m, m * P) := by
  unfold pushL
  rw [List.mem_map]
  constructor
  · rintro ⟨i, hi, rfl⟩
    obtain ⟨h1, h2⟩ := List.mem_filter.1 hi
    exact ⟨i, List.mem_range.1 h1, h2, rfl⟩
  · rintro ⟨i, h1, h2, rfl⟩
    exact ⟨i, List.mem_filter.2 ⟨List.mem_range.2 h1, h2⟩, rfl⟩
theorem push_wt (n : Int) (P m x : Nat) (M : Nat) : ∀ d, wtS M (pushL n P m x d) ≤ d * wt1 M (m * P)
  | 0 => by unfold pushL; simp [wtS]
  | d + 1 => by
    have ih := push_wt n P m x M d
    rw [Nat.succ_mul]
    cases h : rootB n (m * P) (x + d * m)
    · rw [pushL_no h]; omega
    · rw [pushL_yes h, wtS_app, wtS_one]; omega
theorem step_wt {P k j : Nat} (hP : 2 ≤ P) (hj : j < k) : P * wt1 (P ^ k) (P ^ j * P) + 1 ≤ wt1 (P ^ k) (P ^ j) := by
  unfold wt1
  have e1 : P ^ j * P = P ^ (j + 1) := (Nat.pow_succ ..).symm
  have e2 : P ^ k / P ^ (j + 1) = P ^ (k - (j + 1)) := Nat.pow_div (by omega) (by omega)
  have e3 : P ^ k / P ^ j = P ^ (k - j) := Nat.pow_div (by omega) (by omega)
  rw [e1, e2, e3, show k - j = (k - (j + 1)) + 1 by omega, Nat.pow_succ]
  have h1 : 0 < P ^ (k - (j + 1)) := Nat.pow_pos (by omega)
  obtain ⟨t, ht⟩ : ∃ t, t = P ^ (k - (j + 1)) := ⟨_, rfl⟩
  rw [← ht] at h1 ⊢
  rw [Nat.mul_sub, Nat.mul_one, ← Nat.mul_assoc, Nat.mul_comm P 2, Nat.mul_assoc, Nat.mul_comm P t]
  have : P ≤ t * P := Nat.le_mul_of_pos_left P h1
  omega
theorem root_lower {n : Int} {M m r : Nat} (hm : 0 < m) (hd : m ∣ M) (h : RootAt n M r) : RootAt n m (r % m) := by
  refine ⟨Nat.mod_lt _ hm, ?_⟩
  have h1 : (m : Int) ∣ (r : Int) * r - n := Int.dvd_trans (Int.ofNat_dvd.2 hd) (Int.dvd_of_emod_eq_zero h.2)
  have e3 : ((r % m : Nat) : Int) * ((r % m : Nat) : Int) - n = ((r : Int) * r - n) - (m : Int) * ((r / m : Nat) : Int) * ((r : Int) + ((r % m : Nat) : Int)) := by
    have e4 : (r : Int) = (m : Int) * ((r / m : Nat) : Int) + ((r % m : Nat) : Int) := by
      have := Nat.div_add_mod r m
      exact_mod_cast this.symm
    obtain ⟨a, ha⟩ : ∃ a, a = (m : Int) * ((r / m : Nat) : Int) := ⟨_, rfl⟩
    obtain ⟨b, hb⟩ : ∃ b, b = ((r % m : Nat) : Int) := ⟨_, rfl⟩
    rw [← ha, ← hb] at e4
    rw [← ha, ← hb, e4]
    simp only [Int.mul_add, Int.add_mul, Int.mul_comm b a]
    omega
  rw [e3]
  exact Int.emod_eq_zero_of_dvd (Int.dvd_sub h1 (Int.dvd_mul_of_dvd_left (Int.dvd_mul_right _ _)))
theorem stack_step {n : Int} {P k j : Nat} (hP : 2 ≤ P) (hj : j < k) {S : List (Nat × Nat)} {f : Bool} {L x : Nat} (h : StackOk n P k (S ++ [(x, P ^ j)]) f L) :
    StackOk n P k (S ++ pushL n P (P ^ j) x P) f L := by
  have hm0 : 0 < P ^ j := Nat.pow_pos (by omega)
  obtain ⟨i0, _, _, hx⟩ := h.each (x, P ^ j) (by simp)
  simp only at hx
  have eS : P ^ j * P = P ^ (j + 1) := (Nat.pow_succ ..).symm
  refine ⟨fun e he => ?_, h.least, h.none, fun r hr => ?_⟩
  · rcases List.mem_append.1 he with he | he
    · exact h.each e (List.mem_append_left _ he)
    · obtain ⟨i, hi, hb, rfl⟩ := mem_push.1 he
      refine ⟨j + 1, by omega, eS, ?_, ?_⟩
      · have h1 := Nat.mul_le_mul_right (P ^ j) (show i + 1 ≤ P by omega)
        rw [Nat.succ_mul, Nat.mul_comm P] at h1
        have := hx.1
        show x + i * P ^ j < P ^ j * P
        omega
      · unfold rootB at hb
        rw [beq_iff_eq] at hb
        exact hb
  · rcases h.cover r hr with h1 | ⟨e, he, hm⟩
    · exact .inl h1
    · rcases List.mem_append.1 he with he | he
      · exact .inr ⟨e, List.mem_append_left _ he, hm⟩
      · rw [List.mem_singleton] at he
        subst he
        right
        simp only at hm
        obtain ⟨m, hme⟩ : ∃ m, m = P ^ j := ⟨_, rfl⟩
        rw [← hme] at hm hm0 eS ⊢
        have hlo := root_lower (m := m * P) (Nat.mul_pos hm0 (by omega)) (by rw [eS]; exact Nat.pow_dvd_pow _ (by omega)) hr
        have hmm : r % (m * P) % m = r % m := Nat.mod_mul_right_mod r m P
        have hdm := Nat.div_add_mod (r % (m * P)) m
        rw [hmm, hm, Nat.mul_comm m] at hdm
        have hlt : r % (m * P) / m < P := (Nat.div_lt_iff_lt_mul hm0).2 (by rw [Nat.mul_comm P]; exact hlo.1)
        refine ⟨(x + r % (m * P) / m * m, m * P), List.mem_append_right _ (mem_push.2 ⟨_, hlt, ?_, rfl⟩), ?_⟩
        · unfold rootB
          rw [beq_iff_eq, show x + r % (m * P) / m * m = r % (m * P) by omega]
          exact hlo.2
        · show r % (m * P) = x + r % (m * P) / m * m
          omega
theorem stack_end {n : Int} {P k : Nat} (hP : 2 ≤ P) {f : Bool} {L : Nat} (h : StackOk n P k [] f L) :
    rootT (rootF (n % ((P ^ k : Nat) : Int)).toNat (P ^ k)) = .tuple #[.int .i64 (L : Int), .bool f] := by
  have hm : 1 ≤ P ^ k := Nat.pow_pos (by omega)
  cases f with
  | true =>
    have hl := h.least rfl
    have e : rootF (n % ((P ^ k : Nat) : Int)).toNat (P ^ k) = some L := by
      refine find_at hl.1 (by rw [beq_iff_eq]; exact (root_rest hm).1 hl.2) fun i hi => ?_
      rw [beq_eq_false_iff_ne]
      intro e
      rcases h.cover i ⟨by have := hl.1; omega, (root_rest hm).2 e⟩ with ⟨_, h2⟩ | ⟨_, h2, _⟩
      · omega
      · cases h2
    rw [e]
    rfl
  | false =>
    have e : rootF (n % ((P ^ k : Nat) : Int)).toNat (P ^ k) = none := by
      refine find_none fun i hi => ?_
      rw [beq_eq_false_iff_ne]
      intro e
      rcases h.cover i ⟨hi, (root_rest hm).2 e⟩ with ⟨h1, _⟩ | ⟨_, h2, _⟩
      · cases h1
      · cases h2
    rw [e, h.none rfl]
    rfl

end Go.Proofs.Ytbhlgdleklfonab
