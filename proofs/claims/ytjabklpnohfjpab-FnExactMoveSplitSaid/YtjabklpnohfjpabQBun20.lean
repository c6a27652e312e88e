/-
  Some texts in one file: MvH MvI RegInv Vec Fm6.
-/
import Derived.Test.YtjabklpnohfjpabQBun19
import Derived.Test.YtjabklpnohfjpabQBun0
import Derived.RegionTactic
import Derived.Orders
import Derived.Test.YtjabklpnohfjpabQFm2
import Derived.Test.YtjabklpnohfjpabQBun17
import Derived.Test.YtjabklpnohfjpabQFm5
/-! MvH -/
set_option linter.unusedVariables false
namespace Go.Proofs.Ytjabklpnohfjpab
open Go.RowKit

abbrev SplitSt := List (List Int) × Int × List (List Int)
def splitPut (xs : List Int) (st : SplitSt) (ws : List Int) : Option SplitSt := (mirV xs ws).bind fun M => (mulV xs M.1 M.2 st.1 st.2.1).map fun m => (m.1, m.2, st.2.2 ++ [ws])
def mixL (n : Nat) (R : List (List Int)) (d c : Int) (i : Nat) : List Int := rowL n (fun r => at2 R r i - c * (if r = i then d else 0))
def splitAt (xs : List Int) (st : SplitSt) (i : Nat) : Option SplitSt :=
  if someB (mixL xs.length st.1 st.2.1 1 i) = false then some st else
    if valI xs (mixL xs.length st.1 st.2.1 1 i) xs.length = 0 then (splitPut xs st (plainL (mixL xs.length st.1 st.2.1 (-1) i))).bind fun st => splitPut xs st (plainL (unL xs.length i)) else splitPut xs st (plainL (mixL xs.length st.1 st.2.1 1 i))
def splitN (xs : List Int) (st : SplitSt) : Nat → Option SplitSt
  | 0 => some st
  | k + 1 => (splitN xs st k).bind fun st => splitAt xs st k
def splitV (xs : List Int) (R : List (List Int)) (d : Int) : Option (List (List Int)) := if moveB xs R d then (splitN xs (R, d, []) xs.length).map (·.2.2) else none

/-- what is kept from place to place -/
structure SplitI (xs : List Int) (R0 : List (List Int)) (d0 : Int) (st : SplitSt) : Prop where
  ok : MoveOk xs st.1 st.2.1
  rep : Rep xs.length (mulF (PM xs st.2.2.reverse) (at2 R0) xs.length) (PQ xs st.2.2 * d0) st.1 st.2.1
  sign : signW xs st.1 st.2.1 = signW xs R0 d0 * alt st.2.2.length
  q0 : PQ xs st.2.2 ≠ 0
/-- so many columns stay -/
def Fix (xs : List Int) (R : List (List Int)) (d : Int) (j : Nat) (c : Int) : Prop := ∀ r, r < xs.length → at2 R r j = c * (if r = j then d else 0)
theorem put_some {xs : List Int} {R0 : List (List Int)} {d0 : Int} {st st' : SplitSt} {ws : List Int} (I : SplitI xs R0 d0 st) (h : splitPut xs st ws = some st') :
    SplitI xs R0 d0 st' ∧ st'.2.2 = st.2.2 ++ [ws] ∧ qF xs ws ≠ 0 ∧ ∃ G : Int, G ≠ 0 ∧ (∀ r j, r < xs.length → j < xs.length → apF (mirM xs ws) xs.length (fun s => at2 st.1 s j) r = G * at2 st'.1 r j) ∧ qF xs ws * st.2.1 = G * st'.2.1 := by
  unfold splitPut at h
  cases hm : mirV xs ws with
  | none => rw [hm] at h; cases h
  | some M =>
    obtain ⟨M, m⟩ := M
    rw [hm] at h
    have h : (mulV xs M m st.1 st.2.1).map (fun m => (m.1, m.2, st.2.2 ++ [ws])) = some st' := h
    cases hmul : mulV xs M m st.1 st.2.1 with
    | none => rw [hmul] at h; cases h
    | some R1 =>
      obtain ⟨R1, d1⟩ := R1
      rw [hmul] at h
      simp only [Option.map_some, Option.some.injEq] at h
      subst h
      obtain ⟨_, _, h1, g1, hg1, hM1, hD1⟩ := mul_some hmul
      obtain ⟨_, _, hq, g2, hg2, hM2, hD2⟩ := mir_some hm
      have hq : qF xs ws ≠ 0 := hq
      have hD2 : qF xs ws = g2 * m := hD2
      obtain ⟨g, hg, hMr, hDr⟩ := I.rep
      have hG : g2 * g1 ≠ 0 := Int.mul_ne_zero hg2 hg1
      have key : ∀ r j, r < xs.length → j < xs.length → mulF (mirM xs ws) (at2 st.1) xs.length r j = g2 * g1 * at2 R1 r j := fun r j hr hj => by
        rw [mul_scale_l (A := at2 M) (C := mirM xs ws) (fun s hs => hM2 r s hr hs), hM1 r j hr hj, Int.mul_assoc]
      have hs := sign_mul hmul
      rw [mir_sign hm, I.sign] at hs
      refine ⟨⟨h1, ⟨g * (g2 * g1), Int.mul_ne_zero hg hG, fun i k hi hk => ?_, ?_⟩, ?_, ?_⟩, rfl, hq, g2 * g1, hG, key, ?_⟩
      · show mulF (PM xs (st.2.2 ++ [ws]).reverse) (at2 R0) xs.length i k = g * (g2 * g1) * at2 R1 i k
        rw [List.reverse_append]
        show mulF (mulF (mirM xs ws) (PM xs st.2.2.reverse) xs.length) (at2 R0) xs.length i k = _
        rw [mul_assocF, mul_scale_r (B := at2 st.1) (fun s hs => hMr s k hs hk), key i k hi hk]; grind
      · show PQ xs (st.2.2 ++ [ws]) * d0 = g * (g2 * g1) * d1
        rw [PQ_app]
        show PQ xs st.2.2 * (qF xs ws * 1) * d0 = _
        have e1 : PQ xs st.2.2 * (qF xs ws * 1) * d0 = qF xs ws * (PQ xs st.2.2 * d0) := by grind
        rw [e1, hDr, hD2]
        have e2 : g2 * m * (g * st.2.1) = g2 * g * (m * st.2.1) := by grind
        rw [e2, hD1]; grind
      · show signW xs R1 d1 = signW xs R0 d0 * alt (st.2.2 ++ [ws]).length
        rw [hs, List.length_append]
        show _ = signW xs R0 d0 * alt (st.2.2.length + 1)
        rw [alt_succ]; grind
      · show PQ xs (st.2.2 ++ [ws]) ≠ 0
        rw [PQ_app]
        exact Int.mul_ne_zero I.q0 (Int.mul_ne_zero hq (by show (1 : Int) ≠ 0; decide))
      · show qF xs ws * st.2.1 = g2 * g1 * d1
        rw [hD2, Int.mul_assoc, hD1, Int.mul_assoc]
theorem cancel0 {a b : Int} (h : a * b = 0) (ha : a ≠ 0) : b = 0 := (Int.mul_eq_zero.1 h).resolve_left ha
theorem pr_fix (f x : Nat → Int) {n j : Nat} (hj : j < n) (c d : Int) {y : Nat → Int} (hy : ∀ r, r < n → y r = c * (if r = j then d else 0)) : prF f n x y = c * d * (f j * x j) := by
  rw [pr_congr (x' := x) (y' := fun r => c * d * unF j r) (fun _ _ => rfl) (fun r hr => by rw [hy r hr]; unfold unF; split <;> grind), pr_comm, pr_scale, pr_comm, pr_unit _ hj]
/-- a mirror leaves the columns that its vector does not touch -/
theorem put_keep {xs : List Int} {R0 : List (List Int)} {d0 : Int} {st st' : SplitSt} {ws : List Int} (I : SplitI xs R0 d0 st) (h : splitPut xs st ws = some st') {j : Nat} (hj : j < xs.length) (hF : Fix xs st.1 st.2.1 j 1) (h0 : fF ws j = 0) : Fix xs st'.1 st'.2.1 j 1 := by
  obtain ⟨_, _, _, G, hG, hA, hD⟩ := put_some I h
  intro r hr
  have e := hA r j hr hj
  have hp : prF (fF xs) xs.length (fF ws) (fun s => at2 st.1 s j) = 0 := by rw [pr_fix _ _ hj 1 st.2.1 hF, h0]; grind
  rw [show mirM xs ws = mirF (fF xs) (fF ws) (qF xs ws) from rfl, mir_fix _ _ _ hr hp, hF r hr] at e
  refine Int.eq_of_mul_eq_mul_left hG ?_
  rw [← e]
  split
  · rw [Int.one_mul, Int.one_mul, hD]
  · grind
theorem plain_fF {W : List Int} : ∀ i, fF W i = signL W * (gcdL W : Int) * fF (plainL W) i := fun i => by
  have h := plain_back W
  have h1 := getD_map0 (fun v => signL W * (gcdL W : Int) * v) (Int.mul_zero _) (plainL W) i
  rw [h] at h1
  exact h1
/-- the mirror of the difference brings the column to its place -/
theorem put_col {xs : List Int} {R0 : List (List Int)} {d0 : Int} {st st' : SplitSt} (I : SplitI xs R0 d0 st) {i : Nat} {c : Int} (hi : i < xs.length) (hc : c = 1 ∨ c = -1) (hs : ∃ v ∈ mixL xs.length st.1 st.2.1 c i, v ≠ 0) (h : splitPut xs st (plainL (mixL xs.length st.1 st.2.1 c i)) = some st') : Fix xs st'.1 st'.2.1 i c := by
  obtain ⟨_, _, _, G, hG, hA, hD⟩ := put_some I h
  obtain ⟨W, hW⟩ : ∃ W, W = mixL xs.length st.1 st.2.1 c i := ⟨_, rfl⟩
  rw [← hW] at hs hA hD
  obtain ⟨s, hsd⟩ : ∃ s, s = signL W * (gcdL W : Int) := ⟨_, rfl⟩
  have hs0 : s ≠ 0 := by rw [hsd]; exact sg_ne hs
  have hss : s * s ≠ 0 := Int.mul_ne_zero hs0 hs0
  have hp : ∀ r, r < xs.length → fF W r = s * fF (plainL W) r := fun r _ => by rw [hsd]; exact plain_fF r
  have hd := I.ok.d0
  have hu : prF (fF xs) xs.length (fun r => at2 st.1 r i) (fun r => at2 st.1 r i) = prF (fF xs) xs.length (fun r => c * (if r = i then st.2.1 else 0)) (fun r => c * (if r = i then st.2.1 else 0)) := by
    rw [pr_fix _ _ hi c st.2.1 (fun _ _ => rfl), if_pos rfl]
    have h1 := I.ok.orth i i hi hi
    rw [if_pos rfl] at h1
    have h2 : prF (fF xs) xs.length (fun r => at2 st.1 r i) (fun r => at2 st.1 r i) = fF xs i * st.2.1 * st.2.1 := h1
    rw [h2]
    rcases hc with rfl | rfl <;> grind
  have hl := fun r (hr : r < xs.length) => mir_less (f := fF xs) (u := fun r => at2 st.1 r i) (e := fun r => c * (if r = i then st.2.1 else 0)) (w := fF W) (n := xs.length) (fun r hr => by rw [hW]; exact row_at hr) hu hr
  intro r hr
  have e := hA r i hr hi
  obtain ⟨q1, _⟩ := mir_scale (f := fF xs) hp hr hr
  have e2 : apF (mirF (fF xs) (fF W) (prF (fF xs) xs.length (fF W) (fF W))) xs.length (fun r => at2 st.1 r i) r = s * s * apF (mirM xs (plainL W)) xs.length (fun r => at2 st.1 r i) r := by
    rw [← ap_scale2]
    exact ap_congr (fun k hk => (mir_scale (f := fF xs) hp hr hk).2) fun _ _ => rfl
  rw [hl r hr, q1] at e2
  have e3 : apF (mirM xs (plainL W)) xs.length (fun r => at2 st.1 r i) r = qF xs (plainL W) * (c * (if r = i then st.2.1 else 0)) := by
    refine Int.eq_of_mul_eq_mul_left hss ?_
    rw [← e2]
    unfold qF
    rw [Int.mul_assoc]
  rw [e3] at e
  refine Int.eq_of_mul_eq_mul_left hG ?_
  rw [← e]
  split
  · have : qF xs (plainL W) * (c * st.2.1) = c * (qF xs (plainL W) * st.2.1) := by grind
    rw [this, hD]; grind
  · grind
theorem mix_zero {xs : List Int} {R : List (List Int)} {d c : Int} (hR : MoveOk xs R d) {i j : Nat} (hi : i < xs.length) (hj : j < i) (hF : Fix xs R d j 1) : fF (plainL (mixL xs.length R d c i)) j = 0 := by
  have hjn : j < xs.length := by omega
  have h1 := hR.orth j i hjn hi
  rw [if_neg (by omega)] at h1
  have h2 : prF (fF xs) xs.length (fun r => at2 R r i) (fun r => at2 R r j) = 0 := by rw [pr_comm]; exact h1
  rw [pr_fix _ _ hjn 1 d hF] at h2
  have h3 : at2 R j i = 0 := by
    have hf := term_ne hR.form hjn
    have hd := hR.d0
    have : d * fF xs j * at2 R j i = 0 := by rw [← h2]; grind
    exact cancel0 this (Int.mul_ne_zero hd hf)
  have h4 : fF (mixL xs.length R d c i) j = 0 := by
    unfold mixL
    rw [row_at hjn, h3, if_neg (by omega)]; omega
  by_cases hs : ∃ v ∈ mixL xs.length R d c i, v ≠ 0
  · have h5 := plain_fF (W := mixL xs.length R d c i) j
    rw [h4] at h5
    exact cancel0 h5.symm (sg_ne hs)
  · have h6 : ∀ v ∈ plainL (mixL xs.length R d c i), v = 0 := fun v hv => by
      unfold plainL at hv
      obtain ⟨u, hu, rfl⟩ := List.mem_map.1 hv
      have : u = 0 := Classical.byContradiction fun h => hs ⟨u, hu, h⟩
      rw [this, Int.mul_zero, Int.zero_tdiv]
    unfold fF
    by_cases hl : j < (plainL (mixL xs.length R d c i)).length
    · rw [List.getD_eq_getElem?_getD, List.getElem?_eq_getElem hl]
      exact h6 _ (List.getElem_mem _)
    · rw [List.getD_eq_getElem?_getD, List.getElem?_eq_none (by omega)]; rfl
theorem un_some {n i : Nat} (hi : i < n) : ∃ v ∈ unL n i, v ≠ 0 := ⟨1, List.mem_map.2 ⟨i, List.mem_range.2 hi, by unfold unF; rw [if_pos rfl]⟩, by decide⟩
theorem un_plain {n i j : Nat} (hi : i < n) (hj : j < n) (h : j ≠ i) : fF (plainL (unL n i)) j = 0 := by
  have h5 := plain_fF (W := unL n i) j
  rw [un_at hj] at h5
  unfold unF at h5
  rw [if_neg h] at h5
  exact cancel0 h5.symm (sg_ne (un_some hi))
/-- the mirror of a unit vector turns its column -/
theorem put_unit {xs : List Int} {R0 : List (List Int)} {d0 : Int} {st st' : SplitSt} (I : SplitI xs R0 d0 st) {i : Nat} (hi : i < xs.length) (hF : Fix xs st.1 st.2.1 i (-1)) (h : splitPut xs st (plainL (unL xs.length i)) = some st') : Fix xs st'.1 st'.2.1 i 1 := by
  obtain ⟨_, _, _, G, hG, hA, hD⟩ := put_some I h
  intro r hr
  have e := hA r i hr hi
  obtain ⟨p, hp⟩ : ∃ p, p = plainL (unL xs.length i) := ⟨_, rfl⟩
  have hpz : ∀ j, j < xs.length → j ≠ i → fF p j = 0 := fun j hj hne => by rw [hp]; exact un_plain hi hj hne
  rw [← hp] at e hD
  rw [show mirM xs p = mirF (fF xs) (fF p) (qF xs p) from rfl, mir_ap _ _ _ _ hr, pr_fix _ _ hi (-1) st.2.1 hF, hF r hr] at e
  have hq : qF xs p = fF xs i * fF p i * fF p i := by
    unfold qF
    rw [pr_fix _ _ hi 1 (fF p i) (fun r hr => by
      by_cases e : r = i
      · subst e; rw [if_pos rfl]; omega
      · rw [if_neg e, hpz r hr e]; omega)]
    grind
  refine Int.eq_of_mul_eq_mul_left hG ?_
  rw [← e]
  by_cases hri : r = i
  · subst hri
    rw [if_pos rfl, if_pos rfl]
    have : G * (1 * st'.2.1) = qF xs p * st.2.1 := by rw [hD]; grind
    rw [this, hq]; grind
  · rw [if_neg hri, if_neg hri, hpz r hr hri]; grind
/-- terms of one sign -/
def Defin (xs : List Int) : Prop := ∀ v : Nat → Int, prF (fF xs) xs.length v v = 0 → ∀ i, i < xs.length → v i = 0
theorem someB_no {vs : List Int} (h : someB vs = false) {i : Nat} : fF vs i = 0 := by
  unfold fF
  by_cases hl : i < vs.length
  · rw [List.getD_eq_getElem?_getD, List.getElem?_eq_getElem hl]
    refine Classical.byContradiction fun hc => ?_
    rw [someB_iff.2 ⟨_, List.getElem_mem hl, hc⟩] at h
    cases h
  · rw [List.getD_eq_getElem?_getD, List.getElem?_eq_none (by omega)]; rfl
theorem split_at {xs : List Int} {R0 : List (List Int)} {d0 : Int} {st st' : SplitSt} {i : Nat} (hi : i < xs.length) (I : SplitI xs R0 d0 st) (hF : ∀ j, j < i → Fix xs st.1 st.2.1 j 1) (h : splitAt xs st i = some st') :
    SplitI xs R0 d0 st' ∧ (∀ j, j < i + 1 → Fix xs st'.1 st'.2.1 j 1) ∧ st'.2.2.length ≤ st.2.2.length + 2 ∧ (Defin xs → st'.2.2.length ≤ st.2.2.length + 1) := by
  unfold splitAt at h
  split at h
  · next hs =>
    simp only [Option.some.injEq] at h
    subst h
    refine ⟨I, fun j hj => ?_, by omega, fun _ => by omega⟩
    by_cases e : j = i
    · subst e
      intro r hr
      have h1 := someB_no hs (i := r)
      unfold mixL at h1
      rw [row_at hr] at h1
      omega
    · exact hF j (by omega)
  · next hs =>
    have hs : someB (mixL xs.length st.1 st.2.1 1 i) = true := by simpa using hs
    split at h
    · next hv =>
      cases h1 : splitPut xs st (plainL (mixL xs.length st.1 st.2.1 (-1) i)) with
      | none => rw [h1] at h; cases h
      | some s1 =>
        rw [h1] at h
        have h : splitPut xs s1 (plainL (unL xs.length i)) = some st' := h
        obtain ⟨I1, l1, q1, _⟩ := put_some I h1
        obtain ⟨I2, l2, _⟩ := put_some I1 h
        have hsm : ∃ v ∈ mixL xs.length st.1 st.2.1 (-1) i, v ≠ 0 := by
          refine Classical.byContradiction fun hc => q1 ?_
          have hz : ∀ r, r < xs.length → fF (plainL (mixL xs.length st.1 st.2.1 (-1) i)) r = 0 := fun r hr => by
            unfold fF
            by_cases hl : r < (plainL (mixL xs.length st.1 st.2.1 (-1) i)).length
            · rw [List.getD_eq_getElem?_getD, List.getElem?_eq_getElem hl]
              have hm := List.getElem_mem hl
              unfold plainL at hm
              obtain ⟨u, hu, e⟩ := List.mem_map.1 hm
              have : u = 0 := Classical.byContradiction fun h => hc ⟨u, hu, h⟩
              rw [this, Int.mul_zero, Int.zero_tdiv] at e
              exact e.symm
            · rw [List.getD_eq_getElem?_getD, List.getElem?_eq_none (by omega)]; rfl
          unfold qF
          rw [pr_congr hz hz]
          have : prF (fF xs) xs.length (fun _ => 0) (fun _ => 0) = sumF (fun _ => 0) xs.length := sumF_congr fun r _ => by show fF xs r * 0 * 0 = 0; rw [Int.mul_zero]
          rw [this, sumF_zero]
        have c1 := put_col I hi (.inr rfl) hsm h1
        refine ⟨I2, fun j hj => ?_, by rw [l2, l1]; simp, fun hdf => ?_⟩
        · by_cases e : j = i
          · subst e; exact put_unit I1 hi c1 h
          · have hj2 : j < i := by omega
            exact put_keep I1 h (by omega) (put_keep I h1 (by omega) (hF j hj2) (mix_zero I.ok hi hj2 (hF j hj2))) (un_plain hi (by omega) e)
        · exfalso
          rw [val_pr] at hv
          have hz := hdf _ hv
          obtain ⟨v, hvm, hv0⟩ := someB_iff.1 hs
          obtain ⟨k, hk, rfl⟩ := List.getElem_of_mem hvm
          have hkn : k < xs.length := by unfold mixL at hk; rw [row_len] at hk; exact hk
          have := hz k hkn
          unfold fF at this
          rw [List.getD_eq_getElem?_getD, List.getElem?_eq_getElem hk] at this
          exact hv0 this
    · next hv =>
      obtain ⟨I1, l1, _⟩ := put_some I h
      refine ⟨I1, fun j hj => ?_, by rw [l1]; simp, fun _ => by rw [l1]; simp⟩
      by_cases e : j = i
      · subst e; exact put_col I hi (.inl rfl) (someB_iff.1 hs) h
      · have hj2 : j < i := by omega
        exact put_keep I h (by omega) (hF j hj2) (mix_zero I.ok hi hj2 (hF j hj2))
theorem split_n {xs : List Int} {R0 : List (List Int)} {d0 : Int} (h0 : MoveOk xs R0 d0) : ∀ {k : Nat} {st : SplitSt}, k ≤ xs.length → splitN xs (R0, d0, []) k = some st → SplitI xs R0 d0 st ∧ (∀ j, j < k → Fix xs st.1 st.2.1 j 1) ∧ st.2.2.length ≤ 2 * k ∧ (Defin xs → st.2.2.length ≤ k)
  | 0, st, _, h => by
    simp only [splitN, Option.some.injEq] at h
    subst h
    refine ⟨⟨h0, ⟨1, by decide, fun i k hi hk => ?_, ?_⟩, ?_, by show (1 : Int) ≠ 0; decide⟩, fun j hj => by omega, Nat.zero_le _, fun _ => Nat.zero_le _⟩
    · show mulF (idF 1) (at2 R0) xs.length i k = _
      rw [id_mul _ hi]
    · rfl
    · show signW xs R0 d0 = signW xs R0 d0 * 1; omega
  | k + 1, st, hk, h => by
    unfold splitN at h
    cases h1 : splitN xs (R0, d0, []) k with
    | none => rw [h1] at h; cases h
    | some s1 =>
      rw [h1] at h
      have h : splitAt xs s1 k = some st := h
      obtain ⟨I, hF, hl, hdf⟩ := split_n h0 (by omega) h1
      obtain ⟨I2, hF2, hl2, hdf2⟩ := split_at (by omega) I hF h
      exact ⟨I2, hF2, by omega, fun h => by have := hdf h; have := hdf2 h; omega⟩
theorem PQ_mem {xs : List Int} : ∀ {l : List (List Int)}, PQ xs l ≠ 0 → ∀ w ∈ l, qF xs w ≠ 0
  | [], _, w, hw => by cases hw
  | v :: l, h, w, hw => by
    have h : qF xs v * PQ xs l ≠ 0 := h
    rcases List.mem_cons.1 hw with rfl | hw
    · exact fun e => h (by rw [e, Int.zero_mul])
    · exact PQ_mem (fun e => h (by rw [e, Int.mul_zero])) w hw
/-- what MoveSplit answers -/
theorem split_some {xs : List Int} {R : List (List Int)} {d : Int} {out : List (List Int)} (h : splitV xs R d = some out) : MoveOk xs R d ∧ (∀ w ∈ out, valI xs w xs.length ≠ 0) ∧ signW xs R d = alt out.length ∧ out.length ≤ 2 * xs.length ∧ (Defin xs → out.length ≤ xs.length) ∧ ∀ X x, ofV xs out = some (X, x) → X = R ∧ x = d := by
  unfold splitV at h
  split at h
  · next hm =>
    have hR := moveB_iff.1 hm
    cases h1 : splitN xs (R, d, []) xs.length with
    | none => rw [h1] at h; cases h
    | some st =>
      rw [h1] at h
      simp only [Option.map_some, Option.some.injEq] at h
      subst h
      obtain ⟨I, hF, hl, hdf⟩ := split_n hR (Nat.le_refl _) h1
      have hst : st.1 = stayL xs.length ∧ st.2.1 = 1 := move_eq (k := 1) (l := st.2.1) I.ok (stay_ok hR.form hR.l3) (by decide) I.ok.d0 (by omega) fun i j hi hj => by
        rw [hF j hj i hi, stay_at hi hj]
        unfold idF
        split <;> omega
      have hsg := I.sign
      rw [hst.1, hst.2, sign_stay hR.form hR.l3] at hsg
      have hpm := sg_pm (detF xs.length (at2 R))
      rw [← sign_ok hR] at hpm
      refine ⟨hR, fun w hw => by rw [val_pr]; exact PQ_mem I.q0 w hw, ?_, hl, hdf, fun X x hx => ?_⟩
      · rcases hpm with e | e <;> rw [e] at hsg ⊢ <;> omega
      · obtain ⟨_, _, _, hX, ⟨g, hg, hM, hD⟩, _, hq⟩ := of_some hx
        obtain ⟨g', hg', hM', hD'⟩ := I.rep
        rw [hst.1] at hM'
        rw [hst.2, Int.mul_one] at hD'
        refine move_eq (k := g' * g) (l := PQ xs st.2.2 * PQ xs st.2.2) hX hR (Int.mul_ne_zero hg' hg) (Int.mul_ne_zero hq hq) ?_ fun i j hi hj => ?_
        · have e1 : g' * g * x = g' * (g * x) := Int.mul_assoc ..
          rw [e1, ← hD, ← hD']; grind
        · have e1 : mulF (PM xs st.2.2) (mulF (PM xs st.2.2.reverse) (at2 R) xs.length) xs.length i j = PQ xs st.2.2 * PQ xs st.2.2 * at2 R i j := by
            rw [← mul_assocF, mul_congr (A' := idF (PQ xs st.2.2 * PQ xs st.2.2)) (B' := at2 R) (fun r hr => PM_rev xs _ hi hr) (fun _ _ => rfl), id_mul _ hi]
          rw [← e1, mul_scale_r (B := at2 (stayL xs.length)) (fun s hs => hM' s j hs hj), mul_congr (A' := PM xs st.2.2) (B' := idF 1) (fun _ _ => rfl) (fun r hr => stay_at hr hj), mul_id _ hj, hM i j hi hj]
          grind
  · cases h

end Go.Proofs.Ytjabklpnohfjpab

/-! MvI -/
set_option linter.unusedVariables false
namespace Go.Proofs.Ytjabklpnohfjpab
open Go.RowKit

def diffL (us vs : List Int) (c : Int) (n : Nat) : List Int := rowL n (fun i => fF us i - c * fF vs i)
def carryOk (xs us vs : List Int) : Bool := frm3B xs && (vecB xs us 500 && (vecB xs vs 500 && (!decide (valI xs us xs.length = 0) && decide (valI xs us xs.length = valI xs vs xs.length))))
def carryL (xs us vs : List Int) : List (List Int) :=
  if someB (diffL us vs 1 xs.length) = false then [] else
    if valI xs (diffL us vs 1 xs.length) xs.length = 0 then [plainL (diffL us vs (-1) xs.length), plainL vs] else [plainL (diffL us vs 1 xs.length)]
theorem diff_at {us vs : List Int} {c : Int} {n i : Nat} (hi : i < n) : fF (diffL us vs c n) i = fF us i - c * fF vs i := row_at hi
/-- the mirror of a plain vector is that of the vector -/
theorem plain_mir {xs W : List Int} (hs : ∃ v ∈ W, v ≠ 0) {v : Nat → Int} {i : Nat} (hi : i < xs.length) : ∃ s : Int, s ≠ 0 ∧ qF xs W = s * s * qF xs (plainL W) ∧ apF (mirM xs W) xs.length v i = s * s * apF (mirM xs (plainL W)) xs.length v i := by
  have hp : ∀ r, r < xs.length → fF W r = signL W * (gcdL W : Int) * fF (plainL W) r := fun r _ => plain_fF r
  refine ⟨_, sg_ne hs, (mir_scale (f := fF xs) hp hi hi).1, ?_⟩
  rw [← ap_scale2]
  exact ap_congr (fun k hk => (mir_scale (f := fF xs) hp hi hk).2) fun _ _ => rfl
/-- a mirror that takes u to c v does so as a move -/
theorem mir_takes {xs p us ts : List Int} {R : List (List Int)} {d : Int} (h : mirV xs p = some (R, d)) (hu : vecB xs us 1000 = true) (hl : ts.length = xs.length) (ht : ∀ i, i < xs.length → apF (mirM xs p) xs.length (fF us) i = qF xs p * fF ts i) : onV xs R d us = some (ts, 1) := by
  obtain ⟨hR, hv, h0, g, hg, hM, hD⟩ := mir_some h
  refine on_is (k := g) (l := qF xs p) hR hu hl (red_one _) hg h0 (by rw [show qF xs p = g * d from hD]; omega) fun i hi => ?_
  rw [← ht i hi, ← ap_scale2]
  exact ap_congr (fun k hk => (hM i k hi hk).symm) fun _ _ => rfl
theorem diff_takes {xs us vs : List Int} {c : Int} (hc : c = 1 ∨ c = -1) (he : valI xs us xs.length = valI xs vs xs.length) (hs : ∃ v ∈ diffL us vs c xs.length, v ≠ 0) {i : Nat} (hi : i < xs.length) : apF (mirM xs (plainL (diffL us vs c xs.length))) xs.length (fF us) i = qF xs (plainL (diffL us vs c xs.length)) * (c * fF vs i) := by
  obtain ⟨s, hs0, hq, ha⟩ := plain_mir (xs := xs) hs (v := fF us) hi
  rw [val_pr, val_pr] at he
  have hu : prF (fF xs) xs.length (fF us) (fF us) = prF (fF xs) xs.length (fun r => c * fF vs r) (fun r => c * fF vs r) := by
    rw [pr_scale (x := fF vs), pr_comm (fF xs) xs.length (fF vs), pr_scale, he]
    rcases hc with rfl | rfl <;> grind
  have hl := mir_less (f := fF xs) (u := fF us) (e := fun r => c * fF vs r) (w := fF (diffL us vs c xs.length)) (n := xs.length) (fun r hr => diff_at hr) hu hi
  have hl : apF (mirM xs (diffL us vs c xs.length)) xs.length (fF us) i = qF xs (diffL us vs c xs.length) * (c * fF vs i) := hl
  rw [ha, hq] at hl
  refine Int.eq_of_mul_eq_mul_left (Int.mul_ne_zero hs0 hs0) ?_
  rw [hl, Int.mul_assoc]
theorem vec_more {xs us : List Int} (h : vecB xs us 500 = true) : vecB xs us 1000 = true := by
  obtain ⟨h1, h2⟩ := vecB_iff.1 h
  exact vecB_iff.2 ⟨fun v hv => by have := h1 v hv; omega, h2⟩
/-- one mirror -/
theorem carry_one {xs us vs : List Int} {R : List (List Int)} {d : Int} (h : carryOk xs us vs = true) (hs : someB (diffL us vs 1 xs.length) = true) (hm : mirV xs (plainL (diffL us vs 1 xs.length)) = some (R, d)) : onV xs R d us = some (vs, 1) := by
  unfold carryOk at h
  rw [Bool.and_eq_true, Bool.and_eq_true, Bool.and_eq_true, Bool.and_eq_true, decide_eq_true_eq] at h
  obtain ⟨_, h1, h2, _, h4⟩ := h
  refine mir_takes hm (vec_more h1) (vecB_iff.1 h2).2.2 fun i hi => ?_
  rw [diff_takes (.inl rfl) h4 (someB_iff.1 hs) hi, Int.one_mul]
/-- two mirrors -/
theorem carry_two {xs us vs : List Int} {R R' : List (List Int)} {d d' : Int} (h : carryOk xs us vs = true) (hz : valI xs (diffL us vs 1 xs.length) xs.length = 0) :
    (mirV xs (plainL (diffL us vs (-1) xs.length)) = some (R, d) → onV xs R d us = some (vs.map (fun x => -x), 1)) ∧ (mirV xs (plainL vs) = some (R', d') → onV xs R' d' (vs.map (fun x => -x)) = some (vs, 1)) := by
  unfold carryOk at h
  rw [Bool.and_eq_true, Bool.and_eq_true, Bool.and_eq_true, Bool.and_eq_true, decide_eq_true_eq, Bool.not_eq_true', decide_eq_false_iff_not] at h
  obtain ⟨_, h1, h2, h3, h4⟩ := h
  have lv := (vecB_iff.1 h2).2.2
  constructor
  · intro hm
    refine mir_takes hm (vec_more h1) (by rw [List.length_map]; exact lv) fun i hi => ?_
    have hs : ∃ v ∈ diffL us vs (-1) xs.length, v ≠ 0 := by
      refine Classical.byContradiction fun hc => h3 ?_
      have hz2 : ∀ r, r < xs.length → fF (diffL us vs (-1) xs.length) r = 0 := fun r hr => by
        unfold fF
        by_cases hl : r < (diffL us vs (-1) xs.length).length
        · rw [List.getD_eq_getElem?_getD, List.getElem?_eq_getElem hl]
          exact Classical.byContradiction fun h => hc ⟨_, List.getElem_mem hl, h⟩
        · rw [List.getD_eq_getElem?_getD, List.getElem?_eq_none (by omega)]; rfl
      -- u = -v, so u - v = 2 u has the value 0
      have hu : ∀ r, r < xs.length → fF (diffL us vs 1 xs.length) r = 2 * fF us r := fun r hr => by
        have e := hz2 r hr
        rw [diff_at hr] at e ⊢
        omega
      rw [val_pr, pr_congr hu hu, pr_scale, pr_comm, pr_scale] at hz
      rw [val_pr]
      omega
    rw [diff_takes (.inr rfl) h4 hs hi, fF_minus]
    congr 1
    show -1 * fF vs i = -fF vs i
    omega
  · intro hm
    have hvm : vecB xs (vs.map (fun x => -x)) 1000 = true := by rw [vec_minus]; exact vec_more h2
    refine mir_takes hm hvm lv fun i hi => ?_
    have hs : ∃ v ∈ vs, v ≠ 0 := by
      refine Classical.byContradiction fun hc => h3 ?_
      rw [h4, val_pr]
      have hz2 : ∀ r, r < xs.length → fF vs r = 0 := fun r hr => by
        unfold fF
        rw [List.getD_eq_getElem?_getD, List.getElem?_eq_getElem (by omega)]
        exact Classical.byContradiction fun h => hc ⟨_, List.getElem_mem _, h⟩
      rw [pr_congr hz2 hz2]
      have : prF (fF xs) xs.length (fun _ => 0) (fun _ => 0) = sumF (fun _ => 0) xs.length := sumF_congr fun r _ => by show fF xs r * 0 * 0 = 0; rw [Int.mul_zero]
      rw [this, sumF_zero]
    obtain ⟨s, hs0, hq, ha⟩ := plain_mir (xs := xs) hs (v := fF vs) hi
    have hself : apF (mirM xs vs) xs.length (fF vs) i = qF xs vs * -fF vs i := mir_self (fF xs) (fF vs) hi
    rw [ha, hq] at hself
    have e1 : apF (mirM xs (plainL vs)) xs.length (fF vs) i = qF xs (plainL vs) * -fF vs i := by
      refine Int.eq_of_mul_eq_mul_left (Int.mul_ne_zero hs0 hs0) ?_
      rw [hself, Int.mul_assoc]
    have e2 : apF (mirM xs (plainL vs)) xs.length (fF (vs.map (fun x => -x))) i = apF (mirM xs (plainL vs)) xs.length (fun k => -1 * fF vs k) i := ap_congr (fun _ _ => rfl) fun k _ => by rw [fF_minus]; show -fF vs k = -1 * fF vs k; omega
    rw [e2, ap_scale, e1]
    grind
/-- no vector is noted exactly if both are equal -/
theorem carry_none {xs us vs : List Int} (h : carryOk xs us vs = true) (hs : someB (diffL us vs 1 xs.length) = false) : us = vs := by
  unfold carryOk at h
  rw [Bool.and_eq_true, Bool.and_eq_true, Bool.and_eq_true] at h
  obtain ⟨_, h1, h2, _⟩ := h
  refine list_ext (vecB_iff.1 h1).2.2 (vecB_iff.1 h2).2.2 fun i hi => ?_
  have e := someB_no hs (i := i)
  rw [diff_at hi] at e
  omega
theorem carry_len (xs us vs : List Int) : (carryL xs us vs).length ≤ 2 := by
  unfold carryL
  split
  · simp
  · split <;> simp
theorem carry_def {xs us vs : List Int} (hd : Defin xs) : (carryL xs us vs).length ≤ 1 := by
  unfold carryL
  split
  · simp
  · next hs =>
    have hs : someB (diffL us vs 1 xs.length) = true := by simpa using hs
    split
    · next hz =>
      exfalso
      rw [val_pr] at hz
      obtain ⟨v, hv, hv0⟩ := someB_iff.1 hs
      obtain ⟨k, hk, rfl⟩ := List.getElem_of_mem hv
      have hkn : k < xs.length := by unfold diffL at hk; rw [row_len] at hk; exact hk
      have := hd _ hz k hkn
      unfold fF at this
      rw [List.getD_eq_getElem?_getD, List.getElem?_eq_getElem hk] at this
      exact hv0 this
    · simp
/-- terms of one sign have no zeros -/
theorem defin_pos {xs : List Int} (h : (∀ x ∈ xs, 0 < x) ∨ (∀ x ∈ xs, x < 0)) : Defin xs := by
  intro v hv
  have key : ∀ (e : Int), e ≠ 0 → (∀ i, i < xs.length → 0 < e * fF xs i) → ∀ n, n ≤ xs.length → 0 ≤ e * prF (fF xs) n v v ∧ (e * prF (fF xs) n v v = 0 → ∀ i, i < n → v i = 0) := by
    intro e he hp n
    induction n with
    | zero => intro _; exact ⟨by show 0 ≤ e * 0; omega, fun _ i hi => by omega⟩
    | succ n ih =>
      intro hn
      obtain ⟨h1, h2⟩ := ih (by omega)
      have hx := hp n (by omega)
      have ht : 0 ≤ e * fF xs n * (v n * v n) := Int.mul_nonneg (by omega) (by rcases Int.le_total 0 (v n) with h | h; exact Int.mul_nonneg h h; exact Int.mul_nonneg_of_nonpos_of_nonpos h h)
      have es : e * prF (fF xs) (n + 1) v v = e * prF (fF xs) n v v + e * fF xs n * (v n * v n) := by
        show e * (prF (fF xs) n v v + fF xs n * v n * v n) = _
        grind
      refine ⟨by omega, fun h0 i hi => ?_⟩
      by_cases e2 : i = n
      · subst e2
        have h3 : e * fF xs i * (v i * v i) = 0 := by omega
        have h4 := cancel0 h3 (by omega)
        rcases Int.mul_eq_zero.1 h4 with h | h <;> exact h
      · exact h2 (by omega) i (by omega)
  have hat : ∀ i, i < xs.length → fF xs i ∈ xs := fun i hi => by
    unfold fF
    rw [List.getD_eq_getElem?_getD, List.getElem?_eq_getElem hi]
    exact List.getElem_mem _
  rcases h with h | h
  · exact (key 1 (by decide) (fun i hi => by have := h _ (hat i hi); omega) _ (Nat.le_refl _)).2 (by rw [hv]; rfl)
  · exact (key (-1) (by decide) (fun i hi => by have := h _ (hat i hi); omega) _ (Nat.le_refl _)).2 (by rw [hv]; rfl)

end Go.Proofs.Ytjabklpnohfjpab

/-! RegInv -/
set_option linter.unusedVariables false
namespace Go.Proofs.Ytjabklpnohfjpab
open Go.RowKit

section
variable {P : Program} {ops : Array Oper} {Q : Exit → Act → World → Prop} {md : Region.Mode}
/-- has operation i been done? -/
def dn (L : Array Bool) (i : Nat) : Prop := L[i]? = some true
theorem dn_set {L : Array Bool} {i j : Nat} (h : dn (L.setIfInBounds i true) j) : j = i ∨ dn L j := by
  unfold dn at h ⊢
  by_cases e : i = j
  · exact .inl e.symm
  · right
    rwa [Array.getElem?_setIfInBounds_ne e] at h
theorem dn_old {L : Array Bool} {i j : Nat} (h : dn (L.setIfInBounds i true) j) (hne : j ≠ i) : dn L j := (dn_set h).resolve_left hne
/-- what has been done stays done -/
theorem dn_keep {L : Array Bool} {i j : Nat} (h : dn L j) : dn (L.setIfInBounds i true) j := by
  unfold dn at h ⊢
  by_cases e : i = j
  · subst e
    have hl : i < L.size := by
      rcases Nat.lt_or_ge i L.size with hl | hl
      · exact hl
      · rw [Array.getElem?_eq_none hl] at h; cases h
    rw [Array.getElem?_setIfInBounds_self_of_lt hl]
  · rw [Array.getElem?_setIfInBounds_ne e]; exact h
theorem ready_mem {L : Array Bool} {i : Nat} (h : i ∈ Region.ready md ops L) : i < ops.size ∧ L[i]? = some false ∧ ∀ o, ops[i]? = some o → ∀ e ∈ o.after, Region.binds md e = true → dn L e.on := by
  unfold Region.ready at h
  rw [List.mem_filter, List.mem_range, Bool.and_eq_true] at h
  obtain ⟨h1, h2, h3⟩ := h
  refine ⟨h1, ?_, fun o ho e he hb => ?_⟩
  · rcases Nat.lt_or_ge i L.size with hl | hl
    · rw [Array.getElem?_eq_getElem hl]
      simp [Array.getD, hl] at h2
      rw [h2]
    · simp [Array.getD, Nat.not_lt.2 hl] at h2
  · rw [ho] at h3
    simp only [Option.map_some, Option.getD_some, Array.all_eq_true_iff_forall_mem] at h3
    have := h3 e he
    rw [hb, Bool.not_true, Bool.false_or] at this
    unfold dn
    rcases Nat.lt_or_ge e.on L.size with hl | hl
    · rw [Array.getElem?_eq_getElem hl]
      simp [Array.getD, hl] at this
      rw [this]
    · simp [Array.getD, Nat.not_lt.2 hl] at this
def openN (L : Array Bool) : Nat := L.toList.countP (fun b => !b)
theorem open_set {L : Array Bool} {i : Nat} (h : L[i]? = some false) : openN (L.setIfInBounds i true) + 1 = openN L := by
  unfold openN
  rw [Array.toList_setIfInBounds]
  rw [← Array.getElem?_toList] at h
  generalize L.toList = l at h
  induction l generalizing i with
  | nil => simp at h
  | cons b l ih =>
    cases i with
    | zero =>
      simp at h
      subst h
      simp
    | succ i =>
      simp only [List.getElem?_cons_succ] at h
      simp only [List.set_cons_succ, List.countP_cons]
      have := ih h
      omega
theorem open_ready {L : Array Bool} (h : openN L = 0) : Region.ready md ops L = [] := by
  cases hr : Region.ready md ops L with
  | nil => rfl
  | cons i t =>
    have hi := (ready_mem (md := md) (ops := ops) (L := L) (i := i) (by rw [hr]; exact List.mem_cons_self ..)).2.1
    have := open_set hi
    omega
theorem any_inv {I : Array Bool → Act → World → Prop} (hend : ∀ L a w, I L a w → Region.ready md ops L = [] → Q .normal a w)
    (hstep : ∀ L a w i, I L a w → i ∈ Region.ready md ops L → wpOp P ops Q i (I (L.setIfInBounds i true)) a w) :
    ∀ (fuel : Nat) (L : Array Bool) (a : Act) (w : World), openN L ≤ fuel → I L a w → wpAny P md ops Q fuel L a w := by
  intro fuel
  induction fuel with
  | zero => intro L a w hf h; exact ⟨open_ready (by omega), hend L a w h (open_ready (by omega))⟩
  | succ fuel ih =>
    intro L a w hf h
    refine ⟨hend L a w h, fun i hi => ?_⟩
    have ho := open_set (ready_mem hi).2.1
    exact wpOp_mono (fun a w hI => ih _ a w (by omega) hI) (hstep L a w i h hi)
theorem open_new (n : Nat) : openN (Array.replicate n false) = n := by
  unfold openN
  rw [Array.toList_replicate, List.countP_replicate]
  simp
/-- a region that draws its order: what holds at its beginning and is kept by each operation that may come up holds at its end -/
theorem region_inv {id : Nat} {a : Act} {w : World} (hm : P.follows .mixedOrders = true) (I : Array Bool → Act → World → Prop)
    (h0 : I (Array.replicate ops.size false) a w.drew) (hend : ∀ L a w, I L a w → Region.ready .any ops L = [] → Q .normal a w)
    (hstep : ∀ L a w i, I L a w → i ∈ Region.ready .any ops L → wpOp P ops Q i (I (L.setIfInBounds i true)) a w) : (Code.region id ops true).wp P Q a w :=
  wp_region_any hm (any_inv hend hstep _ _ _ _ (by rw [open_new]; exact Nat.le_refl _) h0)
/-- all is done where nothing may come up, if each waits for earlier ones alone -/
theorem all_done {L : Array Bool} (hs : L.size = ops.size) (hb : ∀ (i : Nat) (o : Oper), ops[i]? = some o → ∀ e ∈ o.after, Region.binds md e = true → e.on < i) (hr : Region.ready md ops L = []) : ∀ i, i < ops.size → dn L i := by
  intro i
  induction i using Nat.strongRecOn with
  | _ i ih =>
    intro hi
    refine Classical.byContradiction fun hn => ?_
    have hl : i < L.size := by omega
    have hf : L[i]? = some false := by
      unfold dn at hn
      rw [Array.getElem?_eq_getElem hl] at hn ⊢
      cases hv : L[i] with
      | false => rfl
      | true => rw [hv] at hn; exact absurd rfl hn
    have : i ∈ Region.ready md ops L := by
      unfold Region.ready
      rw [List.mem_filter, List.mem_range, Bool.and_eq_true]
      refine ⟨hi, ?_, ?_⟩
      · rw [Array.getElem?_eq_getElem hl] at hf
        simp only [Option.some.injEq] at hf
        simp [Array.getD, hl, hf]
      · rw [Array.getElem?_eq_getElem hi]
        simp only [Option.map_some, Option.getD_some, Array.all_eq_true_iff_forall_mem]
        intro e he
        cases hbb : Region.binds md e with
        | false => rfl
        | true =>
          have hlt := hb i _ (Array.getElem?_eq_getElem hi) e he hbb
          have hd := ih e.on hlt (by omega)
          unfold dn at hd
          have hl2 : e.on < L.size := by omega
          rw [Array.getElem?_eq_getElem hl2] at hd
          simp only [Option.some.injEq] at hd
          simp [Array.getD, hl2, hd]
    rw [hr] at this
    cases this
theorem dn_new {n k : Nat} (h : dn (Array.replicate n false) k) : False := by
  unfold dn at h
  rw [Array.getElem?_replicate] at h
  split at h <;> simp at h
theorem dn_not {L : Array Bool} {i : Nat} (h : L[i]? = some false) : ¬ dn L i := fun h2 => by
  unfold dn at h2
  rw [h] at h2
  cases h2
/-- each operation waits for earlier ones alone -/
def depB (ops : Array Oper) : Bool := (List.range ops.size).all fun i => match ops[i]? with
  | some o => o.after.all fun e => decide (e.on < i)
  | none => true
theorem all_done2 {L : Array Bool} (hs : L.size = ops.size) (hb : depB ops = true) (hr : Region.ready md ops L = []) : ∀ i, i < ops.size → dn L i :=
  all_done hs (fun i o ho e he _ => by
    have hi : i < ops.size := by
      rcases Nat.lt_or_ge i ops.size with h | h
      · exact h
      · rw [Array.getElem?_eq_none h] at ho; cases ho
    unfold depB at hb
    rw [List.all_eq_true] at hb
    have := hb i (List.mem_range.2 hi)
    rw [ho] at this
    simp only [Array.all_eq_true_iff_forall_mem] at this
    have h2 := this e he
    rwa [decide_eq_true_eq] at h2) hr
/-- each operation waits for earlier ones alone, among those whose order binds in every mode -/
def depM (ops : Array Oper) : Bool := (List.range ops.size).all fun i => match ops[i]? with
  | some o => o.after.all fun e => !Region.binds .any e || decide (e.on < i)
  | none => true
theorem all_done3 {L : Array Bool} (hs : L.size = ops.size) (hb : depM ops = true) (hr : Region.ready .any ops L = []) : ∀ i, i < ops.size → dn L i :=
  all_done hs (fun i o ho e he hbd => by
    have hi : i < ops.size := by
      rcases Nat.lt_or_ge i ops.size with h | h
      · exact h
      · rw [Array.getElem?_eq_none h] at ho; cases ho
    unfold depM at hb
    rw [List.all_eq_true] at hb
    have := hb i (List.mem_range.2 hi)
    rw [ho] at this
    simp only [Array.all_eq_true_iff_forall_mem] at this
    have h2 := this e he
    rw [hbd, Bool.not_true, Bool.false_or] at h2
    rwa [decide_eq_true_eq] at h2) hr
end

end Go.Proofs.Ytjabklpnohfjpab

/-! Vec -/
set_option linter.unusedVariables false
namespace Go.Proofs.Ytjabklpnohfjpab
open Go.RowKit

set_option maxRecDepth 100000 in
set_option maxHeartbeats 1000000 in
theorem vectorWithin_any (v : Value) (xs : List Int) (count m : Int) (hm1 : 0 ≤ m) (hm2 : m ≤ 1000000) (w : World) (h : Rd w v xs) : Calls Try.prog 57 #[v, .int .i64 count, .int .i64 m] w fun e w' => e = .returned (.bool (inAll xs m && decide ((xs.length : Int) = count))) ∧ w = w' := by
  obtain ⟨a, cap, rfl, hform⟩ := h.form
  have HFM := hid hform
  have hmx : xs.length ≤ maxLen := by
    rcases Nat.eq_zero_or_pos xs.length with e | e
    · rw [e]; exact Nat.zero_le _
    · obtain ⟨_, _, _, hm, _⟩ := hform e; exact hm
  unfold maxLen at hmx
  clear hform h
  go_enter Try.func57, Try.ntmps57
  go_wp2_with fail
  go_loop [11] (fun si => ∃ K : Nat, si = .int .i64 K ∧ K ≤ xs.length ∧ Hid (∀ i, i < K → inR (xs.getD i 0) (-m) m = true)) (fun si => xs.length - (intOf si).toNat)
  case atStart => exact ⟨0, rfl, by omega, hid (fun i hi => by omega)⟩
  case round =>
    obtain ⟨K, rfl, hK, HE⟩ := hrel
    by_cases hlt : K < xs.length
    · obtain ⟨b, o, rfl, hml, hc⟩ := HFM.out (by omega)
      have hcell := hc K hlt
      obtain ⟨x, hx⟩ : ∃ x, x = xs.getD K 0 := ⟨_, rfl⟩
      rw [← hx] at hcell
      have HXE := hid hx
      have HLT := hid hlt
      have hKi : (K : Int) < (xs.length : Int) := by omega
      have HNO : Hid (inR x (-m) m = false → inAll xs m = false) := hid (fun e => by
        unfold inAll
        rw [List.all_eq_false]
        exact ⟨x, by rw [hx, getD_at _ _ hlt]; exact List.getElem_mem _, by rw [e]; decide⟩)
      have HIR : Hid (inR x (-m) m = true ↔ -m ≤ x ∧ x ≤ m) := hid (by unfold inR; rw [Bool.and_eq_true, decide_eq_true_eq, decide_eq_true_eq])
      clear hx hc hml hlt
      by_cases x1 : x < -m
      · have HR := hid (HNO.out (by
          cases e : inR x (-m) m with
          | false => rfl
          | true => have := HIR.out.1 e; omega))
        go_wp2_with fail
        go_ret
        exact ⟨retB (by rw [HR.out]; rfl), rfl⟩
      · by_cases x2 : x > m
        · have HR := hid (HNO.out (by
            cases e : inR x (-m) m with
            | false => rfl
            | true => have := HIR.out.1 e; omega))
          go_wp2_with fail
          go_ret
          exact ⟨retB (by rw [HR.out]; rfl), rfl⟩
        · have HIN : Hid (inR x (-m) m = true) := hid (HIR.out.2 ⟨by omega, by omega⟩)
          go_wp2_with fail
          go_round
          case measure => simp only [intOf]; have := HLT.out; omega
          case rel => exact ⟨K + 1, by go_num, by have := HLT.out; omega, hid (fun i hi => by
            by_cases e : i = K
            · rw [e, ← HXE.out]; exact HIN.out
            · exact HE.out i (by omega))⟩
    · obtain rfl : K = xs.length := by omega
      have HR : Hid (inAll xs m = true) := hid (List.all_eq_true.2 fun x hx => by
          obtain ⟨i, hi, rfl⟩ := List.getElem_of_mem hx
          have := HE.out i hi
          rwa [getD_at _ _ hi] at this)
      clear hlt
      by_cases hc : (xs.length : Int) = count
      · have T : ((xs.length : Int) == count) = true := by rw [beq_iff_eq]; exact hc
        have HD := hid (decide_eq_true hc)
        clear hc
        go_wp2_with fail
        go_ret
        exact ⟨retB (by rw [HR.out, HD.out]; rfl), rfl⟩
      · have T : ((xs.length : Int) == count) = false := by rw [beq_eq_false_iff_ne]; exact hc
        have HD := hid (decide_eq_false hc)
        clear hc
        go_wp2_with fail
        go_ret
        exact ⟨retB (by rw [HR.out, HD.out]; rfl), rfl⟩

set_option maxRecDepth 100000 in
set_option maxHeartbeats 1000000 in
theorem pairAt_any (vf vv vw : Value) (xs vs ws : List Int) (w : World) (hx : Rd w vf xs) (hv : Rd w vv vs) (hw : Rd w vw ws) (hf : fvB xs = true) (bv : Vec6 vs) (bw : Vec6 ws) (hl : vs.length = xs.length) (hl2 : ws.length = xs.length) :
    Calls Try.prog 58 #[vf, vv, vw] w fun e w' => e = .returned (.int .i64 (pairI xs vs ws xs.length)) ∧ ∃ k, w' = w.drewN k := by
  obtain ⟨a, cap, rfl, hform⟩ := hx.form
  obtain ⟨a', cap', rfl, hform'⟩ := hv.form
  obtain ⟨a3, cap3, rfl, hform3⟩ := hw.form
  have HFM := hid hform
  have HFV := hid hform'
  have HFW := hid hform3
  have HF := hid hf
  have HVB := hid bv
  have HWB := hid bw
  have HL := hid hl
  have HL2 := hid hl2
  have hl4 := (fvB_iff.1 hf).2.2
  clear hform hform' hform3 hx hv hw hf bv bw hl hl2
  go_enter Try.func58, Try.ntmps58
  go_wp2_with fail
  go_loopw [7, 12] (fun so si wr => ∃ K k : Nat, si = .int .i64 K ∧ K ≤ xs.length ∧ so = .int .i64 (pairI xs vs ws K) ∧ wr = w.drewN k) (fun _ si _ => xs.length - (intOf si).toNat)
  case atStart => exact ⟨0, 0, rfl, by omega, rfl, rfl⟩
  case round =>
    obtain ⟨K, k, rfl, hK, rfl, rfl⟩ := hrel
    by_cases hlt : K < xs.length
    · obtain ⟨b, o, rfl, hml, hc⟩ := HFM.out (by omega)
      obtain ⟨b', o', rfl, hml', hc'⟩ := HFV.out (by have := HL.out; omega)
      obtain ⟨b3, o3, rfl, hml3, hc3⟩ := HFW.out (by have := HL2.out; omega)
      have hcell := hc K hlt
      have hcell' := hc' K (by have := HL.out; omega)
      have hcell3 := hc3 K (by have := HL2.out; omega)
      have ht := fv_at HF.out hlt
      have hv1 := HVB.out (vs.getD K 0) (by rw [getD_at _ _ (by have := HL.out; omega)]; exact List.getElem_mem _)
      have hw1 := HWB.out (ws.getD K 0) (by rw [getD_at _ _ (by have := HL2.out; omega)]; exact List.getElem_mem _)
      have hbd := term_bd7 ht.2.1 ht.2.2 hv1.1 hv1.2 hw1.1 hw1.2
      have hvb := pair_bd HF.out HVB.out HWB.out HL.out HL2.out K (by omega)
      have hst : pairI xs vs ws (K + 1) = pairI xs vs ws K + xs.getD K 0 * vs.getD K 0 * ws.getD K 0 := rfl
      obtain ⟨x, hx⟩ : ∃ x, x = xs.getD K 0 := ⟨_, rfl⟩
      obtain ⟨y, hy⟩ : ∃ y, y = vs.getD K 0 := ⟨_, rfl⟩
      obtain ⟨z, hz⟩ : ∃ z, z = ws.getD K 0 := ⟨_, rfl⟩
      obtain ⟨s, hs⟩ : ∃ s, s = pairI xs vs ws K := ⟨_, rfl⟩
      rw [← hx] at hcell hst hbd
      rw [← hy] at hcell' hst hbd
      rw [← hz] at hcell3 hst hbd
      rw [← hs] at hst hvb ⊢
      have hKi : (K : Int) < (xs.length : Int) := by omega
      have hKj : (K : Int) < (vs.length : Int) := by have := HL.out; omega
      have hKl : (K : Int) < (ws.length : Int) := by have := HL2.out; omega
      have HLT := hid hlt
      have HST := hid hst
      have b1 := hbd.1
      have b2 := hbd.2.1
      have b3' := hbd.2.2.1
      have b4 := hbd.2.2.2
      have s1 := hvb.1
      have s2 := hvb.2
      clear hx hy hz hs hc hc' hc3 hml hml' hml3 hlt hbd hvb hst ht hv1 hw1
      go_wp2_with fail
      go_quiet (fail)
      go_wp2_with fail
      go_roundw
      case measure => simp only [intOf]; have := HLT.out; omega
      case rel => exact ⟨K + 1, _, by go_num, by have := HLT.out; omega, vI HST.out.symm, by first | rfl | exact World.drewN_drewN ..⟩
    · obtain rfl : K = xs.length := by omega
      clear hlt
      go_wp2_with fail
      go_ret
      exact ⟨rfl, k, rfl⟩

end Go.Proofs.Ytjabklpnohfjpab

/-! Fm6 -/
set_option linter.unusedVariables false
namespace Go.Proofs.Ytjabklpnohfjpab
open Go.RowKit

/-- a slice with an address, or nil -/
def Firm (v : Value) : Prop := v = .slice none 0 0 ∨ ∃ ad n c, v = .slice (some ad) n c
theorem Owns.firm {W : World} {B : Nat} {v : Value} {xs : List Int} (h : Owns W B v xs) : Firm v := by
  rcases h.2 with ⟨rfl, _⟩ | ⟨g, cap, cur, rfl, _⟩
  · exact .inl rfl
  · exact .inr ⟨_, _, _, rfl⟩
theorem grownBy_refl (w : World) (r : Option Nat) : w.grownBy w r := ⟨rfl, rfl, rfl, Nat.le_refl _, fun _ _ _ => rfl⟩
/-- append(s, xs...) where s is the call's own and xs is any slice that reads as numbers -/
theorem append_rd {w : World} {ops : Array Oper} {rest : List Oper} {o : Oper} {a : Act} {Q : Exit → Act → World → Prop} (hgd : o.guard = none) (s x : Operand)
    (ho : o.op = .call { callee := .builtin .append, args := #[s, x], argTypes := #[22, 22] })
    (base : Nat) (v : Value) (xs : List Int) (hs : a.eval s = v) (hown : Owns w base v xs) (u : Value) (ys : List Int) (hx : a.eval x = u) (hrd : Rd w u ys) (hf : Firm u)
    (h63 : xs.length + ys.length ≤ 10000000) (hbase : base ≤ w.heap.size)
    (h : ∀ v' w', Owns w' base v' (xs ++ ys) → w.grownBy w' v.ownBlock → wpList Try.prog ops Q rest (a.put o.dst v') w') :
    wpList Try.prog ops Q (o :: rest) a w := by
  obtain ⟨i0, hi, hz0, hz1, hz2⟩ := info_parts infoInt
  rcases hf with rfl | ⟨ad, n, c, rfl⟩
  · have hy : ys = [] := by
      rcases hrd with ⟨_, _, _, hy⟩ | ⟨_, _, _, e, _⟩
      · exact hy
      · cases e
    subst hy
    exact wpList_append_own_none hgd s x 22 ho base 3 i0 1 Try.underlying22 hi v _ _ hs hown hx (h v w (by rw [List.append_nil]; exact hown) (grownBy_refl w _))
  · have hn : n = ys.length := by
      rcases hrd with ⟨_, _, e, hy⟩ | ⟨_, _, _, e, _⟩
      · cases e; rw [hy]; rfl
      · cases e; rfl
    have hnews : ∀ j z, (ys.map (Value.int .i64))[j]? = some z → w.cell? (ad.add j) = some z := fun j z hz => by
      rcases hrd with ⟨_, _, _, hy⟩ | ⟨b, off, cap, e, _, _, hc⟩
      · rw [hy] at hz; simp at hz
      · cases e
        rw [List.getElem?_map] at hz
        by_cases hj : j < ys.length
        · rw [List.getElem?_eq_getElem hj] at hz
          simp only [Option.map_some, Option.some.injEq] at hz
          rw [← hz, show (⟨b, off, none⟩ : Addr).add j = ⟨b, off + j, none⟩ by
            by_cases e : j = 0
            · subst e; simp [Addr.add]
            · simp [Addr.add, e], hc j hj, getD_at _ _ hj]
        · rw [List.getElem?_eq_none (by omega)] at hz; cases hz
    refine wpList_append_own_at w hgd s x 22 ho base 3 i0 (.int .i64 0) 1 8 Try.underlying22 hi hz0 hz1 hz2 rfl (by decide) v _ _ hs hown ad n c (ys.map (Value.int .i64)) hx (by rw [List.length_map, hn, Nat.mul_one]) hnews
      (fun z hz => by rw [List.mem_map] at hz; obtain ⟨y, _, rfl⟩ := hz; rfl) (by unfold maxLen; omega) (by omega) hbase ?_
    intro v' w' hown' hgrow _ _
    refine h v' w' ?_ hgrow
    unfold Owns
    rw [List.length_append, List.map_append, ← hn]
    exact hown'


end Go.Proofs.Ytjabklpnohfjpab
