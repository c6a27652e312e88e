/-
  The keys of the program's map of points: how many different ones there are.
-/
import Derived.Test.YtfjbdbfeolfcfaaQBun49
import Derived.Test.YtfjbdbfeolfcfaaQBun14
import Derived.Test.YtfjbdbfeolfcfaaQVecs2
set_option linter.unusedVariables false
namespace Go.Proofs.Ytfjbdbfeolfcfaa
open Go.RowKit

/-- the zeros that these headings meet -/
def hedB (xs vs h : List Int) : Bool := otherOk xs vs (headL vs (h.getD 0 0) (h.getD 1 0))
def hedL (xs vs h : List Int) : List Int := otherL xs vs (headL vs (h.getD 0 0) (h.getD 1 0))
def ptsM (xs vs : List Int) (L : List (List Int)) : List (List Int) := (L.filter (hedB xs vs)).map (hedL xs vs)
theorem ptsM_yes {xs vs h : List Int} (L : List (List Int)) (e : hedB xs vs h = true) : ptsM xs vs (L ++ [h]) = ptsM xs vs L ++ [hedL xs vs h] := by
  unfold ptsM
  rw [List.filter_append, List.map_append]
  simp [e]
theorem ptsM_no {xs vs h : List Int} (L : List (List Int)) (e : hedB xs vs h = false) : ptsM xs vs (L ++ [h]) = ptsM xs vs L := by
  unfold ptsM
  rw [List.filter_append, List.map_append]
  simp [e]
def keyZ (vs zs : List Int) : Lit := keyP (atA vs zs) (atB vs zs) (atC zs)
theorem keyZ_lit (vs zs : List Int) : WideAt.IsKeyLit (keyZ vs zs) := trivial
theorem hit_three {xs vs h : List Int} (e : hedB xs vs h = true) : (hedL xs vs h).length = 3 ∧ ∀ v ∈ hedL xs vs h, -1000000 ≤ v ∧ v ≤ 1000000 := by
  unfold hedB at e
  unfold hedL
  have e' := e
  unfold otherOk at e'
  rw [Bool.and_eq_true, Bool.and_eq_true, Bool.and_eq_true, decide_eq_true_eq] at e'
  unfold otherL
  rw [if_pos e]
  refine ⟨?_, fun v hv => by have := hgt_ge hv; omega⟩
  rw [plainL_len]
  rfl
theorem at_wf {vs zs : List Int} (h : zs.length = 3) (hb : ∀ v ∈ zs, -1000000 ≤ v ∧ v ≤ 1000000) : (Lit.int .i64 (atA vs zs)).wf = true ∧ (Lit.int .i64 (atB vs zs)).wf = true ∧ (Lit.int .i64 (atC zs)).wf = true := by
  obtain ⟨x, y, z, rfl⟩ := len3 h
  have h1 := hb x (by simp); have h2 := hb y (by simp); have h3 := hb z (by simp)
  unfold atA atB atC
  simp only [List.getD_cons_zero, List.getD_cons_succ]
  refine ⟨?_, ?_, wf_mild h3.1 h3.2⟩
  · split
    · exact wf_mild h2.1 h2.2
    · exact wf_mild h1.1 h1.2
  · split
    · exact wf_mild h1.1 h1.2
    · exact wf_mild h2.1 h2.2
theorem keyZ_inj {vs a b : List Int} (ha : a.length = 3 ∧ ∀ v ∈ a, -1000000 ≤ v ∧ v ≤ 1000000) (hb : b.length = 3 ∧ ∀ v ∈ b, -1000000 ≤ v ∧ v ≤ 1000000) (h : keyZ vs a = keyZ vs b) : a = b := by
  obtain ⟨e1, e2, e3⟩ := keyP_inj (at_wf ha.1 ha.2) (at_wf hb.1 hb.2) h
  obtain ⟨x, y, z, rfl⟩ := len3 ha.1
  obtain ⟨u, v, w, rfl⟩ := len3 hb.1
  unfold atA at e1
  unfold atB at e2
  unfold atC at e3
  simp only [List.getD_cons_zero, List.getD_cons_succ] at e1 e2 e3
  split at e1 <;> simp_all
theorem add_keys : ∀ (l acc : List Lit), (∀ x ∈ l, WideAt.IsKeyLit x) → acc.Nodup → (l.foldl Maps.addKey acc).Nodup ∧ ∀ x, x ∈ l.foldl Maps.addKey acc ↔ x ∈ acc ∨ x ∈ l
  | [], acc, _, h => ⟨h, fun x => by simp⟩
  | k :: l, acc, hl, h => by
    have hk := hl k (List.mem_cons_self ..)
    have hl' := fun x hx => hl x (List.mem_cons_of_mem _ hx)
    rw [List.foldl_cons]
    unfold Maps.addKey
    by_cases e : acc.any (fun y => y.sameKey k) = true
    · rw [if_pos e]
      obtain ⟨n1, n2⟩ := add_keys l acc hl' h
      refine ⟨n1, fun x => ?_⟩
      obtain ⟨y, hy, e2⟩ := List.any_eq_true.1 e
      have e3 := (WideAt.sameKey_iff hk).1 e2
      subst e3
      have h2 := n2 x
      unfold Maps.addKey at h2
      rw [h2]
      constructor
      · rintro (h | h)
        · exact .inl h
        · exact .inr (List.mem_cons_of_mem _ h)
      · rintro (h | h)
        · exact .inl h
        · rcases List.mem_cons.1 h with rfl | h
          · exact .inl hy
          · exact .inr h
    · rw [if_neg e]
      have hn : k ∉ acc := fun hm => e (List.any_eq_true.2 ⟨k, hm, WideAt.sameKey_self hk⟩)
      have ha : (acc ++ [k]).Nodup := by
        rw [List.nodup_append]
        refine ⟨h, by simp, fun a ha b hb => ?_⟩
        simp only [List.mem_singleton] at hb
        subst hb
        intro e
        subst e
        exact hn ha
      obtain ⟨n1, n2⟩ := add_keys l (acc ++ [k]) hl' ha
      refine ⟨n1, fun x => ?_⟩
      have h2 := n2 x
      unfold Maps.addKey at h2
      rw [h2]
      simp only [List.mem_append, List.mem_cons, List.not_mem_nil, or_false]
      constructor
      · rintro ((h | h) | h)
        · exact .inl h
        · exact .inr (.inl h)
        · exact .inr (.inr h)
      · rintro (h | h | h)
        · exact .inl (.inl h)
        · exact .inl (.inr h)
        · exact .inr h
theorem pts_mem {xs vs : List Int} {N : Nat} (h5 : N ≤ 5) (z : List Int) : z ∈ ptsM xs vs (vecsL (-(N : Int)) (2 * N + 1) 2) ↔ z ∈ allZ (metB xs vs) (metZ xs vs) N (N + 1) := by
  unfold ptsM
  rw [List.mem_map, allZ_mem]
  constructor
  · rintro ⟨h, hh, rfl⟩
    rw [List.mem_filter] at hh
    obtain ⟨h1, h2⟩ := hh
    obtain ⟨hl, hb⟩ := vecs_mem (by omega) h1
    obtain ⟨s, t, rfl⟩ : ∃ s t, h = [s, t] := by
      match h, hl with
      | [s, t], _ => exact ⟨s, t, rfl⟩
    have b1 := hb s (by simp)
    have b2 := hb t (by simp)
    obtain ⟨u, v, hm, he, hu, hv⟩ := met_plain (s := s) (t := t) (n := (N : Int)) (by omega) ⟨by omega, by omega⟩ ⟨by omega, by omega⟩ h2
    refine ⟨u.toNat, (v + N).toNat, by omega, by omega, ?_, ?_⟩
    · rw [show ((u.toNat : Nat) : Int) = u by omega, show (((v + N).toNat : Nat) : Int) - N = v by omega]
      exact hm
    · rw [show ((u.toNat : Nat) : Int) = u by omega, show (((v + N).toNat : Nat) : Int) - N = v by omega]
      exact he.symm
  · rintro ⟨s, j, h1, h2, hm, rfl⟩
    refine ⟨[(s : Int), (j : Int) - N], ?_, rfl⟩
    rw [List.mem_filter]
    refine ⟨?_, (metB_iff.1 hm).2⟩
    have := mem_vecs (lo := -(N : Int)) (b := 2 * N + 1) (by omega) (us := [(s : Int), (j : Int) - N]) (fun u hu => by
      simp only [List.mem_cons, List.not_mem_nil, or_false] at hu
      rcases hu with rfl | rfl <;> omega)
    exact this
theorem met_three {xs vs : List Int} {N S : Nat} {z : List Int} (h : z ∈ allZ (metB xs vs) (metZ xs vs) N S) : z.length = 3 ∧ ∀ v ∈ z, -1000000 ≤ v ∧ v ≤ 1000000 := by
  obtain ⟨s, j, _, _, hm, rfl⟩ := allZ_mem.1 h
  exact hit_three (h := [(s : Int), (j : Int) - N]) (metB_iff.1 hm).2
theorem keys_len {xs vs : List Int} {N : Nat} (h5 : N ≤ 5) : (((ptsM xs vs (vecsL (-(N : Int)) (2 * N + 1) 2)).map (keyZ vs)).foldl Maps.addKey []).length = allC (metB xs vs) N (N + 1) := by
  obtain ⟨n1, n2⟩ := add_keys ((ptsM xs vs (vecsL (-(N : Int)) (2 * N + 1) 2)).map (keyZ vs)) [] (fun x hx => by
    obtain ⟨z, _, rfl⟩ := List.mem_map.1 hx
    exact keyZ_lit _ _) List.nodup_nil
  have hn := allZ_nodup (metZ_inj xs vs) N (N + 1)
  have hn2 : ((allZ (metB xs vs) (metZ xs vs) N (N + 1)).map (keyZ vs)).Nodup := by
    unfold List.Nodup
    rw [List.pairwise_map]
    exact hn.imp_of_mem fun {a b} ha hb hne e => hne (keyZ_inj (met_three ha) (met_three hb) e)
  rw [← allZ_len (metB xs vs) (metZ xs vs), ← List.length_map (keyZ vs)]
  haveI : DecidableEq Lit := fun a b => Classical.propDecidable _
  refine nodup_len n1 hn2 fun x => ?_
  rw [n2]
  simp only [List.mem_map, List.not_mem_nil, false_or, pts_mem h5]

end Go.Proofs.Ytfjbdbfeolfcfaa
