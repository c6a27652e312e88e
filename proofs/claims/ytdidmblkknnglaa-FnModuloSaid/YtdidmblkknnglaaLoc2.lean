/-
  Contracts of the model's chapter 2: lists of places.
-/
import Derived.Test.YtdidmblkknnglaaLoc
set_option linter.unusedVariables false
namespace Go.Proofs.Ytdidmblkknnglaa
open Go.RowKit

/-- a slice that reads as these numbers, by its address -/
theorem Rd.form {W : World} {v : Value} {xs : List Int} (h : Rd W v xs) : ∃ a cap, v = .slice a xs.length cap ∧
    (0 < xs.length → ∃ b o, a = some ⟨b, o, none⟩ ∧ xs.length ≤ maxLen ∧ ∀ i, i < xs.length → W.cell? ⟨b, o + i, none⟩ = some (.int .i64 (xs.getD i 0))) := by
  rcases h with ⟨a, cap, rfl, rfl⟩ | ⟨b, o, cap, rfl, h0, hm, hc⟩
  · exact ⟨a, cap, rfl, fun h => by simp at h⟩
  · exact ⟨_, cap, rfl, fun _ => ⟨b, o, rfl, hm, hc⟩⟩
theorem take_snoc {α : Type} (l : List α) (i : Nat) (h : i < l.length) : l.take (i + 1) = l.take i ++ [l[i]] := by
  rw [List.take_add_one, List.getElem?_eq_getElem h]; rfl
theorem filter_step {l : List Int} {f : Int → Bool} {i : Nat} (h : i < l.length) : (l.take (i + 1)).filter f = (l.take i).filter f ++ if f (l.getD i 0) then [l.getD i 0] else [] := by
  rw [take_snoc _ _ h, List.filter_append, getD_at _ _ h]
  congr 1
  by_cases e : f l[i] = true
  · rw [if_pos e]; simp [e]
  · rw [if_neg e]; simp [e]
theorem filter_len {l : List Int} {f : Int → Bool} {i : Nat} (h : i ≤ l.length) : ((l.take i).filter f).length ≤ i :=
  Nat.le_trans (List.length_filter_le _ _) (by rw [List.length_take]; omega)



set_option maxRecDepth 100000 in
set_option maxHeartbeats 1000000 in
theorem l2Places_any (n : Int) (h0 : n ≠ 0) (h1 : -5000 ≤ n) (h2 : n ≤ 5000) (w : World) :
    Calls Try.prog 65 #[.int .i64 n] w fun e w' => ∃ v, e = .returned v ∧ Owns w' w.heap.size v (placesOf n) ∧ Below w.heap.size w w' := by
  obtain ⟨i0, hi, hz0, hz1, hz2⟩ := info_parts infoInt
  have H0 := hid h0
  have HP : Hid (placesOf n = [0, 2] ++ (natsI (plist n.natAbs)).filter (fun x => decide (2 < x))) := rfl
  have hpl := (plist_ok (show n.natAbs ≤ 5000 by omega)).1
  have HPP := hid (plist_ok (show n.natAbs ≤ 5000 by omega)).2
  have HB0 := hid ((Below.refl w.heap.size w).alloc (Nat.le_refl _) (.cells #[.int .i64 0, .int .i64 2] 3))
  have HO0 := hid (owns_lit (W := w) (B := w.heap.size) [0, 2] #[.int .i64 0, .int .i64 2] rfl (Nat.le_refl _) (by unfold maxLen; simp))
  clear h0
  go_enter Try.func65, Try.ntmps65
  go_wp2_with (go_at_call 97; refine (l1Primes_any _ H0.out h1 h2 _).mono ?_; rintro e w2 ⟨v, rfl, ho, hb⟩)
  have hs0 := hb.size
  rw [World.size_alloc] at hs0
  have HO1 := hid (HO0.out.keep HO0.out.lt hb)
  have HB1 := hid (HB0.out.trans (hb.mono (by simp)))
  have HG := hid ho.ge
  obtain ⟨ps, hps⟩ : ∃ ps, ps = plist n.natAbs := ⟨_, rfl⟩
  rw [← hps] at ho hpl HP HPP
  obtain ⟨a, cap, rfl, hform⟩ := ho.rd.form
  have HF := hid hform
  have hnl : (natsI ps).length ≤ 70 := by unfold natsI; rw [List.length_map]; exact hpl
  have HLT := hid ho.lt
  clear ho hform hb hps
  go_wp2_with fail
  go_loopw [3, 5] (fun so si wr => ∃ K : Nat, si = .int .i64 K ∧ K ≤ (natsI ps).length ∧ Hid (Owns wr w.heap.size so ([0, 2] ++ ((natsI ps).take K).filter (fun x => decide (2 < x)))) ∧
      Hid (∀ b o, a = some ⟨b, o, none⟩ → so.ownBlock ≠ some b ∧ wr.heap[b]? = w2.heap[b]?) ∧ w2.heap.size ≤ wr.heap.size ∧ Hid (Below w.heap.size w wr)) (fun _ si _ => (natsI ps).length - (intOf si).toNat)
  case atStart =>
    refine ⟨0, rfl, by omega, hid (by simpa using HO1.out), hid (fun b o e => ⟨?_, rfl⟩), Nat.le_refl _, HB1⟩
    have := HG.out b (by rw [e]; rfl)
    simp only [World.size_alloc] at this
    show some w.heap.size ≠ some b
    intro h
    cases h
    omega
  case round =>
    obtain ⟨K, rfl, hK, HO, HA, hsz, HB⟩ := hrel
    by_cases hlt : K < (natsI ps).length
    · obtain ⟨b, o, rfl, hml, hc⟩ := HF.out (by omega)
      obtain ⟨x, hx, hxm⟩ := natsI_get hlt
      have hxp := (HPP.out x hxm).1
      have hx2 := (primeN_bd hxp).2.1
      have hcell := (World.cell?_of_block (HA.out b o rfl).2).trans (hc K hlt)
      rw [hx] at hcell
      have hstep := filter_step (f := fun x => decide (2 < x)) hlt
      rw [hx] at hstep
      have HS := hid hstep
      have HL := hid (filter_len (f := fun x => decide (2 < x)) (show K ≤ (natsI ps).length by omega))
      have hi0 : (K : Int) < ((natsI ps).length : Int) := by omega
      have hlt2 := HLT.out b rfl
      unfold maxLen at hml
      clear hc hx hxm hxp hstep
      by_cases hx3 : 2 < (x : Int)
      · have HE : Hid (((natsI ps).take (K + 1)).filter (fun x => decide (2 < x)) = ((natsI ps).take K).filter (fun x => decide (2 < x)) ++ [(x : Int)]) := hid (by rw [HS.out, decide_eq_true hx3]; rfl)
        obtain ⟨pre, hpre⟩ : ∃ pre, pre = [0, 2] ++ ((natsI ps).take K).filter (fun x => decide (2 < x)) := ⟨_, rfl⟩
        have hprel : pre.length ≤ 72 := by rw [hpre, List.length_append]; have := HL.out; simp; omega
        rw [← hpre] at HO
        have hbs : w.heap.size ≤ wr.heap.size := HB.out.size
        go_wp2_with (at_builtin; refine wpList_append_own_at _ rfl _ _ 28 rfl w.heap.size 3 i0 (.int .i64 0) 1 8 Try.underlying28 hi hz0 hz1 hz2 rfl (by decide) _ _ _ rfl ((show World.ownsRow _ _ _ _ _ _ _ from HO.out).alloc _) ⟨wr.heap.size, 0, none⟩ 1 1 [.int .i64 x] rfl rfl (cell_one_new _ _ _) (by simp [Value.oneCell']) (by unfold maxLen; omega) (by omega) (by simp; omega) ?_; intro v' w3 hown' hgrow _ hat)
        have hsg := hgrow.size
        simp only [World.size_alloc] at hsg
        go_round
        case measure => simp only [intOf]; omega
        case rel =>
          refine ⟨K + 1, by go_num, by omega, hid ?_, hid (fun b' o' e => ?_), by omega, hid (HB.out.alloc hbs _ |>.grown hgrow (by simp; omega) (fun k e => (HO.out.ge k e)))⟩
          · rw [HE.out, ← List.append_assoc, ← hpre]
            unfold Owns
            simpa using hown'
          · cases e
            obtain ⟨q1, q2⟩ := HA.out b o rfl
            refine ⟨?_, ?_⟩
            · rcases hat with e | e
              · rw [e]; exact q1
              · rw [e]; intro h; cases h; simp at hlt2; omega
            · rw [hgrow.block b (by simp; omega) (Ne.symm q1), ← q2, Below.heap_alloc _ _ _ (by omega)]
      · have HE : Hid (((natsI ps).take (K + 1)).filter (fun x => decide (2 < x)) = ((natsI ps).take K).filter (fun x => decide (2 < x))) := hid (by rw [HS.out, decide_eq_false hx3]; simp)
        go_wp2
        go_round
        case measure => simp only [intOf]; omega
        case rel => exact ⟨K + 1, by go_num, by omega, hid (by rw [HE.out]; exact HO.out), HA, hsz, HB⟩
    · obtain rfl : K = (natsI ps).length := by omega
      have HE : Hid (placesOf n = [0, 2] ++ ((natsI ps).take (natsI ps).length).filter (fun x => decide (2 < x))) := hid (by rw [HP.out, List.take_length])
      clear hlt
      go_wp2
      go_ret
      exact ⟨_, rfl, by rw [HE.out]; exact HO.out, HB.out⟩



end Go.Proofs.Ytdidmblkknnglaa
