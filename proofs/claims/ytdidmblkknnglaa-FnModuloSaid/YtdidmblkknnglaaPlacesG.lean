/-
  Contracts: the places of a large number; symbols of two numbers.
-/
import Derived.Test.YtdidmblkknnglaaPrimesG
import Derived.Test.YtdidmblkknnglaaSym2
set_option linter.unusedVariables false
namespace Go.Proofs.Ytdidmblkknnglaa
open Go.RowKit

def placesG (n : Int) : List Int := [0, 2] ++ (natsI (plistG n.natAbs)).filter (fun x => decide (2 < x))
theorem asc_len : ∀ (l : List Nat) (a b : Nat), l.Pairwise (· < ·) → (∀ x ∈ l, a ≤ x ∧ x ≤ b) → l.length ≤ b + 1 - a
  | [], a, b, _, _ => Nat.zero_le _
  | x :: t, a, b, h, hx => by
    rw [List.pairwise_cons] at h
    have h1 := hx x List.mem_cons_self
    have := asc_len t (a + 1) b h.2 (fun y hy => ⟨by have := h.1 y hy; omega, (hx y (List.mem_cons_of_mem _ hy)).2⟩)
    rw [List.length_cons]
    omega
theorem plistG_ok {n : Int} (h0 : n ≠ 0) (h1 : -1000000000000 ≤ n) (h2 : n ≤ 1000000000000) : (plistG n.natAbs).length ≤ 1000000000000 ∧ ∀ x ∈ plistG n.natAbs, x ≤ 1000000000000 := by
  obtain ⟨a, b, c⟩ := plistG_spec (show 0 < n.natAbs by omega)
  have hb : ∀ x ∈ plistG n.natAbs, 1 ≤ x ∧ x ≤ 1000000000000 := fun x hx => by
    have h3 := Nat.le_of_dvd (show 0 < n.natAbs by omega) (a x hx).2
    have h4 := (a x hx).1.1
    omega
  refine ⟨?_, fun x hx => (hb x hx).2⟩
  have := asc_len _ _ _ b hb
  omega

set_option maxRecDepth 100000 in
set_option maxHeartbeats 1000000 in
theorem l2PlacesG_any (n : Int) (h0 : n ≠ 0) (h1 : -1000000000000 ≤ n) (h2 : n ≤ 1000000000000) (w : World) :
    Calls Try.prog 65 #[.int .i64 n] w fun e w' => ∃ v, e = .returned v ∧ Owns w' w.heap.size v (placesG n) ∧ Below w.heap.size w w' := by
  obtain ⟨i0, hi, hz0, hz1, hz2⟩ := info_parts infoInt
  have H0 := hid h0
  have HP : Hid (placesG n = [0, 2] ++ (natsI (plistG n.natAbs)).filter (fun x => decide (2 < x))) := rfl
  have hpl := (plistG_ok h0 h1 h2).1
  have HPP := hid (plistG_ok h0 h1 h2).2
  have HB0 := hid ((Below.refl w.heap.size w).alloc (Nat.le_refl _) (.cells #[.int .i64 0, .int .i64 2] 3))
  have HO0 := hid (owns_lit (W := w) (B := w.heap.size) [0, 2] #[.int .i64 0, .int .i64 2] rfl (Nat.le_refl _) (by unfold maxLen; simp))
  clear h0
  go_enter Try.func65, Try.ntmps65
  go_wp2_with (go_at_call 97; refine (l1PrimesG_any _ H0.out h1 h2 _).mono ?_; rintro e w2 ⟨v, rfl, ho, hb⟩)
  have hs0 := hb.size
  rw [World.size_alloc] at hs0
  have HO1 := hid (HO0.out.keep HO0.out.lt hb)
  have HB1 := hid (HB0.out.trans (hb.mono (by simp)))
  have HG := hid ho.ge
  obtain ⟨ps, hps⟩ : ∃ ps, ps = plistG n.natAbs := ⟨_, rfl⟩
  rw [← hps] at ho hpl HP HPP
  obtain ⟨a, cap, rfl, hform⟩ := ho.rd.form
  have HF := hid hform
  have hnl : (natsI ps).length ≤ 1000000000000 := by unfold natsI; rw [List.length_map]; exact hpl
  have HLT := hid ho.lt
  clear ho hform hb hps
  go_wp2_with fail
  go_loopw [3, 5] (fun so si wr => ∃ K : Nat, si = .int .i64 K ∧ K ≤ (natsI ps).length ∧ Hid (Owns wr w.heap.size so ([0, 2] ++ ((natsI ps).take K).filter (fun x => decide (2 < x)))) ∧
      Hid (∀ b o, a = some ⟨b, o, none⟩ → so.ownBlock ≠ some b ∧ wr.heap[b]? = w2.heap[b]?) ∧ w2.heap.size ≤ wr.heap.size ∧ Hid (Below w.heap.size w wr)) (fun _ si _ => (natsI ps).length - (intOf si).toNat)
  case atStart =>
    refine ⟨0, rfl, by omega, hid (by simpa using HO1.out), hid (fun b o e => ⟨?_, rfl⟩), Nat.le_refl _, HB1⟩
    have := HG.out b (by rw [e]; rfl)
    simp only [World.size_alloc] at this
    show some w.heap.size ≠ some b
    intro h
    cases h
    omega
  case round =>
    obtain ⟨K, rfl, hK, HO, HA, hsz, HB⟩ := hrel
    by_cases hlt : K < (natsI ps).length
    · obtain ⟨b, o, rfl, hml, hc⟩ := HF.out (by omega)
      obtain ⟨x, hx, hxm⟩ := natsI_get hlt
      have hx2 := HPP.out x hxm
      have hcell := (World.cell?_of_block (HA.out b o rfl).2).trans (hc K hlt)
      rw [hx] at hcell
      have hstep := filter_step (f := fun x => decide (2 < x)) hlt
      rw [hx] at hstep
      have HS := hid hstep
      have HL := hid (filter_len (f := fun x => decide (2 < x)) (show K ≤ (natsI ps).length by omega))
      have hi0 : (K : Int) < ((natsI ps).length : Int) := by omega
      have hlt2 := HLT.out b rfl
      unfold maxLen at hml
      clear hc hx hxm hstep
      by_cases hx3 : 2 < (x : Int)
      · have HE : Hid (((natsI ps).take (K + 1)).filter (fun x => decide (2 < x)) = ((natsI ps).take K).filter (fun x => decide (2 < x)) ++ [(x : Int)]) := hid (by rw [HS.out, decide_eq_true hx3]; rfl)
        obtain ⟨pre, hpre⟩ : ∃ pre, pre = [0, 2] ++ ((natsI ps).take K).filter (fun x => decide (2 < x)) := ⟨_, rfl⟩
        have hprel : pre.length ≤ 1000000000002 := by rw [hpre, List.length_append]; have := HL.out; simp; omega
        rw [← hpre] at HO
        have hbs : w.heap.size ≤ wr.heap.size := HB.out.size
        go_wp2_with (at_builtin; refine wpList_append_own_at _ rfl _ _ 28 rfl w.heap.size 3 i0 (.int .i64 0) 1 8 Try.underlying28 hi hz0 hz1 hz2 rfl (by decide) _ _ _ rfl ((show World.ownsRow _ _ _ _ _ _ _ from HO.out).alloc _) ⟨wr.heap.size, 0, none⟩ 1 1 [.int .i64 x] rfl rfl (cell_one_new _ _ _) (by simp [Value.oneCell']) (by unfold maxLen; omega) (by omega) (by simp; omega) ?_; intro v' w3 hown' hgrow _ hat)
        have hsg := hgrow.size
        simp only [World.size_alloc] at hsg
        go_round
        case measure => simp only [intOf]; omega
        case rel =>
          refine ⟨K + 1, by go_num, by omega, hid ?_, hid (fun b' o' e => ?_), by omega, hid (HB.out.alloc hbs _ |>.grown hgrow (by simp; omega) (fun k e => (HO.out.ge k e)))⟩
          · rw [HE.out, ← List.append_assoc, ← hpre]
            unfold Owns
            simpa using hown'
          · cases e
            obtain ⟨q1, q2⟩ := HA.out b o rfl
            refine ⟨?_, ?_⟩
            · rcases hat with e | e
              · rw [e]; exact q1
              · rw [e]; intro h; cases h; simp at hlt2; omega
            · rw [hgrow.block b (by simp; omega) (Ne.symm q1), ← q2, Below.heap_alloc _ _ _ (by omega)]
      · have HE : Hid (((natsI ps).take (K + 1)).filter (fun x => decide (2 < x)) = ((natsI ps).take K).filter (fun x => decide (2 < x))) := hid (by rw [HS.out, decide_eq_false hx3]; simp)
        go_wp2
        go_round
        case measure => simp only [intOf]; omega
        case rel => exact ⟨K + 1, by go_num, by omega, hid (by rw [HE.out]; exact HO.out), HA, hsz, HB⟩
    · obtain rfl : K = (natsI ps).length := by omega
      have HE : Hid (placesG n = [0, 2] ++ ((natsI ps).take (natsI ps).length).filter (fun x => decide (2 < x))) := hid (by rw [HP.out, List.take_length])
      clear hlt
      go_wp2
      go_ret
      exact ⟨_, rfl, by rw [HE.out]; exact HO.out, HB.out⟩

theorem primeGo_of : ∀ f p n, (∀ d, p ≤ d → d * d ≤ n → n % d ≠ 0) → primeGo f p n = true
  | 0, _, _, _ => rfl
  | f + 1, p, n, h => by
    unfold primeGo
    by_cases h1 : p * p ≤ n
    · rw [if_pos h1, if_neg (h p (Nat.le_refl _) h1)]
      exact primeGo_of f (p + 1) n (fun d hd hdd => h d (by omega) hdd)
    · rw [if_neg h1]
theorem prG_primeN {x : Nat} (h : PrG x) (h5 : x ≤ 5000) : primeN x = true := by
  unfold primeN
  rw [decide_eq_true h.1, decide_eq_true h5, primeGo_of]
  · rfl
  · intro d hd hdd hm
    have h1 := h.1
    rcases h.2 d (Nat.dvd_of_mod_eq_zero hm) with e | e
    · omega
    · rw [e] at hdd
      have := Nat.mul_le_mul h1 (Nat.le_refl x)
      omega
theorem primeN_prG {x : Nat} (h : primeN x = true) : PrG x := ⟨(primeN_bd h).1, fun d hd => primeN_dvd h hd⟩
theorem prG_mul {x a b : Nat} (h : PrG x) (hd : x ∣ a * b) : x ∣ a ∨ x ∣ b := by
  by_cases hc : Nat.Coprime x a
  · exact .inr (hc.dvd_of_dvd_mul_left hd)
  · left
    have h1 := h.2 _ (Nat.gcd_dvd_left x a)
    rcases h1 with e | e
    · exact absurd e hc
    · rw [← e]; exact Nat.gcd_dvd_right x a
/-- the places of a product of two numbers are places -/
theorem placesG_pl {a b : Int} (a0 : a ≠ 0) (b0 : b ≠ 0) (a1 : -5000 ≤ a) (a2 : a ≤ 5000) (b1 : -5000 ≤ b) (b2 : b ≤ 5000) : ∀ q ∈ placesG (a * b), plI q = true := by
  have hab := Int.mul_ne_zero a0 b0
  obtain ⟨s1, _, _⟩ := plistG_spec (show 0 < (a * b).natAbs by omega)
  intro q hq
  unfold placesG at hq
  simp only [List.cons_append, List.nil_append, List.mem_cons] at hq
  rcases hq with rfl | rfl | hq
  · rfl
  · rfl
  · have hm := (List.mem_filter.1 hq).1
    unfold natsI at hm
    rw [List.mem_map] at hm
    obtain ⟨x, hx, rfl⟩ := hm
    obtain ⟨p1, p2⟩ := s1 x hx
    rw [Int.natAbs_mul] at p2
    have h5 : x ≤ 5000 := by
      rcases prG_mul p1 p2 with h | h
      · have := Nat.le_of_dvd (show 0 < a.natAbs by omega) h; omega
      · have := Nat.le_of_dvd (show 0 < b.natAbs by omega) h; omega
    unfold plI
    rw [show primeI (x : Int) = true from prG_primeN p1 h5, Bool.or_true]

end Go.Proofs.Ytdidmblkknnglaa
