/-
  Contract of the model's TwoIs: a loop over the list of primes.
-/
import Derived.Test.YtdclmjmefkgbbaaQBun3
import Derived.Test.YtdclmjmefkgbbaaSuC
import Derived.Test.YtdclmjmefkgbbaaSuD
import Derived.Test.YtdclmjmefkgbbaaQBun8
import Derived.Test.YtdclmjmefkgbbaaQBun5
set_option linter.unusedVariables false
namespace Go.Proofs.Ytdclmjmefkgbbaa
open Go.RowKit

def badPn (N p : Nat) : Bool := decide (p % 4 = 3) && decide (val N p % 2 = 1)
theorem plist_all {N : Nat} (h1 : 1 ≤ N) (h2 : N ≤ 5000) : (ppow N).all (fun x => !badPP x) = (plist N).all (fun p => !badPn N p) := by
  rw [plist_eq, List.all_map, Bool.eq_iff_iff, List.all_eq_true, List.all_eq_true]
  have e : ∀ x ∈ ppow N, badPP x = badPn N x.1 := fun x hx => by
    unfold badPP badPn
    rw [(pp_mem h1 h2 hx).2.2.1]
  exact ⟨fun h x hx => by show (!badPn N x.1) = true; rw [← e x hx]; exact h x hx, fun h x hx => by rw [e x hx]; exact h x hx⟩
theorem plist_bd {N : Nat} (h1 : 1 ≤ N) (h2 : N ≤ 5000) {p : Nat} (hp : p ∈ plist N) : 2 ≤ p ∧ p ≤ 5000 := by
  rw [plist_eq] at hp
  obtain ⟨x, hx, rfl⟩ := List.mem_map.1 hp
  have := primeN_bd (pp_mem h1 h2 hx).1
  exact ⟨this.1, this.2.1⟩
def primes8 (N : Nat) : List Nat := if N = 0 then [] else plist N
theorem primes8_all (N : Nat) (h2 : N ≤ 2000) : (ppow N).all (fun x => !badPP x) = (primes8 N).all (fun p => !badPn N p) := by
  unfold primes8
  by_cases h : N = 0
  · rw [if_pos h, h]; rfl
  · rw [if_neg h]; exact plist_all (by omega) (by omega)
theorem primes8_bd {N : Nat} (h2 : N ≤ 2000) {p : Nat} (hp : p ∈ primes8 N) : 2 ≤ p ∧ p ≤ 5000 ∧ 1 ≤ N := by
  unfold primes8 at hp
  by_cases h : N = 0
  · rw [if_pos h] at hp; cases hp
  · rw [if_neg h] at hp
    have := plist_bd (by omega) (by omega) hp
    omega
theorem natsI_at (l : List Nat) {i : Nat} (h : i < l.length) : (natsI l).getD i 0 = ((l.getD i 0 : Nat) : Int) := by
  unfold natsI
  simp [List.getD, h]
theorem natsI_len8 (l : List Nat) : (natsI l).length = l.length := by unfold natsI; rw [List.length_map]
theorem all_bad {l : List Nat} {f : Nat → Bool} {i : Nat} (h : i < l.length) (hb : f (l.getD i 0) = true) : l.all (fun p => !f p) = false := by
  rw [List.all_eq_false]
  refine ⟨l.getD i 0, ?_, by rw [hb]; decide⟩
  rw [List.getD_eq_getElem?_getD, List.getElem?_eq_getElem h]; exact List.getElem_mem _
theorem all_good {l : List Nat} {f : Nat → Bool} (h : ∀ i, i < l.length → f (l.getD i 0) = false) : l.all (fun p => !f p) = true := by
  rw [List.all_eq_true]
  intro p hp
  obtain ⟨i, hi, rfl⟩ := List.mem_iff_getElem.1 hp
  have := h i hi
  rw [List.getD_eq_getElem?_getD, List.getElem?_eq_getElem hi] at this
  rw [show f l[i] = false from this]; rfl

theorem l8Primes_any (N : Nat) (h2 : N ≤ 2000) (w : World) : Calls Try.prog 50 #[.int .i64 (N : Int)] w fun e w' => ∃ v, e = .returned v ∧ Owns w' w.heap.size v (natsI (primes8 N)) ∧ Below w.heap.size w w' := by
  by_cases h : N = 0
  · subst h
    have HO : Hid (Owns (w.alloc (.cells #[] 3)) w.heap.size (.slice (some ⟨w.heap.size, 0, none⟩) 0 0) (natsI (primes8 0))) := hid (World.ownsRow_made (size := 1) w #[] 0 (Nat.le_refl _) (by unfold maxLen; omega) rfl)
    go_enter Try.func50, Try.ntmps50
    go_wp2
    go_ret
    exact ⟨_, rfl, HO.out, (Below.refl _ _).alloc (Nat.le_refl _) _⟩
  · have T : ((N : Int) == 0) = false := by rw [beq_eq_false_iff_ne]; omega
    have HP := hid (fun w => l1Primes_any (N : Int) (by omega) (by omega) (by omega) w)
    rw [Int.natAbs_natCast, show plist N = primes8 N by unfold primes8; rw [if_neg h]] at HP
    clear h
    go_enter Try.func50, Try.ntmps50
    go_wp2_with (go_at_call 70; refine (HP.out _).mono ?_; rintro e w' ⟨v, rfl, ho, hb⟩; have HO := hid ho; have HB := hid hb; clear ho hb)
    go_ret
    exact ⟨_, rfl, HO.out, HB.out⟩

set_option maxRecDepth 100000 in
set_option maxHeartbeats 2000000 in
theorem twoIsS_any (n : Int) (w : World) : Calls Try.prog 17 #[.int .i64 n] w fun e w' => e = .returned (.bool (twoIsB n)) ∧ Below w.heap.size w w' := by
  have HS0 := hid (fun w : World => l8Sum_any n 0 w)
  cases H : sumB n with
  | false =>
    rw [show inR n 0 2000 = false from H] at HS0
    have HF := hid (twoIs_no H)
    clear H
    go_enter Try.func17, Try.ntmps17
    go_wp2_with (go_at_call 49; refine (HS0.out _).mono ?_; rintro e w' ⟨rfl, rfl⟩)
    go_ret
    exact ⟨retB HF.out.symm, Below.refl _ _⟩
  | true =>
    rw [show inR n 0 2000 = true from H] at HS0
    have hn : 0 ≤ n ∧ n ≤ 2000 := by
      rcases sumB_cases n with ⟨a, b, _⟩ | ⟨_, c⟩ | ⟨_, _, c⟩
      · exact ⟨a, b⟩
      · rw [H] at c; cases c
      · rw [H] at c; cases c
    obtain ⟨N, rfl⟩ := Int.eq_ofNat_of_zero_le hn.1
    have hN2 : N ≤ 2000 := by omega
    have HF := hid ((twoIs_yes H).trans (primes8_all N hN2))
    have HP := hid (fun w => l8Primes_any N hN2 w)
    obtain ⟨L, hL⟩ : ∃ L, L = primes8 N := ⟨_, rfl⟩
    have HBD := hid (fun (p : Nat) (hp : p ∈ L) => primes8_bd hN2 (hL ▸ hp))
    rw [← hL] at HF HP
    clear H hn hL
    go_enter Try.func17, Try.ntmps17
    go_wp2_with (first | (go_at_call 50; refine (HP.out _).mono ?_; rintro e w1 ⟨v, rfl, ho, hb⟩; have HR := hid ho.rd; have HB := hid hb; obtain ⟨av, cv, rfl, hform⟩ := ho.rd.form; rw [natsI_len8] at *; have HFM := hid hform; clear ho hb hform) | (go_at_call 49; refine (HS0.out _).mono ?_; rintro e w' ⟨rfl, rfl⟩))
    go_loop [4] (fun si => ∃ K : Nat, si = .int .i64 K ∧ K ≤ L.length ∧ Hid (∀ i, i < K → badPn N (L.getD i 0) = false)) (fun si => L.length - (intOf si).toNat)
    case atStart => exact ⟨0, rfl, by omega, hid (fun i hi => by omega)⟩
    case round =>
      obtain ⟨K, rfl, hK, HE⟩ := hrel
      by_cases hlt : K < L.length
      · have hi : (K : Int) < (L.length : Int) := by omega
        obtain ⟨b, o, rfl, hml, hc⟩ := HFM.out (by omega)
        have c1 := hc K hlt
        rw [natsI_at L hlt] at c1
        obtain ⟨p, hp⟩ : ∃ p, p = L.getD K 0 := ⟨_, rfl⟩
        rw [← hp] at c1
        have hpb := HBD.out p (by rw [hp, List.getD_eq_getElem?_getD, List.getElem?_eq_getElem hlt]; exact List.getElem_mem _)
        have HPE := hid hp
        have HV := hid (fun w => l1Valuation_any (N : Int) (p : Int) (by omega) (by omega) (by omega) (by omega) (by omega) w)
        obtain ⟨k, hk⟩ : ∃ k, k = val N p := ⟨_, rfl⟩
        have HKV := hid hk
        have HLT := hid hlt
        unfold maxLen at hml
        clear hc hp hk hlt
        have hN1 : N ≠ 0 := by omega
        by_cases d3 : p % 4 = 3
        · have T : ((p : Int) % 4 == 3) = true := mod4_is d3
          by_cases d1 : k % 2 = 1
          · have T2 : ((k : Int) % 2 == 1) = true := by rw [beq_iff_eq]; omega
            have HX : Hid (L.all (fun p => !badPn N p) = false) := hid (all_bad HLT.out (by rw [← HPE.out]; unfold badPn; rw [← HKV.out, decide_eq_true d3, decide_eq_true d1]; rfl))
            clear d3 d1
            go_wp2_with (go_at_call 51; refine (HV.out _).mono ?_; rw [Int.natAbs_natCast, Int.toNat_natCast, ← HKV.out]; rintro e w' ⟨rfl, rfl⟩)
            go_ret
            exact ⟨retB (by rw [HF.out, HX.out]), HB.out⟩
          · have T2 : ((k : Int) % 2 == 1) = false := by rw [beq_eq_false_iff_ne]; omega
            have HX : Hid (badPn N (L.getD K 0) = false) := hid (by rw [← HPE.out]; unfold badPn; rw [← HKV.out, decide_eq_false d1, Bool.and_false])
            clear d3 d1
            go_wp2_with (go_at_call 51; refine (HV.out _).mono ?_; rw [Int.natAbs_natCast, Int.toNat_natCast, ← HKV.out]; rintro e w' ⟨rfl, rfl⟩)
            go_round
            case measure => simp only [intOf]; have := HLT.out; omega
            case rel => exact ⟨K + 1, by go_num, by have := HLT.out; omega, hid (fun i hi => by
              rcases Nat.lt_or_ge i K with h | h
              · exact HE.out i h
              · rw [show i = K by omega]; exact HX.out)⟩
        · have T : ((p : Int) % 4 == 3) = false := mod4_not (D := p) (k := 3) d3
          have HX : Hid (badPn N (L.getD K 0) = false) := hid (by rw [← HPE.out]; unfold badPn; rw [decide_eq_false d3, Bool.false_and])
          clear d3
          go_wp2_with (go_at_call 51; refine (HV.out _).mono ?_; rw [Int.natAbs_natCast, Int.toNat_natCast, ← HKV.out]; rintro e w' ⟨rfl, rfl⟩)
          go_round
          case measure => simp only [intOf]; have := HLT.out; omega
          case rel => exact ⟨K + 1, by go_num, by have := HLT.out; omega, hid (fun i hi => by
            rcases Nat.lt_or_ge i K with h | h
            · exact HE.out i h
            · rw [show i = K by omega]; exact HX.out)⟩
      · obtain rfl : K = L.length := by omega
        have HT := hid (all_good HE.out)
        go_wp2
        go_ret
        exact ⟨retB (by rw [HF.out, HT.out]), HB.out⟩

end Go.Proofs.Ytdclmjmefkgbbaa
