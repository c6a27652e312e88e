/-
  Some texts in one file: Pf MpI MpE MpJ MpK.
-/
import Derived.Test.YtjabklpnohfjpabQFm2
import Derived.Handy
import Derived.Test.YtjabklpnohfjpabQMpH
import Derived.Test.YtjabklpnohfjpabQBun29
import Derived.Test.YtjabklpnohfjpabQBun26
import Derived.Test.YtjabklpnohfjpabQBun20
/-! Pf -/
set_option linter.unusedVariables false
namespace Go.Proofs.Ytjabklpnohfjpab
open Go.RowKit

set_option maxRecDepth 100000 in
set_option maxHeartbeats 1000000 in
theorem formValidP_any (v : Value) (xs : List Int) (w : World) (h : Rd w v xs) : Calls Try.prog 88 #[v] w fun e w' => e = .returned (.bool (fvB xs)) ∧ w = w' := by
  obtain ⟨a, cap, rfl, hform⟩ := h.form
  have HFM := hid hform
  have hmx : xs.length ≤ maxLen := by
    rcases Nat.eq_zero_or_pos xs.length with e | e
    · rw [e]; exact Nat.zero_le _
    · obtain ⟨_, _, _, hm, _⟩ := hform e; exact hm
  unfold maxLen at hmx
  clear hform h
  go_enter Try.func88, Try.ntmps88
  go_wp2_with fail
  go_loop [7] (fun si => ∃ K : Nat, si = .int .i64 K ∧ K ≤ xs.length ∧ Hid (∀ i, i < K → termB (xs.getD i 0) = true)) (fun si => xs.length - (intOf si).toNat)
  case atStart => exact ⟨0, rfl, by omega, hid (fun i hi => by omega)⟩
  case round =>
    obtain ⟨K, rfl, hK, HE⟩ := hrel
    by_cases hlt : K < xs.length
    · obtain ⟨b, o, rfl, hml, hc⟩ := HFM.out (by omega)
      have hcell := hc K hlt
      obtain ⟨x, hx⟩ : ∃ x, x = xs.getD K 0 := ⟨_, rfl⟩
      rw [← hx] at hcell
      have HX := hid hx
      have HLT := hid hlt
      have hKi : (K : Int) < (xs.length : Int) := by omega
      have HNO : Hid (termB x = false → fvB xs = false) := hid (fun e => by
        cases hf : fvB xs with
        | false => rfl
        | true =>
          have := termB_iff.2 (fv_at hf hlt)
          rw [← hx, e] at this
          cases this)
      have HTB : Hid (termB x = true ↔ x ≠ 0 ∧ -30 ≤ x ∧ x ≤ 30) := hid termB_iff
      clear hx hc hml hlt
      by_cases x0 : x = 0
      · have T : (x == 0) = true := by rw [beq_iff_eq]; exact x0
        have HR := hid (HNO.out (by rw [x0]; rfl))
        clear x0
        go_wp2_with fail
        go_ret
        exact ⟨retB HR.out.symm, rfl⟩
      · have T : (x == 0) = false := by rw [beq_eq_false_iff_ne]; exact x0
        by_cases x1 : x < -30
        · have HR := hid (HNO.out (by
            cases ht : termB x with
            | false => rfl
            | true => have := HTB.out.1 ht; omega))
          clear x0
          go_wp2_with fail
          go_ret
          exact ⟨retB HR.out.symm, rfl⟩
        · by_cases x2 : x > 30
          · have HR := hid (HNO.out (by
              cases ht : termB x with
              | false => rfl
              | true => have := HTB.out.1 ht; omega))
            clear x0
            go_wp2_with fail
            go_ret
            exact ⟨retB HR.out.symm, rfl⟩
          · have HT : Hid (termB x = true) := hid (HTB.out.2 ⟨x0, by omega, by omega⟩)
            clear x0
            go_wp2_with fail
            go_round
            case measure => simp only [intOf]; have := HLT.out; omega
            case rel => exact ⟨K + 1, by go_num, by have := HLT.out; omega, hid (fun i hi => by
              by_cases e : i = K
              · rw [e, ← HX.out]; exact HT.out
              · exact HE.out i (by omega))⟩
    · obtain rfl : K = xs.length := by omega
      have HR : Hid (fvB xs = inR (xs.length : Nat) 1 4) := hid (by
        unfold fvB
        rw [show xs.all termB = true from List.all_eq_true.2 fun x hx => by
          obtain ⟨i, hi, rfl⟩ := List.getElem_of_mem hx
          have := HE.out i hi
          rwa [getD_at _ _ hi] at this, Bool.true_and])
      clear hlt
      by_cases l1 : (1 : Int) ≤ (xs.length : Int)
      · by_cases l2 : (xs.length : Int) ≤ 4
        · have HV : Hid (fvB xs = true) := hid (by rw [HR.out]; unfold inR; rw [decide_eq_true l1, decide_eq_true l2]; rfl)
          go_wp2_with fail
          go_ret
          exact ⟨retB HV.out.symm, rfl⟩
        · have HV : Hid (fvB xs = false) := hid (by rw [HR.out]; unfold inR; rw [decide_eq_true l1, decide_eq_false l2]; rfl)
          go_wp2_with fail
          go_ret
          exact ⟨retB HV.out.symm, rfl⟩
      · have HV : Hid (fvB xs = false) := hid (by rw [HR.out]; unfold inR; rw [decide_eq_false l1]; rfl)
        go_wp2_with fail
        go_ret
        exact ⟨retB HV.out.symm, rfl⟩

end Go.Proofs.Ytjabklpnohfjpab

/-! MpI -/
set_option linter.unusedVariables false
namespace Go.Proofs.Ytjabklpnohfjpab
open Go.RowKit

theorem hgt_leI {l : List Int} {m : Nat} : hgtL l ≤ m ↔ ∀ x ∈ l, x.natAbs ≤ m := by
  obtain ⟨_, h2, h3⟩ := hgt_fold l 0
  constructor
  · intro h x hx
    exact Nat.le_trans (h2 x hx) h
  · intro h
    rcases h3 with e | ⟨v, hv, e⟩
    · have : hgtL l = 0 := e
      omega
    · have : v.natAbs = hgtL l := e
      have := h v hv
      omega
theorem made_tidy {xs : List Int} (hf : fvB xs = true) (h3 : xs.length ≤ 3) {M : Nat → Nat → Int} {D : Int} (h0 : D ≠ 0) (ho : Orth (fF xs) xs.length M D) : madeV xs.length M D = tidyV xs (matL xs.length M) D := by
  unfold tidyV
  by_cases h : lowD (matL xs.length M) D ≤ 10000 ∧ hgtL (lowR (matL xs.length M) D).flatten ≤ 1000000
  · have hok : MoveOk xs (lowR (matL xs.length M) D) (lowD (matL xs.length M) D) := by
      refine ⟨hf, h3, sq_low (mat_sq _ _), ⟨lowD_pos h0, h.1⟩, fun r hr x hx => ?_, (low_red h0).2, orth_scale (gM_ne (R := matL xs.length M) h0) (fun i k hi hk => ?_) lowD_back.symm ho⟩
      · have := hgt_leI.1 h.2 x (List.mem_flatten.2 ⟨r, hr, hx⟩)
        omega
      · rw [low_at, mat_at _ hi hk]
    rw [made_some h.1 h.2, moveB_iff.2 hok, if_pos rfl]
  · rw [made_none h, if_neg]
    intro hm
    have hok := moveB_iff.1 hm
    refine h ⟨hok.den.2, hgt_leI.2 fun x hx => ?_⟩
    obtain ⟨r, hr, hx⟩ := List.mem_flatten.1 hx
    have := hok.bd r hr x hx
    omega
theorem stay_made {xs : List Int} (hf : fvB xs = true) (h3 : xs.length ≤ 3) : madeV xs.length (idF 1) 1 = some (stayL xs.length, 1) := by
  rw [made_tidy hf h3 (by decide) (id_orth _ _ _)]
  exact tidy_is (k := 1) (l := 1) (stay_ok hf h3) (by decide) (by decide) (by decide) (by decide) fun i j hi hj => by rw [stay_at hi hj]

set_option maxRecDepth 100000 in
set_option maxHeartbeats 1000000 in
theorem movable_any (v : Value) (xs : List Int) (w : World) (h : Rd w v xs) : Calls Try.prog 51 #[v] w fun e w' => e = .returned (.bool (frm3B xs)) ∧ w = w' := by
  obtain ⟨a, cap, rfl, _⟩ := h.form
  have HX := hid h
  clear h
  cases hf : fvB xs with
  | false =>
    have HF := hid hf
    have HE : Hid (frm3B xs = false) := hid (by unfold frm3B; rw [hf]; rfl)
    clear hf
    go_enter Try.func51, Try.ntmps51
    go_wp2_with (go_at_call 88; refine (formValidP_any _ xs _ HX.out).mono ?_; rw [HF.out]; rintro e w' ⟨rfl, rfl⟩)
    go_ret
    exact ⟨retB HE.out.symm, rfl⟩
  | true =>
    have HF := hid hf
    have HE : Hid (frm3B xs = decide (xs.length ≤ 3)) := hid (by unfold frm3B; rw [hf]; rfl)
    have hl := (fvB_iff.1 hf).2
    clear hf
    by_cases h3 : (xs.length : Int) ≤ 3
    · have HD : Hid (frm3B xs = true) := hid (by rw [HE.out]; exact decide_eq_true (by omega))
      go_enter Try.func51, Try.ntmps51
      go_wp2_with (go_at_call 88; refine (formValidP_any _ xs _ HX.out).mono ?_; rw [HF.out]; rintro e w' ⟨rfl, rfl⟩)
      go_ret
      exact ⟨retB HD.out.symm, rfl⟩
    · have HD : Hid (frm3B xs = false) := hid (by rw [HE.out]; exact decide_eq_false (by omega))
      go_enter Try.func51, Try.ntmps51
      go_wp2_with (go_at_call 88; refine (formValidP_any _ xs _ HX.out).mono ?_; rw [HF.out]; rintro e w' ⟨rfl, rfl⟩)
      go_ret
      exact ⟨retB (by rw [HD.out]; exact decide_eq_false (by omega)), rfl⟩

theorem movePost_un {o : Option (List (List Int) × Int)} {w w' : World} {e : Ending} (h : MovePost o w e w') : ∃ (R : List (List Int)) (d : Int) (b : Bool) (a : Option Addr) (c : Nat), e = .returned (.tuple #[.agg #[.slice a R.length c, .int .i64 d], .bool b]) ∧ OwnM w' w.heap.size none (.slice a R.length c) R ∧ Below w.heap.size w w' ∧ Hid (R = o.elim [] (·.1) ∧ d = o.elim 0 (·.2) ∧ b = o.isSome) := by
  obtain ⟨u, rfl, ho, hb⟩ := h
  obtain ⟨a, c, rfl⟩ := ho.rd.form
  exact ⟨_, _, _, a, c, rfl, ho, hb, hid ⟨rfl, rfl, rfl⟩⟩
theorem movePost_o {o : Option (List (List Int) × Int)} {w w2 : World} {k B : Nat} {u : Value} {R : List (List Int)} {d : Int} {b : Bool} (ho : OwnM w2 B none u R) (hb : Below w.heap.size w w2) (hk : w.heap.size ≤ k) (hkB : k < B) (v0 v1 : Value) (he : R = o.elim [] (·.1) ∧ d = o.elim 0 (·.2) ∧ b = o.isSome) : MovePost o w (.returned (.tuple #[.agg #[u, .int .i64 d], .bool b])) ((w2.setCell ⟨k, 0, none⟩ v0).setCell ⟨k, 1, none⟩ v1) := by
  obtain ⟨rfl, rfl, rfl⟩ := he
  exact ⟨u, rfl, ((ho.setLow (a := ⟨k, 0, none⟩) (.inl hkB) v0).setLow (a := ⟨k, 1, none⟩) (.inl hkB) v1).down (by omega), (hb.setCell hk _).setCell hk _⟩
set_option maxRecDepth 100000 in
set_option maxHeartbeats 2000000 in
theorem moveStay_any (v : Value) (xs : List Int) (w : World) (h : Rd w v xs) : Calls Try.prog 21 #[v] w (MovePost (stayV xs) w) := by
  obtain ⟨a, cap, rfl, _⟩ := h.form
  have hbl : Below w.heap.size w (w.alloc (.cells #[.slice none 0 0, .int .i64 0] 29)) := below_box2 _ _
  have HX := hid (h.keep hbl)
  have HB := hid hbl
  have HR : Hid ((w.alloc (.cells #[.slice none 0 0, .int .i64 0] 29)).heap[w.heap.size]? = some (.cells #[.slice none 0 0, .int .i64 0] 29 (0, 0))) := hid (heap_new rfl)
  clear h hbl
  cases hf : frm3B xs with
  | false =>
    have HF := hid hf
    have HE : Hid (stayV xs = none) := hid (by unfold stayV; rw [hf]; rfl)
    clear hf
    go_enter Try.func21, Try.ntmps21
    go_wp2_with (go_at_call 51; refine (movable_any _ xs _ HX.out).mono ?_; rw [HF.out]; rintro e w' ⟨rfl, rfl⟩)
    refine bodyPost_ret (v := .tuple #[.agg #[.slice none 0 0, .int .i64 0], .bool false]) (by simp [results, Try.results21, go_sem] <;> go_simp) rfl ?_
    rw [HE.out]
    first | exact ⟨_, rfl, ownM_nil _ _ _, HB.out⟩ | exact movePost_none HB.out (Nat.le_refl _) _ _
  | true =>
    have HF := hid hf
    have hf2 : fvB xs = true ∧ xs.length ≤ 3 := by unfold frm3B at hf; rwa [Bool.and_eq_true, decide_eq_true_eq] at hf
    have HE : Hid (stayV xs = some (stayL xs.length, 1)) := hid (by unfold stayV; rw [hf]; rfl)
    have HM := hid (fun w => moveOf_any xs.length (form_n3 hf2.1 hf2.2) 53 #[] (idF 1) 1 (by decide) (by unfold B14; omega) (fun i j _ _ => by unfold B14 idF; split <;> omega) w (enters_of Try.func53 (by kernel_rfl) rfl) (fun i j w' hi hj _ => by
      refine (stayAt_any i j (by omega) (by omega) w').mono ?_
      rintro e w'' ⟨rfl, hb⟩
      refine ⟨_, _, rfl, ⟨by omega, Nat.gcd_one_right _, ?_⟩, hb⟩
      unfold idF
      rfl))
    rw [stay_made hf2.1 hf2.2, ← HE.out] at HM
    clear hf hf2
    go_enter Try.func21, Try.ntmps21
    go_wp2_with (go_at_call 51; refine (movable_any _ xs _ HX.out).mono ?_; rw [HF.out]; rintro e w' ⟨rfl, rfl⟩)
    refine (HM.out _).mono ?_
    rintro e w2 hp
    obtain ⟨R2, d2, b2, au, cu, rfl, ho, hb2, HE2⟩ := movePost_un hp
    have HO := hid ho
    have hq := heap_below hb2 HR.out
    have z0 := cellB (i := 0) hq
    have z1 := cellB (i := 1) hq
    have y0 := frozenB (i := 0) hq
    have y1 := frozenB (i := 1) hq
    have HB2 := hid (HB.out.trans (hb2.mono HB.out.size))
    clear ho hb2 hq hp
    go_wp2_with fail
    refine bodyPost_ret (v := .tuple #[.agg #[.slice au R2.length cu, .int .i64 d2], .bool b2]) (by simp [results, Try.results21, go_sem] <;> go_simp) rfl ?_
    exact movePost_o HO.out HB2.out (Nat.le_refl _) (by simp) _ _ HE2.out

end Go.Proofs.Ytjabklpnohfjpab

/-! MpE -/
set_option linter.unusedVariables false
namespace Go.Proofs.Ytjabklpnohfjpab
open Go.RowKit

theorem b14_prod {x y : Int} (h1 : -1000000 ≤ x ∧ x ≤ 1000000) (h2 : -1000000 ≤ y ∧ y ≤ 1000000) : -1000000000000 ≤ x * y ∧ x * y ≤ 1000000000000 := mul_bd12 h1 h2
theorem on_bd {f g : Nat → Int} {n : Nat} (hn : n ≤ 3) (hf : ∀ k, k < n → -1000000 ≤ f k ∧ f k ≤ 1000000) (hg : ∀ k, k < n → -1000000 ≤ g k ∧ g k ≤ 1000000) {K : Nat} (hK : K ≤ n) : -3000000000000 ≤ sumF (fun k => f k * g k) K ∧ sumF (fun k => f k * g k) K ≤ 3000000000000 := by
  have := sum_bd (f := fun k => f k * g k) (m := 1000000000000) (by omega) K (fun r hr => mul_bd12 (hf r (by omega)) (hg r (by omega)))
  have h3 : (K : Int) ≤ 3 := by omega
  omega
set_option maxRecDepth 100000 in
set_option maxHeartbeats 8000000 in
theorem on_any (bm : Nat) (va vl : Value) (R : List (List Int)) (l : List (Int × Int)) (Ns : List Int) (d E : Int) (n i : Nat) (w : World) (hm : MvAt w bm va d) (hR : RdM w va R) (hs : Sq n R) (hi : i < n) (hn : n ≤ 3) (hb : ∀ k, k < n → -1000000 ≤ at2 R i k ∧ at2 R i k ≤ 1000000) (d1 : 1 ≤ d) (d2 : d ≤ 10000)
    (hv : RdF w vl l) (hl : l.length = n) (hf : Frs l Ns E) (e1 : 1 ≤ E) (e2 : E ≤ 10000) (hN : ∀ k, k < n → -1000000 ≤ Ns.getD k 0 ∧ Ns.getD k 0 ≤ 1000000) :
    Calls Try.prog 69 #[.pointer (some ⟨bm, 0, none⟩), .int .i64 (i : Int), vl] w fun e w' => ∃ p q, e = .returned (frV p q) ∧ Fr p q (sumF (fun k => at2 R i k * Ns.getD k 0) n) (d * E) ∧ Below w.heap.size w w' := by
  subst hl
  obtain ⟨DE, hDE⟩ : ∃ DE, DE = d * E := ⟨_, rfl⟩
  have hde1 : 1 ≤ DE := by rw [hDE]; exact Int.mul_pos (by omega) (by omega)
  have hde2 : DE ≤ 100000000 := by
    rw [hDE]
    have := Int.mul_le_mul d2 e2 (by omega) (by omega)
    omega
  have HDE := hid hDE
  rw [← hDE]
  have HAT : Hid (∀ (w' : World) (k : Nat), Below w.heap.size w w' → k < l.length → Calls Try.prog 67 #[.pointer (some ⟨bm, 0, none⟩), .int .i64 (i : Int), .int .i64 (k : Int)] w' fun e w'' => e = .returned (frV (numF (at2 R i k) d) (denF (at2 R i k) d)) ∧ Below w'.heap.size w' w'') := hid (fun w' k h1 hk => mvAt_any bm va R d l.length i k w' (hm.keep h1) (hR.keep h1) hs hi hk (by omega) (by have := hb k hk; unfold B15; omega) d1 d2)
  have HFR : Hid (∀ k, k < l.length → Fr (l.getD k (0, 0)).1 (l.getD k (0, 0)).2 (Ns.getD k 0) E) := hid (fun k hk => hf.2 k (by omega))
  have HBD := hid (fun K => on_bd (f := at2 R i) (g := fun k => Ns.getD k 0) hn hb hN (K := K))
  have HB1 := hid hb
  have HN1 := hid hN
  have HV := hid hv
  obtain ⟨gl, cl, rfl, hlm, _, _⟩ := hv
  have hbl : Below w.heap.size w ((w.alloc (.cells #[.int .i64 0, .int .i64 0] 65)).alloc (.cells #[.int .i64 0, .int .i64 1] 65)) := (below_box2 _ _).alloc (by simp) _
  have HR0 : Hid (((w.alloc (.cells #[.int .i64 0, .int .i64 0] 65)).alloc (.cells #[.int .i64 0, .int .i64 1] 65)).heap[w.heap.size]? = some (.cells #[.int .i64 0, .int .i64 0] 65 (0, 0))) := hid (heap_up (heap_new rfl))
  have HS0 : Hid (((w.alloc (.cells #[.int .i64 0, .int .i64 0] 65)).alloc (.cells #[.int .i64 0, .int .i64 1] 65)).heap[w.heap.size + 1]? = some (.cells #[.int .i64 0, .int .i64 1] 65 (0, 0))) := hid (heap_new (by simp))
  have HBL := hid hbl
  have HF0 : Fr 0 1 (sumF (fun k => at2 R i k * Ns.getD k 0) 0) DE := ⟨by omega, by decide, by rw [show sumF (fun k => at2 R i k * Ns.getD k 0) 0 = 0 from rfl]; omega⟩
  have HFF := hid HF0
  clear hm hR hs hb hf hN hDE hbl HF0
  go_enter Try.func69, Try.ntmps69
  go_wp2_with fail
  go_loopw [13] (fun si wr => ∃ (K : Nat) (s t : Int), si = .int .i64 K ∧ K ≤ l.length ∧ Hid (Fr s t (sumF (fun k => at2 R i k * Ns.getD k 0) K) DE) ∧ Hid (wr.heap[w.heap.size]? = some (.cells #[.int .i64 0, .int .i64 0] 65 (0, 0))) ∧ Hid (wr.heap[w.heap.size + 1]? = some (.cells #[.int .i64 s, .int .i64 t] 65 (0, 0))) ∧ Hid (Below w.heap.size w wr)) (fun si _ => l.length - (intOf si).toNat)
  case atStart => exact ⟨0, 0, 1, rfl, by omega, HFF, HR0, HS0, HBL⟩
  case round =>
    obtain ⟨K, s, t, rfl, hK, HFS, HR1, HS1, HB⟩ := hrel
    rename World => wr
    by_cases hlt : K < l.length
    · obtain ⟨gl', cl', e', _, hgl, hc⟩ := HV.out.keep HB.out
      cases e'
      obtain ⟨c0, c1⟩ := hc K hlt
      have hfr := HFR.out K hlt
      have hb1 := HB1.out K hlt
      have hn1 := HN1.out K hlt
      have hsb := HBD.out K (by omega)
      have hsb2 := HBD.out (K + 1) (by omega)
      have hsu : sumF (fun k => at2 R i k * Ns.getD k 0) (K + 1) = sumF (fun k => at2 R i k * Ns.getD k 0) K + at2 R i K * Ns.getD K 0 := rfl
      have hpb := mul_bd12 hb1 hn1
      have hfx := fr_of (n := at2 R i K) (d := d) (by omega)
      have HATK := hid (fun w' h => HAT.out w' K h hlt)
      obtain ⟨fa, hfa⟩ : ∃ fa, fa = (l.getD K (0, 0)).1 := ⟨_, rfl⟩
      obtain ⟨fb, hfb⟩ : ∃ fb, fb = (l.getD K (0, 0)).2 := ⟨_, rfl⟩
      rw [← hfa] at c0 hfr
      rw [← hfb] at c1 hfr
      generalize at2 R i K = x at *
      generalize Ns.getD K 0 = y at *
      generalize sumF (fun k => at2 R i k * Ns.getD k 0) K = P at *
      obtain ⟨a1, ha1⟩ : ∃ a1, a1 = numF x d := ⟨_, rfl⟩
      obtain ⟨b1, hbb1⟩ : ∃ b1, b1 = denF x d := ⟨_, rfl⟩
      rw [← ha1, ← hbb1] at HATK hfx
      have p1 := hfx.pos
      have p2 := hfr.pos
      have q1 := hfx.num_bd (m := 1000000) (by omega) (by omega) hb1.1 hb1.2
      have q2 := hfr.num_bd (m := 1000000) (by omega) (by omega) hn1.1 hn1.2
      have q3 := hfx.den_bd (m := 10000) (by omega) (by omega) (by omega)
      have q4 := hfr.den_bd (m := 10000) (by omega) (by omega) (by omega)
      have m1 := mul_bd12 q1 q2
      have m2 := mul_bd12 (x := b1) (y := fb) (by omega) (by omega)
      have HTM := hid (fun w => frTimes_any a1 b1 fa fb p1 p2 (by unfold B15; omega) (by unfold B15; omega) w)
      have hft := fr_times hfx hfr (fr_of (n := a1 * fa) (d := b1 * fb) (Int.mul_ne_zero (by omega) (by omega)))
      rw [← HDE.out] at hft
      generalize numF (a1 * fa) (b1 * fb) = a2 at *
      generalize denF (a1 * fa) (b1 * fb) = b2 at *
      have HPL := hid (fun w => frPlus_any s t P a2 b2 (x * y) DE HFS.out hft (by omega) (by unfold B14; omega) (by unfold B14; omega) (by unfold B14; omega) w)
      have HFN := hid (plus_is HFS.out hft (by omega))
      rw [← hsu] at HFN
      generalize plusN s t a2 b2 = a3 at *
      generalize plusD s t a2 b2 = b3 at *
      have hKi : (K : Int) < (l.length : Int) := by omega
      have HLT := hid hlt
      clear hc hfa hfb hfr hb1 hn1 hsb hsb2 hsu hpb hfx ha1 hbb1 p1 p2 q1 q2 q3 q4 m1 m2 hft hlt
      go_wp2_with fail
      obtain ⟨W, hW⟩ : ∃ W, W = (wr.alloc (.cells #[.int .i64 fa, .int .i64 fb] 65)).drew := ⟨_, rfl⟩
      have HR : Hid (W.heap[w.heap.size]? = some (.cells #[.int .i64 0, .int .i64 0] 65 (0, 0))) := hid (by rw [hW]; exact heap_up HR1.out)
      have HS : Hid (W.heap[w.heap.size + 1]? = some (.cells #[.int .i64 s, .int .i64 t] 65 (0, 0))) := hid (by rw [hW]; exact heap_up HS1.out)
      have HFC : Hid (W.heap[wr.heap.size]? = some (.cells #[.int .i64 fa, .int .i64 fb] 65 (0, 0))) := hid (by rw [hW]; exact heap_new rfl)
      have HBW0 : Hid (Below w.heap.size w W) := hid (by rw [hW]; exact below_drewN (HB.out.trans ((below_box2 _ _).mono HB.out.size)) 1)
      have HLR := hid (Array.getElem?_eq_some_iff.1 HR.out).1
      have HLS := hid (Array.getElem?_eq_some_iff.1 HS.out).1
      have HLF := hid (Array.getElem?_eq_some_iff.1 HFC.out).1
      refine region_inv (by kernel_rfl) (fun LB act wx => ∃ (s18 s19 s20 s21 s22 s23 s24 s25 : Value), act = ({ tmps := #[.pointer (some ⟨bm, 0, none⟩), .int .i64 (i : Int), .slice (some ⟨gl, 0, none⟩) l.length cl, undef, undef, undef, .pointer (some ⟨w.heap.size, 0, none⟩), .pointer (some ⟨w.heap.size + 1, 0, none⟩), .int .i64 (K : Int), .pointer (some ⟨wr.heap.size, 0, none⟩), .agg #[.int .i64 0, .int .i64 1], .slice (some ⟨gl, 0, none⟩) l.length cl, .int .i64 (l.length : Int), .int .i64 (K : Int), .bool true, .int .i64 (K : Int), .pointer (some ⟨gl, K * 2, none⟩), .agg #[.int .i64 fa, .int .i64 fb], s18, s19, s20, s21, s22, s23, s24, s25, u26, undef], defers := [] } : Act) ∧ RegI 9 [[], [], [], [], [1, 2, 3], [], [4, 5], [0, 6], [7]] (W) (fun wy => (wy.setCell ⟨w.heap.size + 1, 0, none⟩ (.int .i64 a3)).setCell ⟨w.heap.size + 1, 1, none⟩ (.int .i64 b3)) [.agg #[.int .i64 s, .int .i64 t], .pointer (some ⟨bm, 0, none⟩), .int .i64 (i : Int), .int .i64 (K : Int), .agg #[.int .i64 a1, .int .i64 b1], .agg #[.int .i64 fa, .int .i64 fb], .agg #[.int .i64 a2, .int .i64 b2], .agg #[.int .i64 a3, .int .i64 b3], undef] LB wx [s18, s19, s20, s21, s22, s23, s24, s25, undef]) ?h0R ?hendR ?hstepR
      case h0R => exact ⟨_, _, _, _, _, _, _, _, rfl, RegI.start rfl rfl hW.symm⟩
      case hstepR =>
        rintro LB act wx i ⟨s18, s19, s20, s21, s22, s23, s24, s25, rfl, I⟩ hi
        obtain ⟨hi1, hf, hdep⟩ := ready_mem hi
        have hi2 : i < 9 := hi1
        have hbw := I.open (by decide) hf hi2
        have hsz := hbw.size
        have HI := hid I
        have HF := hid hf
        have hqHS := (hbw.block _ HLS.out).trans HS.out
        have cHS0 := cellB (i := 0) hqHS
        have cHS1 := cellB (i := 1) hqHS
        have HQHS := hid hqHS
        clear hqHS
        have hqHFC := (hbw.block _ HLF.out).trans HFC.out
        have cHFC0 := cellB (i := 0) hqHFC
        have cHFC1 := cellB (i := 1) hqHFC
        have HQHFC := hid hqHFC
        clear hqHFC
        have y0 := frozenB (i := 0) HQHS.out
        have y1 := frozenB (i := 1) HQHS.out
        have HBW := hid hbw
        clear hi hi1 I hf hbw
        have hc : i = 0 ∨ i = 1 ∨ i = 2 ∨ i = 3 ∨ i = 4 ∨ i = 5 ∨ i = 6 ∨ i = 7 ∨ i = 8 := by omega
        clear hi2
        rcases hc with rfl | rfl | rfl | rfl | rfl | rfl | rfl | rfl | rfl
        · skip
          have hq : ∀ j ∈ ([] : List Nat), dn LB j := fun _ h => absurd h List.not_mem_nil
          clear hdep
          refine wpOp_step rfl (fun K hK => ?_)
          go_simp
          exact hK _ _ ⟨_, _, _, _, _, _, _, _, rfl, HI.out.step HF.out (by decide) hq HBW.out rfl (by decide)⟩
        · skip
          have hq : ∀ j ∈ ([] : List Nat), dn LB j := fun _ h => absurd h List.not_mem_nil
          clear hdep
          refine wpOp_step rfl (fun K hK => ?_)
          go_simp
          exact hK _ _ ⟨_, _, _, _, _, _, _, _, rfl, HI.out.step HF.out (by decide) hq HBW.out rfl (by decide)⟩
        · skip
          have hq : ∀ j ∈ ([] : List Nat), dn LB j := fun _ h => absurd h List.not_mem_nil
          clear hdep
          refine wpOp_step rfl (fun K hK => ?_)
          go_simp
          exact hK _ _ ⟨_, _, _, _, _, _, _, _, rfl, HI.out.step HF.out (by decide) hq HBW.out rfl (by decide)⟩
        · skip
          have hq : ∀ j ∈ ([] : List Nat), dn LB j := fun _ h => absurd h List.not_mem_nil
          clear hdep
          refine wpOp_step rfl (fun K hK => ?_)
          go_simp
          exact hK _ _ ⟨_, _, _, _, _, _, _, _, rfl, HI.out.step HF.out (by decide) hq HBW.out rfl (by decide)⟩
        · skip
          have q1 : dn LB 1 := hdep _ rfl { on := 1, ground := .data } (by simp) rfl
          have q2 : dn LB 2 := hdep _ rfl { on := 2, ground := .data } (by simp) rfl
          have q3 : dn LB 3 := hdep _ rfl { on := 3, ground := .data } (by simp) rfl
          have hq : ∀ j ∈ ([1, 2, 3] : List Nat), dn LB j := List.forall_mem_cons.2 ⟨q1, List.forall_mem_cons.2 ⟨q2, List.forall_mem_cons.2 ⟨q3, fun _ h => absurd h List.not_mem_nil⟩⟩⟩
          clear hdep
          obtain rfl : s19 = .pointer (some ⟨bm, 0, none⟩) := HI.out.val 1 q1
          obtain rfl : s20 = .int .i64 (i : Int) := HI.out.val 2 q2
          obtain rfl : s21 = .int .i64 (K : Int) := HI.out.val 3 q3
          refine wpOp_step rfl (fun K hK => ?_)
          go_simp
          go_at_call 67
          refine (HATK.out _ (HBW0.out.trans (HBW.out.mono HBW0.out.size))).mono ?_
          rintro e wP ⟨rfl, hbk⟩
          exact hK _ _ ⟨_, _, _, _, _, _, _, _, rfl, HI.out.step HF.out (by decide) hq (HBW.out.trans (hbk.mono hsz)) rfl (by decide)⟩
        · skip
          have hq : ∀ j ∈ ([] : List Nat), dn LB j := fun _ h => absurd h List.not_mem_nil
          clear hdep
          refine wpOp_step rfl (fun K hK => ?_)
          go_simp
          exact hK _ _ ⟨_, _, _, _, _, _, _, _, rfl, HI.out.step HF.out (by decide) hq HBW.out rfl (by decide)⟩
        · skip
          have q4 : dn LB 4 := hdep _ rfl { on := 4, ground := .data } (by simp) rfl
          have q5 : dn LB 5 := hdep _ rfl { on := 5, ground := .data } (by simp) rfl
          have hq : ∀ j ∈ ([4, 5] : List Nat), dn LB j := List.forall_mem_cons.2 ⟨q4, List.forall_mem_cons.2 ⟨q5, fun _ h => absurd h List.not_mem_nil⟩⟩
          clear hdep
          obtain rfl : s22 = .agg #[.int .i64 a1, .int .i64 b1] := HI.out.val 4 q4
          obtain rfl : s23 = .agg #[.int .i64 fa, .int .i64 fb] := HI.out.val 5 q5
          refine wpOp_step rfl (fun K hK => ?_)
          go_simp
          go_at_call 66
          refine (HTM.out _).mono ?_
          rintro e wP ⟨rfl, hbk⟩
          exact hK _ _ ⟨_, _, _, _, _, _, _, _, rfl, HI.out.step HF.out (by decide) hq (HBW.out.trans (hbk.mono hsz)) rfl (by decide)⟩
        · skip
          have q0 : dn LB 0 := hdep _ rfl { on := 0, ground := .data } (by simp) rfl
          have q6 : dn LB 6 := hdep _ rfl { on := 6, ground := .data } (by simp) rfl
          have hq : ∀ j ∈ ([0, 6] : List Nat), dn LB j := List.forall_mem_cons.2 ⟨q0, List.forall_mem_cons.2 ⟨q6, fun _ h => absurd h List.not_mem_nil⟩⟩
          clear hdep
          obtain rfl : s18 = .agg #[.int .i64 s, .int .i64 t] := HI.out.val 0 q0
          obtain rfl : s24 = .agg #[.int .i64 a2, .int .i64 b2] := HI.out.val 6 q6
          refine wpOp_step rfl (fun K hK => ?_)
          go_simp
          go_at_call 60
          refine (HPL.out _).mono ?_
          rintro e wP ⟨rfl, hbk⟩
          exact hK _ _ ⟨_, _, _, _, _, _, _, _, rfl, HI.out.step HF.out (by decide) hq (HBW.out.trans (hbk.mono hsz)) rfl (by decide)⟩
        · skip
          have q7 : dn LB 7 := hdep _ rfl { on := 7, ground := .data } (by simp) rfl
          have hq : ∀ j ∈ ([7] : List Nat), dn LB j := List.forall_mem_cons.2 ⟨q7, fun _ h => absurd h List.not_mem_nil⟩
          clear hdep
          obtain rfl : s25 = .agg #[.int .i64 a3, .int .i64 b3] := HI.out.val 7 q7
          refine wpOp_step rfl (fun K hK => ?_)
          go_simp
          exact hK _ _ ⟨_, _, _, _, _, _, _, _, rfl, HI.out.last HF.out rfl (by decide) hq HBW.out rfl rfl⟩
      case hendR =>
        rintro LB act wx ⟨s18, s19, s20, s21, s22, s23, s24, s25, rfl, I⟩ hrd
        have D := all_done2 I.hs (by kernel_rfl) hrd
        obtain ⟨wy, hby, rfl⟩ := I.he (D 8 (by decide))
        have hqs := (hby.block _ HLS.out).trans HS.out
        have hqr := (hby.block _ HLR.out).trans HR.out
        have HBF := hid (HBW0.out.trans (hby.mono HBW0.out.size))
        clear I D hrd
        have hr2 : ((wy.setCell ⟨w.heap.size + 1, 0, none⟩ (.int .i64 a3)).setCell ⟨w.heap.size + 1, 1, none⟩ (.int .i64 b3)).heap[w.heap.size]? = some (.cells #[.int .i64 0, .int .i64 0] 65 (0, 0)) := by
          rw [heap_setCell_other _ _ _ _ (by simp), heap_setCell_other _ _ _ _ (by simp)]; exact hqr
        have hs2 : ((wy.setCell ⟨w.heap.size + 1, 0, none⟩ (.int .i64 a3)).setCell ⟨w.heap.size + 1, 1, none⟩ (.int .i64 b3)).heap[w.heap.size + 1]? = some (.cells #[.int .i64 a3, .int .i64 b3] 65 (0, 0)) := heap_two1 (heap_two0 hqs)
        have hbe : Below w.heap.size w ((wy.setCell ⟨w.heap.size + 1, 0, none⟩ (.int .i64 a3)).setCell ⟨w.heap.size + 1, 1, none⟩ (.int .i64 b3)) := (HBF.out.setCell (by simp) _).setCell (by simp) _
        have HR2 := hid hr2
        have HS2 := hid hs2
        have HBE := hid hbe
        clear hr2 hs2 hbe hqs hqr hby
        go_wp2_with fail
        go_roundw
        case measure => simp only [intOf]; have := HLT.out; omega
        case rel => exact ⟨K + 1, a3, b3, by go_num, by have := HLT.out; omega, HFN, HR2, HS2, HBE⟩
    · obtain rfl : K = l.length := by omega
      have z0 := cellB (i := 0) HS1.out
      have z1 := cellB (i := 1) HS1.out
      have y0 := cellB (i := 0) HR1.out
      have y1 := cellB (i := 1) HR1.out
      have x0 := frozenB (i := 0) HR1.out
      have x1 := frozenB (i := 1) HR1.out
      clear hlt
      go_wp2_with fail
      refine bodyPost_ret (results_cell_row rfl _ _ w.heap.size 65 #[_, _] (0, 0) _ rfl (heap_two1 (heap_two0 HR1.out)) Try.underlying65 rfl (by kernel_rfl)) rfl ?_
      exact ⟨s, t, rfl, HFS.out, (HB.out.setCell (Nat.le_refl _) _).setCell (Nat.le_refl _) _⟩

end Go.Proofs.Ytjabklpnohfjpab

/-! MpJ -/
set_option linter.unusedVariables false
namespace Go.Proofs.Ytjabklpnohfjpab
open Go.RowKit

theorem rd_cells {W : World} {v : Value} {xs : List Int} (h : Rd W v xs) (h0 : 0 < xs.length) : ∃ b o c, v = .slice (some ⟨b, o, none⟩) xs.length c ∧ ∀ i, i < xs.length → W.cell? ⟨b, o + i, none⟩ = some (.int .i64 (xs.getD i 0)) := by
  rcases h with ⟨_, _, _, rfl⟩ | ⟨b, o, c, rfl, _, _, hc⟩
  · simp at h0
  · exact ⟨b, o, c, rfl, hc⟩
theorem box_below {W wx : World} {b : Nat} {t : TypeId} {v : Value} (hb : Below W.heap.size W wx) (h : Boxed W b t v) : Boxed wx b t v := heap_below hb h

set_option maxRecDepth 100000 in
set_option maxHeartbeats 8000000 in
theorem mirrorAt_any (b2 b3 b6 : Nat) (vf vw : Value) (xs ws : List Int) (q : Int) (i j : Nat) (w : World) (hx1 : Boxed w b2 22 vf) (hx2 : Boxed w b3 22 vw) (hx3 : Boxed w b6 3 (.int .i64 q)) (hf : Rd w vf xs) (hw : Rd w vw ws) (hl : ws.length = xs.length) (h3 : xs.length ≤ 3) (hi : i < xs.length) (hj : j < xs.length) (bx30 : ∀ k, k < xs.length → -30 ≤ fF xs k ∧ fF xs k ≤ 30) (bwd : ∀ k, k < xs.length → -1000 ≤ fF ws k ∧ fF ws k ≤ 1000) (hq0 : q ≠ 0) (bq : -1000000000 ≤ q ∧ q ≤ 1000000000) :
    Calls Try.prog 59 #[.int .i64 (i : Int), .int .i64 (j : Int), .pointer (some ⟨b2, 0, none⟩), .pointer (some ⟨b3, 0, none⟩), .pointer (some ⟨b6, 0, none⟩)] w fun e w' => ∃ a b, e = .returned (frV a b) ∧ Fr a b (mirF (fF xs) (fF ws) q i j) q ∧ Below w.heap.size w w' := by
  obtain ⟨bx, ox, cx, rfl, hcx⟩ := rd_cells hf (by omega)
  obtain ⟨bw, ow, cw, rfl, hcw⟩ := rd_cells hw (by omega)
  have g1 := hcx j hj
  have g2 := hcw j (by omega)
  have g3 := hcw i (by omega)
  obtain ⟨x, hx⟩ : ∃ x, x = fF xs j := ⟨_, rfl⟩
  obtain ⟨y, hy⟩ : ∃ y, y = fF ws j := ⟨_, rfl⟩
  obtain ⟨z, hz⟩ : ∃ z, z = fF ws i := ⟨_, rfl⟩
  rw [show xs.getD j 0 = x from hx.symm] at g1
  rw [show ws.getD j 0 = y from hy.symm] at g2
  rw [show ws.getD i 0 = z from hz.symm] at g3
  have m0 := bx30 j hj
  have m1 := bwd j hj
  have m2 := bwd i hi
  rw [← hx] at m0
  rw [← hy] at m1
  rw [← hz] at m2
  obtain ⟨_, m3, m4⟩ := mirr_bd m0 m1 m2
  have n2 : -60000 ≤ -2 * x * y ∧ -2 * x * y ≤ 60000 := by rw [show -2 * x * y = -(2 * x * y) by grind]; omega
  have n3 : -60000000 ≤ -2 * x * y * z ∧ -2 * x * y * z ≤ 60000000 := by rw [show -2 * x * y * z = -(2 * x * y * z) by grind]; omega
  have HST := hid (fun w => stayAt_any i j (by omega) (by omega) w)
  obtain ⟨d1, hd1⟩ : ∃ d1 : Int, d1 = if i = j then 1 else 0 := ⟨_, rfl⟩
  rw [← hd1] at HST
  have hd01 : d1 = 0 ∨ d1 = 1 := by rw [hd1]; split <;> omega
  have hfd : Fr d1 1 (d1 * q) q := ⟨by omega, Nat.gcd_one_right _, by omega⟩
  have HFO := hid (fun w => fractionOf_any (-2 * x * y * z) q (by unfold B15; omega) (by unfold B15; omega) hq0 w)
  have hfo := fr_of (n := -2 * x * y * z) (d := q) hq0
  generalize numF (-2 * x * y * z) q = a1 at *
  generalize denF (-2 * x * y * z) q = b1 at *
  have HPL := hid (fun w => frPlus_any d1 1 (d1 * q) a1 b1 (-2 * x * y * z) q hfd hfo hq0 (by unfold B14; rcases hd01 with e | e <;> rw [e] <;> omega) (by unfold B14; omega) (by unfold B14; omega) w)
  have HFR := hid (plus_is hfd hfo hq0)
  have he : d1 * q + -2 * x * y * z = mirF (fF xs) (fF ws) q i j := by
    unfold mirF
    rw [← hx, ← hy, ← hz, hd1]
    split <;> grind
  rw [he] at HFR
  generalize plusN d1 1 a1 b1 = a2 at *
  generalize plusD d1 1 a1 b1 = b2v at *
  have hbl : Below w.heap.size w (w.alloc (.cells #[.int .i64 0, .int .i64 0] 65)) := below_box2 _ _
  have HC1 := hid (cell_below hbl g1)
  have HC2 := hid (cell_below hbl g2)
  have HC3 := hid (cell_below hbl g3)
  have HX1 := hid (box_below hbl hx1)
  have HX2 := hid (box_below hbl hx2)
  have HX3 := hid (box_below hbl hx3)
  have H2 : Hid ((w.alloc (.cells #[.int .i64 0, .int .i64 0] 65)).heap[w.heap.size]? = some (.cells #[.int .i64 0, .int .i64 0] 65 (0, 0))) := hid (heap_new rfl)
  have HBL := hid hbl
  have hi2 : (i : Int) < (ws.length : Int) := by omega
  have hj1 : (j : Int) < (xs.length : Int) := by omega
  have hj2 : (j : Int) < (ws.length : Int) := by omega
  clear hf hw hcx hcw g1 g2 g3 hx hy hz bx30 bwd hd1 hfd hfo he hx1 hx2 hx3 hl m3 m4 hbl hd01 hi hj
  go_enter Try.func59, Try.ntmps59
  go_wp2_with fail
  obtain ⟨W, hW⟩ : ∃ W, W = (w.alloc (.cells #[.int .i64 0, .int .i64 0] 65)).drew := ⟨_, rfl⟩
  replace HC1 : Hid (W.cell? ⟨bx, ox + j, none⟩ = some (.int .i64 x)) := hid (by rw [hW]; exact HC1.out)
  replace HC2 : Hid (W.cell? ⟨bw, ow + j, none⟩ = some (.int .i64 y)) := hid (by rw [hW]; exact HC2.out)
  replace HC3 : Hid (W.cell? ⟨bw, ow + i, none⟩ = some (.int .i64 z)) := hid (by rw [hW]; exact HC3.out)
  replace HX1 : Hid (Boxed W b2 22 (.slice (some ⟨bx, ox, none⟩) xs.length cx)) := hid (by rw [hW]; exact HX1.out)
  replace HX2 : Hid (Boxed W b3 22 (.slice (some ⟨bw, ow, none⟩) ws.length cw)) := hid (by rw [hW]; exact HX2.out)
  replace HX3 : Hid (Boxed W b6 3 (.int .i64 q)) := hid (by rw [hW]; exact HX3.out)
  replace H2 : Hid (W.heap[w.heap.size]? = some (.cells #[.int .i64 0, .int .i64 0] 65 (0, 0))) := hid (by rw [hW]; exact H2.out)
  replace HBL : Hid (Below w.heap.size w W) := hid (by rw [hW]; exact below_drewN HBL.out 1)
  have HL2 := hid (Array.getElem?_eq_some_iff.1 H2.out).1
  refine region_inv (by kernel_rfl) (fun LB act wx => ∃ (s8 s9 s10 s11 s12 s13 s14 s15 s16 s17 s18 s19 s20 s21 s22 s23 s24 s25 s26 s27 s28 : Value), act = ({ tmps := #[.int .i64 (i : Int), .int .i64 (j : Int), .pointer (some ⟨b2, 0, none⟩), .pointer (some ⟨b3, 0, none⟩), .pointer (some ⟨b6, 0, none⟩), undef, undef, .pointer (some ⟨w.heap.size, 0, none⟩), s8, s9, s10, s11, s12, s13, s14, s15, s16, s17, s18, s19, s20, s21, s22, s23, s24, s25, s26, s27, s28], defers := [] } : Act) ∧ RegI 22 [[], [], [0, 1], [], [], [3, 4], [5], [6], [], [], [8, 9], [10], [7, 11], [], [], [13, 14], [15], [12, 16], [], [17, 18], [2, 19], [20]] (W) (fun wy => (wy.setCell ⟨w.heap.size, 0, none⟩ (.int .i64 a2)).setCell ⟨w.heap.size, 1, none⟩ (.int .i64 b2v)) [.int .i64 (i : Int), .int .i64 (j : Int), .agg #[.int .i64 d1, .int .i64 1], .slice (some ⟨bx, ox, none⟩) xs.length cx, .int .i64 (j : Int), .pointer (some ⟨bx, ox + j, none⟩), .int .i64 x, .int .i64 (-2 * x), .slice (some ⟨bw, ow, none⟩) ws.length cw, .int .i64 (j : Int), .pointer (some ⟨bw, ow + j, none⟩), .int .i64 y, .int .i64 (-2 * x * y), .slice (some ⟨bw, ow, none⟩) ws.length cw, .int .i64 (i : Int), .pointer (some ⟨bw, ow + i, none⟩), .int .i64 z, .int .i64 (-2 * x * y * z), .int .i64 q, .agg #[.int .i64 a1, .int .i64 b1], .agg #[.int .i64 a2, .int .i64 b2v], undef] LB wx [s8, s9, s10, s11, s12, s13, s14, s15, s16, s17, s18, s19, s20, s21, s22, s23, s24, s25, s26, s27, s28, undef]) ?h0R ?hendR ?hstepR
  case h0R => exact ⟨_, _, _, _, _, _, _, _, _, _, _, _, _, _, _, _, _, _, _, _, _, rfl, RegI.start rfl rfl hW.symm⟩
  case hstepR =>
    rintro LB act wx i ⟨s8, s9, s10, s11, s12, s13, s14, s15, s16, s17, s18, s19, s20, s21, s22, s23, s24, s25, s26, s27, s28, rfl, I⟩ hi
    obtain ⟨hi1, hf, hdep⟩ := ready_mem hi
    have hi2 : i < 22 := hi1
    have hbw := I.open (by decide) hf hi2
    have hsz := hbw.size
    have HI := hid I
    have HF := hid hf
    have hqH2 := (hbw.block _ HL2.out).trans H2.out
    have cH20 := cellB (i := 0) hqH2
    have cH21 := cellB (i := 1) hqH2
    have HQH2 := hid hqH2
    clear hqH2
    have y0 := frozenB (i := 0) HQH2.out
    have y1 := frozenB (i := 1) HQH2.out
    have k1 := cell_below hbw HC1.out
    have k2 := cell_below hbw HC2.out
    have k3 := cell_below hbw HC3.out
    have k4 := (box_below hbw HX1.out).cell
    have k5 := (box_below hbw HX2.out).cell
    have k6 := (box_below hbw HX3.out).cell
    have HBW := hid hbw
    clear hi hi1 I hf hbw
    have hc : i = 0 ∨ i = 1 ∨ i = 2 ∨ i = 3 ∨ i = 4 ∨ i = 5 ∨ i = 6 ∨ i = 7 ∨ i = 8 ∨ i = 9 ∨ i = 10 ∨ i = 11 ∨ i = 12 ∨ i = 13 ∨ i = 14 ∨ i = 15 ∨ i = 16 ∨ i = 17 ∨ i = 18 ∨ i = 19 ∨ i = 20 ∨ i = 21 := by omega
    clear hi2
    rcases hc with rfl | rfl | rfl | rfl | rfl | rfl | rfl | rfl | rfl | rfl | rfl | rfl | rfl | rfl | rfl | rfl | rfl | rfl | rfl | rfl | rfl | rfl
    · skip
      have hq : ∀ j ∈ ([] : List Nat), dn LB j := fun _ h => absurd h List.not_mem_nil
      clear hdep
      refine wpOp_step rfl (fun K hK => ?_)
      go_simp
      exact hK _ _ ⟨_, _, _, _, _, _, _, _, _, _, _, _, _, _, _, _, _, _, _, _, _, rfl, HI.out.step HF.out (by decide) hq HBW.out rfl (by decide)⟩
    · skip
      have hq : ∀ j ∈ ([] : List Nat), dn LB j := fun _ h => absurd h List.not_mem_nil
      clear hdep
      refine wpOp_step rfl (fun K hK => ?_)
      go_simp
      exact hK _ _ ⟨_, _, _, _, _, _, _, _, _, _, _, _, _, _, _, _, _, _, _, _, _, rfl, HI.out.step HF.out (by decide) hq HBW.out rfl (by decide)⟩
    · skip
      have q0 : dn LB 0 := hdep _ rfl { on := 0, ground := .data } (by simp) rfl
      have q1 : dn LB 1 := hdep _ rfl { on := 1, ground := .data } (by simp) rfl
      have hq : ∀ j ∈ ([0, 1] : List Nat), dn LB j := List.forall_mem_cons.2 ⟨q0, List.forall_mem_cons.2 ⟨q1, fun _ h => absurd h List.not_mem_nil⟩⟩
      clear hdep
      obtain rfl : s8 = .int .i64 (i : Int) := HI.out.val 0 q0
      obtain rfl : s9 = .int .i64 (j : Int) := HI.out.val 1 q1
      refine wpOp_step rfl (fun K hK => ?_)
      go_simp
      go_at_call 53
      refine (HST.out _).mono ?_
      rintro e wP ⟨rfl, hbk⟩
      exact hK _ _ ⟨_, _, _, _, _, _, _, _, _, _, _, _, _, _, _, _, _, _, _, _, _, rfl, HI.out.step HF.out (by decide) hq (HBW.out.trans (hbk.mono hsz)) rfl (by decide)⟩
    · skip
      have hq : ∀ j ∈ ([] : List Nat), dn LB j := fun _ h => absurd h List.not_mem_nil
      clear hdep
      refine wpOp_step rfl (fun K hK => ?_)
      go_simp
      exact hK _ _ ⟨_, _, _, _, _, _, _, _, _, _, _, _, _, _, _, _, _, _, _, _, _, rfl, HI.out.step HF.out (by decide) hq HBW.out rfl (by decide)⟩
    · skip
      have hq : ∀ j ∈ ([] : List Nat), dn LB j := fun _ h => absurd h List.not_mem_nil
      clear hdep
      refine wpOp_step rfl (fun K hK => ?_)
      go_simp
      exact hK _ _ ⟨_, _, _, _, _, _, _, _, _, _, _, _, _, _, _, _, _, _, _, _, _, rfl, HI.out.step HF.out (by decide) hq HBW.out rfl (by decide)⟩
    · skip
      have q3 : dn LB 3 := hdep _ rfl { on := 3, ground := .data } (by simp) rfl
      have q4 : dn LB 4 := hdep _ rfl { on := 4, ground := .data } (by simp) rfl
      have hq : ∀ j ∈ ([3, 4] : List Nat), dn LB j := List.forall_mem_cons.2 ⟨q3, List.forall_mem_cons.2 ⟨q4, fun _ h => absurd h List.not_mem_nil⟩⟩
      clear hdep
      obtain rfl : s11 = .slice (some ⟨bx, ox, none⟩) xs.length cx := HI.out.val 3 q3
      obtain rfl : s12 = .int .i64 (j : Int) := HI.out.val 4 q4
      refine wpOp_step rfl (fun K hK => ?_)
      go_simp
      exact hK _ _ ⟨_, _, _, _, _, _, _, _, _, _, _, _, _, _, _, _, _, _, _, _, _, rfl, HI.out.step HF.out (by decide) hq HBW.out rfl (by decide)⟩
    · skip
      have q5 : dn LB 5 := hdep _ rfl { on := 5, ground := .data } (by simp) rfl
      have hq : ∀ j ∈ ([5] : List Nat), dn LB j := List.forall_mem_cons.2 ⟨q5, fun _ h => absurd h List.not_mem_nil⟩
      clear hdep
      obtain rfl : s13 = .pointer (some ⟨bx, ox + j, none⟩) := HI.out.val 5 q5
      refine wpOp_step rfl (fun K hK => ?_)
      go_simp
      exact hK _ _ ⟨_, _, _, _, _, _, _, _, _, _, _, _, _, _, _, _, _, _, _, _, _, rfl, HI.out.step HF.out (by decide) hq HBW.out rfl (by decide)⟩
    · skip
      have q6 : dn LB 6 := hdep _ rfl { on := 6, ground := .data } (by simp) rfl
      have hq : ∀ j ∈ ([6] : List Nat), dn LB j := List.forall_mem_cons.2 ⟨q6, fun _ h => absurd h List.not_mem_nil⟩
      clear hdep
      obtain rfl : s14 = .int .i64 x := HI.out.val 6 q6
      refine wpOp_step rfl (fun K hK => ?_)
      go_simp
      rw [wrap62 (by omega) (by omega)]
      exact hK _ _ ⟨_, _, _, _, _, _, _, _, _, _, _, _, _, _, _, _, _, _, _, _, _, rfl, HI.out.step HF.out (by decide) hq HBW.out rfl (by decide)⟩
    · skip
      have hq : ∀ j ∈ ([] : List Nat), dn LB j := fun _ h => absurd h List.not_mem_nil
      clear hdep
      refine wpOp_step rfl (fun K hK => ?_)
      go_simp
      exact hK _ _ ⟨_, _, _, _, _, _, _, _, _, _, _, _, _, _, _, _, _, _, _, _, _, rfl, HI.out.step HF.out (by decide) hq HBW.out rfl (by decide)⟩
    · skip
      have hq : ∀ j ∈ ([] : List Nat), dn LB j := fun _ h => absurd h List.not_mem_nil
      clear hdep
      refine wpOp_step rfl (fun K hK => ?_)
      go_simp
      exact hK _ _ ⟨_, _, _, _, _, _, _, _, _, _, _, _, _, _, _, _, _, _, _, _, _, rfl, HI.out.step HF.out (by decide) hq HBW.out rfl (by decide)⟩
    · skip
      have q8 : dn LB 8 := hdep _ rfl { on := 8, ground := .data } (by simp) rfl
      have q9 : dn LB 9 := hdep _ rfl { on := 9, ground := .data } (by simp) rfl
      have hq : ∀ j ∈ ([8, 9] : List Nat), dn LB j := List.forall_mem_cons.2 ⟨q8, List.forall_mem_cons.2 ⟨q9, fun _ h => absurd h List.not_mem_nil⟩⟩
      clear hdep
      obtain rfl : s16 = .slice (some ⟨bw, ow, none⟩) ws.length cw := HI.out.val 8 q8
      obtain rfl : s17 = .int .i64 (j : Int) := HI.out.val 9 q9
      refine wpOp_step rfl (fun K hK => ?_)
      go_simp
      exact hK _ _ ⟨_, _, _, _, _, _, _, _, _, _, _, _, _, _, _, _, _, _, _, _, _, rfl, HI.out.step HF.out (by decide) hq HBW.out rfl (by decide)⟩
    · skip
      have q10 : dn LB 10 := hdep _ rfl { on := 10, ground := .data } (by simp) rfl
      have hq : ∀ j ∈ ([10] : List Nat), dn LB j := List.forall_mem_cons.2 ⟨q10, fun _ h => absurd h List.not_mem_nil⟩
      clear hdep
      obtain rfl : s18 = .pointer (some ⟨bw, ow + j, none⟩) := HI.out.val 10 q10
      refine wpOp_step rfl (fun K hK => ?_)
      go_simp
      exact hK _ _ ⟨_, _, _, _, _, _, _, _, _, _, _, _, _, _, _, _, _, _, _, _, _, rfl, HI.out.step HF.out (by decide) hq HBW.out rfl (by decide)⟩
    · skip
      have q7 : dn LB 7 := hdep _ rfl { on := 7, ground := .data } (by simp) rfl
      have q11 : dn LB 11 := hdep _ rfl { on := 11, ground := .data } (by simp) rfl
      have hq : ∀ j ∈ ([7, 11] : List Nat), dn LB j := List.forall_mem_cons.2 ⟨q7, List.forall_mem_cons.2 ⟨q11, fun _ h => absurd h List.not_mem_nil⟩⟩
      clear hdep
      obtain rfl : s15 = .int .i64 (-2 * x) := HI.out.val 7 q7
      obtain rfl : s19 = .int .i64 y := HI.out.val 11 q11
      refine wpOp_step rfl (fun K hK => ?_)
      go_simp
      rw [wrap62 (by omega) (by omega)]
      exact hK _ _ ⟨_, _, _, _, _, _, _, _, _, _, _, _, _, _, _, _, _, _, _, _, _, rfl, HI.out.step HF.out (by decide) hq HBW.out rfl (by decide)⟩
    · skip
      have hq : ∀ j ∈ ([] : List Nat), dn LB j := fun _ h => absurd h List.not_mem_nil
      clear hdep
      refine wpOp_step rfl (fun K hK => ?_)
      go_simp
      exact hK _ _ ⟨_, _, _, _, _, _, _, _, _, _, _, _, _, _, _, _, _, _, _, _, _, rfl, HI.out.step HF.out (by decide) hq HBW.out rfl (by decide)⟩
    · skip
      have hq : ∀ j ∈ ([] : List Nat), dn LB j := fun _ h => absurd h List.not_mem_nil
      clear hdep
      refine wpOp_step rfl (fun K hK => ?_)
      go_simp
      exact hK _ _ ⟨_, _, _, _, _, _, _, _, _, _, _, _, _, _, _, _, _, _, _, _, _, rfl, HI.out.step HF.out (by decide) hq HBW.out rfl (by decide)⟩
    · skip
      have q13 : dn LB 13 := hdep _ rfl { on := 13, ground := .data } (by simp) rfl
      have q14 : dn LB 14 := hdep _ rfl { on := 14, ground := .data } (by simp) rfl
      have hq : ∀ j ∈ ([13, 14] : List Nat), dn LB j := List.forall_mem_cons.2 ⟨q13, List.forall_mem_cons.2 ⟨q14, fun _ h => absurd h List.not_mem_nil⟩⟩
      clear hdep
      obtain rfl : s21 = .slice (some ⟨bw, ow, none⟩) ws.length cw := HI.out.val 13 q13
      obtain rfl : s22 = .int .i64 (i : Int) := HI.out.val 14 q14
      refine wpOp_step rfl (fun K hK => ?_)
      go_simp
      exact hK _ _ ⟨_, _, _, _, _, _, _, _, _, _, _, _, _, _, _, _, _, _, _, _, _, rfl, HI.out.step HF.out (by decide) hq HBW.out rfl (by decide)⟩
    · skip
      have q15 : dn LB 15 := hdep _ rfl { on := 15, ground := .data } (by simp) rfl
      have hq : ∀ j ∈ ([15] : List Nat), dn LB j := List.forall_mem_cons.2 ⟨q15, fun _ h => absurd h List.not_mem_nil⟩
      clear hdep
      obtain rfl : s23 = .pointer (some ⟨bw, ow + i, none⟩) := HI.out.val 15 q15
      refine wpOp_step rfl (fun K hK => ?_)
      go_simp
      exact hK _ _ ⟨_, _, _, _, _, _, _, _, _, _, _, _, _, _, _, _, _, _, _, _, _, rfl, HI.out.step HF.out (by decide) hq HBW.out rfl (by decide)⟩
    · skip
      have q12 : dn LB 12 := hdep _ rfl { on := 12, ground := .data } (by simp) rfl
      have q16 : dn LB 16 := hdep _ rfl { on := 16, ground := .data } (by simp) rfl
      have hq : ∀ j ∈ ([12, 16] : List Nat), dn LB j := List.forall_mem_cons.2 ⟨q12, List.forall_mem_cons.2 ⟨q16, fun _ h => absurd h List.not_mem_nil⟩⟩
      clear hdep
      obtain rfl : s20 = .int .i64 (-2 * x * y) := HI.out.val 12 q12
      obtain rfl : s24 = .int .i64 z := HI.out.val 16 q16
      refine wpOp_step rfl (fun K hK => ?_)
      go_simp
      rw [wrap62 (by omega) (by omega)]
      exact hK _ _ ⟨_, _, _, _, _, _, _, _, _, _, _, _, _, _, _, _, _, _, _, _, _, rfl, HI.out.step HF.out (by decide) hq HBW.out rfl (by decide)⟩
    · skip
      have hq : ∀ j ∈ ([] : List Nat), dn LB j := fun _ h => absurd h List.not_mem_nil
      clear hdep
      refine wpOp_step rfl (fun K hK => ?_)
      go_simp
      exact hK _ _ ⟨_, _, _, _, _, _, _, _, _, _, _, _, _, _, _, _, _, _, _, _, _, rfl, HI.out.step HF.out (by decide) hq HBW.out rfl (by decide)⟩
    · skip
      have q17 : dn LB 17 := hdep _ rfl { on := 17, ground := .data } (by simp) rfl
      have q18 : dn LB 18 := hdep _ rfl { on := 18, ground := .data } (by simp) rfl
      have hq : ∀ j ∈ ([17, 18] : List Nat), dn LB j := List.forall_mem_cons.2 ⟨q17, List.forall_mem_cons.2 ⟨q18, fun _ h => absurd h List.not_mem_nil⟩⟩
      clear hdep
      obtain rfl : s25 = .int .i64 (-2 * x * y * z) := HI.out.val 17 q17
      obtain rfl : s26 = .int .i64 q := HI.out.val 18 q18
      refine wpOp_step rfl (fun K hK => ?_)
      go_simp
      go_at_call 61
      refine (HFO.out _).mono ?_
      rintro e wP ⟨rfl, hbk⟩
      exact hK _ _ ⟨_, _, _, _, _, _, _, _, _, _, _, _, _, _, _, _, _, _, _, _, _, rfl, HI.out.step HF.out (by decide) hq (HBW.out.trans (hbk.mono hsz)) rfl (by decide)⟩
    · skip
      have q2 : dn LB 2 := hdep _ rfl { on := 2, ground := .data } (by simp) rfl
      have q19 : dn LB 19 := hdep _ rfl { on := 19, ground := .data } (by simp) rfl
      have hq : ∀ j ∈ ([2, 19] : List Nat), dn LB j := List.forall_mem_cons.2 ⟨q2, List.forall_mem_cons.2 ⟨q19, fun _ h => absurd h List.not_mem_nil⟩⟩
      clear hdep
      obtain rfl : s10 = .agg #[.int .i64 d1, .int .i64 1] := HI.out.val 2 q2
      obtain rfl : s27 = .agg #[.int .i64 a1, .int .i64 b1] := HI.out.val 19 q19
      refine wpOp_step rfl (fun K hK => ?_)
      go_simp
      go_at_call 60
      refine (HPL.out _).mono ?_
      rintro e wP ⟨rfl, hbk⟩
      exact hK _ _ ⟨_, _, _, _, _, _, _, _, _, _, _, _, _, _, _, _, _, _, _, _, _, rfl, HI.out.step HF.out (by decide) hq (HBW.out.trans (hbk.mono hsz)) rfl (by decide)⟩
    · skip
      have q20 : dn LB 20 := hdep _ rfl { on := 20, ground := .data } (by simp) rfl
      have hq : ∀ j ∈ ([20] : List Nat), dn LB j := List.forall_mem_cons.2 ⟨q20, fun _ h => absurd h List.not_mem_nil⟩
      clear hdep
      obtain rfl : s28 = .agg #[.int .i64 a2, .int .i64 b2v] := HI.out.val 20 q20
      refine wpOp_step rfl (fun K hK => ?_)
      go_simp
      exact hK _ _ ⟨_, _, _, _, _, _, _, _, _, _, _, _, _, _, _, _, _, _, _, _, _, rfl, HI.out.last HF.out rfl (by decide) hq HBW.out rfl rfl⟩
  case hendR =>
    rintro LB act wx ⟨s8, s9, s10, s11, s12, s13, s14, s15, s16, s17, s18, s19, s20, s21, s22, s23, s24, s25, s26, s27, s28, rfl, I⟩ hrd
    have D := all_done2 I.hs (by kernel_rfl) hrd
    obtain ⟨wy, hby, rfl⟩ := I.he (D 21 (by decide))
    have hq := (hby.block _ HL2.out).trans H2.out
    have HBF := hid (HBL.out.trans (hby.mono HBL.out.size))
    have HQ := hid hq
    clear I D hrd hby hq
    go_wp2_with fail
    refine bodyPost_ret (results_cell_row rfl _ _ w.heap.size 65 #[_, _] (0, 0) _ rfl (heap_two1 (heap_two0 HQ.out)) Try.underlying65 rfl (by kernel_rfl)) rfl ?_
    exact ⟨_, _, rfl, HFR.out, (HBF.out.setCell (Nat.le_refl _) _).setCell (Nat.le_refl _) _⟩

set_option maxRecDepth 100000 in
set_option maxHeartbeats 8000000 in
theorem backAt_any (b2 bm : Nat) (vf va : Value) (xs : List Int) (R : List (List Int)) (d all : Int) (i j : Nat) (w : World) (hx1 : Boxed w b2 22 vf) (hm : MvAt w bm va d) (hf : Rd w vf xs) (hR : RdM w va R) (hs : Sq xs.length R) (h3 : xs.length ≤ 3) (hi : i < xs.length) (hj : j < xs.length) (bx30 : ∀ k, k < xs.length → (-30 ≤ fF xs k ∧ fF xs k ≤ 30) ∧ fF xs k ≠ 0) (hb : ∀ i j, i < xs.length → j < xs.length → -1000000 ≤ at2 R i j ∧ at2 R i j ≤ 1000000) (d1 : 1 ≤ d) (d2 : d ≤ 10000) (hall : ∀ k, k < xs.length → fF xs k * all.tdiv (fF xs k) = all) :
    Calls Try.prog 65 #[.int .i64 (i : Int), .int .i64 (j : Int), .pointer (some ⟨b2, 0, none⟩), .pointer (some ⟨bm, 0, none⟩)] w fun e w' => ∃ a b, e = .returned (frV a b) ∧ Fr a b (backF (fF xs) all (at2 R) i j) (d * all) ∧ Below w.heap.size w w' := by
  obtain ⟨bx, ox, cx, rfl, hcx⟩ := rd_cells hf (by omega)
  have g1 := hcx j hj
  have g2 := hcx i hi
  obtain ⟨x, hx⟩ : ∃ x, x = fF xs j := ⟨_, rfl⟩
  obtain ⟨y, hy⟩ : ∃ y, y = fF xs i := ⟨_, rfl⟩
  rw [show xs.getD j 0 = x from hx.symm] at g1
  rw [show xs.getD i 0 = y from hy.symm] at g2
  have m0 := bx30 j hj
  have m1 := bx30 i hi
  rw [← hx] at m0
  rw [← hy] at m1
  obtain ⟨⟨m01, m02⟩, _⟩ := m0
  obtain ⟨⟨m11, m12⟩, m13⟩ := m1
  have ha := hb j i hj hi
  have HAT := hid (fun (w' : World) (h : Below w.heap.size w w') => mvAt_any bm va R d xs.length j i w' (hm.keep h) (hR.keep h) hs hj hi (by omega) (by unfold B15; omega) d1 d2)
  have hfa := fr_of (n := at2 R j i) (d := d) (by omega)
  have HFO := hid (fun w => fractionOf_any x y (by unfold B15; omega) (by unfold B15; omega) m13 w)
  have hfo := fr_of (n := x) (d := y) m13
  have hfull : x * at2 R j i * (d * all) = backF (fF xs) all (at2 R) i j * (y * d) := by
    have e := hall i hi
    unfold backF
    rw [← hx]
    rw [← hy] at e ⊢
    have e2 : at2 R j i * x * all.tdiv y * (y * d) = at2 R j i * x * d * (y * all.tdiv y) := by grind
    rw [e2, e]
    grind
  generalize backF (fF xs) all (at2 R) i j = BF at *
  generalize at2 R j i = r at *
  generalize numF r d = a2 at *
  generalize denF r d = b2v at *
  generalize numF x y = a1 at *
  generalize denF x y = b1 at *
  have p1 := hfo.pos
  have p2 := hfa.pos
  have q1 := hfo.num_bd (m := 30) m13 (by omega) m01 m02
  have q2 := hfa.num_bd (m := 1000000) (by omega) (by omega) ha.1 ha.2
  have q3 := hfo.den_bd (m := 30) m13 m11 m12
  have q4 := hfa.den_bd (m := 10000) (by omega) (by omega) d2
  have t1 := mul_bd12 (x := a1) (y := a2) (by omega) (by omega)
  have t2 := mul_bd12 (x := b1) (y := b2v) (by omega) (by omega)
  have HTM := hid (fun w => frTimes_any a1 b1 a2 b2v p1 p2 (by unfold B15; omega) (by unfold B15; omega) w)
  have hft := fr_times hfo hfa (fr_of (n := a1 * a2) (d := b1 * b2v) (Int.mul_ne_zero (by omega) (by omega)))
  have HFR := hid (hft.change (Int.mul_ne_zero m13 (by omega)) hfull)
  generalize numF (a1 * a2) (b1 * b2v) = a3 at *
  generalize denF (a1 * a2) (b1 * b2v) = b3v at *
  have hbl : Below w.heap.size w (w.alloc (.cells #[.int .i64 0, .int .i64 0] 65)) := below_box2 _ _
  have HC1 := hid (cell_below hbl g1)
  have HC2 := hid (cell_below hbl g2)
  have HX1 := hid (box_below hbl hx1)
  have H2 : Hid ((w.alloc (.cells #[.int .i64 0, .int .i64 0] 65)).heap[w.heap.size]? = some (.cells #[.int .i64 0, .int .i64 0] 65 (0, 0))) := hid (heap_new rfl)
  have HBL := hid hbl
  have hi1 : (i : Int) < (xs.length : Int) := by omega
  have hj1 : (j : Int) < (xs.length : Int) := by omega
  clear hf hcx g1 g2 hx hy bx30 hfull hfo hfa hft hx1 hbl hi hj hall hb ha hm hR hs p1 p2 q1 q2 q3 q4 t1 t2
  go_enter Try.func65, Try.ntmps65
  go_wp2_with fail
  obtain ⟨W, hW⟩ : ∃ W, W = (w.alloc (.cells #[.int .i64 0, .int .i64 0] 65)).drew := ⟨_, rfl⟩
  replace HC1 : Hid (W.cell? ⟨bx, ox + j, none⟩ = some (.int .i64 x)) := hid (by rw [hW]; exact HC1.out)
  replace HC2 : Hid (W.cell? ⟨bx, ox + i, none⟩ = some (.int .i64 y)) := hid (by rw [hW]; exact HC2.out)
  replace HX1 : Hid (Boxed W b2 22 (.slice (some ⟨bx, ox, none⟩) xs.length cx)) := hid (by rw [hW]; exact HX1.out)
  replace H2 : Hid (W.heap[w.heap.size]? = some (.cells #[.int .i64 0, .int .i64 0] 65 (0, 0))) := hid (by rw [hW]; exact H2.out)
  replace HBL : Hid (Below w.heap.size w W) := hid (by rw [hW]; exact below_drewN HBL.out 1)
  have HL2 := hid (Array.getElem?_eq_some_iff.1 H2.out).1
  refine region_inv (by kernel_rfl) (fun LB act wx => ∃ (s7 s8 s9 s10 s11 s12 s13 s14 s15 s16 s17 s18 s19 : Value), act = ({ tmps := #[.int .i64 (i : Int), .int .i64 (j : Int), .pointer (some ⟨b2, 0, none⟩), .pointer (some ⟨bm, 0, none⟩), undef, undef, .pointer (some ⟨w.heap.size, 0, none⟩), s7, s8, s9, s10, s11, s12, s13, s14, s15, s16, s17, s18, s19], defers := [] } : Act) ∧ RegI 14 [[], [], [0, 1], [2], [], [], [4, 5], [6], [3, 7], [], [], [9, 10], [8, 11], [12]] (W) (fun wy => (wy.setCell ⟨w.heap.size, 0, none⟩ (.int .i64 a3)).setCell ⟨w.heap.size, 1, none⟩ (.int .i64 b3v)) [.slice (some ⟨bx, ox, none⟩) xs.length cx, .int .i64 (j : Int), .pointer (some ⟨bx, ox + j, none⟩), .int .i64 x, .slice (some ⟨bx, ox, none⟩) xs.length cx, .int .i64 (i : Int), .pointer (some ⟨bx, ox + i, none⟩), .int .i64 y, .agg #[.int .i64 a1, .int .i64 b1], .int .i64 (j : Int), .int .i64 (i : Int), .agg #[.int .i64 a2, .int .i64 b2v], .agg #[.int .i64 a3, .int .i64 b3v], undef] LB wx [s7, s8, s9, s10, s11, s12, s13, s14, s15, s16, s17, s18, s19, undef]) ?h0R ?hendR ?hstepR
  case h0R => exact ⟨_, _, _, _, _, _, _, _, _, _, _, _, _, rfl, RegI.start rfl rfl hW.symm⟩
  case hstepR =>
    rintro LB act wx i ⟨s7, s8, s9, s10, s11, s12, s13, s14, s15, s16, s17, s18, s19, rfl, I⟩ hi
    obtain ⟨hi1, hf, hdep⟩ := ready_mem hi
    have hi2 : i < 14 := hi1
    have hbw := I.open (by decide) hf hi2
    have hsz := hbw.size
    have HI := hid I
    have HF := hid hf
    have hqH2 := (hbw.block _ HL2.out).trans H2.out
    have cH20 := cellB (i := 0) hqH2
    have cH21 := cellB (i := 1) hqH2
    have HQH2 := hid hqH2
    clear hqH2
    have y0 := frozenB (i := 0) HQH2.out
    have y1 := frozenB (i := 1) HQH2.out
    have k1 := cell_below hbw HC1.out
    have k2 := cell_below hbw HC2.out
    have k4 := (box_below hbw HX1.out).cell
    have HBW := hid hbw
    clear hi hi1 I hf hbw
    have hc : i = 0 ∨ i = 1 ∨ i = 2 ∨ i = 3 ∨ i = 4 ∨ i = 5 ∨ i = 6 ∨ i = 7 ∨ i = 8 ∨ i = 9 ∨ i = 10 ∨ i = 11 ∨ i = 12 ∨ i = 13 := by omega
    clear hi2
    rcases hc with rfl | rfl | rfl | rfl | rfl | rfl | rfl | rfl | rfl | rfl | rfl | rfl | rfl | rfl
    · skip
      have hq : ∀ j ∈ ([] : List Nat), dn LB j := fun _ h => absurd h List.not_mem_nil
      clear hdep
      refine wpOp_step rfl (fun K hK => ?_)
      go_simp
      exact hK _ _ ⟨_, _, _, _, _, _, _, _, _, _, _, _, _, rfl, HI.out.step HF.out (by decide) hq HBW.out rfl (by decide)⟩
    · skip
      have hq : ∀ j ∈ ([] : List Nat), dn LB j := fun _ h => absurd h List.not_mem_nil
      clear hdep
      refine wpOp_step rfl (fun K hK => ?_)
      go_simp
      exact hK _ _ ⟨_, _, _, _, _, _, _, _, _, _, _, _, _, rfl, HI.out.step HF.out (by decide) hq HBW.out rfl (by decide)⟩
    · skip
      have q0 : dn LB 0 := hdep _ rfl { on := 0, ground := .data } (by simp) rfl
      have q1 : dn LB 1 := hdep _ rfl { on := 1, ground := .data } (by simp) rfl
      have hq : ∀ j ∈ ([0, 1] : List Nat), dn LB j := List.forall_mem_cons.2 ⟨q0, List.forall_mem_cons.2 ⟨q1, fun _ h => absurd h List.not_mem_nil⟩⟩
      clear hdep
      obtain rfl : s7 = .slice (some ⟨bx, ox, none⟩) xs.length cx := HI.out.val 0 q0
      obtain rfl : s8 = .int .i64 (j : Int) := HI.out.val 1 q1
      refine wpOp_step rfl (fun K hK => ?_)
      go_simp
      exact hK _ _ ⟨_, _, _, _, _, _, _, _, _, _, _, _, _, rfl, HI.out.step HF.out (by decide) hq HBW.out rfl (by decide)⟩
    · skip
      have q2 : dn LB 2 := hdep _ rfl { on := 2, ground := .data } (by simp) rfl
      have hq : ∀ j ∈ ([2] : List Nat), dn LB j := List.forall_mem_cons.2 ⟨q2, fun _ h => absurd h List.not_mem_nil⟩
      clear hdep
      obtain rfl : s9 = .pointer (some ⟨bx, ox + j, none⟩) := HI.out.val 2 q2
      refine wpOp_step rfl (fun K hK => ?_)
      go_simp
      exact hK _ _ ⟨_, _, _, _, _, _, _, _, _, _, _, _, _, rfl, HI.out.step HF.out (by decide) hq HBW.out rfl (by decide)⟩
    · skip
      have hq : ∀ j ∈ ([] : List Nat), dn LB j := fun _ h => absurd h List.not_mem_nil
      clear hdep
      refine wpOp_step rfl (fun K hK => ?_)
      go_simp
      exact hK _ _ ⟨_, _, _, _, _, _, _, _, _, _, _, _, _, rfl, HI.out.step HF.out (by decide) hq HBW.out rfl (by decide)⟩
    · skip
      have hq : ∀ j ∈ ([] : List Nat), dn LB j := fun _ h => absurd h List.not_mem_nil
      clear hdep
      refine wpOp_step rfl (fun K hK => ?_)
      go_simp
      exact hK _ _ ⟨_, _, _, _, _, _, _, _, _, _, _, _, _, rfl, HI.out.step HF.out (by decide) hq HBW.out rfl (by decide)⟩
    · skip
      have q4 : dn LB 4 := hdep _ rfl { on := 4, ground := .data } (by simp) rfl
      have q5 : dn LB 5 := hdep _ rfl { on := 5, ground := .data } (by simp) rfl
      have hq : ∀ j ∈ ([4, 5] : List Nat), dn LB j := List.forall_mem_cons.2 ⟨q4, List.forall_mem_cons.2 ⟨q5, fun _ h => absurd h List.not_mem_nil⟩⟩
      clear hdep
      obtain rfl : s11 = .slice (some ⟨bx, ox, none⟩) xs.length cx := HI.out.val 4 q4
      obtain rfl : s12 = .int .i64 (i : Int) := HI.out.val 5 q5
      refine wpOp_step rfl (fun K hK => ?_)
      go_simp
      exact hK _ _ ⟨_, _, _, _, _, _, _, _, _, _, _, _, _, rfl, HI.out.step HF.out (by decide) hq HBW.out rfl (by decide)⟩
    · skip
      have q6 : dn LB 6 := hdep _ rfl { on := 6, ground := .data } (by simp) rfl
      have hq : ∀ j ∈ ([6] : List Nat), dn LB j := List.forall_mem_cons.2 ⟨q6, fun _ h => absurd h List.not_mem_nil⟩
      clear hdep
      obtain rfl : s13 = .pointer (some ⟨bx, ox + i, none⟩) := HI.out.val 6 q6
      refine wpOp_step rfl (fun K hK => ?_)
      go_simp
      exact hK _ _ ⟨_, _, _, _, _, _, _, _, _, _, _, _, _, rfl, HI.out.step HF.out (by decide) hq HBW.out rfl (by decide)⟩
    · skip
      have q3 : dn LB 3 := hdep _ rfl { on := 3, ground := .data } (by simp) rfl
      have q7 : dn LB 7 := hdep _ rfl { on := 7, ground := .data } (by simp) rfl
      have hq : ∀ j ∈ ([3, 7] : List Nat), dn LB j := List.forall_mem_cons.2 ⟨q3, List.forall_mem_cons.2 ⟨q7, fun _ h => absurd h List.not_mem_nil⟩⟩
      clear hdep
      obtain rfl : s10 = .int .i64 x := HI.out.val 3 q3
      obtain rfl : s14 = .int .i64 y := HI.out.val 7 q7
      refine wpOp_step rfl (fun K hK => ?_)
      go_simp
      go_at_call 61
      refine (HFO.out _).mono ?_
      rintro e wP ⟨rfl, hbk⟩
      exact hK _ _ ⟨_, _, _, _, _, _, _, _, _, _, _, _, _, rfl, HI.out.step HF.out (by decide) hq (HBW.out.trans (hbk.mono hsz)) rfl (by decide)⟩
    · skip
      have hq : ∀ j ∈ ([] : List Nat), dn LB j := fun _ h => absurd h List.not_mem_nil
      clear hdep
      refine wpOp_step rfl (fun K hK => ?_)
      go_simp
      exact hK _ _ ⟨_, _, _, _, _, _, _, _, _, _, _, _, _, rfl, HI.out.step HF.out (by decide) hq HBW.out rfl (by decide)⟩
    · skip
      have hq : ∀ j ∈ ([] : List Nat), dn LB j := fun _ h => absurd h List.not_mem_nil
      clear hdep
      refine wpOp_step rfl (fun K hK => ?_)
      go_simp
      exact hK _ _ ⟨_, _, _, _, _, _, _, _, _, _, _, _, _, rfl, HI.out.step HF.out (by decide) hq HBW.out rfl (by decide)⟩
    · skip
      have q9 : dn LB 9 := hdep _ rfl { on := 9, ground := .data } (by simp) rfl
      have q10 : dn LB 10 := hdep _ rfl { on := 10, ground := .data } (by simp) rfl
      have hq : ∀ j ∈ ([9, 10] : List Nat), dn LB j := List.forall_mem_cons.2 ⟨q9, List.forall_mem_cons.2 ⟨q10, fun _ h => absurd h List.not_mem_nil⟩⟩
      clear hdep
      obtain rfl : s16 = .int .i64 (j : Int) := HI.out.val 9 q9
      obtain rfl : s17 = .int .i64 (i : Int) := HI.out.val 10 q10
      refine wpOp_step rfl (fun K hK => ?_)
      go_simp
      go_at_call 67
      refine (HAT.out _ (HBL.out.trans (HBW.out.mono HBL.out.size))).mono ?_
      rintro e wP ⟨rfl, hbk⟩
      exact hK _ _ ⟨_, _, _, _, _, _, _, _, _, _, _, _, _, rfl, HI.out.step HF.out (by decide) hq (HBW.out.trans (hbk.mono hsz)) rfl (by decide)⟩
    · skip
      have q8 : dn LB 8 := hdep _ rfl { on := 8, ground := .data } (by simp) rfl
      have q11 : dn LB 11 := hdep _ rfl { on := 11, ground := .data } (by simp) rfl
      have hq : ∀ j ∈ ([8, 11] : List Nat), dn LB j := List.forall_mem_cons.2 ⟨q8, List.forall_mem_cons.2 ⟨q11, fun _ h => absurd h List.not_mem_nil⟩⟩
      clear hdep
      obtain rfl : s15 = .agg #[.int .i64 a1, .int .i64 b1] := HI.out.val 8 q8
      obtain rfl : s18 = .agg #[.int .i64 a2, .int .i64 b2v] := HI.out.val 11 q11
      refine wpOp_step rfl (fun K hK => ?_)
      go_simp
      go_at_call 66
      refine (HTM.out _).mono ?_
      rintro e wP ⟨rfl, hbk⟩
      exact hK _ _ ⟨_, _, _, _, _, _, _, _, _, _, _, _, _, rfl, HI.out.step HF.out (by decide) hq (HBW.out.trans (hbk.mono hsz)) rfl (by decide)⟩
    · skip
      have q12 : dn LB 12 := hdep _ rfl { on := 12, ground := .data } (by simp) rfl
      have hq : ∀ j ∈ ([12] : List Nat), dn LB j := List.forall_mem_cons.2 ⟨q12, fun _ h => absurd h List.not_mem_nil⟩
      clear hdep
      obtain rfl : s19 = .agg #[.int .i64 a3, .int .i64 b3v] := HI.out.val 12 q12
      refine wpOp_step rfl (fun K hK => ?_)
      go_simp
      exact hK _ _ ⟨_, _, _, _, _, _, _, _, _, _, _, _, _, rfl, HI.out.last HF.out rfl (by decide) hq HBW.out rfl rfl⟩
  case hendR =>
    rintro LB act wx ⟨s7, s8, s9, s10, s11, s12, s13, s14, s15, s16, s17, s18, s19, rfl, I⟩ hrd
    have D := all_done2 I.hs (by kernel_rfl) hrd
    obtain ⟨wy, hby, rfl⟩ := I.he (D 13 (by decide))
    have hq := (hby.block _ HL2.out).trans H2.out
    have HBF := hid (HBL.out.trans (hby.mono HBL.out.size))
    have HQ := hid hq
    clear I D hrd hby hq
    go_wp2_with fail
    refine bodyPost_ret (results_cell_row rfl _ _ w.heap.size 65 #[_, _] (0, 0) _ rfl (heap_two1 (heap_two0 HQ.out)) Try.underlying65 rfl (by kernel_rfl)) rfl ?_
    exact ⟨_, _, rfl, HFR.out, (HBF.out.setCell (Nat.le_refl _) _).setCell (Nat.le_refl _) _⟩

end Go.Proofs.Ytjabklpnohfjpab

/-! MpK -/
set_option linter.unusedVariables false
namespace Go.Proofs.Ytjabklpnohfjpab
open Go.RowKit

theorem vec_is {xs vs : List Int} {m : Int} (h : fvB xs = true) : vecB xs vs m = (inAll vs m && decide ((vs.length : Int) = (xs.length : Int))) := by
  rw [vecB_in, h, Bool.true_and]
  congr 1
  rw [Bool.eq_iff_iff, beq_iff_eq, decide_eq_true_eq]
  omega
theorem fF_form {xs : List Int} (h : fvB xs = true) {k : Nat} (hk : k < xs.length) : (-30 ≤ fF xs k ∧ fF xs k ≤ 30) ∧ fF xs k ≠ 0 := by
  have := (fvB_iff.1 h).1 (xs[k]) (List.getElem_mem _)
  unfold fF
  rw [List.getD_eq_getElem?_getD, List.getElem?_eq_getElem hk]
  exact ⟨this.2, this.1⟩

theorem mir_made {xs ws : List Int} (hf : fvB xs = true) (h3 : xs.length ≤ 3) (hv : vecB xs ws 1000 = true) (h0 : valI xs ws xs.length ≠ 0) : mirV xs ws = madeV xs.length (mirF (fF xs) (fF ws) (valI xs ws xs.length)) (valI xs ws xs.length) := by
  have hm : frm3B xs = true := by unfold frm3B; rw [hf, decide_eq_true h3]; rfl
  rw [made_tidy hf h3 h0 (by rw [val_pr]; exact mir_orth _ _ _)]
  unfold mirV
  rw [hm, hv, decide_eq_false h0]
  rfl
set_option maxRecDepth 100000 in
set_option maxHeartbeats 4000000 in
theorem moveMirror_any (vf vw : Value) (xs ws : List Int) (w : World) (hx : Rd w vf xs) (hw : Rd w vw ws) : Calls Try.prog 26 #[vf, vw] w (MovePost (mirV xs ws) w) := by
  obtain ⟨ax, cx, rfl, _⟩ := hx.form
  obtain ⟨aw, cw, rfl, _⟩ := hw.form
  have hbl : Below w.heap.size w (((w.alloc (.cells #[.slice ax xs.length cx] 22)).alloc (.cells #[.slice aw ws.length cw] 22)).alloc (.cells #[.slice none 0 0, .int .i64 0] 29)) := ((below_box2 _ _).alloc (by simp) _).alloc (by simp; omega) _
  have HX := hid (hx.keep hbl)
  have HW := hid (hw.keep hbl)
  have HB := hid hbl
  have HR : Hid ((((w.alloc (.cells #[.slice ax xs.length cx] 22)).alloc (.cells #[.slice aw ws.length cw] 22)).alloc (.cells #[.slice none 0 0, .int .i64 0] 29)).heap[w.heap.size + 1 + 1]? = some (.cells #[.slice none 0 0, .int .i64 0] 29 (0, 0))) := hid (heap_new (by simp))
  have H1 : Hid (Boxed (((w.alloc (.cells #[.slice ax xs.length cx] 22)).alloc (.cells #[.slice aw ws.length cw] 22)).alloc (.cells #[.slice none 0 0, .int .i64 0] 29)) w.heap.size 22 (.slice ax xs.length cx)) := hid (heap_up (heap_up (heap_new rfl)))
  have H2 : Hid (Boxed (((w.alloc (.cells #[.slice ax xs.length cx] 22)).alloc (.cells #[.slice aw ws.length cw] 22)).alloc (.cells #[.slice none 0 0, .int .i64 0] 29)) (w.heap.size + 1) 22 (.slice aw ws.length cw)) := hid (heap_up (heap_new (by simp)))
  clear hx hw hbl
  cases hf : frm3B xs with
  | false =>
    have HF := hid hf
    have HE : Hid (mirV xs ws = none) := hid (by unfold mirV; rw [hf]; rfl)
    clear hf
    go_enter Try.func26, Try.ntmps26
    go_wp2_with (go_at_call 51; refine (movable_any _ xs _ HX.out).mono ?_; rw [HF.out]; rintro e w' ⟨rfl, rfl⟩)
    refine bodyPost_ret (v := .tuple #[.agg #[.slice none 0 0, .int .i64 0], .bool false]) (by simp [results, Try.results26, go_sem] <;> go_simp) rfl ?_
    rw [HE.out]
    first | exact ⟨_, rfl, ownM_nil _ _ _, HB.out⟩ | exact movePost_none HB.out (by first | omega | (simp; omega) | simp) _ _
  | true =>
    have HF := hid hf
    have hf2 : fvB xs = true ∧ xs.length ≤ 3 := by unfold frm3B at hf; rwa [Bool.and_eq_true, decide_eq_true_eq] at hf
    have HF2 := hid hf2
    have hvi := vec_is (vs := ws) (m := 1000) hf2.1
    cases hv : vecB xs ws 1000 with
    | false =>
      have HE : Hid (mirV xs ws = none) := hid (by unfold mirV; rw [hf, hv]; rfl)
      rw [hv] at hvi
      have HV := hid hvi.symm
      clear hf hf2 hvi hv
      go_enter Try.func26, Try.ntmps26
      go_wp2_with (first | (go_at_call 51; refine (movable_any _ xs _ HX.out).mono ?_; rw [HF.out]; rintro e w' ⟨rfl, rfl⟩) | (go_at_call 57; refine (vectorWithin_any _ ws _ _ (by omega) (by omega) _ HW.out).mono ?_; rw [HV.out]; rintro e w' ⟨rfl, rfl⟩))
      refine bodyPost_ret (v := .tuple #[.agg #[.slice none 0 0, .int .i64 0], .bool false]) (by simp [results, Try.results26, go_sem] <;> go_simp) rfl ?_
      rw [HE.out]
      first | exact ⟨_, rfl, ownM_nil _ _ _, HB.out⟩ | exact movePost_none HB.out (by first | omega | (simp; omega) | simp) _ _
    | true =>
      have hvb := vecB_iff.1 hv
      have HL := hid hvb.2.2
      have hwb : ∀ k, k < xs.length → -1000 ≤ fF ws k ∧ fF ws k ≤ 1000 := fun k hk => fF_bd (m := 1000) (by omega) (fun v h => hvb.1 v h) k
      have hvl := val_bd3 (m := 1000) (by omega) hf2.1 hf2.2 hwb
      have H6 : Hid (Vec6 ws) := hid (vec6_vecB hv (by omega))
      rw [hv] at hvi
      have HV := hid hvi.symm
      obtain ⟨q, hq⟩ : ∃ q, q = valI xs ws xs.length := ⟨_, rfl⟩
      have HPQ : Hid (pairI xs ws ws xs.length = q) := hid (by rw [pair_self, hq])
      rw [← hq] at hvl
      by_cases h0 : q = 0
      · have HE : Hid (mirV xs ws = none) := hid (by unfold mirV; rw [← hq, hf, hv, h0]; rfl)
        have T : (q == 0) = true := by rw [beq_iff_eq]; exact h0
        clear hf hf2 hvi hv hvb hwb hvl h0 hq
        go_enter Try.func26, Try.ntmps26
        go_wp2_with (first | (go_at_call 51; refine (movable_any _ xs _ HX.out).mono ?_; rw [HF.out]; rintro e w' ⟨rfl, rfl⟩) | (go_at_call 57; refine (vectorWithin_any _ ws _ _ (by omega) (by omega) _ HW.out).mono ?_; rw [HV.out]; rintro e w' ⟨rfl, rfl⟩))
        refine (pairAt_any _ _ _ xs ws ws _ HX.out HW.out HW.out HF2.out.1 H6.out H6.out HL.out HL.out).mono ?_
        rw [HPQ.out]
        rintro e w' ⟨rfl, k, rfl⟩
        go_wp2_with fail
        refine bodyPost_ret (v := .tuple #[.agg #[.slice none 0 0, .int .i64 0], .bool false]) (by simp [results, Try.results26, go_sem] <;> go_simp) rfl ?_
        rw [HE.out]
        first | exact ⟨_, rfl, ownM_nil _ _ _, (((below_drewN HB.out k).setCell (by show w.heap.size ≤ w.heap.size + 1 + 1; omega) _).setCell (by show w.heap.size ≤ w.heap.size + 1 + 1; omega) _).alloc (by simp; omega) _⟩ | exact ⟨_, rfl, ownM_nil _ _ _, HB.out⟩ | exact movePost_none HB.out (by first | exact ⟨_, rfl, ownM_nil _ _ _, (((below_drewN HB.out k).setCell (by show w.heap.size ≤ w.heap.size + 1 + 1; omega) _).setCell (by show w.heap.size ≤ w.heap.size + 1 + 1; omega) _).alloc (by simp; omega) _⟩ | omega | (simp; omega) | simp) _ _
      · have T : (q == 0) = false := beq_eq_false_iff_ne.2 h0
        have HE := hid (mir_made hf2.1 hf2.2 hv (by rw [← hq]; exact h0))
        rw [← hq] at HE
        have hfb := fun k hk => (fF_form hf2.1 (k := k) hk).1
        have HMO := hid (fun (w' : World) (b2 b3 b6 : Nat) (h1 : Boxed w' b2 22 (.slice ax xs.length cx)) (h2 : Boxed w' b3 22 (.slice aw ws.length cw)) (h3 : Boxed w' b6 3 (.int .i64 q)) (h4 : Rd w' (.slice ax xs.length cx) xs) (h5 : Rd w' (.slice aw ws.length cw) ws) => moveOf_any xs.length (form_n3 hf2.1 hf2.2) 59 #[.pointer (some ⟨b2, 0, none⟩), .pointer (some ⟨b3, 0, none⟩), .pointer (some ⟨b6, 0, none⟩)] (mirF (fF xs) (fF ws) q) q h0 (by unfold B14; omega) (fun i j hi hj => by
          obtain ⟨_, _, g⟩ := mirr_bd (hfb j hj) (hwb j hj) (hwb i hi)
          unfold B14 mirF
          split <;> omega) w' (enters_of Try.func59 (by kernel_rfl) rfl) (fun i j w'' hi hj hb => mirrorAt_any b2 b3 b6 _ _ xs ws q i j w'' (box_below hb h1) (box_below hb h2) (box_below hb h3) (h4.keep hb) (h5.keep hb) hvb.2.2 hf2.2 hi hj hfb hwb h0 (by omega)))
        rw [← HE.out] at HMO
        have HW4 : Hid (∀ k, Boxed (((((w.alloc (.cells #[.slice ax xs.length cx] 22)).alloc (.cells #[.slice aw ws.length cw] 22)).alloc (.cells #[.slice none 0 0, .int .i64 0] 29)).drewN k).alloc (.cells #[.int .i64 q] 3)) (w.heap.size + 1 + 1 + 1) 3 (.int .i64 q)) := hid (fun k => heap_new (by simp))
        have HB4 : Hid (∀ k, Below (((w.alloc (.cells #[.slice ax xs.length cx] 22)).alloc (.cells #[.slice aw ws.length cw] 22)).alloc (.cells #[.slice none 0 0, .int .i64 0] 29)).heap.size (((w.alloc (.cells #[.slice ax xs.length cx] 22)).alloc (.cells #[.slice aw ws.length cw] 22)).alloc (.cells #[.slice none 0 0, .int .i64 0] 29)) (((((w.alloc (.cells #[.slice ax xs.length cx] 22)).alloc (.cells #[.slice aw ws.length cw] 22)).alloc (.cells #[.slice none 0 0, .int .i64 0] 29)).drewN k).alloc (.cells #[.int .i64 q] 3))) := hid (fun k => (below_drewN (Below.refl _ (((w.alloc (.cells #[.slice ax xs.length cx] 22)).alloc (.cells #[.slice aw ws.length cw] 22)).alloc (.cells #[.slice none 0 0, .int .i64 0] 29))) k).alloc (show (((w.alloc (.cells #[.slice ax xs.length cx] 22)).alloc (.cells #[.slice aw ws.length cw] 22)).alloc (.cells #[.slice none 0 0, .int .i64 0] 29)).heap.size ≤ ((((w.alloc (.cells #[.slice ax xs.length cx] 22)).alloc (.cells #[.slice aw ws.length cw] 22)).alloc (.cells #[.slice none 0 0, .int .i64 0] 29)).drewN k).heap.size from Nat.le_refl _) _)
        clear hf hf2 hvi hv hvb hwb hvl h0 hq hfb
        go_enter Try.func26, Try.ntmps26
        go_wp2_with (first | (go_at_call 51; refine (movable_any _ xs _ HX.out).mono ?_; rw [HF.out]; rintro e w' ⟨rfl, rfl⟩) | (go_at_call 57; refine (vectorWithin_any _ ws _ _ (by omega) (by omega) _ HW.out).mono ?_; rw [HV.out]; rintro e w' ⟨rfl, rfl⟩))
        refine (pairAt_any _ _ _ xs ws ws _ HX.out HW.out HW.out HF2.out.1 H6.out H6.out HL.out HL.out).mono ?_
        rw [HPQ.out]
        rintro e w' ⟨rfl, k, rfl⟩
        go_wp2_with fail
        have hb4 := HB4.out k
        have HR := hid (heap_below hb4 HR.out)
        have HB := hid (HB.out.trans (hb4.mono HB.out.size))
        refine (HMO.out _ _ _ _ (box_below hb4 H1.out) (box_below hb4 H2.out) (HW4.out k) (HX.out.keep hb4) (HW.out.keep hb4)).mono ?_
        clear hb4
        rintro e w2 hp
        obtain ⟨R2, d2, b2, au, cu, rfl, ho, hb2, HE2⟩ := movePost_un hp
        have HO := hid ho
        have hq := heap_below hb2 HR.out
        have z0 := cellB (i := 0) hq
        have z1 := cellB (i := 1) hq
        have y0 := frozenB (i := 0) hq
        have y1 := frozenB (i := 1) hq
        have HB2 := hid (HB.out.trans (hb2.mono HB.out.size))
        clear ho hb2 hq hp
        go_wp2_with fail
        refine bodyPost_ret (v := .tuple #[.agg #[.slice au R2.length cu, .int .i64 d2], .bool b2]) (by simp [results, Try.results26, go_sem] <;> go_simp) rfl ?_
        exact movePost_o HO.out HB2.out (by first | omega | (simp; omega) | simp) (by first | omega | (simp; omega) | simp) _ _ HE2.out

--TIMES
end Go.Proofs.Ytjabklpnohfjpab
