/-
  Contracts of the program's chapter 4: a form behind its interface, and the map of its invariants.
-/
import Derived.Test.YtdclmjmefkgbbabQBun39
import Derived.Maps.OwnSet
import Derived.Maps.Views
set_option linter.unusedVariables false
namespace Go.Proofs.Ytdclmjmefkgbbab
open Go.RowKit

theorem plKeyed : Maps.Keyed Try.prog 64 := Maps.int_keyed Try.underlying64
/-- what the map holds is right -/
def InvMap (D : DataW Unit) (xs : List Int) : Prop := Maps.IsMap D ∧ ∀ q c : Int, plI q = true → Maps.has D (.int .i64 q) = true → D.atKey (.int .i64 q) (.lit (.int .i64 0)) = .lit (.int .i64 c) → c = hasF xs q
theorem InvMap.empty (xs : List Int) : InvMap (.map []) xs := ⟨Maps.isMap_empty, fun q c _ h => by cases h⟩
theorem InvMap.put {D : DataW Unit} {xs : List Int} (h : InvMap D xs) {q : Int} : InvMap (D.put (.int .i64 q) (.lit (.int .i64 (hasF xs q)))) xs := by
  refine ⟨h.1.put _ _, fun r c hr hh ha => ?_⟩
  by_cases e : r = q
  · subst e
    rw [Maps.atKey_put_same h.1 (show WideAt.IsKeyLit (.int .i64 r) from trivial)] at ha
    simp only [DataW.lit.injEq, Lit.int.injEq, true_and] at ha
    exact ha.symm
  · have hne : Lit.int IntKind.i64 r ≠ Lit.int IntKind.i64 q := fun h2 => e (by cases h2; rfl)
    rw [Maps.atKey_put_other hne] at ha
    rw [Maps.has_put_other hne] at hh
    exact h.2 r c hr hh ha

/-- all blocks but one are as they were -/
def Beside (m : Nat) (w w' : World) : Prop := w.heap.size ≤ w'.heap.size ∧ ∀ k, k < w.heap.size → k ≠ m → w'.heap[k]? = w.heap[k]?
theorem Below.beside {m : Nat} {w w' : World} (h : Below w.heap.size w w') : Beside m w w' := ⟨h.size, fun k hk _ => h.block k hk⟩
theorem Beside.trans {m : Nat} {a b c : World} (h : Beside m a b) (g : Beside m b c) : Beside m a c := ⟨Nat.le_trans h.1 g.1, fun k hk hn => (g.2 k (Nat.lt_of_lt_of_le hk h.1) hn).trans (h.2 k hk hn)⟩
theorem Beside.grown {m : Nat} {w w' : World} (h : w.grownBy w' (some m)) : Beside m w w' := ⟨h.size, fun k hk hn => h.block k hk (fun e => hn (by cases e; rfl))⟩

/-- a form in the world W of a call that began in w0: its terms are as they were, its map is in block m and has at most n entries -/
structure Quad (w0 W : World) (m n : Nat) (v : Value) (xs : List Int) : Prop where
  rd : Rd w0 v xs
  ok : fvB xs = true
  ge : w0.heap.size ≤ m
  bel : Below w0.heap.size w0 W
  map : ∃ D : DataW Unit, W.ownsMap Try.prog 64 (plainElem Try.prog 3) m n D ∧ InvMap D xs
theorem Quad.lt {w0 W : World} {m n : Nat} {v : Value} {xs : List Int} (h : Quad w0 W m n v xs) : m < W.heap.size := by
  obtain ⟨D, hD, _⟩ := h.map
  exact hD.lt
theorem Quad.read {w0 W : World} {m n : Nat} {v : Value} {xs : List Int} (h : Quad w0 W m n v xs) : Rd W v xs := h.rd.keep h.bel
theorem Quad.step {w0 W W' : World} {m n : Nat} {v : Value} {xs : List Int} (h : Quad w0 W m n v xs) (hb : Below W.heap.size W W') : Quad w0 W' m n v xs := by
  refine ⟨h.rd, h.ok, h.ge, h.bel.trans (hb.mono h.bel.size), ?_⟩
  have hlt := h.lt
  obtain ⟨D, hD, hI⟩ := h.map
  exact ⟨D, ownsMap_of_block hD (hb.block m hlt), hI⟩
theorem Quad.other {w0 W W' : World} {m m' n : Nat} {v : Value} {xs : List Int} (h : Quad w0 W m n v xs) (hb : Beside m' W W') (hne : m ≠ m') (hB : Below w0.heap.size w0 W') : Quad w0 W' m n v xs := by
  refine ⟨h.rd, h.ok, h.ge, hB, ?_⟩
  have hlt := h.lt
  obtain ⟨D, hD, hI⟩ := h.map
  exact ⟨D, ownsMap_of_block hD (hb.2 m hlt hne), hI⟩
theorem Quad.more {w0 W : World} {m n n' : Nat} {v : Value} {xs : List Int} (h : Quad w0 W m n v xs) (hn : n ≤ n') : Quad w0 W m n' v xs := by
  obtain ⟨D, hD, hI⟩ := h.map
  exact ⟨h.rd, h.ok, h.ge, h.bel, D, hD.mono hn, hI⟩

set_option maxRecDepth 100000 in
set_option maxHeartbeats 1000000 in
theorem quadraticOf_any (v : Value) (xs : List Int) (w : World) (h : Rd w v xs) : Calls Try.prog 70 #[v] w fun e w' =>
    (fvB xs = false ∧ e = .returned (.tuple #[.nilIface, .bool false]) ∧ w' = w) ∨
    (fvB xs = true ∧ e = .returned (.tuple #[quadV v w.heap.size, .bool true]) ∧ w' = w.alloc (.map #[] 0)) := by
  have HH := hid h
  obtain ⟨a, cap, rfl, _⟩ := h.form
  cases hf : fvB xs with
  | false =>
    have HF := hid hf
    clear hf h
    go_enter Try.func70, Try.ntmps70
    go_wp2_with (go_at_call 21; refine (formValidP_any _ _ _ HH.out).mono ?_; rw [HF.out]; rintro e w' ⟨rfl, rfl⟩)
    go_ret2
    exact .inl ⟨by trivial, rfl, rfl⟩
  | true =>
    have HF := hid hf
    have hmk : ∀ wx, (Instr.makeMap 79 none).run Try.prog wx = .ok (.map (some wx.heap.size)) (wx.alloc (.map #[] 0)) := fun wx => run_makeMap _ _
    clear hf h
    go_enter Try.func70, Try.ntmps70
    go_wp2_with (go_at_call 21; refine (formValidP_any _ _ _ HH.out).mono ?_; rw [HF.out]; rintro e w' ⟨rfl, rfl⟩)
    go_ret2
    exact .inr ⟨by trivial, rfl, rfl⟩
theorem quad_new {w0 w : World} {v : Value} {xs : List Int} (h : Rd w0 v xs) (hf : fvB xs = true) (hb : Below w0.heap.size w0 w) : Quad w0 (w.alloc (.map #[] 0)) w.heap.size 0 v xs :=
  ⟨h, hf, hb.size, hb.alloc hb.size _, _, World.ownsMap_made w Try.prog 64 (plainElem (H := Unit) Try.prog 3), InvMap.empty xs⟩

/-- the function value that symbolAt hands back tells the symbol -/
theorem isSym_calls {B : Nat} {q : Int} {fv : Value} {w : World} (hs : IsSym B q fv w) :
    (fv = .func (.func 100) #[] #[] ∧ ∀ a b : Int, a ≠ 0 → b ≠ 0 → -1000000000 ≤ a → a ≤ 1000000000 → -1000000000 ≤ b → b ≤ 1000000000 → Calls Try.prog 100 #[.int .i64 a, .int .i64 b] w fun e w' => e = .returned (.int .i64 (symV a b q)) ∧ w = w') ∨
    (fv = .func (.func 102) #[] #[] ∧ ∀ a b : Int, a ≠ 0 → b ≠ 0 → -1000000000 ≤ a → a ≤ 1000000000 → -1000000000 ≤ b → b ≤ 1000000000 → Calls Try.prog 102 #[.int .i64 a, .int .i64 b] w fun e w' => e = .returned (.int .i64 (symV a b q)) ∧ w = w') ∨
    (∃ C : Nat, fv = .func (.func 103) #[] #[.pointer (some ⟨C, 0, none⟩)] ∧ ∀ a b : Int, a ≠ 0 → b ≠ 0 → -1000000000 ≤ a → a ≤ 1000000000 → -1000000000 ≤ b → b ≤ 1000000000 → Calls Try.prog 103 #[.int .i64 a, .int .i64 b, .pointer (some ⟨C, 0, none⟩)] w fun e w' => e = .returned (.int .i64 (symV a b q)) ∧ w = w') := by
  rcases hs with ⟨rfl, rfl⟩ | ⟨rfl, rfl⟩ | ⟨P, C, rfl, hP, h3, rfl, _, _, hC3⟩
  · exact .inl ⟨rfl, fun a b a0 b0 _ _ _ _ => symZero_any a b a0 b0 w⟩
  · exact .inr (.inl ⟨rfl, fun a b a0 b0 a1 a2 b1 b2 => symbolAtTwo_any a b a0 b0 a1 a2 b1 b2 w⟩)
  · exact .inr (.inr ⟨C, rfl, fun a b a0 b0 a1 a2 b1 b2 => symP_any a b P C hP h3 a0 b0 a1 a2 b1 b2 w hC3⟩)

theorem hasP_next {xs : List Int} {q : Int} (K : Nat) : hasP xs q (K + 1) = hasP xs q K * hasR xs q K K := rfl
theorem inv_step {xs : List Int} {q : Int} (hf : fvB xs = true) (hq : plI q = true) {K J : Nat} (hK : K < xs.length) (hJ : J < K) :
    hasP xs q K * hasR xs q K (J + 1) = hasP xs q K * hasR xs q K J * symV (xs.getD K 0) (xs.getD J 0) q := by
  show hasP xs q K * (hasR xs q K J * symV (xs.getD J 0) (xs.getD K 0) q) = _
  rw [symV_comm (fv_at hf (by omega)).1 (fv_at hf hK).1 hq, Int.mul_assoc]
theorem inv_pm {xs : List Int} {q : Int} (hf : fvB xs = true) (hq : plI q = true) {K J : Nat} (hK : K < xs.length) (hJ : J ≤ K) : -1 ≤ hasP xs q K * hasR xs q K J ∧ hasP xs q K * hasR xs q K J ≤ 1 := by
  have hz : ∀ x ∈ xs, x ≠ 0 := fun x hx => ((fvB_iff.1 hf).1 x hx).1
  have := pm_mul (hasP_pm hq hz K (by omega)) (hasR_pm hq hz hK J (by omega))
  omega

set_option maxRecDepth 100000 in
set_option maxHeartbeats 4000000 in
theorem diaInv_any (v : Value) (xs : List Int) (q : Int) (m n : Nat) (w0 w : World) (h : Quad w0 w m n v xs) (hq : plI q = true) (hn : n < 9000000) :
    Calls Try.prog 128 #[diaV v m, .int .i64 q] w fun e w' => e = .returned (.int .i64 (hasF xs q)) ∧ Quad w0 w' m (n + 1) v xs ∧ Beside m w w' := by
  have HB1 := hid ((Below.refl w.heap.size w).alloc (Nat.le_refl _) (.cells #[v, .map (some m)] 81))
  have HQ1 := hid (h.step HB1.out)
  have HF := hid h.ok
  have hl4 := (fvB_iff.1 h.ok).2.2
  have hqb := plI_bd hq
  have hq1 := hqb.1
  have hq2 := hqb.2
  have HKEY : Hid (keyOf Try.prog 64 (.int .i64 q) = some (.int .i64 q)) := hid (Maps.keyOf_int_mk Try.underlying64 (wf_small (by omega) (by omega)))
  have HQ := hid hq
  obtain ⟨D, hD, hI⟩ := h.map
  have HD := hid (hD.alloc (.cells #[v, .map (some m)] 81))
  have hmlt := hD.lt
  have HI := hid hI
  obtain ⟨hh, hhe⟩ : ∃ b, b = Maps.has D (.int .i64 q) := ⟨_, rfl⟩
  have HHE := hid hhe
  have HRD := hid (HQ1.out.read)
  obtain ⟨a, cap, rfl, hform⟩ := HRD.out.form
  have hcap := HRD.out.room
  have HFM := hid hform
  clear hD hI hform hq hqb hhe
  cases hh with
  | true =>
    have HC : Hid (∀ c : Int, D.atKey (.int .i64 q) (.lit (.int .i64 0)) = .lit (.int .i64 c) → c = hasF xs q) := hid (fun c hc => HI.out.2 q c HQ.out HHE.out.symm hc)
    clear h
    unfold diaV
    go_enter Try.func128, Try.ntmps128
    go_wp2_with (at_lookup; refine wpList_lookup_own_ok_int _ rfl _ _ 79 rfl 64 3 .i64 plKeyed Try.underlying79 Try.underlying3 (by kernel_rfl) m n D rfl HD.out (.int .i64 q) (.int .i64 q) rfl HKEY.out ?_; intro c hat hwc; rw [← HHE.out]; have HCE := hid (HC.out c hat); clear hat hwc)
    go_ret
    exact ⟨retI HCE.out, HQ1.out.more (by omega), Below.beside HB1.out⟩
  | false =>
    clear h
    unfold diaV
    go_enter Try.func128, Try.ntmps128
    go_wp2_with (at_lookup; refine wpList_lookup_own_ok_int _ rfl _ _ 79 rfl 64 3 .i64 plKeyed Try.underlying79 Try.underlying3 (by kernel_rfl) m n D rfl HD.out (.int .i64 q) (.int .i64 q) rfl HKEY.out ?_; intro c hat hwc; rw [← HHE.out]; clear hat hwc)
    refine (symbolAt_any q HQ.out _).mono ?_
    rintro e w2 ⟨fv, rfl, hfs, hb2⟩
    have hs2 := hb2.size
    simp only [World.size_alloc] at hs2
    have HQ2 := hid (HQ1.out.step hb2)
    have HD2 := hid (ownsMap_of_block HD.out (hb2.block m (by simp; omega)))
    have HBS : Hid (Beside m w w2) := hid ((Below.beside HB1.out).trans (Below.beside hb2))
    have e0 := (hb2.block w.heap.size (by simp)).trans (heap_alloc_new w (.cells #[.slice a xs.length cap, .map (some m)] 81))
    have c0 := cell_of_row e0 0 _ rfl
    have c1 := cell_of_row e0 1 _ rfl
    have HFM2 : Hid (0 < xs.length → ∃ b o, a = some ⟨b, o, none⟩ ∧ xs.length ≤ maxLen ∧ ∀ i, i < xs.length → w2.cell? ⟨b, o + i, none⟩ = some (.int .i64 (xs.getD i 0))) := by
      obtain ⟨a', cap', e1, hf1⟩ := HQ2.out.read.form
      cases e1
      exact hid hf1
    clear hb2 e0 HFM
    have fin : ∀ w3 : World, w3.ownsMap Try.prog 64 (plainElem Try.prog 3) m (n + 1) (D.put (.int .i64 q) (.lit (.int .i64 (hasF xs q)))) → w2.grownBy w3 (some m) → Quad w0 w3 m (n + 1) (.slice a xs.length cap) xs ∧ Beside m w w3 := fun w3 ho hg =>
      ⟨⟨HQ2.out.rd, HQ2.out.ok, HQ2.out.ge, HQ2.out.bel.grown hg HQ2.out.bel.size (fun k e => by cases e; exact HQ2.out.ge), _, ho, HI.out.put⟩, HBS.out.trans (Beside.grown hg)⟩
    have HFIN := hid fin
    clear fin
    have hcalls := isSym_calls hfs
    clear hfs
    rcases hcalls with ⟨rfl, hcall⟩ | ⟨rfl, hcall⟩ | ⟨C, rfl, hcall⟩
    all_goals
      have HCALL := hid hcall
      clear hcall
      go_wp2_with fail
      go_loop [8, 27] (fun so si => ∃ (K : Nat) (s : Int), si = .int .i64 K ∧ K ≤ xs.length ∧ so = .int .i64 s ∧ -1 ≤ s ∧ s ≤ 1 ∧ Hid (s = hasP xs q K)) (fun _ si => xs.length - (intOf si).toNat)
      case atStart => exact ⟨0, 1, rfl, by omega, rfl, by omega, by omega, hid rfl⟩
      case round =>
        obtain ⟨K, s, rfl, hK, rfl, s1, s2, HS⟩ := hrel
        by_cases hlt : K < xs.length
        · obtain ⟨b, o, rfl, hml, hc⟩ := HFM2.out (by omega)
          have hcell := hc K hlt
          have HCL := hid hc
          have hta := fv_at HF.out hlt
          obtain ⟨x, hx⟩ : ∃ x, x = xs.getD K 0 := ⟨_, rfl⟩
          rw [← hx] at hcell hta
          have x1 := hta.2.1
          have x2 := hta.2.2
          have X0 := hid hta.1
          have HX := hid hx
          have hKi : (K : Int) < (xs.length : Int) := by omega
          have hKc : (K : Int) ≤ (cap : Int) := by omega
          have HLT := hid hlt
          clear hx hc hml hta
          go_wp2_with fail
          go_loop [8, 37] (fun so si => ∃ (J : Nat) (t : Int), si = .int .i64 J ∧ J ≤ K ∧ so = .int .i64 t ∧ -1 ≤ t ∧ t ≤ 1 ∧ Hid (t = hasP xs q K * hasR xs q K J)) (fun _ si => K - (intOf si).toNat)
          case atStart => exact ⟨0, s, rfl, by omega, rfl, s1, s2, hid (by rw [HS.out]; exact (Int.mul_one _).symm)⟩
          case round =>
            obtain ⟨J, t, rfl, hJ, rfl, t1, t2, HT⟩ := hrel
            by_cases hlj : J < K
            · have hcj := HCL.out J (by omega)
              have htb := fv_at HF.out (show J < xs.length by omega)
              have hst := inv_step HF.out HQ.out HLT.out hlj
              have hbd := inv_pm HF.out HQ.out HLT.out (show J + 1 ≤ K by omega)
              rw [hst, ← HT.out, ← HX.out] at hbd
              rw [← HT.out, ← HX.out] at hst
              obtain ⟨y, hy⟩ : ∃ y, y = xs.getD J 0 := ⟨_, rfl⟩
              rw [← hy] at hcj htb hst hbd
              have y1 := htb.2.1
              have y2 := htb.2.2
              have Y0 := hid htb.1
              obtain ⟨z, hz⟩ : ∃ z, z = symV x y q := ⟨_, rfl⟩
              have hzv := symV_val X0.out Y0.out HQ.out (b := y)
              rw [← hz] at hst hbd hzv
              have z1 : -1 ≤ z := by omega
              have z2 : z ≤ 1 := by omega
              have HZ := hid hz.symm
              have b1 := hbd.1
              have b2 := hbd.2
              have HST := hid hst
              have hJi : (J : Int) < (K : Int) := by omega
              clear hy hz htb hst hbd hzv
              go_wp2_with fail
              refine (HCALL.out x y X0.out Y0.out (by omega) (by omega) (by omega) (by omega)).mono ?_
              rw [HZ.out]
              rintro e w' ⟨rfl, rfl⟩
              go_wp2_with fail
              go_round
              case measure => simp only [intOf]; omega
              case rel => exact ⟨J + 1, t * z, by go_num, by omega, by go_num, b1, b2, hid HST.out.symm⟩
            · obtain rfl : J = K := by omega
              have HE : Hid (t = hasP xs q (J + 1)) := hid HT.out
              go_wp2_with fail
              go_round
              case measure => simp only [intOf]; omega
              case rel => exact ⟨J + 1, t, by go_num, by have := HLT.out; omega, rfl, t1, t2, HE⟩
        · obtain rfl : K = xs.length := by omega
          have HV : Hid (s = hasF xs q) := hid HS.out
          have HEL := hid (plainElem_int (H := Unit) (P := Try.prog) Try.underlying3 (wf_small (show -5000 ≤ s by omega) (show s ≤ 1000000000 by omega)))
          clear hlt
          go_wp2_with (at_mapUpdate; refine wpList_mapUpdate_own _ rfl _ _ _ 79 rfl 64 3 plKeyed Try.underlying79 _ m n D rfl HD2.out (by unfold maxLen; omega) _ _ (.int .i64 q) rfl rfl HKEY.out _ [] HEL.out ?_; intro w3 hown3 hgrow3)
          go_ret
          rw [HV.out] at hown3
          have := HFIN.out w3 hown3 hgrow3
          exact ⟨retI HV.out, this.1, this.2⟩

end Go.Proofs.Ytdclmjmefkgbbab
