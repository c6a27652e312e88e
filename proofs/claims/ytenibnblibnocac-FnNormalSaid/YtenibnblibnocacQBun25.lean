/-
  Some texts in one file: Imp4B CoreI Core2 Imp4C.
-/
import Derived.Test.YtenibnblibnocacQBun24
import Derived.Maps.OwnSet
import Derived.Maps.Views
import Derived.Test.YtenibnblibnocacQBun6
import Derived.Test.YtenibnblibnocacQBun10
import Derived.Test.YtenibnblibnocacQIterG
import Derived.BigRegionIn
/-! Imp4B -/
set_option linter.unusedVariables false
namespace Go.Proofs.Ytenibnblibnocac
open Go.RowKit

theorem plKeyed : Maps.Keyed Try.prog 65 := Maps.int_keyed Try.underlying65
/-- what the map holds is right -/
def InvMap (D : DataW Unit) (xs : List Int) : Prop := Maps.IsMap D ∧ ∀ q c : Int, plI q = true → Maps.has D (.int .i64 q) = true → D.atKey (.int .i64 q) (.lit (.int .i64 0)) = .lit (.int .i64 c) → c = hasF xs q
theorem InvMap.empty (xs : List Int) : InvMap (.map []) xs := ⟨Maps.isMap_empty, fun q c _ h => by cases h⟩
theorem InvMap.put {D : DataW Unit} {xs : List Int} (h : InvMap D xs) {q : Int} : InvMap (D.put (.int .i64 q) (.lit (.int .i64 (hasF xs q)))) xs := by
  refine ⟨h.1.put _ _, fun r c hr hh ha => ?_⟩
  by_cases e : r = q
  · subst e
    rw [Maps.atKey_put_same h.1 (show WideAt.IsKeyLit (.int .i64 r) from trivial)] at ha
    simp only [DataW.lit.injEq, Lit.int.injEq, true_and] at ha
    exact ha.symm
  · have hne : Lit.int IntKind.i64 r ≠ Lit.int IntKind.i64 q := fun h2 => e (by cases h2; rfl)
    rw [Maps.atKey_put_other hne] at ha
    rw [Maps.has_put_other hne] at hh
    exact h.2 r c hr hh ha

/-- all blocks but one are as they were -/
def Beside (m : Nat) (w w' : World) : Prop := w.heap.size ≤ w'.heap.size ∧ ∀ k, k < w.heap.size → k ≠ m → w'.heap[k]? = w.heap[k]?
theorem Below.beside {m : Nat} {w w' : World} (h : Below w.heap.size w w') : Beside m w w' := ⟨h.size, fun k hk _ => h.block k hk⟩
theorem Beside.trans {m : Nat} {a b c : World} (h : Beside m a b) (g : Beside m b c) : Beside m a c := ⟨Nat.le_trans h.1 g.1, fun k hk hn => (g.2 k (Nat.lt_of_lt_of_le hk h.1) hn).trans (h.2 k hk hn)⟩
theorem Beside.grown {m : Nat} {w w' : World} (h : w.grownBy w' (some m)) : Beside m w w' := ⟨h.size, fun k hk hn => h.block k hk (fun e => hn (by cases e; rfl))⟩

/-- a form in the world W of a call that began in w0: its terms are as they were, its map is in block m and has at most n entries -/
structure Quad (w0 W : World) (m n : Nat) (v : Value) (xs : List Int) : Prop where
  rd : Rd w0 v xs
  ok : fvB xs = true
  ge : w0.heap.size ≤ m
  bel : Below w0.heap.size w0 W
  map : ∃ D : DataW Unit, W.ownsMap Try.prog 65 (plainElem Try.prog 3) m n D ∧ InvMap D xs
theorem Quad.lt {w0 W : World} {m n : Nat} {v : Value} {xs : List Int} (h : Quad w0 W m n v xs) : m < W.heap.size := by
  obtain ⟨D, hD, _⟩ := h.map
  exact hD.lt
theorem Quad.read {w0 W : World} {m n : Nat} {v : Value} {xs : List Int} (h : Quad w0 W m n v xs) : Rd W v xs := h.rd.keep h.bel
theorem Quad.step {w0 W W' : World} {m n : Nat} {v : Value} {xs : List Int} (h : Quad w0 W m n v xs) (hb : Below W.heap.size W W') : Quad w0 W' m n v xs := by
  refine ⟨h.rd, h.ok, h.ge, h.bel.trans (hb.mono h.bel.size), ?_⟩
  have hlt := h.lt
  obtain ⟨D, hD, hI⟩ := h.map
  exact ⟨D, ownsMap_of_block hD (hb.block m hlt), hI⟩
theorem Quad.other {w0 W W' : World} {m m' n : Nat} {v : Value} {xs : List Int} (h : Quad w0 W m n v xs) (hb : Beside m' W W') (hne : m ≠ m') (hB : Below w0.heap.size w0 W') : Quad w0 W' m n v xs := by
  refine ⟨h.rd, h.ok, h.ge, hB, ?_⟩
  have hlt := h.lt
  obtain ⟨D, hD, hI⟩ := h.map
  exact ⟨D, ownsMap_of_block hD (hb.2 m hlt hne), hI⟩
theorem Quad.more {w0 W : World} {m n n' : Nat} {v : Value} {xs : List Int} (h : Quad w0 W m n v xs) (hn : n ≤ n') : Quad w0 W m n' v xs := by
  obtain ⟨D, hD, hI⟩ := h.map
  exact ⟨h.rd, h.ok, h.ge, h.bel, D, hD.mono hn, hI⟩

set_option maxRecDepth 100000 in
set_option maxHeartbeats 1000000 in
theorem quadraticOf_any (v : Value) (xs : List Int) (w : World) (h : Rd w v xs) : Calls Try.prog 41 #[v] w fun e w' =>
    (fvB xs = false ∧ e = .returned (.tuple #[.nilIface, .bool false]) ∧ w' = w) ∨
    (fvB xs = true ∧ e = .returned (.tuple #[quadV v w.heap.size, .bool true]) ∧ w' = w.alloc (.map #[] 0)) := by
  have HH := hid h
  obtain ⟨a, cap, rfl, _⟩ := h.form
  cases hf : fvB xs with
  | false =>
    have HF := hid hf
    clear hf h
    go_enter Try.func41, Try.ntmps41
    go_wp2_with (go_at_call 19; refine (formValidP_any _ _ _ HH.out).mono ?_; rw [HF.out]; rintro e w' ⟨rfl, rfl⟩)
    go_ret2
    exact .inl ⟨by trivial, rfl, rfl⟩
  | true =>
    have HF := hid hf
    have hmk : ∀ wx, (Instr.makeMap 83 none).run Try.prog wx = .ok (.map (some wx.heap.size)) (wx.alloc (.map #[] 0)) := fun wx => run_makeMap _ _
    clear hf h
    go_enter Try.func41, Try.ntmps41
    go_wp2_with (go_at_call 19; refine (formValidP_any _ _ _ HH.out).mono ?_; rw [HF.out]; rintro e w' ⟨rfl, rfl⟩)
    go_ret2
    exact .inr ⟨by trivial, rfl, rfl⟩
theorem quad_new {w0 w : World} {v : Value} {xs : List Int} (h : Rd w0 v xs) (hf : fvB xs = true) (hb : Below w0.heap.size w0 w) : Quad w0 (w.alloc (.map #[] 0)) w.heap.size 0 v xs :=
  ⟨h, hf, hb.size, hb.alloc hb.size _, _, World.ownsMap_made w Try.prog 65 (plainElem (H := Unit) Try.prog 3), InvMap.empty xs⟩

/-- the function value that symbolAt hands back tells the symbol -/
theorem isSym_calls {B : Nat} {q : Int} {fv : Value} {w : World} (hs : IsSym B q fv w) :
    (fv = .func (.func 78) #[] #[] ∧ ∀ a b : Int, a ≠ 0 → b ≠ 0 → -1000000000 ≤ a → a ≤ 1000000000 → -1000000000 ≤ b → b ≤ 1000000000 → Calls Try.prog 78 #[.int .i64 a, .int .i64 b] w fun e w' => e = .returned (.int .i64 (symV a b q)) ∧ w = w') ∨
    (fv = .func (.func 80) #[] #[] ∧ ∀ a b : Int, a ≠ 0 → b ≠ 0 → -1000000000 ≤ a → a ≤ 1000000000 → -1000000000 ≤ b → b ≤ 1000000000 → Calls Try.prog 80 #[.int .i64 a, .int .i64 b] w fun e w' => e = .returned (.int .i64 (symV a b q)) ∧ w = w') ∨
    (∃ C : Nat, fv = .func (.func 81) #[] #[.pointer (some ⟨C, 0, none⟩)] ∧ ∀ a b : Int, a ≠ 0 → b ≠ 0 → -1000000000 ≤ a → a ≤ 1000000000 → -1000000000 ≤ b → b ≤ 1000000000 → Calls Try.prog 81 #[.int .i64 a, .int .i64 b, .pointer (some ⟨C, 0, none⟩)] w fun e w' => e = .returned (.int .i64 (symV a b q)) ∧ w = w') := by
  rcases hs with ⟨rfl, rfl⟩ | ⟨rfl, rfl⟩ | ⟨P, C, rfl, hP, h3, rfl, _, _, hC3⟩
  · exact .inl ⟨rfl, fun a b a0 b0 _ _ _ _ => symZero_any a b a0 b0 w⟩
  · exact .inr (.inl ⟨rfl, fun a b a0 b0 a1 a2 b1 b2 => symbolAtTwo_any a b a0 b0 a1 a2 b1 b2 w⟩)
  · exact .inr (.inr ⟨C, rfl, fun a b a0 b0 a1 a2 b1 b2 => symP_any a b P C hP h3 a0 b0 a1 a2 b1 b2 w hC3⟩)

theorem hasP_next {xs : List Int} {q : Int} (K : Nat) : hasP xs q (K + 1) = hasP xs q K * hasR xs q K K := rfl
theorem inv_step {xs : List Int} {q : Int} (hf : fvB xs = true) (hq : plI q = true) {K J : Nat} (hK : K < xs.length) (hJ : J < K) :
    hasP xs q K * hasR xs q K (J + 1) = hasP xs q K * hasR xs q K J * symV (xs.getD K 0) (xs.getD J 0) q := by
  show hasP xs q K * (hasR xs q K J * symV (xs.getD J 0) (xs.getD K 0) q) = _
  rw [symV_comm (fv_at hf (by omega)).1 (fv_at hf hK).1 hq, Int.mul_assoc]
theorem inv_pm {xs : List Int} {q : Int} (hf : fvB xs = true) (hq : plI q = true) {K J : Nat} (hK : K < xs.length) (hJ : J ≤ K) : -1 ≤ hasP xs q K * hasR xs q K J ∧ hasP xs q K * hasR xs q K J ≤ 1 := by
  have hz : ∀ x ∈ xs, x ≠ 0 := fun x hx => ((fvB_iff.1 hf).1 x hx).1
  have := pm_mul (hasP_pm hq hz K (by omega)) (hasR_pm hq hz hK J (by omega))
  omega

set_option maxRecDepth 100000 in
set_option maxHeartbeats 4000000 in
theorem diaInv_any (v : Value) (xs : List Int) (q : Int) (m n : Nat) (w0 w : World) (h : Quad w0 w m n v xs) (hq : plI q = true) (hn : n < 9000000) :
    Calls Try.prog 111 #[diaV v m, .int .i64 q] w fun e w' => e = .returned (.int .i64 (hasF xs q)) ∧ Quad w0 w' m (n + 1) v xs ∧ Beside m w w' := by
  have HB1 := hid ((Below.refl w.heap.size w).alloc (Nat.le_refl _) (.cells #[v, .map (some m)] 85))
  have HQ1 := hid (h.step HB1.out)
  have HF := hid h.ok
  have hl4 := (fvB_iff.1 h.ok).2.2
  have hqb := plI_bd hq
  have hq1 := hqb.1
  have hq2 := hqb.2
  have HKEY : Hid (keyOf Try.prog 65 (.int .i64 q) = some (.int .i64 q)) := hid (Maps.keyOf_int_mk Try.underlying65 (wf_small (by omega) (by omega)))
  have HQ := hid hq
  obtain ⟨D, hD, hI⟩ := h.map
  have HD := hid (hD.alloc (.cells #[v, .map (some m)] 85))
  have hmlt := hD.lt
  have HI := hid hI
  obtain ⟨hh, hhe⟩ : ∃ b, b = Maps.has D (.int .i64 q) := ⟨_, rfl⟩
  have HHE := hid hhe
  have HRD := hid (HQ1.out.read)
  obtain ⟨a, cap, rfl, hform⟩ := HRD.out.form
  have hcap := HRD.out.room
  have HFM := hid hform
  clear hD hI hform hq hqb hhe
  cases hh with
  | true =>
    have HC : Hid (∀ c : Int, D.atKey (.int .i64 q) (.lit (.int .i64 0)) = .lit (.int .i64 c) → c = hasF xs q) := hid (fun c hc => HI.out.2 q c HQ.out HHE.out.symm hc)
    clear h
    unfold diaV
    go_enter Try.func111, Try.ntmps111
    go_wp2_with (at_lookup; refine wpList_lookup_own_ok_int _ rfl _ _ 83 rfl 65 3 .i64 plKeyed Try.underlying83 Try.underlying3 (by kernel_rfl) m n D rfl HD.out (.int .i64 q) (.int .i64 q) rfl HKEY.out ?_; intro c hat hwc; rw [← HHE.out]; have HCE := hid (HC.out c hat); clear hat hwc)
    go_ret
    exact ⟨retI HCE.out, HQ1.out.more (by omega), Below.beside HB1.out⟩
  | false =>
    clear h
    unfold diaV
    go_enter Try.func111, Try.ntmps111
    go_wp2_with (at_lookup; refine wpList_lookup_own_ok_int _ rfl _ _ 83 rfl 65 3 .i64 plKeyed Try.underlying83 Try.underlying3 (by kernel_rfl) m n D rfl HD.out (.int .i64 q) (.int .i64 q) rfl HKEY.out ?_; intro c hat hwc; rw [← HHE.out]; clear hat hwc)
    refine (symbolAt_any q HQ.out _).mono ?_
    rintro e w2 ⟨fv, rfl, hfs, hb2⟩
    have hs2 := hb2.size
    simp only [World.size_alloc] at hs2
    have HQ2 := hid (HQ1.out.step hb2)
    have HD2 := hid (ownsMap_of_block HD.out (hb2.block m (by simp; omega)))
    have HBS : Hid (Beside m w w2) := hid ((Below.beside HB1.out).trans (Below.beside hb2))
    have e0 := (hb2.block w.heap.size (by simp)).trans (heap_alloc_new w (.cells #[.slice a xs.length cap, .map (some m)] 85))
    have c0 := cell_of_row e0 0 _ rfl
    have c1 := cell_of_row e0 1 _ rfl
    have HFM2 : Hid (0 < xs.length → ∃ b o, a = some ⟨b, o, none⟩ ∧ xs.length ≤ maxLen ∧ ∀ i, i < xs.length → w2.cell? ⟨b, o + i, none⟩ = some (.int .i64 (xs.getD i 0))) := by
      obtain ⟨a', cap', e1, hf1⟩ := HQ2.out.read.form
      cases e1
      exact hid hf1
    clear hb2 e0 HFM
    have fin : ∀ w3 : World, w3.ownsMap Try.prog 65 (plainElem Try.prog 3) m (n + 1) (D.put (.int .i64 q) (.lit (.int .i64 (hasF xs q)))) → w2.grownBy w3 (some m) → Quad w0 w3 m (n + 1) (.slice a xs.length cap) xs ∧ Beside m w w3 := fun w3 ho hg =>
      ⟨⟨HQ2.out.rd, HQ2.out.ok, HQ2.out.ge, HQ2.out.bel.grown hg HQ2.out.bel.size (fun k e => by cases e; exact HQ2.out.ge), _, ho, HI.out.put⟩, HBS.out.trans (Beside.grown hg)⟩
    have HFIN := hid fin
    clear fin
    have hcalls := isSym_calls hfs
    clear hfs
    rcases hcalls with ⟨rfl, hcall⟩ | ⟨rfl, hcall⟩ | ⟨C, rfl, hcall⟩
    all_goals
      have HCALL := hid hcall
      clear hcall
      go_wp2_with fail
      go_loop [8, 27] (fun so si => ∃ (K : Nat) (s : Int), si = .int .i64 K ∧ K ≤ xs.length ∧ so = .int .i64 s ∧ -1 ≤ s ∧ s ≤ 1 ∧ Hid (s = hasP xs q K)) (fun _ si => xs.length - (intOf si).toNat)
      case atStart => exact ⟨0, 1, rfl, by omega, rfl, by omega, by omega, hid rfl⟩
      case round =>
        obtain ⟨K, s, rfl, hK, rfl, s1, s2, HS⟩ := hrel
        by_cases hlt : K < xs.length
        · obtain ⟨b, o, rfl, hml, hc⟩ := HFM2.out (by omega)
          have hcell := hc K hlt
          have HCL := hid hc
          have hta := fv_at HF.out hlt
          obtain ⟨x, hx⟩ : ∃ x, x = xs.getD K 0 := ⟨_, rfl⟩
          rw [← hx] at hcell hta
          have x1 := hta.2.1
          have x2 := hta.2.2
          have X0 := hid hta.1
          have HX := hid hx
          have hKi : (K : Int) < (xs.length : Int) := by omega
          have hKc : (K : Int) ≤ (cap : Int) := by omega
          have HLT := hid hlt
          clear hx hc hml hta
          go_wp2_with fail
          go_loop [8, 37] (fun so si => ∃ (J : Nat) (t : Int), si = .int .i64 J ∧ J ≤ K ∧ so = .int .i64 t ∧ -1 ≤ t ∧ t ≤ 1 ∧ Hid (t = hasP xs q K * hasR xs q K J)) (fun _ si => K - (intOf si).toNat)
          case atStart => exact ⟨0, s, rfl, by omega, rfl, s1, s2, hid (by rw [HS.out]; exact (Int.mul_one _).symm)⟩
          case round =>
            obtain ⟨J, t, rfl, hJ, rfl, t1, t2, HT⟩ := hrel
            by_cases hlj : J < K
            · have hcj := HCL.out J (by omega)
              have htb := fv_at HF.out (show J < xs.length by omega)
              have hst := inv_step HF.out HQ.out HLT.out hlj
              have hbd := inv_pm HF.out HQ.out HLT.out (show J + 1 ≤ K by omega)
              rw [hst, ← HT.out, ← HX.out] at hbd
              rw [← HT.out, ← HX.out] at hst
              obtain ⟨y, hy⟩ : ∃ y, y = xs.getD J 0 := ⟨_, rfl⟩
              rw [← hy] at hcj htb hst hbd
              have y1 := htb.2.1
              have y2 := htb.2.2
              have Y0 := hid htb.1
              obtain ⟨z, hz⟩ : ∃ z, z = symV x y q := ⟨_, rfl⟩
              have hzv := symV_val X0.out Y0.out HQ.out (b := y)
              rw [← hz] at hst hbd hzv
              have z1 : -1 ≤ z := by omega
              have z2 : z ≤ 1 := by omega
              have HZ := hid hz.symm
              have b1 := hbd.1
              have b2 := hbd.2
              have HST := hid hst
              have hJi : (J : Int) < (K : Int) := by omega
              clear hy hz htb hst hbd hzv
              go_wp2_with fail
              refine (HCALL.out x y X0.out Y0.out (by omega) (by omega) (by omega) (by omega)).mono ?_
              rw [HZ.out]
              rintro e w' ⟨rfl, rfl⟩
              go_wp2_with fail
              go_round
              case measure => simp only [intOf]; omega
              case rel => exact ⟨J + 1, t * z, by go_num, by omega, by go_num, b1, b2, hid HST.out.symm⟩
            · obtain rfl : J = K := by omega
              have HE : Hid (t = hasP xs q (J + 1)) := hid HT.out
              go_wp2_with fail
              go_round
              case measure => simp only [intOf]; omega
              case rel => exact ⟨J + 1, t, by go_num, by have := HLT.out; omega, rfl, t1, t2, HE⟩
        · obtain rfl : K = xs.length := by omega
          have HV : Hid (s = hasF xs q) := hid HS.out
          have HEL := hid (plainElem_int (H := Unit) (P := Try.prog) Try.underlying3 (wf_small (show -5000 ≤ s by omega) (show s ≤ 1000000000 by omega)))
          clear hlt
          go_wp2_with (at_mapUpdate; refine wpList_mapUpdate_own _ rfl _ _ _ 83 rfl 65 3 plKeyed Try.underlying83 _ m n D rfl HD2.out (by unfold maxLen; omega) _ _ (.int .i64 q) rfl rfl HKEY.out _ [] HEL.out ?_; intro w3 hown3 hgrow3)
          go_ret
          rw [HV.out] at hown3
          have := HFIN.out w3 hown3 hgrow3
          exact ⟨retI HV.out, this.1, this.2⟩

end Go.Proofs.Ytenibnblibnocac

/-! CoreI -/
set_option linter.unusedVariables false
namespace Go.Proofs.Ytenibnblibnocac
open Go.RowKit

theorem coreInv_go {n : Int} : ∀ (k L R p : Nat), L ≤ k → 2 ≤ p → CoreInv n (L : Int) R p → 0 < L → CoreInv n ((L / (p * p) ^ val L (p * p) : Nat) : Int) (R * p ^ val L (p * p)) (p + 1) ∧ 0 < L / (p * p) ^ val L (p * p) ∧ L / (p * p) ^ val L (p * p) ≤ L
  | 0, L, R, p, hk, _, _, h0 => by omega
  | k + 1, L, R, p, hk, hp, h, h0 => by
    have hq : 2 * 2 ≤ p * p := Nat.mul_le_mul hp hp
    by_cases hd : L % (p * p) = 0
    · have hv := val_step (n := L) (p := p * p) (by omega) h0 hd
      have hdv := Nat.dvd_of_mod_eq_zero hd
      have hlt : L / (p * p) < L := Nat.div_lt_self h0 (by omega)
      have hpos : 0 < L / (p * p) := Nat.div_pos (Nat.le_of_dvd h0 hdv) (by omega)
      have hi := h.div hp (by rw [← Int.natCast_mul]; exact Int.natCast_dvd_natCast.2 hdv)
      rw [← Int.natCast_mul, ← Int.ofNat_tdiv] at hi
      obtain ⟨g1, g2, g3⟩ := coreInv_go k (L / (p * p)) (R * p) p (by omega) hp hi hpos
      have e1 : L / (p * p) ^ val L (p * p) = L / (p * p) / (p * p) ^ val (L / (p * p)) (p * p) := by rw [hv, Nat.pow_succ', Nat.div_div_eq_div_mul]
      have e2 : R * p ^ val L (p * p) = R * p * p ^ val (L / (p * p)) (p * p) := by rw [hv, Nat.pow_succ', Nat.mul_assoc]
      rw [e1, e2]
      exact ⟨g1, g2, by omega⟩
    · rw [val_stop hd, Nat.pow_zero, Nat.pow_zero, Nat.div_one, Nat.mul_one]
      refine ⟨h.next (fun hdd => hd ?_), h0, Nat.le_refl _⟩
      rw [← Int.natCast_mul] at hdd
      exact Nat.mod_eq_zero_of_dvd (Int.natCast_dvd_natCast.1 hdd)
theorem coreGo_is {n : Int} : ∀ (f p L R : Nat), CoreInv n (L : Int) R p → 0 < L → L ≤ 5000 → 2 ≤ p → 72 ≤ p + f → IsCore ((coreGo f p L R).1 : Int) (coreGo f p L R).2 n
  | 0, p, L, R, h, h0, h5, hp, hf => by
    refine h.core ?_
    have := Nat.mul_le_mul (show 72 ≤ p by omega) (show 72 ≤ p by omega)
    rw [Int.natAbs_natCast]
    omega
  | f + 1, p, L, R, h, h0, h5, hp, hf => by
    unfold coreGo
    by_cases hle : p * p ≤ L
    · rw [if_pos hle]
      obtain ⟨g1, g2, g3⟩ := coreInv_go L L R p (Nat.le_refl _) hp h h0
      exact coreGo_is f (p + 1) _ _ g1 g2 (by omega) (by omega) (by omega)
    · rw [if_neg hle]
      exact h.core (by rw [Int.natAbs_natCast]; exact hle)
theorem rootN_is {N : Nat} (h1 : 1 ≤ N) (h2 : N ≤ 5000) : ∃ c : Nat, IsCore (c : Int) (rootN N) (N : Int) :=
  ⟨(coreGo 70 2 N 1).1, coreGo_is 70 2 N 1 ⟨by omega, Nat.le_refl _, by simp, fun d hd hlt => by omega⟩ (by omega) h2 (Nat.le_refl _) (by decide)⟩
theorem coreI_G {n : Int} (h : factB n = true) : coreI n = coreG n ∧ (rootN n.natAbs : Nat) = rootG n := by
  rcases factB_cases n with ⟨b1, b2, h0, _, _⟩ | ⟨_, hf⟩ | ⟨_, _, hf⟩
  · obtain ⟨c, hc⟩ := rootN_is (N := n.natAbs) (by omega) (by omega)
    have hr := hc.pos
    obtain ⟨r, hre⟩ : ∃ r, r = rootN n.natAbs := ⟨_, rfl⟩
    rw [← hre] at hc hr
    have he : n.natAbs = c * (r * r) := by have := hc.eq; exact_mod_cast this.symm
    have hrr : 0 < r * r := Nat.mul_pos hr hr
    have hdv : ((r * r : Nat) : Int) ∣ n := Int.ofNat_dvd_left.2 ⟨c, by rw [he, Nat.mul_comm]⟩
    have hI : coreI n = n.tdiv ((r * r : Nat) : Int) := by unfold coreI; rw [← hre, Int.natCast_mul]
    have habs : (coreI n).natAbs = c := by rw [hI, tdiv_natAbs, Int.natAbs_natCast, he, Nat.mul_div_cancel _ hrr]
    have := core_eq h0 (c := coreI n) (r := r) ⟨by rw [hI, ← Int.natCast_mul]; exact Int.tdiv_mul_cancel hdv, hr, by rw [habs]; have := hc.free; rwa [Int.natAbs_natCast] at this⟩
    exact ⟨this.1.symm, by rw [← hre]; exact this.2.symm⟩
  · rw [h] at hf; cases hf
  · rw [h] at hf; cases hf
theorem coreV_G {n : Int} (h : factB n = true) : coreV n = .tuple #[.int .i64 (coreG n), .int .i64 (rootG n : Nat), .bool true] := by
  rw [coreV_yes h, (coreI_G h).1, (coreI_G h).2]

end Go.Proofs.Ytenibnblibnocac

/-! Core2 -/
set_option linter.unusedVariables false
namespace Go.Proofs.Ytenibnblibnocac
open Go.RowKit Go.Shelf
attribute [local go_sem] Oper.semAt_some

/-- the root part by prime powers, from a number on -/
def rootFrom : Nat → List (Nat × Nat) → Nat
  | r, [] => r
  | r, x :: l => rootFrom (r * x.1 ^ (x.2 / 2)) l
theorem rootFrom_le : ∀ (l : List (Nat × Nat)) (r : Nat), (∀ x ∈ l, 1 ≤ x.1) → r ≤ rootFrom r l
  | [], r, _ => Nat.le_refl _
  | x :: l, r, h => by
    have h1 := Nat.le_mul_of_pos_right r (Nat.pow_pos (n := x.2 / 2) (show 0 < x.1 from h x (List.mem_cons_self ..)))
    exact Nat.le_trans h1 (rootFrom_le l _ fun y hy => h y (List.mem_cons_of_mem _ hy))
theorem mulW_eq {r p : Nat} (hp : 1 ≤ p) : ∀ k, r * p ^ k ≤ 1000000000 → mulW (r : Int) p k = ((r * p ^ k : Nat) : Int)
  | 0, _ => by show (r : Int) = _; rw [Nat.pow_zero, Nat.mul_one]
  | k + 1, h => by
    have e : r * p ^ (k + 1) = r * p ^ k * p := by rw [Nat.pow_succ, Nat.mul_assoc]
    have h1 : r * p ^ k ≤ r * p ^ (k + 1) := by rw [e]; exact Nat.le_mul_of_pos_right _ hp
    show wrap64 (mulW (r : Int) p k * (p : Int)) = _
    rw [mulW_eq hp k (by omega), ← Int.natCast_mul, ← e]
    obtain ⟨m, hm⟩ : ∃ m, m = r * p ^ (k + 1) := ⟨_, rfl⟩
    rw [← hm] at h ⊢
    unfold wrap64
    omega
theorem rootW_from : ∀ (l : List (Nat × Nat)) (r : Nat), (∀ x ∈ l, 1 ≤ x.1) → rootFrom r l ≤ 1000000000 → l.foldl (fun r x => mulW r x.1 (x.2 / 2)) (r : Int) = ((rootFrom r l : Nat) : Int)
  | [], r, _, _ => rfl
  | x :: l, r, h, hb => by
    have hl : ∀ y ∈ l, 1 ≤ y.1 := fun y hy => h y (List.mem_cons_of_mem _ hy)
    have h2 := rootFrom_le l (r * x.1 ^ (x.2 / 2)) hl
    rw [List.foldl_cons, mulW_eq (h x (List.mem_cons_self ..)) _ (Nat.le_trans h2 hb)]
    exact rootW_from l _ hl hb
theorem ppGo_pos : ∀ (f p L : Nat), 1 ≤ p → ∀ x ∈ ppGo f p L, 1 ≤ x.1
  | 0, _, _, _, x, hx => by cases hx
  | f + 1, p, L, hp, x, hx => by
    unfold ppGo at hx
    split at hx
    · split at hx
      · rcases List.mem_cons.1 hx with rfl | hx
        · exact hp
        · exact ppGo_pos f (p + 1) _ (by omega) x hx
      · exact ppGo_pos f (p + 1) _ (by omega) x hx
    · split at hx
      · rcases List.mem_cons.1 hx with rfl | hx
        · show 1 ≤ L; omega
        · cases hx
      · cases hx

/-- a number that only 1 and itself divide -/
def OnlySelf (p : Nat) : Prop := ∀ d, d ∣ p → d = 1 ∨ d = p
theorem sqFree_mul {C p : Nat} (hp2 : 2 ≤ p) (hp : OnlySelf p) (hC : SqFree C) (hc : Nat.Coprime C p) : SqFree (C * p) := by
  intro d hd hdd
  rcases hp _ (Nat.gcd_dvd_right d p) with h1 | h1
  · exact hC d hd (Nat.Coprime.dvd_of_dvd_mul_right ((show Nat.Coprime d p from h1).mul_left h1) hdd)
  · have hpd : p ∣ d := by
      have h2 := Nat.gcd_dvd_left d p
      rwa [h1] at h2
    have h2 : p * p ∣ C * p := Nat.dvd_trans (Nat.mul_dvd_mul hpd hpd) hdd
    have h3 : p ∣ C := Nat.dvd_of_mul_dvd_mul_right (by omega) h2
    have h4 : p ∣ Nat.gcd C p := Nat.dvd_gcd h3 (Nat.dvd_refl _)
    rw [show Nat.gcd C p = 1 from hc] at h4
    have := Nat.le_of_dvd (by omega) h4
    omega
theorem val_left (p : Nat) (hp : 2 ≤ p) : ∀ (k n : Nat), n ≤ k → 0 < n → ¬ p ∣ n / p ^ val n p
  | 0, n, h, h0 => by omega
  | k + 1, n, h, h0 => by
    by_cases hd : n % p = 0
    · have h1 := Nat.div_pos (Nat.le_of_dvd h0 (Nat.dvd_of_mod_eq_zero hd)) (show 0 < p by omega)
      have h2 : n / p < n := Nat.div_lt_self h0 (by omega)
      rw [val_step hp h0 hd, Nat.pow_succ', ← Nat.div_div_eq_div_mul]
      exact val_left p hp k (n / p) (by omega) h1
    · rw [val_stop hd, Nat.pow_zero, Nat.div_one]
      exact fun h => hd (Nat.mod_eq_zero_of_dvd h)
/-- what the prime powers leave behind -/
structure PpInv (N L R C p : Nat) : Prop where
  eq : C * L * (R * R) = N
  free : SqFree C
  cop : Nat.Coprime C L
  less : ∀ d, 2 ≤ d → d < p → ¬ d ∣ L
  posL : 0 < L
  posR : 0 < R
theorem PpInv.only {N L R C p : Nat} (h : PpInv N L R C p) (hd : p ∣ L) : OnlySelf p := fun d hdp => by
  by_cases h0 : p = 0
  · subst h0
    have := Nat.eq_zero_of_zero_dvd hd
    have := h.posL
    omega
  · have h1 := Nat.le_of_dvd (by omega) hdp
    by_cases h2 : 2 ≤ d
    · by_cases h3 : d < p
      · exact absurd (Nat.dvd_trans hdp hd) (h.less d h2 h3)
      · right; omega
    · left
      rcases Nat.eq_zero_or_pos d with e | e
      · subst e
        have := Nat.eq_zero_of_zero_dvd hdp
        omega
      · omega
theorem PpInv.last {N L R C p : Nat} (h : PpInv N L R C p) (hp2 : 2 ≤ p) (hp : ¬ p * p ≤ L) : IsCore ((C * L : Nat) : Int) R (N : Int) := by
  refine ⟨by have := h.eq; exact_mod_cast this, h.posR, ?_⟩
  rw [Int.natAbs_natCast]
  by_cases hL : 2 ≤ L
  · refine sqFree_mul hL (fun d hd => ?_) h.free h.cop
    obtain ⟨e, he⟩ := hd
    have hd0 : d ≠ 0 := by rintro rfl; rw [Nat.zero_mul] at he; omega
    have he0 : e ≠ 0 := by rintro rfl; rw [Nat.mul_zero] at he; omega
    by_cases hd1 : d = 1
    · exact .inl hd1
    · by_cases he1 : e = 1
      · right; rw [he, he1, Nat.mul_one]
      · exfalso
        have h1 : ¬ d < p := fun hlt => h.less d (by omega) hlt ⟨e, he⟩
        have h2 : ¬ e < p := fun hlt => h.less e (by omega) hlt ⟨d, by rw [he, Nat.mul_comm]⟩
        have h3 := Nat.mul_le_mul (show p ≤ d by omega) (show p ≤ e by omega)
        omega
  · have : L = 1 := by have := h.posL; omega
    rw [this, Nat.mul_one]
    exact h.free
theorem PpInv.skip {N L R C p : Nat} (h : PpInv N L R C p) (hd : ¬ L % p = 0) : PpInv N L R C (p + 1) :=
  ⟨h.eq, h.free, h.cop, fun d h2 hlt hdd => by
    by_cases e : d = p
    · subst e; exact hd (Nat.mod_eq_zero_of_dvd hdd)
    · exact h.less d h2 (by omega) hdd, h.posL, h.posR⟩
theorem PpInv.step {N L R C p : Nat} (h : PpInv N L R C p) (hp2 : 2 ≤ p) (hd : L % p = 0) : PpInv N (L / p ^ val L p) (R * p ^ (val L p / 2)) (C * p ^ (val L p % 2)) (p + 1) := by
  have hdv := val_dvd p hp2 L L (Nat.le_refl _) h.posL
  have hnd := val_left p hp2 L L (Nat.le_refl _) h.posL
  have hpL := Nat.dvd_of_mod_eq_zero hd
  have hon := h.only hpL
  obtain ⟨K, hK⟩ : ∃ K, K = val L p := ⟨_, rfl⟩
  rw [← hK] at hdv hnd ⊢
  obtain ⟨M, hM⟩ : ∃ M, M = L / p ^ K := ⟨_, rfl⟩
  have hLM : L = p ^ K * M := by rw [hM]; exact (Nat.mul_div_cancel' hdv).symm
  rw [← hM] at hnd ⊢
  have hML : M ∣ L := ⟨p ^ K, by rw [hLM, Nat.mul_comm]⟩
  have hcp : Nat.Coprime C p := Nat.Coprime.coprime_dvd_right hpL h.cop
  have hcM : Nat.Coprime C M := Nat.Coprime.coprime_dvd_right hML h.cop
  have hpM : Nat.Coprime p M := by
    rcases hon _ (Nat.gcd_dvd_left p M) with e | e
    · exact e
    · exact absurd (by have := Nat.gcd_dvd_right p M; rwa [e] at this) hnd
  refine ⟨?_, ?_, ?_, ?_, ?_, Nat.mul_pos h.posR (Nat.pow_pos (by omega))⟩
  · rw [← h.eq, hLM]
    have e : p ^ K = p ^ (K % 2) * (p ^ (K / 2) * p ^ (K / 2)) := by
      rw [← Nat.pow_add, ← Nat.pow_add]
      congr 1
      omega
    rw [e]
    simp only [Nat.mul_assoc, Nat.mul_comm, Nat.mul_left_comm]
  · rcases Nat.mod_two_eq_zero_or_one K with e | e
    · rw [e, Nat.pow_zero, Nat.mul_one]; exact h.free
    · rw [e, Nat.pow_one]; exact sqFree_mul hp2 hon h.free hcp
  · exact hcM.mul_left (hpM.pow_left _)
  · intro d h2 hlt hdd
    by_cases e : d = p
    · subst e; exact hnd hdd
    · exact h.less d h2 (by omega) (Nat.dvd_trans hdd hML)
  · rcases Nat.eq_zero_or_pos M with e | e
    · rw [e, Nat.mul_zero] at hLM
      have := h.posL
      omega
    · exact e
theorem ppGo_root {N : Nat} : ∀ (f p L R C n : Nat), PpInv N L R C p → 2 ≤ p → L ≤ n → n + 3 ≤ p + f → ∃ c : Nat, IsCore (c : Int) (rootFrom R (ppGo f p L)) (N : Int)
  | 0, p, L, R, C, n, h, hp, hL, hf => ⟨_, h.last hp (by
      have := Nat.le_mul_of_pos_left p (show 0 < p by omega)
      omega)⟩
  | f + 1, p, L, R, C, n, h, hp, hL, hf => by
    unfold ppGo
    by_cases hle : p * p ≤ L
    · rw [if_pos hle]
      by_cases hd : L % p = 0
      · rw [if_pos hd]
        exact ppGo_root f (p + 1) _ _ _ n (h.step hp hd) (by omega) (Nat.le_trans (Nat.div_le_self _ _) hL) (by omega)
      · rw [if_neg hd]
        exact ppGo_root f (p + 1) _ _ _ n (h.skip hd) (by omega) hL (by omega)
    · rw [if_neg hle]
      split
      · refine ⟨C * L, ?_⟩
        show IsCore _ (R * L ^ (1 / 2)) _
        rw [show 1 / 2 = 0 from rfl, Nat.pow_zero, Nat.mul_one]
        exact h.last hp hle
      · exact ⟨_, h.last hp hle⟩
theorem rootG_abs (n : Int) : rootG ((n.natAbs : Nat) : Int) = rootG n := by unfold rootG; rw [Int.natAbs_natCast]
theorem rootWG_eq {N : Nat} (h1 : 1 ≤ N) (h2 : N ≤ 25000000) : rootW (ppowG N) = ((rootG (N : Int) : Nat) : Int) ∧ rootG (N : Int) ≤ 5000 ∧ 1 ≤ rootG (N : Int) := by
  obtain ⟨c, hc⟩ := ppGo_root (N := N) (N + 1) 2 N 1 1 N ⟨by simp, fun d hd hdd => by
      have h3 := Nat.le_of_dvd (by omega) hdd
      have := Nat.mul_le_mul hd hd
      omega, Nat.gcd_one_left N, fun d hd hlt => by omega, h1, by omega⟩ (Nat.le_refl _) (Nat.le_refl _) (by omega)
  have hr := (core_eq (show (N : Int) ≠ 0 by omega) hc).2
  obtain ⟨r, hre⟩ : ∃ r, r = rootFrom 1 (ppGo (N + 1) 2 N) := ⟨_, rfl⟩
  rw [← hre] at hc hr
  have he : N = c * (r * r) := by have := hc.eq; exact_mod_cast this.symm
  have hc0 : 0 < c := by
    rcases Nat.eq_zero_or_pos c with e | e
    · rw [e, Nat.zero_mul] at he; omega
    · exact e
  have hrr : r * r ≤ N := by rw [he]; exact Nat.le_mul_of_pos_left _ hc0
  have h5 := sq_le5 hrr h2
  have hp := hc.pos
  rw [hr]
  refine ⟨?_, h5, hp⟩
  unfold rootW ppowG
  have := rootW_from (ppGo (N + 1) 2 N) 1 (ppGo_pos _ _ _ (by omega)) (by rw [← hre]; omega)
  rw [← hre] at this
  exact this

def rootPG (l : List PPG) : Int := rootW (l.map (·.1))
theorem rootPG_snoc (l : List PPG) (x : PPG) : rootPG (l ++ [x]) = mulW (rootPG l) x.1.1 (x.1.2 / 2) := by simp [rootPG, rootW]
theorem tdiv_bd {n m : Int} (h1 : -25000000 ≤ n) (h2 : n ≤ 25000000) : -25000000 ≤ n.tdiv m ∧ n.tdiv m ≤ 25000000 := by
  have h := Nat.div_le_self n.natAbs m.natAbs
  rw [← tdiv_natAbs] at h
  omega

set_option maxRecDepth 100000 in
set_option maxHeartbeats 2000000 in
theorem numCore_any (n : Int) (h0 : n ≠ 0) (a1 : -25000000 ≤ n) (a2 : n ≤ 25000000) (w : World) :
    Calls Try.prog 38 #[.int .i64 n] w fun e w' => e = .returned (.tuple #[.int .i64 (coreG n), .int .i64 (rootG n : Nat)]) ∧ Below w.heap.size w w' := by
  have HR := hid (rootWG_eq (N := n.natAbs) (by omega) (by omega))
  have HA := hid (rootG_abs n)
  have hB0 : Below w.heap.size w ((w.alloc (.cells #[.int .i64 1] 3)).alloc (.cells #[.int .i64 n] 52)) := ((Below.refl _ _).alloc (Nat.le_refl _) _).alloc (by simp) _
  have bO := (Boxed.new w 3 (.int .i64 1)).alloc (.cells #[.int .i64 n] 52)
  have bN := Boxed.new (w.alloc (.cells #[.int .i64 1] 3)) 52 (.int .i64 n)
  simp only [World.size_alloc] at bN
  have H0 := hid h0
  clear h0
  refine (callsIn_wide (n := 5)).1 ?_
  refine callsIn_of_wp_marks Try.func38 rfl trivial ?_ rfl
  simp only [Try.ntmps38, List.size_toArray, List.length_cons, List.length_nil, Nat.reduceAdd, Nat.reduceSub, Array.replicate_succ, Array.replicate_zero, List.push_toArray, List.append_toArray, List.nil_append, List.cons_append]
  gi_wp2_with (refine ⟨trivial, ?_⟩; gi_at_call 63; refine (callsIn_wide.2 (pp_make _ _)).mono ?_; rintro e w' ⟨rfl, rfl⟩)
  refine wpIn_rangeFunc_ownF rfl (by omega) (gf := 75) (lb := #[.pointer (some ⟨w.heap.size + 1, 0, none⟩)]) rfl trivial (enters_of Try.func75 (by kernel_rfl) rfl)
    (ppG_stops _ (w.heap.size + 1) n H0.out (by omega) (by omega) _ (by simp) bN.cell) walksK_t walksK_b (Below.refl _ _) (fun _ => rfl)
    (fun pre W => Boxed W w.heap.size 3 (.int .i64 (rootPG pre)) ∧ Below w.heap.size w W)
    (fun _ _ _ => False)
    (OwnFrom.and (Own.from (boxed_own w.heap.size 3 (fun pre => .int .i64 (rootPG pre))) _) (ownFrom_below (Nat.le_refl _) (by simp; omega)))
    (fun _ _ _ _ _ hs _ _ => hs)
    ⟨bO, hB0⟩ ?a1 ?assign ?body ?done ?stop
  case assign =>
    intro l x W K hK
    gi_wp2
    exact hK
  case body =>
    rintro l pre x W ⟨hv, hB⟩ hlt
    obtain ⟨⟨p, k⟩, hp, hk⟩ := x
    dsimp only at hp hk
    obtain ⟨r, hr⟩ : ∃ r, r = rootPG pre := ⟨_, rfl⟩
    rw [← hr] at hv
    have HRP := hid hr
    have HV := hid hv
    have hk1 : 0 ≤ (k : Int) := by omega
    have hk2 : (k : Int) ≤ 25000000 := by omega
    obtain ⟨wo, hwo⟩ : ∃ wo : World, wo = W := ⟨_, rfl⟩
    have HW := hid hwo
    clear hr hv hwo
    gi_wp2
    gi_loopw [13] (fun si wr => ∃ j : Nat, si = .int .i64 j ∧ j ≤ k / 2 ∧ Boxed wr w.heap.size 3 (.int .i64 (mulW r p j)) ∧ Hid (KeepsOthers W wr ∧ Below w.heap.size W wr)) (fun si _ => k / 2 - (intOf si).toNat)
    case atStart => exact ⟨0, rfl, by omega, HV.out, hid ⟨KeepsOthers.refl _, Below.refl _ _⟩⟩
    case round =>
      obtain ⟨j, rfl, hj, hbx, HK⟩ := hrel
      have hc := hbx.cell
      have hf := hbx.frozen
      have HB := hid hbx
      clear hbx
      by_cases hlt2 : j < k / 2
      · gi_wp2
        go_roundw
        case rel => exact ⟨j + 1, by go_num, by omega, HB.out.set _, hid ⟨HK.out.1.trans (KeepsOthers.setCell _ _ _), HK.out.2.setCell (p := ⟨w.heap.size, 0, none⟩) (Nat.le_refl _) _⟩⟩
        case measure => simp only [intOf]; omega
      · obtain rfl : j = k / 2 := by omega
        gi_wp2
        refine ⟨HK.out.1, HK.out.1.walks, ?_, hB.trans HK.out.2⟩
        rw [rootPG_snoc, ← HRP.out]
        exact HB.out
  case done =>
    rintro D ys W hD hS ⟨hv, hB⟩ hK
    have hR : rootPG ys = ((rootG n : Nat) : Int) := by unfold rootPG; rw [hS, HR.out.1, HA.out]
    rw [hR] at hv
    obtain ⟨R, hRR⟩ : ∃ R, R = rootG n := ⟨_, rfl⟩
    have hR1 : 1 ≤ R := by rw [hRR, ← HA.out]; exact HR.out.2.2
    have hR2 : R ≤ 5000 := by rw [hRR, ← HA.out]; exact HR.out.2.1
    rw [← hRR] at hv
    have HRR := hid hRR
    have hc := hv.cell
    have hmm := mul_bd hR2 hR2
    have hm1 : 1 ≤ (R : Int) * R := by
      have := Nat.mul_le_mul hR1 hR1
      exact_mod_cast this
    have hne : (R : Int) * R ≠ 0 := by omega
    have hT : (((R : Int) * R) == 0) = false := by rw [beq_eq_false_iff_ne]; exact hne
    clear hR hRR hne
    have htd := tdiv_bd (n := n) (m := (R : Int) * R) a1 a2
    have ht1 := htd.1
    have ht2 := htd.2
    clear htd
    have HX : Hid (coreG n = n.tdiv ((R : Int) * R)) := by
      show _ = _
      unfold coreG
      rw [HRR.out]
    gi_wp2
    gi_region
    all_goals gi_wp2
    have hK' : W.drew.heap[D]? = some (.deferred (some [])) := hK
    refine ⟨by simp, .inl ⟨_, _, rfl, run_takeDeferred hK', ?_⟩⟩
    refine ⟨.tuple #[.int .i64 (n.tdiv ((R : Int) * R)), .int .i64 R], by simp [results, Try.f38, go_sem], by rw [HX.out, ← HRR.out], ?_⟩
    exact hB.drew.trans (belowK_b (w := w) (Nat.le_refl _) W.drew D _ _ (by simp at hD; omega) hK' rfl rfl)
  case stop =>
    rintro D c pre W _ _ h _
    exact h.elim

set_option maxRecDepth 100000 in
set_option maxHeartbeats 2000000 in
theorem coreOf_any (n : Int) (w : World) : Calls Try.prog 12 #[.int .i64 n] w fun e w' => e = .returned (coreV n) ∧ Below w.heap.size w w' := by
  cases hF : factB n with
  | false =>
    have P := hid (coreV_no hF)
    go_enter Try.func12, Try.ntmps12
    go_wp2_with (go_at_call 37; refine (factored_any _ _).mono ?_; rintro e w' ⟨rfl, rfl⟩)
    go_ret3
    exact ⟨retV P.out.symm, Below.refl _ _⟩
  | true =>
    rcases factB_cases n with ⟨a1, a2, h0, _, _⟩ | ⟨_, h⟩ | ⟨_, _, h⟩
    · have P := hid (coreV_G hF)
      have H0 := hid h0
      clear h0
      go_enter Try.func12, Try.ntmps12
      go_wp2_with (first | (go_at_call 37; refine (factored_any _ _).mono ?_; rintro e w' ⟨rfl, rfl⟩) | (go_at_call 38; refine (numCore_any _ H0.out (by omega) (by omega) _).mono ?_; rintro e w' ⟨rfl, hb⟩))
      go_ret3
      exact ⟨retV P.out.symm, hb⟩
    · rw [hF] at h; cases h
    · rw [hF] at h; cases h

end Go.Proofs.Ytenibnblibnocac

/-! Imp4C -/
set_option linter.unusedVariables false
namespace Go.Proofs.Ytenibnblibnocac
open Go.RowKit

theorem quadraticOf_no (v : Value) (xs : List Int) (w : World) (h : Rd w v xs) (hf : fvB xs = false) : Calls Try.prog 41 #[v] w fun e w' => e = .returned (.tuple #[.nilIface, .bool false]) ∧ w = w' := by
  refine (quadraticOf_any v xs w h).mono ?_
  rintro e w' (⟨_, rfl, rfl⟩ | ⟨h2, _⟩)
  · exact ⟨rfl, rfl⟩
  · rw [hf] at h2; cases h2
theorem quadraticOf_yes (v : Value) (xs : List Int) (w : World) (h : Rd w v xs) (hf : fvB xs = true) : Calls Try.prog 41 #[v] w fun e w' => e = .returned (.tuple #[quadV v w.heap.size, .bool true]) ∧ w' = w.alloc (.map #[] 0) := by
  refine (quadraticOf_any v xs w h).mono ?_
  rintro e w' (⟨h2, _⟩ | ⟨_, rfl, rfl⟩)
  · rw [hf] at h2; cases h2
  · exact ⟨rfl, rfl⟩



theorem diaCount_is (v : Value) (xs : List Int) (m : Nat) (w : World) (h : Rd w v xs) (k : Int) (hk : (xs.length : Int) = k) : Calls Try.prog 110 #[diaV v m] w fun e w' => e = .returned (.int .i64 k) ∧ Below w.heap.size w w' := by
  subst hk
  exact diaCount_any v xs m w h

set_option maxRecDepth 100000 in
set_option maxHeartbeats 4000000 in
theorem vanishesAt_any (v : Value) (xs : List Int) (q : Int) (m n : Nat) (w0 w : World) (h : Quad w0 w m n v xs) (hq : plI q = true) (hn : n < 9000000) :
    Calls Try.prog 43 #[quadV v m, .int .i64 q] w fun e w' => e = .returned (.bool (vanB xs q)) ∧ Quad w0 w' m (n + 1) v xs ∧ Beside m w w' := by
  have Q0 := hid h
  have HF := hid h.ok
  have HQ := hid hq
  have hqb := plI_bd hq
  have hq1 := hqb.1
  have hq2 := hqb.2
  have HP := hid (prod_full h.ok)
  have hlen := (fvB_iff.1 h.ok).2
  have hp1 := HP.out.2.1
  have hp2 := HP.out.2.2
  have P0 : Hid (prodI xs ≠ 0) := hid HP.out.1
  have PN : Hid (-(prodI xs) ≠ 0) := hid (by have := HP.out.1; omega)
  obtain ⟨p, hp⟩ : ∃ p, p = prodI xs := ⟨_, rfl⟩
  have HPE := hid hp.symm
  rw [← hp] at hp1 hp2 P0 PN
  have hle := less_le xs
  clear h hq hqb hp
  by_cases q0 : q = 0
  · subst q0
    have HV : Hid (vanB xs 0 = (decide (0 < lessN xs) && decide (lessN xs < xs.length))) := hid rfl
    obtain ⟨N, hN⟩ : ∃ N, N = lessN xs := ⟨_, rfl⟩
    have HN := hid hN.symm
    rw [← hN] at HV hle
    clear hN
    by_cases n0 : N = 0
    · have HR : Hid (vanB xs 0 = false) := hid (by rw [HV.out, n0]; rfl)
      subst n0
      unfold quadV
      go_enter Try.func43, Try.ntmps43
      go_wp2_with fail
      refine (diaLess_any v xs m _ Q0.out.read HF.out).mono ?_
      rw [HN.out]
      rintro e w' ⟨rfl, hb1⟩
      have Q1 := hid (Q0.out.step hb1)
      have S1 := hid (Below.beside (m := m) hb1)
      clear hb1
      go_wp2_with fail
      go_ret
      exact ⟨retB HR.out.symm, Q1.out.more (by omega), S1.out⟩
    · have N1 : ((N : Nat) : Int) > 0 := by omega
      by_cases nl : N < xs.length
      · have HR : Hid (vanB xs 0 = true) := hid (by rw [HV.out, decide_eq_true nl, decide_eq_true (show 0 < N by omega)]; rfl)
        have N2 : ((N : Nat) : Int) < ((xs.length : Nat) : Int) := by omega
        clear n0 nl
        unfold quadV
        go_enter Try.func43, Try.ntmps43
        go_wp2_with fail
        refine (diaLess_any v xs m _ Q0.out.read HF.out).mono ?_
        rw [HN.out]
        rintro e w' ⟨rfl, hb1⟩
        have Q1 := hid (Q0.out.step hb1)
        have S1 := hid (Below.beside (m := m) hb1)
        clear hb1
        go_wp2_with fail
        refine (diaLess_any v xs m _ Q1.out.read HF.out).mono ?_
        rw [HN.out]
        rintro e w' ⟨rfl, hb1⟩
        have Q2 := hid (Q1.out.step hb1)
        have S2 := hid (S1.out.trans (Below.beside (m := m) hb1))
        clear hb1
        go_wp2_with fail
        refine (diaCount_any v xs m _ Q2.out.read).mono ?_
        rintro e w' ⟨rfl, hb1⟩
        have Q3 := hid (Q2.out.step hb1)
        have S3 := hid (S2.out.trans (Below.beside (m := m) hb1))
        clear hb1
        go_wp2_with fail
        go_ret
        exact ⟨retB HR.out.symm, Q3.out.more (by omega), S3.out⟩
      · have HR : Hid (vanB xs 0 = false) := hid (by rw [HV.out, decide_eq_false nl, Bool.and_false])
        have HR' : Hid (vanB xs 0 = decide (N < xs.length)) := hid (by rw [HR.out, decide_eq_false nl])
        have N2 : ¬ ((N : Nat) : Int) < ((xs.length : Nat) : Int) := by omega
        clear n0 nl
        unfold quadV
        go_enter Try.func43, Try.ntmps43
        go_wp2_with fail
        refine (diaLess_any v xs m _ Q0.out.read HF.out).mono ?_
        rw [HN.out]
        rintro e w' ⟨rfl, hb1⟩
        have Q1 := hid (Q0.out.step hb1)
        have S1 := hid (Below.beside (m := m) hb1)
        clear hb1
        go_wp2_with fail
        refine (diaLess_any v xs m _ Q1.out.read HF.out).mono ?_
        rw [HN.out]
        rintro e w' ⟨rfl, hb1⟩
        have Q2 := hid (Q1.out.step hb1)
        have S2 := hid (S1.out.trans (Below.beside (m := m) hb1))
        clear hb1
        go_wp2_with fail
        refine (diaCount_any v xs m _ Q2.out.read).mono ?_
        rintro e w' ⟨rfl, hb1⟩
        have Q3 := hid (Q2.out.step hb1)
        have S3 := hid (S2.out.trans (Below.beside (m := m) hb1))
        clear hb1
        go_wp2_with fail
        go_ret
        first | exact ⟨retB HR.out.symm, Q3.out.more (by omega), S3.out⟩ | exact ⟨retB HR'.out.symm, Q3.out.more (by omega), S3.out⟩
  · have T0 : (q == 0) = false := by rw [beq_eq_false_iff_ne]; exact q0
    have hcase : xs.length = 1 ∨ xs.length = 2 ∨ xs.length = 3 ∨ xs.length = 4 := by omega
    rcases hcase with hl | hl | hl | hl
    · have HR := hid (van_one (q := q) q0 hl)
      have HL : Hid ((xs.length : Int) = 1) := hid (by omega)
      clear q0 hl hlen hle
      unfold quadV
      go_enter Try.func43, Try.ntmps43
      go_wp2_with fail
      refine (diaCount_is v xs m _ Q0.out.read 1 HL.out).mono ?_
      rintro e w' ⟨rfl, hb1⟩
      have Q1 := hid (Q0.out.step hb1)
      have S1 := hid (Below.beside (m := m) hb1)
      clear hb1
      go_wp2_with fail
      go_ret
      exact ⟨retB HR.out.symm, Q1.out.more (by omega), S1.out⟩
    · have HR := hid (van_two (q := q) q0 hl)
      have HL : Hid ((xs.length : Int) = 2) := hid (by omega)
      rw [HPE.out] at HR
      clear q0 hl hlen hle
      unfold quadV
      go_enter Try.func43, Try.ntmps43
      go_wp2_with fail
      refine (diaCount_is v xs m _ Q0.out.read 2 HL.out).mono ?_
      rintro e w' ⟨rfl, hb1⟩
      have Q1 := hid (Q0.out.step hb1)
      have S1 := hid (Below.beside (m := m) hb1)
      clear hb1
      go_wp2_with fail
      refine (diaProduct_any v xs m _ Q1.out.read HF.out).mono ?_
      rw [HPE.out]
      rintro e w' ⟨rfl, hb1⟩
      have Q2 := hid (Q1.out.step hb1)
      have S2 := hid (S1.out.trans (Below.beside (m := m) hb1))
      clear hb1
      go_wp2_with fail
      refine (plSquare_any (-p) q PN.out (by omega) (by omega) HQ.out _).mono ?_
      rintro e w' ⟨rfl, hb1⟩
      have Q3 := hid (Q2.out.step hb1)
      have S3 := hid (S2.out.trans (Below.beside (m := m) hb1))
      clear hb1
      go_wp2_with fail
      go_ret
      exact ⟨retB HR.out.symm, Q3.out.more (by omega), S3.out⟩
    · have HR := hid (van_three (q := q) q0 hl)
      have HL : Hid ((xs.length : Int) = 3) := hid (by omega)
      rw [HPE.out] at HR
      clear q0 hl hlen hle
      unfold quadV
      go_enter Try.func43, Try.ntmps43
      go_wp2_with fail
      refine (diaCount_is v xs m _ Q0.out.read 3 HL.out).mono ?_
      rintro e w' ⟨rfl, hb1⟩
      have Q1 := hid (Q0.out.step hb1)
      have S1 := hid (Below.beside (m := m) hb1)
      clear hb1
      go_wp2_with fail
      refine (diaInv_any v xs q m n w0 _ Q1.out HQ.out hn).mono ?_
      rintro e w' ⟨rfl, hq2, hs2⟩
      have Q2 := hid hq2
      have S2 := hid (S1.out.trans hs2)
      clear hq2 hs2
      go_wp2_with fail
      refine (symbolAt_any q HQ.out _).mono ?_
      rintro e w' ⟨fv, rfl, hfs, hb3⟩
      have Q3 := hid (Q2.out.step hb3)
      have S3 := hid (S2.out.trans (Below.beside (m := m) hb3))
      have HFS := hid hfs
      clear hb3 hfs
      go_wp2_with fail
      refine (diaProduct_any v xs m _ Q3.out.read HF.out).mono ?_
      rw [HPE.out]
      rintro e w' ⟨rfl, hb1⟩
      have Q4 := hid (Q3.out.step hb1)
      have S4 := hid (S3.out.trans (Below.beside (m := m) hb1))
      have hsy := isSym_calls (HFS.out.keep hb1)
      clear hb1 HFS
      obtain ⟨y, hy⟩ : ∃ y, y = symV (-1) (-p) q := ⟨_, rfl⟩
      obtain ⟨hF, hhF⟩ : ∃ z, z = hasF xs q := ⟨_, rfl⟩
      rw [← hy, ← hhF] at HR
      have HY := hid hy.symm
      rw [← hhF]
      clear hy hhF
      rcases hsy with ⟨rfl, hcall⟩ | ⟨rfl, hcall⟩ | ⟨C, rfl, hcall⟩
      all_goals
        have HC := hid hcall
        clear hcall
        go_wp2_with fail
        refine (HC.out (-1) (-p) (by decide) PN.out (by omega) (by omega) (by omega) (by omega)).mono ?_
        rw [HY.out]
        rintro e w' ⟨rfl, rfl⟩
        go_wp2_with fail
        go_ret
        exact ⟨retB HR.out.symm, Q4.out, S4.out⟩
    · have HR := hid (van_four (q := q) q0 hl)
      have HL : Hid ((xs.length : Int) = 4) := hid (by omega)
      rw [HPE.out] at HR
      clear q0 hl hlen hle
      cases hsq : sqAt p q with
      | false =>
        have HS := hid hsq
        have HR2 : Hid (vanB xs q = true) := hid (by rw [HR.out, hsq]; rfl)
        clear hsq
        unfold quadV
        go_enter Try.func43, Try.ntmps43
        go_wp2_with fail
        refine (diaCount_is v xs m _ Q0.out.read 4 HL.out).mono ?_
        rintro e w' ⟨rfl, hb1⟩
        have Q1 := hid (Q0.out.step hb1)
        have S1 := hid (Below.beside (m := m) hb1)
        clear hb1
        go_wp2_with fail
        refine (diaProduct_any v xs m _ Q1.out.read HF.out).mono ?_
        rw [HPE.out]
        rintro e w' ⟨rfl, hb1⟩
        have Q2 := hid (Q1.out.step hb1)
        have S2 := hid (S1.out.trans (Below.beside (m := m) hb1))
        clear hb1
        go_wp2_with fail
        refine (plSquare_any p q P0.out (by omega) (by omega) HQ.out _).mono ?_
        rw [HS.out]
        rintro e w' ⟨rfl, hb1⟩
        have Q3 := hid (Q2.out.step hb1)
        have S3 := hid (S2.out.trans (Below.beside (m := m) hb1))
        clear hb1
        go_wp2_with fail
        go_ret
        exact ⟨retB HR2.out.symm, Q3.out.more (by omega), S3.out⟩
      | true =>
        have HS := hid hsq
        have HR2 : Hid (vanB xs q = (hasF xs q == symV (-1) (-1) q)) := hid (by rw [HR.out, hsq]; rfl)
        clear hsq HR
        unfold quadV
        go_enter Try.func43, Try.ntmps43
        go_wp2_with fail
        refine (diaCount_is v xs m _ Q0.out.read 4 HL.out).mono ?_
        rintro e w' ⟨rfl, hb1⟩
        have Q1 := hid (Q0.out.step hb1)
        have S1 := hid (Below.beside (m := m) hb1)
        clear hb1
        go_wp2_with fail
        refine (diaProduct_any v xs m _ Q1.out.read HF.out).mono ?_
        rw [HPE.out]
        rintro e w' ⟨rfl, hb1⟩
        have Q2 := hid (Q1.out.step hb1)
        have S2 := hid (S1.out.trans (Below.beside (m := m) hb1))
        clear hb1
        go_wp2_with fail
        refine (plSquare_any p q P0.out (by omega) (by omega) HQ.out _).mono ?_
        rw [HS.out]
        rintro e w' ⟨rfl, hb1⟩
        have Q3 := hid (Q2.out.step hb1)
        have S3 := hid (S2.out.trans (Below.beside (m := m) hb1))
        clear hb1
        go_wp2_with fail
        refine (diaInv_any v xs q m n w0 _ Q3.out HQ.out hn).mono ?_
        rintro e w' ⟨rfl, hq2, hs2⟩
        have Q4 := hid hq2
        have S4 := hid (S3.out.trans hs2)
        clear hq2 hs2
        go_wp2_with fail
        refine (symbolAt_any q HQ.out _).mono ?_
        rintro e w' ⟨fv, rfl, hfs, hb3⟩
        have Q5 := hid (Q4.out.step hb3)
        have S5 := hid (S4.out.trans (Below.beside (m := m) hb3))
        have hsy := isSym_calls hfs
        clear hb3 hfs
        obtain ⟨y, hy⟩ : ∃ y, y = symV (-1) (-1) q := ⟨_, rfl⟩
        obtain ⟨hF, hhF⟩ : ∃ z, z = hasF xs q := ⟨_, rfl⟩
        rw [← hy, ← hhF] at HR2
        have HY := hid hy.symm
        rw [← hhF]
        clear hy hhF
        rcases hsy with ⟨rfl, hcall⟩ | ⟨rfl, hcall⟩ | ⟨C, rfl, hcall⟩
        all_goals
          have HC := hid hcall
          clear hcall
          go_wp2_with fail
          refine (HC.out (-1) (-1) (by decide) (by decide) (by omega) (by omega) (by omega) (by omega)).mono ?_
          rw [HY.out]
          rintro e w' ⟨rfl, rfl⟩
          go_wp2_with fail
          go_ret
          exact ⟨retB HR2.out.symm, Q5.out, S5.out⟩

end Go.Proofs.Ytenibnblibnocac
