/-
  Some texts in one file: Draws14 Draws15.
-/
import Derived.Test.YtfjbdbfeolfcfaaQBun32
import Derived.Test.YtfjbdbfeolfcfaaQRun
import Derived.Test.YtfjbdbfeolfcfaaQOwn2
import Derived.Deep.LoopGhost
import Derived.Deep.RegionHeld3
/-! Draws14 -/
set_option linter.unusedVariables false
namespace Go.Proofs.Ytfjbdbfeolfcfaa
open Go.RowKit

/-- the bytes that the reader reads -/
def CodeF (f : Nat → Nat) (W : World) (v : Value) (n : Nat) : Prop :=
  n = 0 ∨ ∃ b o cap, v = .slice (some ⟨b, o, none⟩) n cap ∧ ∀ i, i < n → f i ≤ 255 ∧ W.cell? ⟨b, o + i, none⟩ = some (.int .u8 ((f i : Nat) : Int))
theorem codeF_of {W : World} {B R : Nat} {v : Value} {n p : Nat} (h : Rdr W B R v n p) : ∃ f, CodeF f W v n := by
  obtain ⟨hn, hv⟩ := h.2.1
  rcases hv with ⟨a, cap, rfl, rfl⟩ | ⟨b, o, cap, rfl, hbB, hn0, hc⟩
  · exact ⟨fun _ => 0, .inl rfl⟩
  · refine ⟨fun i => if h : i < n then (Classical.choose (hc i h)).toNat else 0, .inr ⟨b, o, cap, rfl, fun i hi => ?_⟩⟩
    obtain ⟨h1, h2, h3⟩ := Classical.choose_spec (hc i hi)
    simp only [dif_pos hi]
    refine ⟨by omega, ?_⟩
    rw [Int.toNat_of_nonneg h2]
    exact h1
theorem CodeF.only {f : Nat → Nat} {W W' : World} {B R : Nat} {v : Value} {n p : Nat} (h : CodeF f W v n) (hr : Rdr W B R v n p) (ho : Only R W W') : CodeF f W' v n := by
  obtain ⟨hB, ⟨hn, hv⟩, hR⟩ := hr
  rcases h with h | ⟨b, o, cap, rfl, hc⟩
  · exact .inl h
  · rcases hv with ⟨a, cap', e, rfl⟩ | ⟨b', o', cap', e, hbB, hn0, _⟩
    · exact .inl rfl
    · cases e
      have hRs := (Array.getElem?_eq_some_iff.1 hR).1
      exact .inr ⟨b, o, cap, rfl, fun i hi => ⟨(hc i hi).1, (ho.cell (b := b) (o := o + i) (by omega) (by omega)).trans (hc i hi).2⟩⟩
def RdX (f : Nat → Nat) (W : World) (B R : Nat) (v : Value) (n p : Nat) : Prop := Rdr W B R v n p ∧ CodeF f W v n
theorem RdX.next {f : Nat → Nat} {W W' : World} {B R : Nat} {v : Value} {n p q : Nat} (h : RdX f W B R v n p) (ho : Only R W W') (hr : Rdr W' B R v n q) : RdX f W' B R v n q := ⟨hr, h.2.only h.1 ho⟩
theorem RdX.alloc {f : Nat → Nat} {W : World} {B R : Nat} {v : Value} {n p : Nat} (h : RdX f W B R v n p) (hB : B ≤ W.heap.size) (o : Obj) : RdX f (W.alloc o) B R v n p := h.next ((Only.refl R W).alloc o) (h.1.alloc hB o)
theorem RdX.kept {f : Nat → Nat} {W W' : World} {B R C : Nat} {v : Value} {n p : Nat} (h : RdX f W B R v n p) (hb : Below C W W') (hR : R < C) (hBC : B ≤ C) : RdX f W' B R v n p := by
  refine ⟨h.1.kept hb hR hBC, ?_⟩
  obtain ⟨hBR, ⟨hn, hv⟩, hRr⟩ := h.1
  rcases h.2 with h0 | ⟨b, o, cap, rfl, hc⟩
  · exact .inl h0
  · rcases hv with ⟨a, cap', e, rfl⟩ | ⟨b', o', cap', e, hbB, hn0, _⟩
    · exact .inl rfl
    · cases e
      exact .inr ⟨b, o, cap, rfl, fun i hi => ⟨(hc i hi).1, (hb.cell (p := ⟨b, o + i, none⟩) (by show b < C; omega)).trans (hc i hi).2⟩⟩
theorem rdX_of {W : World} {B R : Nat} {v : Value} {n p : Nat} (h : Rdr W B R v n p) : ∃ f, RdX f W B R v n p := by
  obtain ⟨f, hf⟩ := codeF_of h
  exact ⟨f, h, hf⟩
theorem RdX.len {f : Nat → Nat} {W : World} {B R : Nat} {v : Value} {n p : Nat} (h : RdX f W B R v n p) : n ≤ 2000 := h.1.2.1.1

def PickX (f : Nat → Nat) (w : World) (B R : Nat) (v : Value) (n p m : Nat) (e : Ending) (w' : World) : Prop :=
  ∃ x : Int, e = .returned (.int .i64 x) ∧ Hid (x = ((pickV f n p m : Nat) : Int)) ∧ 0 ≤ x ∧ x < m ∧ Hid (RdX f w' B R v n (p + 1)) ∧ Hid (Only R w w')
theorem pickV_lt (f : Nat → Nat) (n k : Nat) {m : Nat} (h : 1 ≤ m) : pickV f n k m < m := by
  unfold pickV
  by_cases h0 : n = 0
  · rw [if_pos h0]; omega
  · rw [if_neg h0]
    by_cases h1 : k < n
    · rw [if_pos h1]; exact Nat.mod_lt _ (by omega)
    · rw [if_neg h1]; exact Nat.mod_lt _ (by omega)
theorem PickX.mk {f : Nat → Nat} {w : World} {B R : Nat} {v : Value} {n p m : Nat} {x : Int} (k : Nat) (hm : 1 ≤ m) (h : RdX f w B R v n p) (hx : x = ((pickV f n p m : Nat) : Int)) :
    PickX f w B R v n p m (.returned (.int .i64 x)) ((w.setCell ⟨R, 1, none⟩ (.int .i64 ((p : Int) + 1))).drewN k) := by
  have ho : Only R w ((w.setCell ⟨R, 1, none⟩ (.int .i64 ((p : Int) + 1))).drewN k) := ⟨rfl, rfl, rfl, by simp [World.setCell], fun i hi hr => heap_setCell_other w ⟨R, 1, none⟩ i _ hr⟩
  have hl := pickV_lt f n p hm
  exact ⟨x, rfl, hid hx, by omega, by omega, hid (h.next ho (h.1.next.drewN k)), hid ho⟩
set_option maxRecDepth 100000 in
set_option maxHeartbeats 2000000 in
theorem pickX_any (f : Nat → Nat) (B R : Nat) (v : Value) (n p m : Nat) (hp : p ≤ 1000000000000000) (hm1 : 1 ≤ m) (hm2 : m ≤ 1000000) (w : World) (h : RdX f w B R v n p) :
    Calls Try.prog 43 #[.pointer (some ⟨R, 0, none⟩), .int .i64 (m : Int)] w (PickX f w B R v n p m) := by
  have c0 := h.1.cell0
  have c1 := h.1.cell1
  have f1 := h.1.frozen 1
  have h2 := h.1.next
  have d0 := h2.cell0
  have d1 := h2.cell1
  have e1 : ((p + 1 : Nat) : Int) = (p : Int) + 1 := by omega
  rw [e1] at d1
  have H2 := hid h2
  have H := hid h
  have HF2 : Hid (CodeF f (w.setCell ⟨R, 1, none⟩ (.int .i64 ((p : Int) + 1))) v n) := hid (h.2.only h.1 ⟨rfl, rfl, rfl, by simp [World.setCell], fun i hi hr => heap_setCell_other w ⟨R, 1, none⟩ i _ hr⟩)
  have hm : ¬ (m : Int) < 1 := by omega
  clear h h2 e1
  obtain ⟨hn, hv⟩ := H2.out.2.1
  rcases hv with ⟨a, cap, rfl, rfl⟩ | ⟨b, o, cap, rfl, hbB, hn0, hc0⟩
  · go_enter Try.func43, Try.ntmps43
    go_wp2
    go_ret
    exact PickX.mk 0 hm1 H.out (by unfold pickV; rw [if_pos rfl]; rfl)
  · have hc : ∀ i, i < n → f i ≤ 255 ∧ (w.setCell ⟨R, 1, none⟩ (.int .i64 ((p : Int) + 1))).cell? ⟨b, o + i, none⟩ = some (.int .u8 ((f i : Nat) : Int)) := by
      rcases HF2.out with h0 | ⟨b', o', cap', e, hc⟩
      · omega
      · cases e; exact hc
    clear hc0
    have T : ((n : Int) == 0) = false := by rw [beq_eq_false_iff_ne]; omega
    by_cases hpn : p < n
    · obtain ⟨hx2, hx⟩ := hc p hpn
      have hi : (p : Int) < (n : Int) := by omega
      obtain ⟨x, hxe⟩ : ∃ x : Int, x = ((f p : Nat) : Int) := ⟨_, rfl⟩
      rw [← hxe] at hx
      have hx1 : 0 ≤ x := by omega
      have hx3 : x ≤ 255 := by omega
      have hmd := Int.emod_lt_of_pos x (show 0 < (m : Int) by omega)
      have hmd0 := Int.emod_nonneg x (show (m : Int) ≠ 0 by omega)
      have HE : Hid (x % (m : Int) = ((pickV f n p m : Nat) : Int)) := hid (by unfold pickV; rw [if_neg (by omega), if_pos hpn, hxe]; push_cast; rfl)
      clear hc hxe hx2
      go_enter Try.func43, Try.ntmps43
      go_wp2
      go_ret
      exact PickX.mk 0 hm1 H.out HE.out
    · obtain ⟨d, hd⟩ : ∃ d, d = p % n := ⟨_, rfl⟩
      obtain ⟨d2, hd2⟩ : ∃ d2, d2 = (p * 7 + 3) % n := ⟨_, rfl⟩
      obtain ⟨d3, hd3⟩ : ∃ d3, d3 = p / n := ⟨_, rfl⟩
      have hdn : d < n := by rw [hd]; exact Nat.mod_lt _ hn0
      have hdn2 : d2 < n := by rw [hd2]; exact Nat.mod_lt _ hn0
      have hdn3 : d3 ≤ 1000000000000000 := by rw [hd3]; exact Nat.le_trans (Nat.div_le_self p n) hp
      obtain ⟨hx2, hx⟩ := hc d hdn
      obtain ⟨hy2, hy⟩ := hc d2 hdn2
      obtain ⟨x, hxe⟩ : ∃ x : Int, x = ((f d : Nat) : Int) := ⟨_, rfl⟩
      obtain ⟨y, hye⟩ : ∃ y : Int, y = ((f d2 : Nat) : Int) := ⟨_, rfl⟩
      rw [← hxe] at hx
      rw [← hye] at hy
      have hx1 : 0 ≤ x := by omega
      have hx3 : x ≤ 255 := by omega
      have hy1 : 0 ≤ y := by omega
      have hy3 : y ≤ 255 := by omega
      have e1 : (p : Int) % n = d := by rw [hd]; push_cast; rfl
      have e2 : ((p : Int) * 7 + 3) % n = d2 := by rw [hd2]; push_cast; rfl
      have e3 : (p : Int) / n = d3 := by rw [hd3]; push_cast; rfl
      have xb := xor_bd (x := x * 131 + y * 1117 + (p : Int) * 29 + (d3 : Int) * 53) (by omega) (by omega)
      obtain ⟨z, hz⟩ : ∃ z, z = bits .xor .i64 (x * 131 + y * 1117 + (p : Int) * 29 + (d3 : Int) * 53) ((x * 131 + y * 1117 + (p : Int) * 29 + (d3 : Int) * 53) / 64) := ⟨_, rfl⟩
      have HE : Hid (z % (m : Int) = ((pickV f n p m : Nat) : Int)) := hid (by
        obtain ⟨M, hM⟩ : ∃ M : Nat, M = f d * 131 + f d2 * 1117 + p * 29 + d3 * 53 := ⟨_, rfl⟩
        have hMi : x * 131 + y * 1117 + (p : Int) * 29 + (d3 : Int) * 53 = (M : Int) := by rw [hM, hxe, hye]; push_cast; rfl
        have hM2 : M < 4611686018427387904 := by omega
        have hz2 : z = ((hsh M : Nat) : Int) := by
          rw [hz, hMi, show (M : Int) / 64 = ((M / 64 : Nat) : Int) by push_cast; rfl, (xor_i64 (a := M) (b := M / 64) hM2 (by omega)).1]
          rfl
        unfold pickV
        rw [if_neg (by omega), if_neg hpn, ← hd, ← hd2, ← hd3, ← hM, hz2]
        push_cast
        rfl)
      rw [← hz] at xb
      have hz' := hz.symm
      have zm := Int.emod_lt_of_pos z (show 0 < (m : Int) by omega)
      have zm0 := Int.emod_nonneg z (show (m : Int) ≠ 0 by omega)
      clear hc hd hd2 hd3 hz hxe hye hx2 hy2
      go_enter Try.func43, Try.ntmps43
      go_wp2
      go_quiet (fail)
      go_wp2
      go_ret
      exact PickX.mk _ hm1 H.out HE.out

def OneX (f : Nat → Nat) (w : World) (B R : Nat) (v : Value) (n p : Nat) (e : Ending) (w' : World) : Prop :=
  ∃ (u : Value) (xs : List Int) (q : Nat), e = .returned u ∧ Hid (TermsOk xs) ∧ Hid ((xs.length = 1 ∧ q ≤ p + 5) ∨ (xs.length = 0 ∧ q = p + 4 ∧ pickV f n (p + 3) 40 = 1)) ∧ Hid (Owns w' w.heap.size u xs) ∧ Hid (RdX f w' B R v n q) ∧ Hid (Only R w w')
theorem OneX.mk {f : Nat → Nat} {w : World} {B R : Nat} {v : Value} {n p q : Nat} {u : Value} {xs : List Int} {w' : World} (h : TermsOk xs) (hq : (xs.length = 1 ∧ q ≤ p + 5) ∨ (xs.length = 0 ∧ q = p + 4 ∧ pickV f n (p + 3) 40 = 1)) (ho : Hid (Owns w' w.heap.size u xs)) (hr : Hid (RdX f w' B R v n q)) (hn : Hid (Only R w w')) : OneX f w B R v n p (.returned u) w' :=
  ⟨u, xs, q, rfl, hid h, hid hq, ho, hr, hn⟩

set_option maxRecDepth 100000 in
set_option maxHeartbeats 4000000 in
theorem formOne_any (f : Nat → Nat) (B R : Nat) (v : Value) (n p : Nat) (hp : p ≤ 700000000000000) (w : World) (HR : Hid (RdX f w B R v n p)) (hB : B ≤ w.heap.size) :
    Calls Try.prog 75 #[.pointer (some ⟨R, 0, none⟩), .int .i64 1] w (OneX f w B R v n p) := by
  obtain ⟨i0, hi, hz0, hz1, hz2⟩ := info_parts infoInt
  have hRs := HR.out.1.lt
  have hBR := HR.out.1.1
  have HO0 : Hid (Owns (w.alloc (.cells #[] 3)) w.heap.size (.slice (some ⟨w.heap.size, 0, none⟩) 0 0) []) := hid (World.ownsRow_made (size := 1) w #[] 0 (Nat.le_refl _) (by unfold maxLen; omega) rfl)
  go_enter Try.func75, Try.ntmps75
  go_wp2_with fail
  refine (pickX_any f _ _ _ _ p 1 (by omega) (by omega) (by omega) _ (HR.out.alloc (by omega) _)).mono ?_
  rintro e wHA ⟨y, rfl, _, hy0, hy1, HA, HO⟩
  obtain rfl : y = 0 := by omega
  have HON := hid (((Only.refl R w).alloc (.cells #[] 3)).trans HO.out)
  have HOW := hid (HO0.out.only HO.out hRs)
  have hs1 := HON.out.size
  clear HO0 HO hy0 hy1
  go_wp2_with fail
  go_loopw [5, 7] (fun so si wr => ∃ (K r : Nat) (xs : List Int), si = .int .i64 K ∧ K ≤ 1 ∧ r = p + 1 + 2 * K ∧ xs.length = K ∧ Hid (TermsOk xs) ∧ Hid (Owns wr w.heap.size so xs) ∧ Hid (RdX f wr B R v n r) ∧ Hid (Only R w wr)) (fun _ si _ => 10 - (intOf si).toNat)
  case atStart => exact ⟨0, p + 1, [], rfl, by omega, by omega, rfl, hid ⟨by simp, fun x hx => by cases hx⟩, HOW, HA, HON⟩
  case round =>
    obtain ⟨K, r, xs, rfl, hK, hr, hxl, HT, HOr, HRr, HNr⟩ := hrel
    rename World => wr
    have hsr := HNr.out.size
    by_cases hlt : K < 1
    · have hKi : (K : Int) < 1 := by omega
      have hRr := HRr.out.1.lt
      go_wp2_with fail
      refine (pickX_any f _ _ _ _ r 16 (by omega) (by omega) (by omega) _ (HRr.out.alloc (by omega) _)).mono ?_
      rintro e wHC ⟨k, rfl, _, hk0, hk1, HC, HP⟩
      obtain ⟨x, hx, hx1, hx2⟩ := litT_at hk0 hk1
      have c := lit_cell (fr := (0, 0)) HP.out hRr k.toNat
      have hc : wHC.cell? ⟨wr.heap.size, k.toNat, none⟩ = some (.int .i64 x) := c.trans hx
      have HN2 := hid ((HNr.out.alloc (.cells litT 3)).trans HP.out)
      have HO2 := hid ((Owns.only (W' := wHC) (show Owns (wr.alloc (.cells litT 3)) w.heap.size u5 xs from HOr.out.alloc _) HP.out (by omega)))
      have hs2 := HN2.out.size
      clear HOr HRr HNr HP hx c
      go_wp2_with fail
      refine (pickX_any f _ _ _ _ (r + 1) 5 (by omega) (by omega) (by omega) _ HC.out).mono ?_
      rintro e wHD ⟨k2, rfl, _, hk20, hk21, HD, HQ⟩
      have HN3 := hid (HN2.out.trans HQ.out)
      have HO3 := hid (HO2.out.only HQ.out (by omega))
      have hs3 := HN3.out.size
      clear HO2 HN2 HQ HC hc
      by_cases hneg : k2 < 2
      · skip
        go_wp2_with (at_builtin; refine wpList_append_own_at _ rfl _ _ 23 rfl w.heap.size 3 i0 (.int .i64 0) 1 8 Try.underlying23 hi hz0 hz1 hz2 rfl (by decide) _ _ _ rfl ((show World.ownsRow _ _ _ _ _ _ _ from HO3.out).alloc _) ⟨wHD.heap.size, 0, none⟩ 1 1 [.int .i64 (-x)] rfl rfl (cell_one_new _ _ _) (by simp [Value.oneCell']) (by unfold maxLen; omega) (by omega) (by simp; omega) ?_; intro v' w3 hown' hgrow _ hat)
        have hsg := hgrow.size
        simp only [World.size_alloc] at hsg
        have HN4 := hid ((HN3.out.alloc (.cells #[.int .i64 (-x)] 3)).grown hgrow (fun k e => (HO3.out.ge k e)))
        have HR4 := hid (((HD.out.alloc (by omega) (.cells #[.int .i64 (-x)] 3)).kept (((Below.refl w.heap.size _).grown hgrow (by simp; omega) (fun k e => (HO3.out.ge k e)))) (by omega) (by omega)))
        go_roundw
        case measure => simp only [intOf]; omega
        case rel =>
          exact ⟨K + 1, r + 1 + 1, xs ++ [-x], by go_num, by omega, by omega, by rw [List.length_append]; simp; exact hxl, hid (HT.out.snoc (by omega) (by omega) (by omega)), hid (by unfold Owns; simpa using hown'), HR4, HN4⟩
      · skip
        go_wp2_with (at_builtin; refine wpList_append_own_at _ rfl _ _ 23 rfl w.heap.size 3 i0 (.int .i64 0) 1 8 Try.underlying23 hi hz0 hz1 hz2 rfl (by decide) _ _ _ rfl ((show World.ownsRow _ _ _ _ _ _ _ from HO3.out).alloc _) ⟨wHD.heap.size, 0, none⟩ 1 1 [.int .i64 x] rfl rfl (cell_one_new _ _ _) (by simp [Value.oneCell']) (by unfold maxLen; omega) (by omega) (by simp; omega) ?_; intro v' w3 hown' hgrow _ hat)
        have hsg := hgrow.size
        simp only [World.size_alloc] at hsg
        have HN4 := hid ((HN3.out.alloc (.cells #[.int .i64 x] 3)).grown hgrow (fun k e => (HO3.out.ge k e)))
        have HR4 := hid (((HD.out.alloc (by omega) (.cells #[.int .i64 x] 3)).kept (((Below.refl w.heap.size _).grown hgrow (by simp; omega) (fun k e => (HO3.out.ge k e)))) (by omega) (by omega)))
        go_roundw
        case measure => simp only [intOf]; omega
        case rel =>
          exact ⟨K + 1, r + 1 + 1, xs ++ [x], by go_num, by omega, by omega, by rw [List.length_append]; simp; exact hxl, hid (HT.out.snoc (by omega) (by omega) (by omega)), hid (by unfold Owns; simpa using hown'), HR4, HN4⟩
    · obtain rfl : K = 1 := by omega
      obtain rfl : r = p + 3 := by omega
      have hKi : ¬ ((1 : Nat) : Int) < 1 := by omega
      go_wp2_with fail
      refine (pickX_any f _ _ _ _ (p + 3) 40 (by omega) (by omega) (by omega) _ HRr.out).mono ?_
      rintro e wHC ⟨k, rfl, HK, hk0, hk1, HC, HP⟩
      have HN2 := hid (HNr.out.trans HP.out)
      have HO2 := hid (HOr.out.only HP.out (by omega))
      have hs2 := HN2.out.size
      clear HOr HNr HP
      by_cases hk : k = 0
      · subst hk
        obtain ⟨g, cap, rfl⟩ := HO2.out.slice_of (by omega)
        have hg := HO2.out.ge g rfl
        have hgl := HO2.out.lt g rfl
        have hRw := HC.out.1.lt
        go_wp2_with fail
        refine (pickX_any f _ _ _ _ (p + 3 + 1) 2 (by omega) (by omega) (by omega) _ (HC.out.alloc (by omega) _)).mono ?_
        rintro e wHD ⟨k2, rfl, _, hk20, hk21, HD, HQ⟩
        have HO3 := hid (Owns.only (W' := wHD) (show Owns (wHC.alloc (.cells #[.int .i64 0, .int .i64 31] 3)) w.heap.size (.slice (some ⟨g, 0, none⟩) xs.length cap) xs from HO2.out.alloc _) HQ.out (by omega))
        have HN3 := hid ((HN2.out.alloc (.cells #[.int .i64 0, .int .i64 31] 3)).trans HQ.out)
        have hs3 := HN3.out.size
        have hk2c : k2 = 0 ∨ k2 = 1 := by omega
        have f1 := World.ownsRow.frozenAt HO3.out 0
        have c1 : ∃ x0, wHD.cell? ⟨g, 0, none⟩ = some (.int .i64 x0) := by
          have hK2 : 0 < xs.length := by omega
          refine ⟨xs[0], ?_⟩
          rw [World.ownsRow.cellAt HO3.out 0 (by omega), List.getElem?_map, List.getElem?_eq_getElem hK2]
          rfl
        obtain ⟨x0, c1⟩ := c1
        rcases hk2c with rfl | rfl
        · have c := lit_cell (fr := (0, 0)) HQ.out hRw 0
          simp at c
          have HS := hid (HO3.out.stored0 0)
          have HZ := hid (HT.out.set0 (x := 0) (by omega) (by omega))
          have hi0 : (0 : Int) < (xs.length : Int) := by omega
          go_wp2
          go_ret
          have HS1 := HS.out.1
          rw [hxl] at HS1
          exact OneX.mk HZ.out (.inl ⟨by rw [List.length_set]; exact hxl, by omega⟩) (hid HS1) (hid (HD.out.kept ((Below.refl w.heap.size _).grown HS.out.2 hs3 (fun k e => by cases e; exact hg)) (by omega) (by omega))) (hid (HN3.out.grown HS.out.2 (fun k e => by cases e; exact hg)))
        · have c := lit_cell (fr := (0, 0)) HQ.out hRw 1
          simp at c
          have HS := hid (HO3.out.stored0 31)
          have HZ := hid (HT.out.set0 (x := 31) (by omega) (by omega))
          have hi0 : (0 : Int) < (xs.length : Int) := by omega
          go_wp2
          go_ret
          have HS1 := HS.out.1
          rw [hxl] at HS1
          exact OneX.mk HZ.out (.inl ⟨by rw [List.length_set]; exact hxl, by omega⟩) (hid HS1) (hid (HD.out.kept ((Below.refl w.heap.size _).grown HS.out.2 hs3 (fun k e => by cases e; exact hg)) (by omega) (by omega))) (hid (HN3.out.grown HS.out.2 (fun k e => by cases e; exact hg)))
      · by_cases hk : k = 1
        · subst hk
          go_wp2
          go_ret
          exact OneX.mk (xs := []) (q := p + 3 + 1) ⟨by simp, fun x hx => by cases hx⟩ (.inr ⟨rfl, by omega, by have := HK.out; omega⟩) (hid (World.ownsRow_made (size := 1) wHC #[] 0 (by omega) (by unfold maxLen; omega) rfl)) (hid (HC.out.alloc (by omega) _)) (hid (HN2.out.alloc _))
        · go_wp2
          go_ret
          exact OneX.mk HT.out (.inl ⟨hxl, by omega⟩) HO2 HC HN2

end Go.Proofs.Ytfjbdbfeolfcfaa

/-! Draws15 -/
set_option linter.unusedVariables false
namespace Go.Proofs.Ytfjbdbfeolfcfaa
open Go.RowKit

def Form5 (m : Nat) (w : World) (B R : Nat) (v : Value) (n p : Nat) (e : Ending) (w' : World) : Prop :=
  ∃ (u : Value) (xs : List Int) (q : Nat), e = .returned u ∧ Hid (TermsOk xs ∧ xs.length ≤ m) ∧ Hid (Owns w' w.heap.size u xs) ∧ q ≤ p + 300000000 ∧ Hid (Rdr w' B R v n q) ∧ Hid (Only R w w')
theorem Form5.mk {m : Nat} {w : World} {B R : Nat} {v : Value} {n p q : Nat} {u : Value} {xs : List Int} {w' : World} (h : TermsOk xs) (hm : xs.length ≤ m) (ho : Hid (Owns w' w.heap.size u xs)) (hq : q ≤ p + 300000000) (hr : Hid (Rdr w' B R v n q)) (hn : Hid (Only R w w')) : Form5 m w B R v n p (.returned u) w' :=
  ⟨u, xs, q, rfl, hid ⟨h, hm⟩, ho, hq, hr, hn⟩
theorem TermsOk.app {xs ys : List Int} (h : TermsOk xs) (k : TermsOk ys) (hl : xs.length + ys.length ≤ 6) : TermsOk (xs ++ ys) :=
  ⟨by rw [List.length_append]; exact hl, fun y hy => (List.mem_append.1 hy).elim (h.2 y) (k.2 y)⟩
theorem TermsOk.setAt {xs : List Int} {x : Int} (i : Nat) (h : TermsOk xs) (h1 : -31 ≤ x) (h2 : x ≤ 31) : TermsOk (xs.set i x) :=
  ⟨by rw [List.length_set]; exact h.1, fun y hy => by
    rcases List.mem_or_eq_of_mem_set hy with h3 | h3
    · exact h.2 y h3
    · omega⟩
/-- how many rounds are left: the form's terms, and the draws that hand out nothing -/
def FormLeft (f : Nat → Nat) (n p m g0 g L r : Nat) : Prop := ∃ i, g = (m - L) * 9000000 + i ∧ i ≤ 8500000 ∧ pickV f n (r + 4 * i + 3) 40 ≠ 1 ∧ r + 5 * g ≤ p + 5 * g0
theorem FormLeft.none {f : Nat → Nat} {n p m g0 g L r : Nat} (h : FormLeft f n p m g0 g L r) (he : pickV f n (r + 3) 40 = 1) : ∃ g', g' < g ∧ FormLeft f n p m g0 g' L (r + 4) := by
  obtain ⟨i, h1, h2, h3, h4⟩ := h
  have hi : i ≠ 0 := by
    rintro rfl
    exact h3 (by rw [Nat.mul_zero, Nat.add_zero]; exact he)
  refine ⟨g - 1, by omega, i - 1, by omega, by omega, ?_, by omega⟩
  rw [show r + 4 + 4 * (i - 1) + 3 = r + 4 * i + 3 by omega]
  exact h3
theorem FormLeft.more {f : Nat → Nat} {n p m g0 g L r q : Nat} (h : FormLeft f n p m g0 g L r) (hn : n ≤ 2000) (hL : L < m) (hq : q ≤ r + 5) : ∃ g', g' < g ∧ FormLeft f n p m g0 g' (L + 1) q := by
  obtain ⟨i, h1, h2, h3, h4⟩ := h
  obtain ⟨j, hj, hne⟩ := pick_run f hn q
  have e : (m - L) * 9000000 = (m - (L + 1)) * 9000000 + 9000000 := by
    rw [show m - L = (m - (L + 1)) + 1 by omega, Nat.succ_mul]
  exact ⟨(m - (L + 1)) * 9000000 + j, by omega, j, rfl, hj, hne, by omega⟩
def FormRel (f : Nat → Nat) (n p m g0 : Nat) (w : World) (B R : Nat) (v : Value) (g : Nat) (so : Value) (wr : World) : Prop :=
  ∃ (xs : List Int) (r : Nat), Hid (FormLeft f n p m g0 g xs.length r) ∧ xs.length ≤ m ∧ Hid (TermsOk xs) ∧ Hid (Owns wr w.heap.size so xs) ∧ r ≤ p + 5 * g0 ∧ Hid (RdX f wr B R v n r) ∧ Hid (Only R w wr)
theorem wrap_9 {x : Int} (h1 : -1000000000 ≤ x) (h2 : x ≤ 1000000000) : IntKind.i64.wrap x = x := by rw [IntKind.wrap_i64]; omega
theorem mul12 {a k : Int} (h1 : -30 ≤ a) (h2 : a ≤ 30) (h3 : 0 ≤ k) (h4 : k < 2) : -60 ≤ a * (1 + k) ∧ a * (1 + k) ≤ 60 := by
  have : k = 0 ∨ k = 1 := by omega
  rcases this with rfl | rfl <;> omega
theorem three_of {xs : List Int} (h : xs.length = 3) : ∃ a b c, xs = [a, b, c] := by
  match xs, h with
  | [a, b, c], _ => exact ⟨a, b, c, rfl⟩

set_option maxRecDepth 100000 in
set_option maxHeartbeats 4000000 in
theorem form5_any (B R : Nat) (v : Value) (n p m : Nat) (hp : p ≤ 1000000000) (hm1 : 1 ≤ m) (hm2 : m ≤ 4) (w : World) (HR : Hid (Rdr w B R v n p)) (hB : B ≤ w.heap.size) :
    Calls Try.prog 58 #[.pointer (some ⟨R, 0, none⟩), .int .i64 (m : Int)] w (Form5 m w B R v n p) := by
  obtain ⟨f, hrx⟩ := rdX_of HR.out
  have HX := hid hrx
  have hn := hrx.len
  have hRs := HR.out.lt
  have hBR := HR.out.1
  clear hrx
  go_enter Try.func58, Try.ntmps58
  go_wp2_with fail
  refine (formOne_any f _ _ _ _ p (by omega) _ HX hB).mono ?_
  rintro e wA ⟨u, xs, q, rfl, HT, HQ, HO, HA, HN⟩
  have hsA := HN.out.size
  obtain ⟨i, hi, hne⟩ := pick_run f hn q
  have hxl : xs.length ≤ 1 := by rcases HQ.out with h | h <;> omega
  have hq5 : q ≤ p + 5 := by rcases HQ.out with h | h <;> omega
  obtain ⟨g0, hg0⟩ : ∃ g0, g0 = (m - xs.length) * 9000000 + i := ⟨_, rfl⟩
  have hg4 : g0 ≤ 44500000 := by
    have : (m - xs.length) * 9000000 ≤ 4 * 9000000 := Nat.mul_le_mul_right _ (by omega)
    omega
  have HL : Hid (FormLeft f n q m g0 g0 xs.length q) := hid ⟨i, hg0, hi, hne, by omega⟩
  clear hi hne hg0 HQ HX HR
  go_wp2_with fail
  go_loopg [5] g0 (FormRel f n q m g0 w B R v)
  case atStart => exact ⟨xs, q, HL, by omega, HT, HO, by omega, HA, HN⟩
  case round =>
    obtain ⟨ys, r, HLr, hyl, HTr, HOr, hr, HRr, HNr⟩ := hrel
    rename World => wr
    have hsr := HNr.out.size
    obtain ⟨ao, co, rfl⟩ := HOr.out.reads
    have hr9 : r ≤ 2000000000 := by omega
    by_cases h0 : ys.length = 0
    · have T0 : ¬ (0 : Int) < (ys.length : Int) := by omega
      have TM : (ys.length : Int) < (m : Int) := by omega
      have T3 : ((ys.length : Int) == 3) = false := by rw [beq_eq_false_iff_ne]; omega
      clear h0
      go_wp2_with fail
      go_ret
      exact Form5.mk HTr.out hyl HOr (by omega) (hid HRr.out.1) HNr
    · have T0 : (0 : Int) < (ys.length : Int) := by omega
      by_cases hlt : ys.length < m
      · have TM : (ys.length : Int) < (m : Int) := by omega
        have HF := hid HOr.out.firm
        clear h0 hlt
        go_wp2_with (first | (have m5 := hc5; at_builtin; refine append_rd rfl _ _ rfl w.heap.size _ ys rfl HO2.out _ zs rfl HOz.out.rd HOz.out.firm (by omega) (by omega) ?_; intro v2 w2 o2 g2; have HO3 := hid o2; have HG3 := hid g2; clear o2 g2) | (go_at_call 75; refine (formOne_any f _ _ _ _ r (by omega) _ HRr (by omega)).mono ?_; rintro e wB ⟨u2, zs, q2, rfl, HTz, HQz, HOz, HRz, HNz⟩; have hc5 : True := trivial; have hsB := HNz.out.size; have HO2 := hid (HOr.out.only HNz.out (by omega)); have hzl : zs.length ≤ 1 := by (rcases HQz.out with h | h <;> omega)))
        have hown : ∀ k, (Value.slice ao ys.length co).ownBlock = some k → w.heap.size ≤ k := fun k e => HO2.out.ge k e
        have HR3 := hid (HRz.out.kept ((Below.refl w.heap.size _).grown HG3.out (by omega) hown) (by omega) (by omega))
        have HN3 := hid ((HNr.out.trans HNz.out).grown HG3.out hown)
        have hst : ∃ g', g' < gk ∧ FormLeft f n q m g0 g' (ys ++ zs).length q2 ∧ (ys ++ zs).length ≤ m := by
          rw [List.length_append]
          rcases HQz.out with ⟨h1, h2⟩ | ⟨h1, h2, h3⟩
          · obtain ⟨g', hg', hl⟩ := HLr.out.more hn (by omega) h2
            exact ⟨g', hg', by rw [h1]; exact hl, by omega⟩
          · obtain ⟨g', hg', hl⟩ := HLr.out.none h3
            exact ⟨g', hg', by rw [h1, h2]; exact hl, by omega⟩
        obtain ⟨g', hg', hl', hlm⟩ := hst
        have hl2 := hl'
        obtain ⟨_, _, _, _, hq2⟩ := hl2
        go_roundg g'
        case measure => exact hg'
        case rel => exact ⟨ys ++ zs, q2, hid hl', hlm, hid (HTr.out.app HTz.out (by omega)), HO3, by omega, HR3, HN3⟩
      · have TM : ¬ (ys.length : Int) < (m : Int) := by omega
        clear h0 hlt
        by_cases h3 : ys.length = 3
        · have T3 : ((ys.length : Int) == 3) = true := by rw [beq_iff_eq]; omega
          obtain ⟨a, b, c, rfl⟩ := three_of h3
          clear h3
          have hnl : ([a, b, c] : List Int).length = 3 := rfl
          obtain ⟨g, cap2, hv2⟩ := HOr.out.slice_of (by simp)
          simp only [Value.slice.injEq, true_and] at hv2
          obtain ⟨rfl, rfl⟩ := hv2
          go_wp2_with fail
          refine (pick_any _ _ _ _ r 2 (by omega) (by omega) (by omega) _ (HRr.out.1)).mono ?_
          rintro e wHC ⟨k, s, rfl, hk0, hk1, _, hs, HC, HP⟩
          replace hk1 := hk1 (by omega)
          have HN2 := hid (HNr.out.trans HP.out)
          have HO2 := hid (HOr.out.only HP.out (by omega))
          have hs2 := HN2.out.size
          clear HOr HNr HP
          by_cases hk : k = 0
          · subst hk
            cases hf : fvB [a, b, c] with
            | false =>
              have HF := hid hf
              clear hf
              go_wp2_with (go_at_call 70; refine (formValidS_any _ [a, b, c] _ HO2.out.rd).mono ?_; rw [HF.out]; rintro e w' ⟨rfl, rfl⟩)
              go_ret
              exact Form5.mk HTr.out hyl HO2 (by omega) HC HN2
            | true =>
              have HF := hid hf
              obtain ⟨ha0, ha1, ha2⟩ := (fvB_iff.1 hf).1 a (by simp)
              obtain ⟨hb0, hb1, hb2⟩ := (fvB_iff.1 hf).1 b (by simp)
              have c0 : wHC.cell? ⟨g, 0, none⟩ = some (.int .i64 a) := HO2.out.elem (i := 0) (by simp)
              have c1 : wHC.cell? ⟨g, 1, none⟩ = some (.int .i64 b) := HO2.out.elem (i := 1) (by simp)
              clear hf
              go_wp2_with (go_at_call 70; refine (formValidS_any _ [a, b, c] _ HO2.out.rd).mono ?_; rw [HF.out]; rintro e w' ⟨rfl, rfl⟩)
              go_region_held3 (fun wx => wx.cell? ⟨g, 0, none⟩ = some (.int .i64 a) ∧ wx.cell? ⟨g, 1, none⟩ = some (.int .i64 b)) (first | exact ⟨d0, d1⟩ | exact ⟨c0, c1⟩)
                (first | (go_at_call 43; refine (pick_any _ _ _ _ s 2 (by omega) (by omega) (by omega) _ HC.out.drew').mono ?_; rintro e wD ⟨k2, s2, rfl, hk20, hk21, _, hs2, HD, HQ⟩; replace hk21 := hk21 (by omega); have HQ2 := hid HQ.out.of_drew'; have HO3 := hid (HO2.out.only HQ2.out (by omega)); have d0 : wD.cell? ⟨g, 0, none⟩ = some (.int .i64 a) := HO3.out.elem (i := 0) (by simp); have d1 : wD.cell? ⟨g, 1, none⟩ = some (.int .i64 b) := HO3.out.elem (i := 1) (by simp); obtain ⟨m1, m2⟩ := mul12 ha1 ha2 hk20 hk21))
              have e1 := wrap_9 (x := 1 + k2) (by omega) (by omega)
              have e2 := wrap_9 (x := a * (1 + k2)) (by omega) (by omega)
              have e3 := wrap_9 (x := -(a * (1 + k2))) (by omega) (by omega)
              have e4 := wrap_9 (x := -(a * (1 + k2)) - b) (by omega) (by omega)
              rw [e1, e2, e3, e4]
              obtain ⟨T, hT⟩ : ∃ T, T = -(a * (1 + k2)) - b := ⟨_, rfl⟩
              have t1 : -90 ≤ T := by omega
              have t2 : T ≤ 90 := by omega
              rw [← hT]
              have hs3 := HQ2.out.size
              have HN3 := hid (HN2.out.trans HQ2.out)
              clear e1 e2 e3 e4 m1 m2 c0 c1 d0 d1 hT HO2
              by_cases h0 : T = 0
              · subst h0
                go_wp2_with fail
                go_ret
                exact Form5.mk HTr.out hyl HO3 (by omega) HD HN3
              · have TZ : (T != 0) = true := by rw [bne_iff_ne]; exact h0
                by_cases h30 : T.natAbs ≤ 30
                · have h30i : (T.natAbs : Int) ≤ 30 := by omega
                  have hf2 := HO3.out.thaw 2
                  have d2 : wD.cell? ⟨g, 2, none⟩ = some (.int .i64 c) := HO3.out.elem (i := 2) (by simp)
                  have HSE := hid (HO3.out.storeAt 2 T)
                  have hT1 : -31 ≤ T := by omega
                  have hT2 : T ≤ 31 := by omega
                  have HTS := hid (HTr.out.setAt 2 hT1 hT2)
                  clear h0
                  go_wp2_with (go_at_call 63; refine (l1Size_any T (by omega) (by omega) _).mono ?_; rintro e w' ⟨rfl, rfl⟩)
                  go_ret
                  exact Form5.mk HTS.out (by rw [List.length_set]; exact hyl) (hid HSE.out.1) (by omega) (hid (HD.out.kept ((Below.refl w.heap.size _).grown HSE.out.2 (by omega) (fun k e => by cases e; exact HO3.out.ge g rfl)) (by omega) (by omega))) (hid (HN3.out.grown HSE.out.2 (fun k e => by cases e; exact HO3.out.ge g rfl)))
                · have h30i : ¬ (T.natAbs : Int) ≤ 30 := by omega
                  clear h0
                  go_wp2_with (go_at_call 63; refine (l1Size_any T (by omega) (by omega) _).mono ?_; rintro e w' ⟨rfl, rfl⟩)
                  go_ret
                  exact Form5.mk HTr.out hyl HO3 (by omega) HD HN3
          · go_wp2_with fail
            go_ret
            exact Form5.mk HTr.out hyl HO2 (by omega) HC HN2
        · have T3 : ((ys.length : Int) == 3) = false := by rw [beq_eq_false_iff_ne]; omega
          clear h3
          go_wp2_with fail
          go_ret
          exact Form5.mk HTr.out hyl HOr (by omega) (hid HRr.out.1) HNr

end Go.Proofs.Ytfjbdbfeolfcfaa
