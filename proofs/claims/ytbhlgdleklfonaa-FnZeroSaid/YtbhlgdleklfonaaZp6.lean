/-
  Contracts of the program's chapter 5: ZeroModulo.
-/
import Derived.Test.YtbhlgdleklfonaaZvec2
import Derived.Test.YtbhlgdleklfonaaVecs2
import Derived.Test.YtbhlgdleklfonaaBun27
import Derived.Test.YtbhlgdleklfonaaBun22
import Derived.Test.YtbhlgdleklfonaaPow32
import Derived.Test.YtbhlgdleklfonaaZp5
set_option linter.unusedVariables false
namespace Go.Proofs.Ytbhlgdleklfonaa
open Go.RowKit Go.Shelf
attribute [local go_sem] Oper.semAt_some

theorem boxed_put9 {W : World} {B D : Nat} {t : TypeId} {v : Value} {o : Obj} (h : Boxed W B t v) (hD : D ≠ B) : Boxed (W.putObj D o) B t v := (World.putObj_heap_other (Ne.symm hD)).trans h
theorem boxed_lo {W W' : World} {B : Nat} {t : TypeId} {v : Value} (h : Boxed W B t v) (hb : Below W.heap.size W W') : Boxed W' B t v := (hb.block B h.lt).trans h

theorem no_snoc {xs : List Int} {P m : Nat} {pre : List VE} {g : Nat} {vs : List Int} (h : ∀ x ∈ pre, modHit xs P m x.2 = false) (h2 : modHit xs P m vs = false) : ∀ x ∈ pre ++ [((g, vs) : VE)], modHit xs P m x.2 = false := by
  intro x hx
  rcases List.mem_append.1 hx with hx | hx
  · exact h x hx
  · rw [List.mem_singleton.1 hx]; exact h2

set_option maxRecDepth 100000 in
set_option maxHeartbeats 400000 in
theorem undivided_any (B P : Nat) (hP : 2 ≤ P) (x : Int) (h0 : 0 ≤ x) (h1 : x ≤ 1000) (w : World) (hb : w.cell? ⟨B, 0, none⟩ = some (.int .i64 (P : Int))) :
    Calls Try.prog 62 #[.int .i64 x, .pointer (some ⟨B, 0, none⟩)] w fun e w' => e = .returned (.bool (!(x % (P : Int) == 0))) ∧ w = w' := by
  have hp0 : ((P : Int) == 0) = false := by rw [beq_eq_false_iff_ne]; omega
  go_enter Try.func62, Try.ntmps62
  go_wp2
  go_ret
  exact ⟨rfl, rfl⟩

set_option maxRecDepth 100000 in
set_option maxHeartbeats 400000 in
theorem indexFunc_any (B P : Nat) (hP : 2 ≤ P) (v : Value) (vs : List Int) (hv : ∀ x ∈ vs, 0 ≤ x ∧ x ≤ 1000) (w : World) (hr : Rd w v vs) (hl : vs.length ≤ 1000) (hb : w.cell? ⟨B, 0, none⟩ = some (.int .i64 (P : Int))) :
    Calls Try.prog 107 #[v, .func (.func 62) #[] #[.pointer (some ⟨B, 0, none⟩)]] w fun e w' => (∃ I : Int, e = .returned (.int .i64 I) ∧ decide (0 ≤ I) = unitB P vs) ∧ w = w' := by
  obtain ⟨ad, cap, rfl, hform⟩ := hr.form
  have HFM := hid hform
  have HV := hid hv
  have HB := hid hb
  have HU : Hid (∀ (x : Int), 0 ≤ x → x ≤ 1000 → Calls Try.prog 62 #[.int .i64 x, .pointer (some ⟨B, 0, none⟩)] w fun e w' => e = .returned (.bool (!(x % (P : Int) == 0))) ∧ w = w') := hid (fun x h0 h1 => undivided_any B P hP x h0 h1 w HB.out)
  clear hr hform hv hb
  go_enter Try.func107, Try.ntmps107
  go_wp2_with fail
  go_loopw [5, 8] (fun s5 si wr => ∃ K : Nat, si = .int .i64 K ∧ K ≤ vs.length ∧ Hid ((vs.take K).any (fun v => !(v % (P : Int) == 0)) = false) ∧ wr = w) (fun _ si _ => vs.length - (intOf si).toNat)
  case atStart => exact ⟨0, rfl, by omega, hid rfl, rfl⟩
  case round =>
    obtain ⟨K, rfl, hK, HK, hw⟩ := hrel
    rename World => wr
    obtain rfl : w = wr := hw.symm
    clear hw
    by_cases hlt : K < vs.length
    · obtain ⟨bb, o, rfl, hml, hc⟩ := HFM.out (by omega)
      have hcell := hc K hlt
      have hx := HV.out (vs.getD K 0) (by rw [getD_at _ _ hlt]; exact List.getElem_mem _)
      have HS : Hid ((vs.take (K + 1)).any (fun v => !(v % (P : Int) == 0)) = !(vs.getD K 0 % (P : Int) == 0)) := hid (by
        rw [takeD_snoc hlt, List.any_append, HK.out]
        simp)
      have HT : Hid ((!(vs.getD K 0 % (P : Int) == 0)) = true → unitB P vs = true) := hid (fun h => List.any_eq_true.2 ⟨vs.getD K 0, by rw [getD_at _ _ hlt]; exact List.getElem_mem _, h⟩)
      obtain ⟨x, hxe⟩ : ∃ x, x = vs.getD K 0 := ⟨_, rfl⟩
      rw [← hxe] at hcell hx HS HT
      obtain ⟨t, ht⟩ : ∃ t, t = !(x % (P : Int) == 0) := ⟨_, rfl⟩
      have HUX : Hid (Calls Try.prog 62 #[.int .i64 x, .pointer (some ⟨B, 0, none⟩)] w fun e w' => e = .returned (.bool t) ∧ w = w') := hid (by rw [ht]; exact HU.out x hx.1 hx.2)
      rw [← ht] at HS HT
      have hKi : (K : Int) < (vs.length : Int) := by omega
      have HLT := hid hlt
      unfold maxLen at hml
      clear hc hxe ht hlt hx
      cases t with
      | true =>
        have HD : Hid (decide (0 ≤ (K : Int)) = unitB P vs) := hid (by rw [HT.out rfl]; exact decide_eq_true (by omega))
        go_wp2_with (go_at_call 62; refine (HUX.out).mono ?_; rintro e w' ⟨rfl, rfl⟩)
        go_ret
        exact ⟨⟨_, rfl, HD.out⟩, rfl⟩
      | false =>
        go_wp2_with (go_at_call 62; refine (HUX.out).mono ?_; rintro e w' ⟨rfl, rfl⟩)
        go_roundw
        case measure => simp only [intOf]; have := HLT.out; omega
        case rel => exact ⟨K + 1, by go_num, by have := HLT.out; omega, HS, by trivial⟩
    · have hKL : K = vs.length := by omega
      have hge : ¬ (K : Int) < (vs.length : Int) := by omega
      rw [hKL, List.take_length] at HK
      clear hKL hlt
      go_wp2_with fail
      go_ret
      refine ⟨⟨_, rfl, ?_⟩, rfl⟩
      unfold unitB
      rw [HK.out]
      rfl

set_option maxRecDepth 100000 in
set_option maxHeartbeats 400000 in
theorem containsFunc_any (B P : Nat) (hP : 2 ≤ P) (v : Value) (vs : List Int) (hv : ∀ x ∈ vs, 0 ≤ x ∧ x ≤ 1000) (w : World) (hr : Rd w v vs) (hl : vs.length ≤ 1000) (hb : w.cell? ⟨B, 0, none⟩ = some (.int .i64 (P : Int))) :
    Calls Try.prog 64 #[v, .func (.func 62) #[] #[.pointer (some ⟨B, 0, none⟩)]] w fun e w' => e = .returned (.bool (unitB P vs)) ∧ w = w' := by
  have HI := hid (indexFunc_any B P hP v vs hv w hr hl hb)
  obtain ⟨ad, cap, rfl, _⟩ := hr.form
  clear hr hb hv
  go_enter Try.func64, Try.ntmps64
  go_wp2_with (go_at_call 107; refine (HI.out).mono ?_; rintro e w' ⟨⟨I, rfl, hI⟩, rfl⟩)
  go_ret
  exact ⟨rfl, rfl⟩

theorem tmod_eq9 {z : Int} {m : Nat} : (z.tmod (m : Int) == 0) = (z % (m : Int) == 0) := by
  rw [Bool.eq_iff_iff, beq_iff_eq, beq_iff_eq]
  exact ⟨fun h => Int.emod_eq_zero_of_dvd (Int.dvd_of_tmod_eq_zero h), fun h => Int.tmod_eq_zero_of_dvd (Int.dvd_of_emod_eq_zero h)⟩
theorem val_pair0 (xs vs : List Int) : ∀ i, valI xs vs i = pairI xs vs vs i
  | 0 => rfl
  | i + 1 => by unfold valI pairI; rw [val_pair0 xs vs i]

set_option maxRecDepth 100000 in
set_option maxHeartbeats 8000000 in
theorem zeroModulo_main (vf : Value) (xs : List Int) (P m : Nat) (k : Int) (hf : fvB xs = true) (hl3 : xs.length ≤ 3) (hP : primeN P = true) (hW : pw32 P k = true) (hm : m = P ^ k.toNat) (w : World) (hx : Rd w vf xs) :
    Calls Try.prog 17 #[vf, .int .i64 (P : Int), .int .i64 k] w fun e w' => e = .returned (.bool ((vecsL 0 m xs.length).any (modHit xs P m))) ∧ Below w.heap.size w w' := by
  have hl1 := (fvB_iff.1 hf).2
  have hp2 := (primeN_bd hP).1
  have hp5 := (primeN_bd hP).2.1
  have hm32 : m ≤ 32 := by
    unfold pw32 at hW
    rw [Bool.and_eq_true, decide_eq_true_eq, decide_eq_true_eq] at hW
    rw [hm]; exact hW.2
  have hm1 : 1 ≤ m := by rw [hm]; exact Nat.pow_pos (by omega)
  have HF := hid hf
  have HX := hid hx
  have HPR : Hid (primeI (P : Int) = true) := hid hP
  have HPW := hid hW
  have HM := hid hm
  obtain ⟨a, cap, rfl, _⟩ := hx.form
  have bF := ((Boxed.new w 23 (.slice a xs.length cap)).alloc (.cells #[.int .i64 (P : Int)] 3)).alloc (.cells #[.bool false] 4)
  have bP := (Boxed.new (w.alloc (.cells #[.slice a xs.length cap] 23)) 3 (.int .i64 (P : Int))).alloc (.cells #[.bool false] 4)
  have bR := Boxed.new ((w.alloc (.cells #[.slice a xs.length cap] 23)).alloc (.cells #[.int .i64 (P : Int)] 3)) 4 (.bool false)
  simp only [World.size_alloc] at bP bR
  have cF := bF.cell
  have cP := bP.cell
  have HB1 := hid (below_three (Below.refl w.heap.size w) (Nat.le_refl _) (.cells #[.slice a xs.length cap] 23) (.cells #[.int .i64 (P : Int)] 3) (.cells #[.bool false] 4))
  have HX1 := hid (HX.out.keep HB1.out)
  clear hx hf hP hW hm
  refine (callsIn_wide (n := 5)).1 ?_
  refine callsIn_of_wp_marks Try.func17 rfl trivial ?_ rfl
  simp only [Try.ntmps17, List.size_toArray, List.length_cons, List.length_nil, Nat.reduceAdd, Nat.reduceSub, Array.replicate_succ, Array.replicate_zero, List.push_toArray, List.append_toArray, List.nil_append, List.cons_append]
  gi_wp2_with (first | (refine ⟨trivial, ?_⟩; gi_at_call 35; refine (callsIn_wide.2 (formValidP_any _ xs _ HX1.out)).mono ?_; rw [HF.out]; rintro e w' ⟨rfl, rfl⟩) | (refine ⟨trivial, ?_⟩; gi_at_call 60; refine (callsIn_wide.2 (prime_any _ _)).mono ?_; rw [HPR.out]; rintro e w2 ⟨rfl, hb2⟩; have bF2 := boxed_lo bF hb2; have bP2 := boxed_lo bP hb2; have bR2 := boxed_lo bR hb2; have cF2 := bF2.cell; have cP2 := bP2.cell))
  refine ⟨trivial, ?_⟩
  gi_at_call 61
  refine (callsIn_wide.2 (powerWithin32_any P k hp2 hp5 _)).mono ?_
  rw [HPW.out]
  rintro e w' ⟨⟨xw, rfl, hxw⟩, rfl⟩
  have hxm : xw = (m : Int) := by rw [hxw rfl, HM.out]
  subst hxm
  clear hxw
  have hs1 := HB1.out.size
  have hs2 := hb2.size
  simp only [World.size_alloc] at hs1 hs2
  have HB2 := hid (HB1.out.trans (hb2.mono (by simp <;> omega)))
  have b9 := Boxed.new (w2.alloc (.cells #[.int .i64 (m : Int)] 3)) 70 .nilFunc
  simp only [World.size_alloc] at b9
  have c9 := b9.cell
  have f9 := b9.frozen
  have hst : (store (⟨w2.heap.size + 1, 0, none⟩ : Addr) (Value.func (.func 62) #[] #[.pointer (some ⟨w.heap.size + 1, 0, none⟩)])).run Try.prog ((w2.alloc (.cells #[.int .i64 (m : Int)] 3)).alloc (.cells #[.nilFunc] 70)) = .ok () (((w2.alloc (.cells #[.int .i64 (m : Int)] 3)).alloc (.cells #[.nilFunc] 70)).setCell ⟨w2.heap.size + 1, 0, none⟩ (Value.func (.func 62) #[] #[.pointer (some ⟨w.heap.size + 1, 0, none⟩)])) := by
    rw [run_store _ _ _ _ _ rfl]
    simp [c9, f9]
  have bM4 := (Boxed.new w2 3 (.int .i64 (m : Int))).alloc (.cells #[(.func (.func 62) #[] #[.pointer (some ⟨w.heap.size + 1, 0, none⟩)])] 70)
  have bF4 := (bF2.alloc (.cells #[.int .i64 (m : Int)] 3)).alloc (.cells #[(.func (.func 62) #[] #[.pointer (some ⟨w.heap.size + 1, 0, none⟩)])] 70)
  have bP4 := (bP2.alloc (.cells #[.int .i64 (m : Int)] 3)).alloc (.cells #[(.func (.func 62) #[] #[.pointer (some ⟨w.heap.size + 1, 0, none⟩)])] 70)
  have bR4 := (bR2.alloc (.cells #[.int .i64 (m : Int)] 3)).alloc (.cells #[(.func (.func 62) #[] #[.pointer (some ⟨w.heap.size + 1, 0, none⟩)])] 70)
  have bU4 := Boxed.new (w2.alloc (.cells #[.int .i64 (m : Int)] 3)) 70 (.func (.func 62) #[] #[.pointer (some ⟨w.heap.size + 1, 0, none⟩)])
  simp only [World.size_alloc] at bU4
  have HB4 := hid ((HB2.out.alloc HB2.out.size (.cells #[.int .i64 (m : Int)] 3)).alloc (by simp <;> omega) (.cells #[(.func (.func 62) #[] #[.pointer (some ⟨w.heap.size + 1, 0, none⟩)])] 70))
  have cm4 := bM4.cell
  have cf4 := bF4.cell
  gi_wp2_with fail
  refine ⟨trivial, ?_⟩
  gi_at_call 63
  refine (callsIn_wide.2 (vectors_make _ _ _ _)).mono ?_
  rintro e w' ⟨rfl, rfl⟩
  have hs4 : ((w2.alloc (.cells #[.int .i64 (m : Int)] 3)).alloc (.cells #[(.func (.func 62) #[] #[.pointer (some ⟨w.heap.size + 1, 0, none⟩)])] 70)).heap.size = w2.heap.size + 2 := by simp
  clear hst c9 f9 b9 cF cP bF bP bR cF2 cP2 bF2 bP2 bR2
  generalize (w2.alloc (.cells #[.int .i64 (m : Int)] 3)).alloc (.cells #[(.func (.func 62) #[] #[.pointer (some ⟨w.heap.size + 1, 0, none⟩)])] 70) = W4 at *
  have HC := captV_new 0 m xs.length W4
  rw [show (0 : Int) + (m : Int) - 1 = (m : Int) - 1 by omega] at HC
  have bF5 := boxed_three bF4 (.cells #[.int .i64 (xs.length : Int)] 3) (.cells #[.int .i64 0] 3) (.cells #[.int .i64 ((m : Int) - 1)] 3)
  have bP5 := boxed_three bP4 (.cells #[.int .i64 (xs.length : Int)] 3) (.cells #[.int .i64 0] 3) (.cells #[.int .i64 ((m : Int) - 1)] 3)
  have bR5 := boxed_three bR4 (.cells #[.int .i64 (xs.length : Int)] 3) (.cells #[.int .i64 0] 3) (.cells #[.int .i64 ((m : Int) - 1)] 3)
  have bM5 := boxed_three bM4 (.cells #[.int .i64 (xs.length : Int)] 3) (.cells #[.int .i64 0] 3) (.cells #[.int .i64 ((m : Int) - 1)] 3)
  have bU5 := boxed_three bU4 (.cells #[.int .i64 (xs.length : Int)] 3) (.cells #[.int .i64 0] 3) (.cells #[.int .i64 ((m : Int) - 1)] 3)
  have HB5 := below_three HB4.out HB4.out.size (.cells #[.int .i64 (xs.length : Int)] 3) (.cells #[.int .i64 0] 3) (.cells #[.int .i64 ((m : Int) - 1)] 3)
  have HS4 := hid hs4
  clear cm4 cf4 bF4 bP4 bR4 bM4 bU4 hb2 hs4
  gi_wp2_with fail
  have hs4 := HS4.out
  refine wpIn_rangeV rfl (by omega) (gf := 105) (lb := #[.pointer (some ⟨W4.heap.size + 1, 0, none⟩), .pointer (some ⟨W4.heap.size, 0, none⟩), .pointer (some ⟨W4.heap.size + 2, 0, none⟩)]) rfl trivial (enters_of Try.func105 (by kernel_rfl) rfl)
    (B0 := W4.heap.size) (B1 := W4.heap.size + 3) (by simp <;> omega) (by simp <;> omega) (vec_rounds _ W4.heap.size 0 m xs.length (by omega) (by omega) hm1 (by omega) hl1.1 hl1.2 _ (by simp) HC) (Below.refl _ _) (fun _ => rfl) (fun x W k r o h hk => yields_put o h hk)
    (fun (pre : List VE) W => (((∀ x ∈ pre, modHit xs P m x.2 = false) ∧ Boxed W (w.heap.size + 1 + 1) 4 (.bool false)) ∧ ((Boxed W w.heap.size 23 (.slice a xs.length cap) ∧ Boxed W (w.heap.size + 1) 3 (.int .i64 (P : Int))) ∧ (Boxed W w2.heap.size 3 (.int .i64 (m : Int)) ∧ Boxed W (w2.heap.size + 1) 70 (.func (.func 62) #[] #[.pointer (some ⟨w.heap.size + 1, 0, none⟩)])))) ∧ Below w.heap.size w W)
    (fun c (pre : List VE) W => ((c = .ret ∧ ∃ x ∈ pre, modHit xs P m x.2 = true) ∧ Boxed W (w.heap.size + 1 + 1) 4 (.bool true)) ∧ Below w.heap.size w W)
    (Turns.and (Turns.and (Turns.and (turns_pure _ _) (turns_boxed (by simp <;> omega) _ _)) (Turns.and (Turns.and (turns_boxed (by simp <;> omega) _ _) (turns_boxed (by simp <;> omega) _ _)) (Turns.and (turns_boxed (by simp <;> omega) _ _) (turns_boxed (by simp <;> omega) _ _)))) (turns_below (Nat.le_refl _) (by simp <;> omega)))
    (fun c => Turns.and (Turns.and (turns_pure _ _) (turns_boxed (by simp <;> omega) _ _)) (turns_below (Nat.le_refl _) (by simp <;> omega)))
    ⟨⟨⟨(fun _ h => by cases h), bR5⟩, ⟨bF5, bP5⟩, bM5, bU5⟩, HB5⟩ ?a1 ?assign ?body ?done ?stop
  case assign =>
    intro l x W K hK
    gi_wp2
    exact hK
  case body =>
    rintro l pre ⟨g, vs⟩ W ⟨⟨⟨hno, hbR⟩, ⟨hbF, hbP⟩, hbM, hbU⟩, hB⟩ ⟨ho, hvl, hv⟩ hsz hlt
    dsimp only at ho hvl hv
    simp only [World.size_alloc] at hsz
    have HV := hid ho.rd
    have HbF := hid hbF
    have HbP := hid hbP
    have HbM := hid hbM
    have HbU := hid hbU
    have HbR := hid hbR
    have HBB := hid hB
    have HNO := hid hno
    have HXW := hid (HX.out.keep hB)
    have cF := hbF.cell
    have cM := hbM.cell
    have cU := hbU.cell
    have HHIT : Hid (modHit xs P m vs = (unitB P vs && (pairI xs vs vs xs.length % (m : Int) == 0))) := hid (by
      unfold modHit
      rw [hvl, val_pair0])
    obtain ⟨z, hz⟩ : ∃ z, z = pairI xs vs vs xs.length := ⟨_, rfl⟩
    obtain ⟨U, hU⟩ : ∃ U, U = unitB P vs := ⟨_, rfl⟩
    rw [← hz, ← hU] at HHIT
    have hv6 : Vec6 vs := fun v hm => by have := hv v hm; omega
    have HPA : Hid (∀ wx, Below W.heap.size W wx → Calls Try.prog 53 #[.slice a xs.length cap, .slice (some ⟨g, 0, none⟩) vs.length vs.length, .slice (some ⟨g, 0, none⟩) vs.length vs.length] wx fun e w' => e = .returned (.int .i64 z) ∧ ∃ q, w' = wx.drewN q) := hid (fun wx hb => by
      rw [hz]
      exact pairAt_any _ _ _ xs vs vs wx (HXW.out.keep hb) (HV.out.keep hb) (HV.out.keep hb) HF.out hv6 hv6 hvl hvl)
    have HCF : Hid (∀ wx, Below W.heap.size W wx → Calls Try.prog 64 #[.slice (some ⟨g, 0, none⟩) vs.length vs.length, (.func (.func 62) #[] #[.pointer (some ⟨w.heap.size + 1, 0, none⟩)])] wx fun e w' => e = .returned (.bool U) ∧ wx = w') := hid (fun wx hb => by
      rw [hU]
      exact containsFunc_any (w.heap.size + 1) P hp2 _ vs (fun v hm => by have := hv v hm; omega) wx (HV.out.keep hb) (by omega) (boxed_keeps HbP.out hb (by omega)).cell)
    have hbd : Below W.heap.size W W.drew := ⟨rfl, rfl, rfl, Nat.le_refl _, fun _ _ => rfl⟩
    have hm0 : ((m : Int) == 0) = false := by rw [beq_eq_false_iff_ne]; omega
    have hmx : Try.prog.follows .mixedOrders = true := by kernel_rfl
    have hlo : w.heap.size + 1 + 1 < W4.heap.size := by omega
    have HLO := hid hlo
    clear hbF hbP hbM hbU hbR hB hno hz hU hv6 hv hvl ho hlt hlo HC bF5 bP5 bR5 bM5 bU5 HB5 HB4 HB2 HB1 HX1
    cases ht : (z % (m : Int) == 0) with
    | false =>
      have T : (z.tmod (m : Int) == 0) = false := by rw [tmod_eq9, ht]
      have HHF : Hid (modHit xs P m vs = false) := hid (by rw [HHIT.out, ht, Bool.and_false])
      clear ht
      gi_wp2
      gi_region_with_o (first
        | (have m5 := hb5; refine ⟨trivial, ?_⟩; gi_at_call 64; refine (CallsIn.inRound l (callsIn_wide.2 (HCF.out _ hb5))).mono ?_; rintro e w6 ⟨rfl, rfl⟩)
        | (refine ⟨trivial, ?_⟩; gi_at_call 53; refine (CallsIn.inRound l (callsIn_wide.2 (HPA.out _ hbd))).mono ?_; rintro e w5 ⟨rfl, q5, hw5⟩; have hb5 : Below W.heap.size W w5 := (by rw [hw5]; exact below_drewN hbd q5); have bM5 := boxed_keeps HbM.out hb5 (by omega); have bU5 := boxed_keeps HbU.out hb5 (by omega); have bR5 := boxed_keeps HbR.out hb5 (by omega); have cM5 := bM5.cell; have cU5 := bU5.cell; have cR5 := bR5.cell; have fR5 := bR5.frozen; have HS5 := hid (bR5.set (.bool true)); have HF5 := hid (boxed_keeps HbF.out hb5 (by omega)); have HP5 := hid (boxed_keeps HbP.out hb5 (by omega)); have HM5 := hid bM5; have HU5 := hid bU5; have HR5 := hid bR5; have HB9 := hid (HBB.out.trans (hb5.mono HBB.out.size)); clear bM5 bU5 bR5 hw5)
        | (have m5 := hb5; refine ⟨trivial, ?_⟩))
      all_goals gi_wp2
      all_goals exact ⟨Stay.of_below hb5, ⟨⟨⟨no_snoc HNO.out HHF.out, HR5.out⟩, ⟨HF5.out, HP5.out⟩, HM5.out, HU5.out⟩, HB9.out⟩⟩
    | true =>
      have T : (z.tmod (m : Int) == 0) = true := by rw [tmod_eq9, ht]
      have HHU : Hid (modHit xs P m vs = U) := hid (by rw [HHIT.out, ht, Bool.and_true])
      clear ht
      cases U with
      | false =>
        gi_wp2
        gi_region_with_o (first
        | (have m5 := hb5; refine ⟨trivial, ?_⟩; gi_at_call 64; refine (CallsIn.inRound l (callsIn_wide.2 (HCF.out _ hb5))).mono ?_; rintro e w6 ⟨rfl, rfl⟩)
        | (refine ⟨trivial, ?_⟩; gi_at_call 53; refine (CallsIn.inRound l (callsIn_wide.2 (HPA.out _ hbd))).mono ?_; rintro e w5 ⟨rfl, q5, hw5⟩; have hb5 : Below W.heap.size W w5 := (by rw [hw5]; exact below_drewN hbd q5); have bM5 := boxed_keeps HbM.out hb5 (by omega); have bU5 := boxed_keeps HbU.out hb5 (by omega); have bR5 := boxed_keeps HbR.out hb5 (by omega); have cM5 := bM5.cell; have cU5 := bU5.cell; have cR5 := bR5.cell; have fR5 := bR5.frozen; have HS5 := hid (bR5.set (.bool true)); have HF5 := hid (boxed_keeps HbF.out hb5 (by omega)); have HP5 := hid (boxed_keeps HbP.out hb5 (by omega)); have HM5 := hid bM5; have HU5 := hid bU5; have HR5 := hid bR5; have HB9 := hid (HBB.out.trans (hb5.mono HBB.out.size)); clear bM5 bU5 bR5 hw5)
        | (have m5 := hb5; refine ⟨trivial, ?_⟩))
        all_goals gi_wp2
        all_goals exact ⟨Stay.of_below hb5, ⟨⟨⟨no_snoc HNO.out HHU.out, HR5.out⟩, ⟨HF5.out, HP5.out⟩, HM5.out, HU5.out⟩, HB9.out⟩⟩
      | true =>
        gi_wp2
        gi_region_with_o (first
        | (have m5 := hb5; refine ⟨trivial, ?_⟩; gi_at_call 64; refine (CallsIn.inRound l (callsIn_wide.2 (HCF.out _ hb5))).mono ?_; rintro e w6 ⟨rfl, rfl⟩)
        | (refine ⟨trivial, ?_⟩; gi_at_call 53; refine (CallsIn.inRound l (callsIn_wide.2 (HPA.out _ hbd))).mono ?_; rintro e w5 ⟨rfl, q5, hw5⟩; have hb5 : Below W.heap.size W w5 := (by rw [hw5]; exact below_drewN hbd q5); have bM5 := boxed_keeps HbM.out hb5 (by omega); have bU5 := boxed_keeps HbU.out hb5 (by omega); have bR5 := boxed_keeps HbR.out hb5 (by omega); have cM5 := bM5.cell; have cU5 := bU5.cell; have cR5 := bR5.cell; have fR5 := bR5.frozen; have HS5 := hid (bR5.set (.bool true)); have HF5 := hid (boxed_keeps HbF.out hb5 (by omega)); have HP5 := hid (boxed_keeps HbP.out hb5 (by omega)); have HM5 := hid bM5; have HU5 := hid bU5; have HR5 := hid bR5; have HB9 := hid (HBB.out.trans (hb5.mono HBB.out.size)); clear bM5 bU5 bR5 hw5)
        | (have m5 := hb5; refine ⟨trivial, ?_⟩))
        all_goals gi_wp2
        all_goals exact ⟨(Stay.of_below hb5).trans (Stay.setCell (by show w.heap.size + 1 + 1 < W4.heap.size; exact HLO.out) _), ⟨⟨⟨rfl, (g, vs), by simp, HHU.out⟩, HS5.out⟩, HB9.out.setCell (p := ⟨w.heap.size + 1 + 1, 0, none⟩) (by show w.heap.size ≤ w.heap.size + 1 + 1; omega) _⟩⟩
  case done =>
    rintro ys W hS ⟨⟨⟨hno, hbR⟩, _⟩, hB⟩ hK
    obtain ⟨D, hDe⟩ : ∃ D, D = (((W4.alloc (.cells #[.int .i64 (xs.length : Int)] 3)).alloc (.cells #[.int .i64 0] 3)).alloc (.cells #[.int .i64 ((m : Int) - 1)] 3)).heap.size := ⟨_, rfl⟩
    rw [← hDe] at hK ⊢
    have hDg : w.heap.size + 1 + 1 < D := by rw [hDe]; simp <;> omega
    clear hDe
    have hc := hbR.cell
    have hf := hbR.frozen
    have hn : Hid ((vecsL 0 m xs.length).any (modHit xs P m) = false) := hid (by
      rw [← hS, List.any_map, List.any_eq_false]
      intro x hx
      rw [Function.comp, hno x hx]
      decide)
    have hset := hbR.set (.bool false)
    have hB2 := hB.setCell (p := ⟨w.heap.size + 1 + 1, 0, none⟩) (by show w.heap.size ≤ w.heap.size + 1 + 1; omega) (.bool false)
    gi_wp2
    have hD2 : D ≠ w.heap.size + 1 + 1 := by omega
    have hK2 := (KeepsOthers.setCell W ⟨w.heap.size + 1 + 1, 0, none⟩ (.bool false)).same _ _ hK rfl
    refine ⟨by simp, .inl ⟨_, _, rfl, run_takeDeferred hK2, ?_⟩⟩
    have hfc : ∀ o, ((W.setCell ⟨w.heap.size + 1 + 1, 0, none⟩ (.bool false)).putObj D o).cell? ⟨w.heap.size + 1 + 1, 0, none⟩ = some (.bool false) := fun o => (boxed_put9 hset hD2).cell
    refine ⟨.bool false, by simp [results, Try.results17, go_sem, hfc] <;> go_simp, ?_⟩
    exact ⟨retB hn.out.symm, hB2.trans (belowK_b (w := w) (Nat.le_refl _) _ _ _ _ (by omega) hK2 rfl rfl)⟩
  case stop =>
    rintro c pre W hSp ⟨⟨⟨rfl, x, hx, hit⟩, hbR⟩, hB⟩ hK
    obtain ⟨D, hDe⟩ : ∃ D, D = (((W4.alloc (.cells #[.int .i64 (xs.length : Int)] 3)).alloc (.cells #[.int .i64 0] 3)).alloc (.cells #[.int .i64 ((m : Int) - 1)] 3)).heap.size := ⟨_, rfl⟩
    rw [← hDe] at hK ⊢
    have hDg : w.heap.size + 1 + 1 < D := by rw [hDe]; simp <;> omega
    clear hDe
    have hc := hbR.cell
    have hn : Hid ((vecsL 0 m xs.length).any (modHit xs P m) = true) := hid (List.any_eq_true.2 ⟨x.2, hSp.subset (List.mem_map.2 ⟨x, hx, rfl⟩), hit⟩)
    gi_wp2
    have hD2 : D ≠ w.heap.size + 1 + 1 := by omega
    refine ⟨by simp, .inl ⟨_, _, rfl, run_takeDeferred hK, ?_⟩⟩
    have hfc : ∀ o, (W.putObj D o).cell? ⟨w.heap.size + 1 + 1, 0, none⟩ = some (.bool true) := fun o => (boxed_put9 hbR hD2).cell
    refine ⟨.bool true, by simp [results, Try.results17, go_sem, hfc] <;> go_simp, ?_⟩
    exact ⟨retB hn.out.symm, hB.trans (belowK_b (w := w) (Nat.le_refl _) W _ _ _ (by omega) hK rfl rfl)⟩

end Go.Proofs.Ytbhlgdleklfonaa
