/-
  Proves: for every list and every move the program's MoveSplit answers as the model's, in memory of its own.
  Conditions: none beyond the given statement's own.
-/
import Derived.Test.YtjabklpnohfjpabRows
import Derived.Test.YtjabklpnohfjpabQBun38
import Derived.Test.YtjabklpnohfjpabQBun40
import Derived.ProofKit
import Derived.OpenShut
import Derived.ShutString
import Derived.ChangeOld
namespace Go.Proofs.Ytjabklpnohfjpab.fnExactMoveSplit
open Go.ChangeShapes Go.WideShapes Go.ChangeAt Go.RowKit
open Go.ChangeMaps (open_string shut_string)
set_option linter.unusedVariables false
theorem put_len9 {xs : List Int} {st st' : SplitSt} {ws : List Int} (h : splitPut xs st ws = some st') (hs : ∀ w ∈ st.2.2, w.length = xs.length) : ∀ w ∈ st'.2.2, w.length = xs.length := by
  unfold splitPut at h
  cases hm : mirV xs ws with
  | none => rw [hm] at h; cases h
  | some M =>
    rw [hm] at h
    obtain ⟨R, d⟩ := M
    simp only [Option.bind_some] at h
    obtain ⟨m, _, rfl⟩ := Option.map_eq_some_iff.1 h
    have hl := (vecB_iff.1 (mir_some hm).2.1).2.2
    intro w hw
    rcases List.mem_append.1 hw with h1 | h1
    · exact hs w h1
    · rw [List.mem_singleton.1 h1]; exact hl
theorem at_len9 {xs : List Int} {st st' : SplitSt} {i : Nat} (h : splitAt xs st i = some st') (hs : ∀ w ∈ st.2.2, w.length = xs.length) : ∀ w ∈ st'.2.2, w.length = xs.length := by
  unfold splitAt at h
  split at h
  · cases h; exact hs
  · split at h
    · obtain ⟨s1, h1, h2⟩ := Option.bind_eq_some_iff.1 h
      exact put_len9 h2 (put_len9 h1 hs)
    · exact put_len9 h hs
theorem n_len9 {xs : List Int} {st : SplitSt} : ∀ {k : Nat} {st' : SplitSt}, splitN xs st k = some st' → (∀ w ∈ st.2.2, w.length = xs.length) → ∀ w ∈ st'.2.2, w.length = xs.length
  | 0, st', h, hs => by cases h; exact hs
  | k + 1, st', h, hs => by
    obtain ⟨s1, h1, h2⟩ := Option.bind_eq_some_iff.1 h
    exact at_len9 h2 (n_len9 h1 hs)
theorem split_rows9 (xs : List Int) (A : List (List Int)) (a : Int) : preL ((splitV xs A a).getD []) ((splitV xs A a).getD []).length ≤ 1000 := by
  cases h : splitV xs A a with
  | none => exact Nat.zero_le _
  | some out =>
    obtain ⟨hok, _, _, hlen, _⟩ := split_some h
    have h3 := hok.l3
    have hl : ∀ w ∈ out, w.length = xs.length := by
      unfold splitV at h
      split at h
      · obtain ⟨s1, h1, rfl⟩ := Option.map_eq_some_iff.1 h
        exact n_len9 h1 (fun w hw => by cases hw)
      · cases h
    have := pre_bd (R := out) (m := 3) (fun r hr => by rw [hl r hr]; exact h3) out.length (Nat.le_refl _)
    show preL out out.length ≤ 1000
    omega
theorem un_drew9 {W W' : World} (h : Below W.drew.heap.size W.drew W') : Below W.heap.size W W' := ⟨h.os, h.tape, h.output, h.size, h.block⟩
theorem own_cap9 {W : World} {B : Nat} {ex : Option Nat} {v : Value} {R : List (List Int)} (h : OwnM W B ex v R) : ∀ a n c, v = .slice a n c → n ≤ c := by
  intro a n c e
  subst e
  obtain ⟨vals, hl, ⟨h1, h2⟩, _⟩ := h.own
  rcases h2 with ⟨h3, hn⟩ | ⟨g, cap, cur, h3, _, hg, hc2, hm, hs, ht⟩
  · cases h3; exact Nat.le_refl _
  · cases h3; exact hc2
theorem row_small9 {R : List (List Int)} {n : Int} (h : (R.length : Int) + (preL R R.length : Nat) ≤ n) (hn : n ≤ 1048576) : ∀ i, i < R.length → (R.getD i []).length ≤ 1048576 := fun i hi => by
  have := preL_mono R (show i + 1 ≤ R.length by omega)
  have e : preL R (i + 1) = preL R i + (R.getD i []).length := rfl
  omega
set_option maxRecDepth 100000 in
set_option maxHeartbeats 40000000 in
theorem walk  (a0 : Option Addr) (len0 cap0 : Nat) (z0 : List Int) (y1 : Value) (R1 : List (List Int)) (n1 : Int) (w : World) (w0 : IsRow .i64 w a0 len0 cap0 z0) (w1 : RdM w y1 R1) :
    Calls Try.prog 11 #[.slice a0 len0 cap0, .agg #[y1, .int .i64 n1]] w fun e w' => e = .returned (.bool true) ∧ Below w.heap.size w w' := by
  obtain ⟨xs0, hxl0, hrd0⟩ := rd_row w0
  have HXL0 := hid hxl0
  obtain ⟨ay1, cy1, rfl⟩ := w1.form
  obtain ⟨V0, hV0⟩ : ∃ V0, V0 = (w.alloc (.cells #[.slice ay1 R1.length cy1, .int .i64 n1] 25)) := ⟨_, rfl⟩
  have HV0 := hid hV0
  have PRE0 : Hid (Below w.heap.size w V0) := hid (by rw [hV0]; exact (Below.refl w.heap.size w).alloc (Nat.le_refl _) _)
  have HXV1 : Hid (V0.heap[w.heap.size]? = some (.cells #[.slice ay1 R1.length cy1, .int .i64 n1] 25 (0, 0))) := hid (by rw [hV0]; have h9 := heap_alloc_new w (.cells #[.slice ay1 R1.length cy1, .int .i64 n1] 25); exact h9)
  have RAV0 := hid (hrd0.keep2 PRE0.out)
  have RMV1 := hid (w1.keep PRE0.out)
  clear hV0 hrd0 hxl0 w0 w1
  by_cases hl0a : (1048576 : Int) < (len0 : Int)
  · go_enter Try.func11, Try.ntmps11
    go_wp2
    go_ret
    exact ⟨rfl, by have h9 := PRE0.out; rw [HV0.out] at h9; exact h9⟩
  have hl0 : xs0.length ≤ 1048576 := by have := HXL0.out; omega
  have qx10 := cellB (i := 0) HXV1.out
  have qx11 := cellB (i := 1) HXV1.out
  rw [HV0.out] at qx10 qx11
  go_enter Try.func11, Try.ntmps11
  go_wp2_with fail
  rw [← HV0.out]
  clear qx10 qx11
  refine (szMove_any _ R1 n1 (1048576) (by omega) (by omega) _ RMV1.out).mono ?_
  rintro e V1 ⟨hb1, rfl | ⟨hle1, rfl⟩⟩
  · go_wp2
    go_ret
    exact ⟨rfl, PRE0.out.trans (hb1.mono PRE0.out.size)⟩
  have EV1 := hid hb1
  have PRE1 := hid (PRE0.out.trans (EV1.out.mono PRE0.out.size))
  have HXW1 := hid (heap_below EV1.out HXV1.out)
  clear HXV1
  have HXV1 := HXW1
  clear HXW1
  have RAW0 := hid (RAV0.out.keep2 EV1.out)
  clear RAV0
  have RAV0 := RAW0
  clear RAW0
  have RMW1 := hid (RMV1.out.keep EV1.out)
  clear RMV1
  have RMV1 := RMW1
  clear RMW1
  clear hb1
  have hR1 : R1.length ≤ 1048576 := by omega
  have hp1 : preL R1 R1.length ≤ 1048576 := by omega
  have hr1 := row_small9 hle1 (by omega)
  have HRR1 := hid hr1
  clear hr1
  have ht1 : ¬ (1048576 - (R1.length : Int) - ((preL R1 R1.length : Nat) : Int) < 0) := by omega
  obtain ⟨W0, hW0⟩ : ∃ W0, W0 = V1 := ⟨_, rfl⟩
  rw [← hW0] at PRE1
  rw [← hW0] at HXV1
  rw [← hW0] at RAV0
  have RA0 := RAV0
  clear RAV0
  rw [← hW0] at RMV1
  have RM1 := RMV1
  clear RMV1
  rw [← hW0]
  have PRE := PRE1
  have HSW := hid hW0
  have B0 := hid (Below.refl W0.heap.size W0)
  have slt : w.heap.size + 1 ≤ W0.heap.size := by have h9 := PRE1.out.size; have hb9 := PRE0.out.size; have h81 := (Array.getElem?_eq_some_iff.1 HXV1.out).1; omega
  clear hW0
  obtain ⟨R, hR⟩ : ∃ R, R = (splitV xs0 R1 n1).getD [] := ⟨_, rfl⟩
  obtain ⟨b, hb⟩ : ∃ b, b = (splitV xs0 R1 n1).isSome := ⟨_, rfl⟩
  have hlen : preL R R.length ≤ 1000 := by rw [hR]; exact split_rows9 xs0 R1 n1
  have S : Hid (∀ (v0 v1 : Value) (w : World), Rd w v0 xs0 → RdM w v1 R1 → Calls Try.prog 42 #[v0, .agg #[v1, .int .i64 n1]] w fun e w' => ∃ u, e = .returned (.tuple #[u, .bool b]) ∧ OwnM w' w.heap.size none u R ∧ Below w.heap.size w w') := hid (fun v0 v1 w h0 h1 => by rw [hR, hb]; exact moveSplitS_any v0 v1 xs0 R1 n1 w h0 h1)
  have I : Hid (∀ (v0 v1 : Value) (w : World), Rd w v0 xs0 → RdM w v1 R1 → Calls Try.prog 43 #[v0, .agg #[v1, .int .i64 n1]] w fun e w' => ∃ u, e = .returned (.tuple #[u, .bool b]) ∧ OwnM w' w.heap.size none u R ∧ Below w.heap.size w w') := hid (fun v0 v1 w h0 h1 => by rw [hR, hb]; exact moveSplit_any v0 v1 xs0 R1 n1 w h0 h1)
  have TB : (b != b) = false := by simp
  have T1 : ((1 + ((preL R R.length : Nat) : Int)) != 1 + ((preL R R.length : Nat) : Int)) = false := by simp
  have T2 : ¬ ((1 + ((preL R R.length : Nat) : Int)) < 0) := by omega
  clear hR hb
  go_upto_region 7 with fail
  go_cut [6, 7] (fun s6 s7 wx => ∃ (pa : Option Addr) (pc : Nat), s6 = .slice pa R.length pc ∧ s7 = .bool b ∧ Hid (OwnM wx W0.heap.size none (.slice pa R.length pc) R) ∧ Hid (Below W0.heap.size W0 wx))
  case first =>
    have qr10 := cellB (i := 0) (heap_below B0.out HXV1.out)
    have qr11 := cellB (i := 1) (heap_below B0.out HXV1.out)
    have RD0 : Rd W0 (.slice a0 len0 cap0) xs0 := RA0.out.keep2 B0.out
    have RD1 : Rd W0.drew (.slice a0 len0 cap0) xs0 := RD0
    have RDH := hid RD1
    clear RD0 RD1
    go_region_with (first | (go_at_call 42; refine (S.out _ _ _ OU0.out OU1.out.rd).mono ?_; rintro e U2 ⟨pv, rfl, o2, b2⟩; have HOP := hid (o2.down EA1.out.size); have EA2 := hid (EA1.out.trans (b2.mono EA1.out.size)); obtain ⟨pa, pc, rfl⟩ := HOP.out.rd.form; clear o2 b2) | (go_at_call 16; refine (toMove_any _ R1 n1 _ (RM1.out.keep (B0.out.trans (EA0.out.mono B0.out.size))) hR1 HRR1.out).mono ?_; rintro e U1 ⟨u1, rfl, o1, b1⟩; have EA1 := hid (EA0.out.trans (b1.mono EA0.out.size)); have OU0x := hid (OU0.out.keep2 b1); clear OU0; have OU0 := OU0x; clear OU0x; have OU1 := hid o1; have qs110 := cellB (i := 0) (heap_below (B0.out.trans (EA1.out.mono B0.out.size)) HXV1.out); have qs111 := cellB (i := 1) (heap_below (B0.out.trans (EA1.out.mono B0.out.size)) HXV1.out); clear o1 b1) | (go_at_call 15; refine (toIntS_any _ xs0 _ RDH.out hl0).mono ?_; rintro e U0 ⟨u0, rfl, o0, b0, _⟩; have EA0 : Hid (Below W0.heap.size W0 U0) := hid (un_drew9 b0); have OU0 := hid o0.rd; have qs010 := cellB (i := 0) (heap_below (B0.out.trans (EA0.out.mono B0.out.size)) HXV1.out); have qs011 := cellB (i := 1) (heap_below (B0.out.trans (EA0.out.mono B0.out.size)) HXV1.out); clear o0 b0))
    all_goals (go_wp2_with fail; go_meet; exact ⟨pa, pc, rfl, rfl, HOP, EA2⟩)
  case rest =>
    obtain ⟨ap, cp, rfl, rfl, hop, bc⟩ := hcut
    rename World => W1
    have b1 := bc.out
    clear bc
    have E1 := hid b1
    have s1 : W0.heap.size ≤ W1.heap.size := E1.out.size
    have B1 := hid (B0.out.trans (E1.out.mono B0.out.size))
    clear b1
    obtain ⟨valsp, oc1⟩ := hop.out.ownC
    have Op_1 := hid oc1
    clear hop oc1
    go_wp2_with fail
    refine (toIntS_any _ xs0 _ (RA0.out.keep2 B1.out) hl0).mono ?_
    rintro e W2 ⟨z0, rfl, o2, b2, _⟩
    have E2 := hid b2
    have s2 : W1.heap.size ≤ W2.heap.size := E2.out.size
    have B2 := hid (B1.out.trans (E2.out.mono B1.out.size))
    have Op_2 := hid (Op_1.out.at_blocks fun g _ h => E2.out.block g (by omega))
    clear Op_1
    have Oz0_2 := hid o2
    have LTz0 := hid o2.lt
    clear o2 b2
    have qx10 := cellB (i := 0) (heap_below B2.out HXV1.out)
    have qx11 := cellB (i := 1) (heap_below B2.out HXV1.out)
    go_wp2_with fail
    refine (toMove_any _ R1 n1 _ (RM1.out.keep B2.out) hR1 HRR1.out).mono ?_
    clear qx10 qx11
    rintro e W3 ⟨z1, rfl, o3, b3⟩
    have E3 := hid b3
    have s3 : W2.heap.size ≤ W3.heap.size := E3.out.size
    have B3 := hid (B2.out.trans (E3.out.mono B2.out.size))
    have Op_3 := hid (Op_2.out.at_blocks fun g _ h => E3.out.block g (by omega))
    clear Op_2
    have Oz0_3 := hid (Oz0_2.out.keep Oz0_2.out.lt E3.out)
    clear Oz0_2
    obtain ⟨valsz1, oc3⟩ := o3.ownC
    obtain ⟨az1, cz1, rfl⟩ := o3.rd.form
    have Oz1_3 := hid oc3
    clear o3 b3 oc3
    obtain ⟨W4, hW4⟩ : ∃ W4, W4 = W3.alloc (.cells #[.slice az1 R1.length cz1, .int .i64 n1] 29) := ⟨_, rfl⟩
    have HW4 := hid hW4
    have b4 : Below W3.heap.size W3 W4 := by rw [hW4]; exact below_box3 _ _
    have S4 : Hid (W4.heap.size = W3.heap.size + 1) := hid (by rw [hW4]; simp)
    have E4 := hid b4
    have s4 : W3.heap.size ≤ W4.heap.size := E4.out.size
    have B4 := hid (B3.out.trans (E4.out.mono B3.out.size))
    have Op_4 := hid (Op_3.out.at_blocks fun g _ h => E4.out.block g (by omega))
    clear Op_3
    have Oz0_4 := hid (Oz0_3.out.keep Oz0_3.out.lt E4.out)
    clear Oz0_3
    have Oz1_4 := hid (Oz1_3.out.at_blocks fun g _ h => E4.out.block g (by omega))
    clear Oz1_3
    have OXz1_4 : Hid (W4.heap[W3.heap.size]? = some (.cells #[.slice az1 R1.length cz1, .int .i64 n1] 29 (0, 0))) := hid (by rw [hW4]; exact World.alloc_heap_new _ _)
    clear b4 hW4
    have qz10 := cellB (i := 0) OXz1_4.out
    have qz11 := cellB (i := 1) OXz1_4.out
    rw [HW4.out] at qz10 qz11
    go_wp2_with fail
    rw [← HW4.out]
    refine (I.out _ _ _ Oz0_4.out.rd Oz1_4.out.rd).mono ?_
    clear qz10 qz11
    rintro e W5 ⟨g, rfl, o5, b5⟩
    have E5 := hid b5
    have s5 : W4.heap.size ≤ W5.heap.size := E5.out.size
    have B5 := hid (B4.out.trans (E5.out.mono B4.out.size))
    have Op_5 := hid (Op_4.out.at_blocks fun g _ h => E5.out.block g (by omega))
    clear Op_4
    have Oz0_5 := hid (Oz0_4.out.keep Oz0_4.out.lt E5.out)
    clear Oz0_4
    have Oz1_5 := hid (Oz1_4.out.at_blocks fun g _ h => E5.out.block g (by omega))
    clear Oz1_4
    have OXz1_5 := hid (heap_below E5.out OXz1_4.out)
    clear OXz1_4
    obtain ⟨valsg, oc5⟩ := o5.ownC
    obtain ⟨ag, cg, rfl⟩ := o5.rd.form
    have Og_5 := hid oc5
    clear o5 b5 oc5
    go_wp2_with fail
    refine (eqIntSS_any _ _ R R _ Og_5.out.rd Op_5.out.rd).mono ?_
    rw [dec_rows]
    rintro e W6 ⟨rfl, k6, hk6⟩
    have b6 : Below W5.heap.size W5 W6 := by rw [hk6]; exact below_drewN (Below.refl _ _) k6
    clear hk6
    have E6 := hid b6
    have s6 : W5.heap.size ≤ W6.heap.size := E6.out.size
    have B6 := hid (B5.out.trans (E6.out.mono B5.out.size))
    have Op_6 := hid (Op_5.out.at_blocks fun g _ h => E6.out.block g (by omega))
    clear Op_5
    have Oz0_6 := hid (Oz0_5.out.keep Oz0_5.out.lt E6.out)
    clear Oz0_5
    have Oz1_6 := hid (Oz1_5.out.at_blocks fun g _ h => E6.out.block g (by omega))
    clear Oz1_5
    have OXz1_6 := hid (heap_below E6.out OXz1_5.out)
    clear OXz1_5
    have Og_6 := hid (Og_5.out.at_blocks fun g _ h => E6.out.block g (by omega))
    clear Og_5
    clear b6
    go_wp2_with fail
    refine (toIntS_any _ xs0 _ (RA0.out.keep2 B6.out) hl0).mono ?_
    rintro e W7 ⟨t0, rfl, o7, b7, _⟩
    have E7 := hid b7
    have s7 : W6.heap.size ≤ W7.heap.size := E7.out.size
    have B7 := hid (B6.out.trans (E7.out.mono B6.out.size))
    have Op_7 := hid (Op_6.out.at_blocks fun g _ h => E7.out.block g (by omega))
    clear Op_6
    have Oz0_7 := hid (Oz0_6.out.keep Oz0_6.out.lt E7.out)
    clear Oz0_6
    have Oz1_7 := hid (Oz1_6.out.at_blocks fun g _ h => E7.out.block g (by omega))
    clear Oz1_6
    have OXz1_7 := hid (heap_below E7.out OXz1_6.out)
    clear OXz1_6
    have Og_7 := hid (Og_6.out.at_blocks fun g _ h => E7.out.block g (by omega))
    clear Og_6
    have Ot0_7 := hid o7
    have LTt0 := hid o7.lt
    clear o7 b7
    go_wp2_with fail
    refine (eqIntS_any _ _ xs0 xs0 _ Oz0_7.out.rd Ot0_7.out.rd).mono ?_
    rw [dec_one]
    rintro e W8 ⟨rfl, k8, hk8⟩
    have b8 : Below W7.heap.size W7 W8 := by rw [hk8]; exact below_drewN (Below.refl _ _) k8
    clear hk8
    have E8 := hid b8
    have s8 : W7.heap.size ≤ W8.heap.size := E8.out.size
    have B8 := hid (B7.out.trans (E8.out.mono B7.out.size))
    have Op_8 := hid (Op_7.out.at_blocks fun g _ h => E8.out.block g (by omega))
    clear Op_7
    have Oz0_8 := hid (Oz0_7.out.keep Oz0_7.out.lt E8.out)
    clear Oz0_7
    have Oz1_8 := hid (Oz1_7.out.at_blocks fun g _ h => E8.out.block g (by omega))
    clear Oz1_7
    have OXz1_8 := hid (heap_below E8.out OXz1_7.out)
    clear OXz1_7
    have Og_8 := hid (Og_7.out.at_blocks fun g _ h => E8.out.block g (by omega))
    clear Og_7
    have Ot0_8 := hid (Ot0_7.out.keep Ot0_7.out.lt E8.out)
    clear Ot0_7
    clear b8
    go_upto_region 15 with fail
    go_cut [61] (fun s6 wx => s6 = .bool false ∧ Hid (Below W8.heap.size W8 wx))
    case first =>
      have qr0 := cellB (i := 0) (heap_below B8.out HXV1.out)
      have qr1 := cellB (i := 1) (heap_below B8.out HXV1.out)
      have qb0 := cellB (i := 0) OXz1_8.out
      have qb1 := cellB (i := 1) OXz1_8.out
      have RD0 : RdM W8 (.slice ay1 R1.length cy1) R1 := RM1.out.keep B8.out
      have RD1 : RdM W8.drew (.slice ay1 R1.length cy1) R1 := RD0
      have RDH := hid RD1
      clear RD0 RD1
      go_region_with (first | (go_at_call 19; refine (eqMove_any _ _ R1 R1 n1 n1 _ OQ.out OU.out.rd).mono ?_; rw [dec_two]; rintro e U1 ⟨rfl, b1⟩; have EA1 := hid (EA0.out.trans (b1.mono EA0.out.size)); clear b1) | (go_at_call 16; refine (toMove_any _ R1 n1 _ RDH.out hR1 HRR1.out).mono ?_; rintro e U0 ⟨u0, rfl, o0, b0⟩; have EA0 : Hid (Below W8.heap.size W8 U0) := hid (un_drew9 b0); have OU := hid o0; have OQ := hid ((Oz1_8.out.at_blocks fun g _ h => EA0.out.block g (by omega)).rd); have qc0 := cellB (i := 0) (heap_below EA0.out OXz1_8.out); have qc1 := cellB (i := 1) (heap_below EA0.out OXz1_8.out); clear o0 b0))
      all_goals (go_wp2_with fail; go_meet; exact ⟨rfl, EA1⟩)
    case rest =>
      obtain ⟨rfl, bc⟩ := hcut
      rename World => W9
      have b9 := bc.out
      clear bc
      have E9 := hid b9
      have s9 : W8.heap.size ≤ W9.heap.size := E9.out.size
      have B9 := hid (B8.out.trans (E9.out.mono B8.out.size))
      have Op_9 := hid (Op_8.out.at_blocks fun g _ h => E9.out.block g (by omega))
      clear Op_8
      have Oz0_9 := hid (Oz0_8.out.keep Oz0_8.out.lt E9.out)
      clear Oz0_8
      have Oz1_9 := hid (Oz1_8.out.at_blocks fun g _ h => E9.out.block g (by omega))
      clear Oz1_8
      have OXz1_9 := hid (heap_below E9.out OXz1_8.out)
      clear OXz1_8
      have Og_9 := hid (Og_8.out.at_blocks fun g _ h => E9.out.block g (by omega))
      clear Og_8
      clear b9
      go_wp2_with fail
      refine (markIntS2_any _ xs0 W1.heap.size (1) (by omega) (by omega) (by omega) _ Oz0_9.out).mono ?_
      rintro e W10 ⟨rfl, o10, b10, g10⟩
      have G10 := hid g10
      have s10 : W9.heap.size ≤ W10.heap.size := b10.size
      have B10 := hid (B9.out.trans (b10.mono B1.out.size))
      have Op_10 := hid (Op_9.out.at_blocks fun g h3 h4 => G10.out.block g (by omega) (fun e => by have h1 := Oz0_9.out.ge g e.symm; have h2 := LTz0.out g e.symm; omega))
      clear Op_9
      have Oz1_10 := hid (Oz1_9.out.at_blocks fun g h3 h4 => G10.out.block g (by omega) (fun e => by have h1 := Oz0_9.out.ge g e.symm; have h2 := LTz0.out g e.symm; omega))
      clear Oz1_9
      have OXz1_10 := hid ((G10.out.block W3.heap.size (by have h9 := S4.out; omega) (fun e => by have h1 := Oz0_9.out.ge _ e.symm; have h2 := LTz0.out _ e.symm; have h9 := S4.out; omega)).trans OXz1_9.out)
      clear OXz1_9
      have Og_10 := hid (Og_9.out.at_blocks fun g h3 h4 => G10.out.block g (by omega) (fun e => by have h1 := Oz0_9.out.ge g e.symm; have h2 := LTz0.out g e.symm; omega))
      clear Og_9
      have Oz0_10 := hid o10
      clear o10 b10 g10
      have qz10 := cellB (i := 0) OXz1_10.out
      have qz11 := cellB (i := 1) OXz1_10.out
      go_wp2_with fail
      refine (markMove_any _ R1 valsz1 W2.heap.size W3.heap.size n1 (1 + (xs0.length : Int)) (by omega) (by omega) (by omega) _ Oz1_10.out (by omega) (by omega)).mono ?_
      rintro e W11 ⟨rfl, o11, b11, u11⟩
      clear qz10 qz11
      have U11 := hid u11
      have D11 := hid b11
      have s11 : W10.heap.size ≤ W11.heap.size := b11.size
      have B11 := hid (B10.out.trans (b11.mono B2.out.size))
      have Op_11 := hid (Op_10.out.at_blocks fun g h3 h4 => D11.out.block g (by omega))
      clear Op_10
      have Oz0_11 := hid (Oz0_10.out.at_block fun g h => D11.out.block g (by have := LTz0.out g h; omega))
      clear Oz0_10
      have OXz1_11 := hid ((U11.out W3.heap.size (by omega) (by have h9 := S4.out; omega)).trans OXz1_10.out)
      clear OXz1_10
      have Og_11 := hid (Og_10.out.at_blocks fun g h3 h4 => U11.out g (by omega) (by omega))
      clear Og_10
      have Oz1_11 := hid o11
      clear o11 b11 u11
      have T3 : ¬ (1 + (xs0.length : Int) + ((preL R1 R1.length : Nat) : Int) < 0) := by omega
      go_wp2_with fail
      refine (eqIntSS_any _ _ R R _ Og_11.out.rd Op_11.out.rd).mono ?_
      rw [dec_rows]
      rintro e W12 ⟨rfl, k12, hk12⟩
      have b12 : Below W11.heap.size W11 W12 := by rw [hk12]; exact below_drewN (Below.refl _ _) k12
      clear hk12
      have E12 := hid b12
      have s12 : W11.heap.size ≤ W12.heap.size := E12.out.size
      have B12 := hid (B11.out.trans (E12.out.mono B11.out.size))
      have Op_12 := hid (Op_11.out.at_blocks fun g _ h => E12.out.block g (by omega))
      clear Op_11
      have Oz0_12 := hid (Oz0_11.out.keep Oz0_11.out.lt E12.out)
      clear Oz0_11
      have Oz1_12 := hid (Oz1_11.out.at_blocks fun g _ h => E12.out.block g (by omega))
      clear Oz1_11
      have OXz1_12 := hid (heap_below E12.out OXz1_11.out)
      clear OXz1_11
      have Og_12 := hid (Og_11.out.at_blocks fun g _ h => E12.out.block g (by omega))
      clear Og_11
      clear b12
      go_wp2_with fail
      refine (markIntSS_any _ R valsg W4.heap.size W5.heap.size 1 (by omega) (by omega) (by omega) _ Og_12.out).mono ?_
      rintro e W13 ⟨rfl, o13, b13, u13⟩
      have U13 := hid u13
      have D13 := hid b13
      have s13 : W12.heap.size ≤ W13.heap.size := b13.size
      have B13 := hid (B12.out.trans (b13.mono B4.out.size))
      have Op_13 := hid (Op_12.out.at_blocks fun g h3 h4 => D13.out.block g (by omega))
      clear Op_12
      have Og_13 := hid o13
      clear o13 b13 u13
      go_wp2_with fail
      refine (heldIntSS_any _ R 1 (by omega) (by omega) (by omega) _ Og_13.out.rd).mono ?_
      rintro e w' ⟨rfl, rfl⟩
      go_upto_region 30 with fail
      go_cut [15, 16] (fun s6 s7 wx => ∃ (pa : Option Addr) (pc : Nat), s6 = .slice pa R.length pc ∧ s7 = .bool b ∧ Hid (OwnM wx W13.heap.size none (.slice pa R.length pc) R) ∧ Hid (Below W13.heap.size W13 wx))
      case first =>
        have qr10 := cellB (i := 0) (heap_below B13.out HXV1.out)
        have qr11 := cellB (i := 1) (heap_below B13.out HXV1.out)
        have RD0 : Rd W13 (.slice a0 len0 cap0) xs0 := RA0.out.keep2 B13.out
        have RD1 : Rd W13.drew (.slice a0 len0 cap0) xs0 := RD0
        have RDH := hid RD1
        clear RD0 RD1
        go_region_with (first | (go_at_call 43; refine (I.out _ _ _ OU0.out OU1.out.rd).mono ?_; rintro e U2 ⟨pv, rfl, o2, b2⟩; have HOP := hid (o2.down EA1.out.size); have EA2 := hid (EA1.out.trans (b2.mono EA1.out.size)); obtain ⟨pa, pc, rfl⟩ := HOP.out.rd.form; clear o2 b2) | (go_at_call 16; refine (toMove_any _ R1 n1 _ (RM1.out.keep (B13.out.trans (EA0.out.mono B13.out.size))) hR1 HRR1.out).mono ?_; rintro e U1 ⟨u1, rfl, o1, b1⟩; have EA1 := hid (EA0.out.trans (b1.mono EA0.out.size)); have OU0x := hid (OU0.out.keep2 b1); clear OU0; have OU0 := OU0x; clear OU0x; have OU1 := hid o1; have qs110 := cellB (i := 0) (heap_below (B13.out.trans (EA1.out.mono B13.out.size)) HXV1.out); have qs111 := cellB (i := 1) (heap_below (B13.out.trans (EA1.out.mono B13.out.size)) HXV1.out); clear o1 b1) | (go_at_call 15; refine (toIntS_any _ xs0 _ RDH.out hl0).mono ?_; rintro e U0 ⟨u0, rfl, o0, b0, _⟩; have EA0 : Hid (Below W13.heap.size W13 U0) := hid (un_drew9 b0); have OU0 := hid o0.rd; have qs010 := cellB (i := 0) (heap_below (B13.out.trans (EA0.out.mono B13.out.size)) HXV1.out); have qs011 := cellB (i := 1) (heap_below (B13.out.trans (EA0.out.mono B13.out.size)) HXV1.out); clear o0 b0))
        all_goals (go_wp2_with fail; go_meet; exact ⟨pa, pc, rfl, rfl, HOP, EA2⟩)
      case rest =>
        obtain ⟨ah, ch, rfl, rfl, hop, bc⟩ := hcut
        rename World => W14
        have b14 := bc.out
        clear bc
        have E14 := hid b14
        have s14 : W13.heap.size ≤ W14.heap.size := E14.out.size
        have B14 := hid (B13.out.trans (E14.out.mono B13.out.size))
        have Op_14 := hid (Op_13.out.at_blocks fun g _ h => E14.out.block g (by omega))
        clear Op_13
        have Og_14 := hid (Og_13.out.at_blocks fun g _ h => E14.out.block g (by omega))
        clear Og_13
        clear b14
        obtain ⟨valsh, oc14⟩ := hop.out.ownC
        have Oh_14 := hid oc14
        clear hop oc14
        go_wp2_with fail
        refine (eqIntSS_any _ _ R R _ Oh_14.out.rd Op_14.out.rd).mono ?_
        rw [dec_rows]
        rintro e W15 ⟨rfl, k15, hk15⟩
        have b15 : Below W14.heap.size W14 W15 := by rw [hk15]; exact below_drewN (Below.refl _ _) k15
        clear hk15
        have E15 := hid b15
        have s15 : W14.heap.size ≤ W15.heap.size := E15.out.size
        have B15 := hid (B14.out.trans (E15.out.mono B14.out.size))
        have Op_15 := hid (Op_14.out.at_blocks fun g _ h => E15.out.block g (by omega))
        clear Op_14
        have Og_15 := hid (Og_14.out.at_blocks fun g _ h => E15.out.block g (by omega))
        clear Og_14
        have Oh_15 := hid (Oh_14.out.at_blocks fun g _ h => E15.out.block g (by omega))
        clear Oh_14
        clear b15
        go_wp2_with fail
        refine (heldIntSS_any _ R 1 (by omega) (by omega) (by omega) _ Og_15.out.rd).mono ?_
        rintro e w' ⟨rfl, rfl⟩
        go_wp2
        go_ret
        first | exact ⟨rfl, PRE.out.trans (B15.out.mono PRE.out.size)⟩ | exact ⟨rfl, B15.out⟩
theorem own : ownKnob Try.prog.godebug = none := by kernel_rfl
theorem laidOut : laidOutB Try.prog = true := by kernel_rfl
set_option maxRecDepth 100000 in
theorem lifted (os : Os) (started : os.Started) (H : Type) (enc : TypeId × Value → H) :
    ReturnsInHanded {} Try.checked os 11 .any (Rows.fnExactMoveSplitSpec.pre6 enc Try.prog Try.f11 Rows.fnExactMoveSplitRow.domain false) (Rows.fnExactMoveSplitSpec.post enc Try.prog Try.f11 false true false false) := by
  refine returnsInHanded_of_change (C := Try.checked) own started (by kernel_rfl) Try.func11
    (ChangeSpec.witness6 (enc := enc) (C := Try.checked) false ⟨#[], #[.slice none 0 0, .agg #[.slice none 0 0, .int .i64 0]], []⟩ 8 (by kernel_rfl) (by kernel_rfl) (by kernel_rfl) (by kernel_rfl)) ?_
  intro W base args ds gs before hval0 hW hcnd _
  have hval : ∀ (j : Nat) t v, Try.f11.params[j]? = some t → args[j]? = some v → Value.okWide Try.prog W .any base t v := hval0
  have hW' := hW
  obtain ⟨p, q, hA0, hV, rfl, hfz, hnd⟩ := hW
  have hA : DataW.TrodAll enc Try.prog W 0 (fun _ => true) true Try.f11.params.toList args.toList ds p := hA0
  rw [Try.params11] at hA hval
  obtain ⟨v0, vs0, d0, ds0, p0, q0, hargs, rfl, rfl, h0, r0⟩ := trodAll_cons hA
  obtain ⟨v1, vs1, d1, ds1, p1, q1, rfl, rfl, rfl, h1, r1⟩ := trodAll_cons r0
  obtain ⟨rfl, rfl, rfl⟩ := trodAll_nil r1
  obtain rfl : args = #[v0, v1] := by cases args; simp_all
  obtain ⟨rfl, rfl⟩ := trodVars_none hV
  obtain ⟨a0, len0, cap0, rfl⟩ := okWide_slice Try.underlying22 (hval 0 22 v0 rfl rfl)
  have k0 := h0
  have lt0 : ∀ x ∈ p0, x.block < W.heap.size := by obtain ⟨m, hm⟩ := k0; exact DataW.trod_lt m _ _ _ hm
  obtain ⟨z0, w0⟩ : ∃ zs, IsRow .i64 W a0 len0 cap0 zs := by
    obtain ⟨fuel, hf⟩ := h0
    rcases open_ints Try.underlying22 Try.underlying3 (by kernel_rfl) hf with ⟨hcs, _⟩ | ⟨x, l, c, zs, hcs, _, hl, hm, hz, _, hcell, hwz⟩
    · simp [Value.cells] at hcs
      obtain ⟨rfl, rfl, rfl⟩ := hcs
      exact ⟨[], .inl ⟨rfl, rfl, rfl, rfl⟩⟩
    · simp [Value.cells] at hcs
      obtain ⟨rfl, rfl, rfl⟩ := hcs
      exact ⟨zs, .inr ⟨_, rfl, hl, hm, by simpa using hz, hcell, hwz⟩⟩
  obtain ⟨y1, R1, n1, rfl, w1⟩ := move_open (hval 1 25 v1 rfl rfl) h1
  have k1 := h1
  have lt1 : ∀ x ∈ p1, x.block < W.heap.size := by obtain ⟨m, hm⟩ := k1; exact DataW.trod_lt m _ _ _ hm
  clear hA0 hval0
  refine (walk a0 len0 cap0 z0 y1 R1 n1 W w0 w1).mono fun e W' ⟨he, bel⟩ => ?_
  subst he
  exact ⟨_, rfl, _, _, _, [], _, [], hW', trodAll_mk1 (shut_bool Try.underlying4 _), (trodAll_cons_mk (Below.trod laidOut (by kernel_rfl) (of_decide_eq_true (by kernel_rfl)) k0 bel lt0) (trodAll_cons_mk (Below.trod laidOut (by kernel_rfl) (of_decide_eq_true (by kernel_rfl)) k1 bel lt1) trodAll_mk0)), rfl, bel.frame _, fun h => by cases h⟩
theorem over : Rows.fnExactMoveSplitRow.holds Try.pinned (OpenSpec.ofChange Rows.fnExactMoveSplitSpec) :=
  OpenClaim.holds_of_wide 11 Try.f11 rfl rfl rfl rfl rfl rfl rfl ⟨rfl, rfl, rfl, rfl, rfl⟩ rfl rfl rfl rfl rfl (by kernel_rfl) Try.func11 (by kernel_rfl)
    (of_decide_eq_true (by kernel_rfl)) (by unfold Func.isWrapper; first | (rw [if_pos (by decide +kernel)]; kernel_rfl) | (rw [if_neg (by decide +kernel)]; exact ⟨rfl, rfl⟩))
    (fun os started H enc _ => lifted os started H enc)
theorem proved : Rows.FnExactMoveSplitSaid := over
end Go.Proofs.Ytjabklpnohfjpab.fnExactMoveSplit
