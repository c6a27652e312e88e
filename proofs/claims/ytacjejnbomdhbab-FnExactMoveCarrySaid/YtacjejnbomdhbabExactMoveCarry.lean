/-
  Proves: for every three lists the program's MoveCarry answers as the model's, in memory of its own.
  Conditions: none beyond the given statement's own.
-/
import Derived.Test.YtacjejnbomdhbabMpT
import Derived.Test.YtacjejnbomdhbabQBun20
import Derived.BigQuiet
import Derived.Test.YtacjejnbomdhbabQBun27
import Derived.Below
import Derived.Test.YtacjejnbomdhbabQBun5
import Derived.Test.YtacjejnbomdhbabQBun8
import Derived.Test.YtacjejnbomdhbabQBun9
import Derived.Maps.AppendAt
import Derived.RangeFuncBox
import Derived.Deep.OwnRows
import Derived.Test.YtacjejnbomdhbabQBun23
import Derived.Deep.Matrix
import Derived.Lib.SmallJoins
import Derived.ProofKit
import Derived.OpenShut
import Derived.Test.YtacjejnbomdhbabRows
import Derived.ShutString
import Derived.ChangeOld
set_option linter.unusedVariables false
namespace Go.Proofs.Ytacjejnbomdhbab
open Go.RowKit

/-- what holds within determinant's region -/
structure DetI (n1 : Nat) (W : World) (BV V1 V3 V4 V6 V7 : Value) (VJ : Value) (P : List (List Int)) (row : List Int) (LB : Array Bool) (wx : World) (s7 s30 s31 s32 s33 s34 s35 s36 s37 s38 s39 s40 s41 : Value) : Prop where
  hs : LB.size = 13
  h0 : dn LB 0 → s30 = BV
  h1 : dn LB 1 → s31 = V1
  h2 : dn LB 2 → s32 = VJ
  h3 : dn LB 3 → s33 = V3
  h4 : dn LB 4 → s34 = V4
  h5 : dn LB 5 → s35 = VJ
  h6 : dn LB 6 → s36 = V6
  h7 : dn LB 7 → s37 = V7
  w7 : ¬ dn LB 8 → wx = W
  w12 : ¬ dn LB 12 → s7 = BV
  h8 : dn LB 8 → ¬ dn LB 9 → wx = W.alloc (.cells #[V3, V7] 22) ∧ s38 = .slice (some ⟨W.heap.size, 0, none⟩) 2 2
  hb : ¬ dn LB 11 → Below W.heap.size W wx
  h9 : dn LB 9 → ¬ dn LB 10 → (∃ a c, s39 = .slice a row.length c) ∧ Owns wx W.heap.size s39 row
  h10 : dn LB 10 → ¬ dn LB 11 → ∃ wz zv, wx = wz.alloc (.cells #[zv] 22) ∧ s40 = .slice (some ⟨wz.heap.size, 0, none⟩) 1 1 ∧ Below W.heap.size W wz ∧ (∃ a c, zv = .slice a row.length c) ∧ Owns wz W.heap.size zv row
  h11 : dn LB 11 → OwnM wx n1 none s41 (P ++ [row]) ∧ Below n1 W wx
  h12 : dn LB 12 → s7 = s41
  d9 : dn LB 9 → dn LB 8
  d10 : dn LB 10 → dn LB 9
  d11 : dn LB 11 → dn LB 0 ∧ dn LB 10
  d12 : dn LB 12 → dn LB 11
theorem own_cap9 {W : World} {B : Nat} {ex : Option Nat} {v : Value} {R : List (List Int)} (h : OwnM W B ex v R) : ∀ a n c, v = .slice a n c → n ≤ c := fun a n c e => by
  obtain ⟨vals, hl, ho, _⟩ := h.own
  rcases ho.2 with ⟨rfl, h0⟩ | ⟨g, cap, cur, rfl, _, _, hc, _⟩
  · cases e; omega
  · cases e; exact hc
theorem rd_nil9 {W : World} {a : Option Addr} {n c : Nat} {l : List Int} (h : l.length ≤ 0) (hn : n = 0) : Rd W (.slice a n c) l := by
  subst hn
  exact .inl ⟨a, c, rfl, List.eq_nil_of_length_eq_zero (by omega)⟩
/-- an append of one more row as one step of a region -/
theorem step_appendM_told {ops : Array Oper} {o : Oper} {a : Act} {W w' : World} {K : Act → World → Prop} {Q : Exit → Act → World → Prop} {E : Prop} (hgd : o.guard = none) (s x : Operand) (so xv v' : Value)
    (hop : o.op = .call { callee := .builtin .append, args := #[s, x], argTypes := #[23, 23] }) (ht : o.type = 23) (hs : a.eval s = so) (hx : a.eval x = xv)
    (hrun : (Builtin.append_ #[23, 23] 23 #[so, xv]).run Try.prog W = .ok v' w') (hK : K (a.put o.dst v') w') :
    if Region.wanted o (yielded ops a.tmps) = true then Oper.wp Try.prog o a W K Q else E := by
  have hw : Region.wanted o (yielded ops a.tmps) = true := by simp [Region.wanted, hgd]
  rw [if_pos hw]
  unfold Oper.wp execOp
  simp only [hop, ht, resolve, invoke, builtin, Sem.run_bind, Sem.run_pure, Result.andThen_ok, List.map_toArray, List.map_cons, List.map_nil, hs, hx, hrun]
  exact hK
theorem cell_below9 {w W : World} {b o : Nat} {x : Value} (hb : Below w.heap.size w W) (h : w.cell? ⟨b, o, none⟩ = some x) : W.cell? ⟨b, o, none⟩ = some x := cell_below hb h
set_option maxRecDepth 100000 in
set_option maxHeartbeats 1000000 in
theorem det_zero (v : Value) (R : List (List Int)) (w : World) (h : RdM w v R) (hs : Sq 0 R) : Calls Try.prog 72 #[v] w fun e w' => e = .returned (.int .i64 (detR 0 R)) ∧ Below w.heap.size w w' := by
  obtain ⟨a, c, rfl⟩ := h.form
  rw [hs.1]
  clear h hs
  go_enter Try.func72, Try.ntmps72
  go_wp2
  go_ret
  exact ⟨rfl, Below.refl _ _⟩
set_option maxRecDepth 100000 in
set_option maxHeartbeats 8000000 in
theorem det_next (n : Nat) (hn : n ≤ 2) (ih : ∀ (v : Value) (R : List (List Int)) (w : World), RdM w v R → (∀ a n c, v = .slice a n c → n ≤ c) → Sq n R → (∀ r ∈ R, ∀ x ∈ r, -1000000 ≤ x ∧ x ≤ 1000000) → Calls Try.prog 72 #[v] w fun e w' => e = .returned (.int .i64 (detR n R)) ∧ Below w.heap.size w w')
    (v : Value) (R : List (List Int)) (w : World) (h : RdM w v R) (hcp : ∀ a n c, v = .slice a n c → n ≤ c) (hs : Sq (n + 1) R) (hb : ∀ r ∈ R, ∀ x ∈ r, -1000000 ≤ x ∧ x ≤ 1000000) : Calls Try.prog 72 #[v] w fun e w' => e = .returned (.int .i64 (detR (n + 1) R)) ∧ Below w.heap.size w w' := by
  have HM := hid h
  have HS := hid hs
  have HIH := hid (fun (j : Nat) (hj : j < n + 1) (v : Value) (w' : World) (h : RdM w' v (minorL R j)) (hcp : ∀ a n c, v = .slice a n c → n ≤ c) => ih v (minorL R j) w' h hcp (minor_sq hs hj) (minor_bd hb j))
  have HPB := hid (fun j => part_bd hn hb j)
  have HTB := hid (fun j => mul_bd18 (at2_bd hb 0 j) (det_bdn hn (minor_bd hb j)))
  have HXB := hid (fun j => at2_bd hb 0 j)
  obtain ⟨ad, cv, rfl⟩ := h.form
  obtain ⟨b, o, u0, rfl, hc0, hr0⟩ := h.row (i := 0) (by rw [hs.1]; omega)
  obtain ⟨b0, o0, c0, hrc, hce⟩ := row_cells (m := n + 1) h (t := 0) (by rw [hs.1]; omega) (by omega) (hs.2 _ (by rw [List.getD_eq_getElem?_getD, List.getElem?_eq_getElem (by rw [hs.1]; omega)]; exact List.getElem_mem _))
  clear hc0 hr0
  rw [Nat.add_zero] at hrc
  have HCE := hid hce
  obtain ⟨m, hm⟩ : ∃ m, m = R.length := ⟨_, rfl⟩
  have hm1 : m = n + 1 := hm.trans hs.1
  rw [← hm] at HM ⊢
  rw [← hm1] at hrc
  have T1 : ((m : Int) == 0) = false := beq_eq_false_iff_ne.2 (by omega)
  have hpn : (0 : Int) < (m : Int) := by omega
  have hmc : m ≤ cv := by rw [hm]; exact hcp _ _ _ rfl
  have hm3 : m ≤ 3 := by omega
  have HME := hid hm1
  clear h hs ih hb hce hm hm1 hcp
  go_enter Try.func72, Try.ntmps72
  go_wp2_with fail
  go_loopw [3, 4, 17] (fun ss sg si wr => ∃ (j : Nat) (S g : Int), si = .int .i64 (j : Int) ∧ j ≤ m ∧ ss = .int .i64 S ∧ sg = .int .i64 g ∧ Hid (S = sumF (fun j => alt j * at2 R 0 j * detR n (minorL R j)) j) ∧ Hid (g = alt j) ∧ Hid (Below w.heap.size w wr)) (fun _ _ si _ => m - (intOf si).toNat)
  case atStart => exact ⟨0, 0, 1, rfl, by omega, rfl, rfl, hid rfl, hid rfl, hid (Below.refl _ _)⟩
  case round =>
    obtain ⟨j, S, g, rfl, hj, rfl, rfl, HSE, HGE, HB⟩ := hrel
    rename World => wr
    by_cases hlt : j < m
    · have hji : (j : Int) < (m : Int) := by omega
      have c6 := cell_below9 HB.out (HCE.out j (by rw [← HME.out]; exact hlt))
      have hxb := HXB.out j
      obtain ⟨x, hx⟩ : ∃ x, x = at2 R 0 j := ⟨_, rfl⟩
      have HX := hid hx
      rw [← hx] at c6 hxb
      have hgp : g = 1 ∨ g = -1 := by rw [HGE.out]; exact alt_pm j
      have HGP := hid hgp
      have HO0 : Hid (OwnM (wr.alloc (.cells #[] 22)) wr.heap.size none (.slice (some ⟨wr.heap.size, 0, none⟩) 0 0) []) := hid (ownM_none wr none (by simp))
      have HB0 := hid ((Below.refl wr.heap.size wr).alloc (Nat.le_refl _) (.cells #[] 22))
      have HLT := hid hlt
      clear hx hgp hlt
      by_cases hcv : cv = 1
      · have hm1 : m = 1 := by omega
        have hn0 : n = 0 := by have := HME.out; omega
        have HN0 := hid hn0
        clear hm1 hn0
        subst hcv
        go_wp2_with fail
        go_loopw [7, 26] (fun so si wq => ∃ K : Nat, si = .int .i64 (K : Int) ∧ K ≤ n ∧ Hid (OwnM wq wr.heap.size none so ((minorL R j).take K)) ∧ Hid (Below wr.heap.size wr wq)) (fun _ si _ => n - (intOf si).toNat)
        case atStart => exact ⟨0, rfl, by omega, hid (by simpa using HO0.out), HB0⟩
        case round =>
          obtain ⟨K, rfl, hK, HO, HBQ⟩ := hrel
          rename World => wq
          by_cases hlk : K < n
          · exfalso; have := HN0.out; omega
          · have hKn : K = n := by omega
            have hki : ¬ K < m - 1 := by have := HME.out; omega
            obtain ⟨ao, co, hao⟩ := HO.out.rd.form
            rw [show ((minorL R j).take K).length = n by rw [List.length_take, (minor_sq HS.out (by rw [← HME.out]; exact HLT.out)).1]; omega] at hao
            subst hao
            have HDE := HIH.out j (by rw [← HME.out]; exact HLT.out) _ wq (by
              have h := HO.out.rd
              rw [List.take_of_length_le (by rw [(minor_sq HS.out (by rw [← HME.out]; exact HLT.out)).1]; omega)] at h
              exact h) (own_cap9 HO.out)
            have HD := hid HDE
            have hpb := HPB.out (j + 1)
            have htb := HTB.out j
            have hsu : sumF (fun j => alt j * at2 R 0 j * detR n (minorL R j)) (j + 1) = S + g * x * detR n (minorL R j) := by
              rw [HSE.out, HGE.out, HX.out]; rfl
            rw [hsu] at hpb
            have HSU := hid hsu
            have hspb := HPB.out j
            rw [← HSE.out] at hspb
            rw [← HX.out] at htb
            obtain ⟨Dt, hDt⟩ : ∃ Dt, Dt = detR n (minorL R j) := ⟨_, rfl⟩
            rw [← hDt] at HD HSU hpb htb
            have hgx : -1000000 ≤ g * x ∧ g * x ≤ 1000000 := by rcases HGP.out with e | e <;> rw [e] <;> omega
            have hgd : -2000000000000000000 ≤ g * x * Dt ∧ g * x * Dt ≤ 2000000000000000000 := by
              rcases HGP.out with e | e <;> rw [e]
              · rw [Int.one_mul]; exact htb
              · rw [show (-1 : Int) * x * Dt = -(x * Dt) by grind]; omega
            have hgg : -1 ≤ g ∧ g ≤ 1 := by rcases HGP.out with e | e <;> omega
            have hj3 : (j : Int) ≤ 2 := by omega
            have hs1 : -6000000000000000000 ≤ S + g * x * Dt ∧ S + g * x * Dt ≤ 6000000000000000000 := by push_cast at hpb; omega
            clear hsu hDt hpb htb hspb HDE hKn hlk
            go_wp2_with fail
            refine HD.out.mono ?_
            rintro e w5 ⟨rfl, hb5⟩
            have HB5 := hid (HB.out.trans ((HBQ.out.trans (hb5.mono HBQ.out.size)).mono HB.out.size))
            clear hb5
            go_wp2_with fail
            go_roundw
            case measure => simp only [intOf]; have := HLT.out; omega
            case rel => exact ⟨j + 1, _, _, by go_num, HLT.out, rfl, rfl, hid HSU.out.symm, hid (by rw [alt_succ, HGE.out]), HB5⟩
      · have hcv2 : 1 < cv := by omega
        go_wp2_with fail
        go_loopw [7, 26] (fun so si wq => ∃ K : Nat, si = .int .i64 (K : Int) ∧ K ≤ n ∧ Hid (OwnM wq wr.heap.size none so ((minorL R j).take K)) ∧ Hid (Below wr.heap.size wr wq)) (fun _ si _ => n - (intOf si).toNat)
        case atStart => exact ⟨0, rfl, by omega, hid (by simpa using HO0.out), HB0⟩
        case round =>
          obtain ⟨K, rfl, hK, HO, HBQ⟩ := hrel
          rename World => wq
          by_cases hlk : K < n
          · have hki : K < m - 1 := by have := HME.out; omega
            have hr1 := (HM.out.keep (HB.out.trans (HBQ.out.mono HB.out.size))).row (i := K + 1) (by rw [HS.out.1]; omega)
            obtain ⟨b9, o9, u9, e9, hc9, hr9⟩ := hr1
            cases e9
            have hrl : (R.getD (K + 1) []).length = m := by rw [HME.out]; exact HS.out.2 _ (by rw [List.getD_eq_getElem?_getD, List.getElem?_eq_getElem (by rw [HS.out.1]; omega)]; exact List.getElem_mem _)
            obtain ⟨r, hr⟩ : ∃ r, r = R.getD (K + 1) [] := ⟨_, rfl⟩
            rw [← hr] at hr9 hrl
            have hmk : (minorL R j).length = n := (minor_sq HS.out (by rw [← HME.out]; exact HLT.out)).1
            have hrow : (minorL R j).getD K [] = cutL r j := by
              have hd : K < (R.drop 1).length := by rw [List.length_drop, HS.out.1]; omega
              unfold minorL
              rw [List.getD_eq_getElem?_getD, List.getElem?_map, List.getElem?_drop, hr, List.getD_eq_getElem?_getD, show 1 + K = K + 1 by omega, List.getElem?_eq_getElem (by rw [HS.out.1]; omega)]
              rfl
            have HTK : Hid ((minorL R j).take (K + 1) = (minorL R j).take K ++ [cutL r j]) := hid (by
              rw [List.take_succ_eq_append_getElem (by omega), ← hrow, List.getD_eq_getElem?_getD, List.getElem?_eq_getElem (by omega)]; rfl)
            have hcl : (cutL r j).length = n := cut_len (n := n) (by rw [hrl, HME.out]) (by rw [← HME.out]; exact HLT.out)
            have hrd9 := hr9
            rcases hr9 with ⟨_, _, _, hnil⟩ | ⟨b2, o2, c2, rfl, ⟨_, hc2⟩, _, _⟩
            · rw [hnil] at hrl; simp at hrl; omega
            rw [hrl] at hrd9 hc9 hc2
            have hc10 : wq.cell? ⟨b, o + 1 + K, none⟩ = some (.slice (some ⟨b2, o2, none⟩) m c2) := by rw [show o + 1 + K = o + (K + 1) by omega]; exact hc9
            obtain ⟨P, hP⟩ : ∃ P, P = (minorL R j).take K := ⟨_, rfl⟩
            obtain ⟨row, hrw⟩ : ∃ row, row = cutL r j := ⟨_, rfl⟩
            have hPl : P.length ≤ 4 := by rw [hP, List.length_take]; omega
            rw [← hP] at HO HTK
            rw [← hrw] at HTK hcl
            have HRB := hid hPl
            have hjm : (j : Int) ≤ (m : Int) := by omega
            have hjc : (j : Int) ≤ (c2 : Int) := by have := HLT.out; omega
            have hj1m : (j : Int) + 1 ≤ (m : Int) := by have := HLT.out; omega
            have hj1c : (j : Int) + 1 ≤ (c2 : Int) := by have := HLT.out; omega
            obtain ⟨av, cvv, rfl⟩ := HO.out.rd.form
            obtain ⟨W, hW⟩ : ∃ W, W = wq.drew := ⟨_, rfl⟩
            have HW0 := hid hW
            have HWB : Hid (Below W.heap.size W wq.drew) := hid (by rw [hW]; exact Below.refl _ _)
            have HOM : Hid (OwnM W wr.heap.size none (.slice av P.length cvv) P) := hid (by rw [hW]; exact HO.out.keep (below_drewN (Below.refl _ _) 1))
            have HNN : Hid (wr.heap.size ≤ W.heap.size) := hid (by rw [hW]; exact HBQ.out.size)
            have HLK := hid hlk
            have HPW : Hid (Rd W (.slice (some ⟨b2, o2, none⟩) m c2) r) := hid (by rw [hW]; exact hrd9.keep (below_drewN (Below.refl _ _) 1))
            have HRL := hid hrl
            have HC2 := hid hc2
            have HRW := hid hrw
            have HCL := hid hcl
            clear hc9 hr hmk hrow hrd9 hrl hP hPl hrw hcl hlk hc2 hW
            by_cases hce : c2 = j + 1
            · subst hce
              have hme : m = j + 1 := by have := HC2.out; have := HLT.out; omega
              have HMJ := hid hme
              clear hme
              have HCC : Hid (Calls Try.prog 96 #[.slice (some ⟨W.heap.size, 0, none⟩) 2 2] (W.alloc (.cells #[.slice (some ⟨b2, o2, none⟩) j (j + 1), .slice (some ⟨b2, o2, none⟩) (m - (j + 1)) 0] 22)) fun e w' => ∃ v, e = .returned v ∧ Owns w' (W.alloc (.cells #[.slice (some ⟨b2, o2, none⟩) j (j + 1), .slice (some ⟨b2, o2, none⟩) (m - (j + 1)) 0] 22)).heap.size v row ∧ Below (W.alloc (.cells #[.slice (some ⟨b2, o2, none⟩) j (j + 1), .slice (some ⟨b2, o2, none⟩) (m - (j + 1)) 0] 22)).heap.size (W.alloc (.cells #[.slice (some ⟨b2, o2, none⟩) j (j + 1), .slice (some ⟨b2, o2, none⟩) (m - (j + 1)) 0] 22)) w') := hid (by
                have hk := below_box2 W (.cells #[.slice (some ⟨b2, o2, none⟩) j (j + 1), .slice (some ⟨b2, o2, none⟩) (m - (j + 1)) 0] 22)
                have h := concat_any W.heap.size (.slice (some ⟨b2, o2, none⟩) j (j + 1)) (.slice (some ⟨b2, o2, none⟩) (m - (j + 1)) 0) (r.take j) (r.drop (j + 1)) (W.alloc (.cells #[.slice (some ⟨b2, o2, none⟩) j (j + 1), .slice (some ⟨b2, o2, none⟩) (m - (j + 1)) 0] 22)) (cellB (i := 0) (heap_new rfl)) (cellB (i := 1) (heap_new rfl)) ((HPW.out.take (k := j) (by have := HLT.out; omega) HRL.out).keep hk) ((rd_nil9 (by rw [List.length_drop, HRL.out]; have := HMJ.out; omega) (by have := HMJ.out; omega)).keep hk) (.inr ⟨_, _, _, rfl⟩) (.inr ⟨_, _, _, rfl⟩) (by have hlk9 := HLK.out; have := HCL.out; rw [HRW.out] at this; unfold cutL at this; rw [List.length_append] at this; omega) (by rw [List.length_take, List.length_drop, HRL.out]; omega)
                rw [HRW.out]
                exact h)
              go_wp2_with fail
              refine region_inv (by kernel_rfl) (fun LB act wx => ∃ (s7 s30 s31 s32 s33 s34 s35 s36 s37 s38 s39 s40 s41 : Value), act = ({ tmps := #[.slice (some ⟨b, o, none⟩) m cv, undef, .int .i64 0, .int .i64 S, .int .i64 g, .int .i64 (j : Int), .int .i64 x, s7, undef, .slice (some ⟨b2, o2, none⟩) m (j + 1), .slice (some ⟨b, o, none⟩) m cv, .int .i64 (m : Int), .bool false, .slice (some ⟨b, o, none⟩) m cv, .pointer (some ⟨b, o, none⟩), .slice (some ⟨b0, o0, none⟩) m c0, .int .i64 (m : Int), .int .i64 (j : Int), .bool true, .int .i64 (j : Int), .pointer (some ⟨b0, o0 + j, none⟩), .int .i64 x, .slice (some ⟨wr.heap.size, 0, none⟩) 0 0, .slice (some ⟨b, o, none⟩) m cv, .slice (some ⟨b, o + 1, none⟩) (m - 1) (cv - 1), .int .i64 ((m - 1 : Nat) : Int), .int .i64 (K : Int), .bool true, .pointer (some ⟨b, o + 1 + K, none⟩), .slice (some ⟨b2, o2, none⟩) m (j + 1), s30, s31, s32, s33, s34, s35, s36, s37, s38, s39, s40, s41, u42, u43, u44, u45, u46, u47, u48, u49, u50, u51, u52, u53, undef], defers := [] } : Act) ∧ DetI wr.heap.size W (.slice av P.length cvv) (.slice (some ⟨b2, o2, none⟩) m (j + 1)) (.slice (some ⟨b2, o2, none⟩) j (j + 1)) (.slice (some ⟨b2, o2, none⟩) m (j + 1)) (.int .i64 ((j : Int) + 1)) (.slice (some ⟨b2, o2, none⟩) (m - (j + 1)) 0) (.int .i64 (j : Int)) P row LB wx s7 s30 s31 s32 s33 s34 s35 s36 s37 s38 s39 s40 s41) ?h0 ?hend ?hstep
              case h0 => exact ⟨_, _, _, _, _, _, _, _, _, _, _, _, _, rfl, ⟨rfl, fun h => (dn_new h).elim, fun h => (dn_new h).elim, fun h => (dn_new h).elim, fun h => (dn_new h).elim, fun h => (dn_new h).elim, fun h => (dn_new h).elim, fun h => (dn_new h).elim, fun h => (dn_new h).elim, fun _ => HW0.out.symm, fun _ => rfl, fun h => (dn_new h).elim, fun _ => HWB.out, fun h => (dn_new h).elim, fun h => (dn_new h).elim, fun h => (dn_new h).elim, fun h => (dn_new h).elim, fun h => (dn_new h).elim, fun h => (dn_new h).elim, fun h => (dn_new h).elim, fun h => (dn_new h).elim⟩⟩
              case hstep =>
                rintro LB act wx k ⟨s7, s30, s31, s32, s33, s34, s35, s36, s37, s38, s39, s40, s41, rfl, I⟩ hk
                obtain ⟨hi1, hf, hdep⟩ := ready_mem hk
                have hi2 : k < 13 := hi1
                have HI := hid I
                have HF := hid hf
                clear hk hi1 I hf
                have hc : k = 0 ∨ k = 1 ∨ k = 2 ∨ k = 3 ∨ k = 4 ∨ k = 5 ∨ k = 6 ∨ k = 7 ∨ k = 8 ∨ k = 9 ∨ k = 10 ∨ k = 11 ∨ k = 12 := by omega
                clear hi2
                rcases hc with rfl | rfl | rfl | rfl | rfl | rfl | rfl | rfl | rfl | rfl | rfl | rfl | rfl
                · skip
                  clear hdep
                  obtain rfl := HI.out.w12 (fun q => dn_not HF.out (HI.out.d11 (HI.out.d12 q)).1)
                  refine wpOp_step rfl (fun K hK => ?_)
                  go_simp
                  exact hK _ _ ⟨_, _, _, _, _, _, _, _, _, _, _, _, _, rfl, ⟨(by rw [Array.size_setIfInBounds]; exact HI.out.hs), fun _ => rfl, fun h => HI.out.h1 (dn_old h (by decide)), fun h => HI.out.h2 (dn_old h (by decide)), fun h => HI.out.h3 (dn_old h (by decide)), fun h => HI.out.h4 (dn_old h (by decide)), fun h => HI.out.h5 (dn_old h (by decide)), fun h => HI.out.h6 (dn_old h (by decide)), fun h => HI.out.h7 (dn_old h (by decide)), fun h' => HI.out.w7 (fun q => h' (dn_keep q)), fun h' => HI.out.w12 (fun q => h' (dn_keep q)), fun h h' => HI.out.h8 (dn_old h (by decide)) (fun q => h' (dn_keep q)), fun h' => HI.out.hb (fun q => h' (dn_keep q)), fun h h' => HI.out.h9 (dn_old h (by decide)) (fun q => h' (dn_keep q)), fun h h' => HI.out.h10 (dn_old h (by decide)) (fun q => h' (dn_keep q)), fun h => HI.out.h11 (dn_old h (by decide)), fun h => HI.out.h12 (dn_old h (by decide)), fun h => dn_keep (HI.out.d9 (dn_old h (by decide))), fun h => dn_keep (HI.out.d10 (dn_old h (by decide))), fun h => ⟨dn_keep (HI.out.d11 (dn_old h (by decide))).1, dn_keep (HI.out.d11 (dn_old h (by decide))).2⟩, fun h => dn_keep (HI.out.d12 (dn_old h (by decide)))⟩⟩
                · skip
                  clear hdep
                  refine wpOp_step rfl (fun K hK => ?_)
                  go_simp
                  exact hK _ _ ⟨_, _, _, _, _, _, _, _, _, _, _, _, _, rfl, ⟨(by rw [Array.size_setIfInBounds]; exact HI.out.hs), fun h => HI.out.h0 (dn_old h (by decide)), fun _ => rfl, fun h => HI.out.h2 (dn_old h (by decide)), fun h => HI.out.h3 (dn_old h (by decide)), fun h => HI.out.h4 (dn_old h (by decide)), fun h => HI.out.h5 (dn_old h (by decide)), fun h => HI.out.h6 (dn_old h (by decide)), fun h => HI.out.h7 (dn_old h (by decide)), fun h' => HI.out.w7 (fun q => h' (dn_keep q)), fun h' => HI.out.w12 (fun q => h' (dn_keep q)), fun h h' => HI.out.h8 (dn_old h (by decide)) (fun q => h' (dn_keep q)), fun h' => HI.out.hb (fun q => h' (dn_keep q)), fun h h' => HI.out.h9 (dn_old h (by decide)) (fun q => h' (dn_keep q)), fun h h' => HI.out.h10 (dn_old h (by decide)) (fun q => h' (dn_keep q)), fun h => HI.out.h11 (dn_old h (by decide)), fun h => HI.out.h12 (dn_old h (by decide)), fun h => dn_keep (HI.out.d9 (dn_old h (by decide))), fun h => dn_keep (HI.out.d10 (dn_old h (by decide))), fun h => ⟨dn_keep (HI.out.d11 (dn_old h (by decide))).1, dn_keep (HI.out.d11 (dn_old h (by decide))).2⟩, fun h => dn_keep (HI.out.d12 (dn_old h (by decide)))⟩⟩
                · skip
                  clear hdep
                  refine wpOp_step rfl (fun K hK => ?_)
                  go_simp
                  exact hK _ _ ⟨_, _, _, _, _, _, _, _, _, _, _, _, _, rfl, ⟨(by rw [Array.size_setIfInBounds]; exact HI.out.hs), fun h => HI.out.h0 (dn_old h (by decide)), fun h => HI.out.h1 (dn_old h (by decide)), fun _ => rfl, fun h => HI.out.h3 (dn_old h (by decide)), fun h => HI.out.h4 (dn_old h (by decide)), fun h => HI.out.h5 (dn_old h (by decide)), fun h => HI.out.h6 (dn_old h (by decide)), fun h => HI.out.h7 (dn_old h (by decide)), fun h' => HI.out.w7 (fun q => h' (dn_keep q)), fun h' => HI.out.w12 (fun q => h' (dn_keep q)), fun h h' => HI.out.h8 (dn_old h (by decide)) (fun q => h' (dn_keep q)), fun h' => HI.out.hb (fun q => h' (dn_keep q)), fun h h' => HI.out.h9 (dn_old h (by decide)) (fun q => h' (dn_keep q)), fun h h' => HI.out.h10 (dn_old h (by decide)) (fun q => h' (dn_keep q)), fun h => HI.out.h11 (dn_old h (by decide)), fun h => HI.out.h12 (dn_old h (by decide)), fun h => dn_keep (HI.out.d9 (dn_old h (by decide))), fun h => dn_keep (HI.out.d10 (dn_old h (by decide))), fun h => ⟨dn_keep (HI.out.d11 (dn_old h (by decide))).1, dn_keep (HI.out.d11 (dn_old h (by decide))).2⟩, fun h => dn_keep (HI.out.d12 (dn_old h (by decide)))⟩⟩
                · skip
                  have q1 : dn LB 1 := hdep _ rfl { on := 1, ground := .data } (by simp) rfl
                  have q2 : dn LB 2 := hdep _ rfl { on := 2, ground := .data } (by simp) rfl
                  clear hdep
                  obtain rfl := HI.out.h1 q1
                  obtain rfl := HI.out.h2 q2
                  refine wpOp_step rfl (fun K hK => ?_)
                  go_simp
                  try (rw [if_pos (show (j : Int) ≤ (j : Int) + 1 by omega)]; go_simp)
                  exact hK _ _ ⟨_, _, _, _, _, _, _, _, _, _, _, _, _, rfl, ⟨(by rw [Array.size_setIfInBounds]; exact HI.out.hs), fun h => HI.out.h0 (dn_old h (by decide)), fun h => HI.out.h1 (dn_old h (by decide)), fun h => HI.out.h2 (dn_old h (by decide)), fun _ => rfl, fun h => HI.out.h4 (dn_old h (by decide)), fun h => HI.out.h5 (dn_old h (by decide)), fun h => HI.out.h6 (dn_old h (by decide)), fun h => HI.out.h7 (dn_old h (by decide)), fun h' => HI.out.w7 (fun q => h' (dn_keep q)), fun h' => HI.out.w12 (fun q => h' (dn_keep q)), fun h h' => HI.out.h8 (dn_old h (by decide)) (fun q => h' (dn_keep q)), fun h' => HI.out.hb (fun q => h' (dn_keep q)), fun h h' => HI.out.h9 (dn_old h (by decide)) (fun q => h' (dn_keep q)), fun h h' => HI.out.h10 (dn_old h (by decide)) (fun q => h' (dn_keep q)), fun h => HI.out.h11 (dn_old h (by decide)), fun h => HI.out.h12 (dn_old h (by decide)), fun h => dn_keep (HI.out.d9 (dn_old h (by decide))), fun h => dn_keep (HI.out.d10 (dn_old h (by decide))), fun h => ⟨dn_keep (HI.out.d11 (dn_old h (by decide))).1, dn_keep (HI.out.d11 (dn_old h (by decide))).2⟩, fun h => dn_keep (HI.out.d12 (dn_old h (by decide)))⟩⟩
                · skip
                  clear hdep
                  refine wpOp_step rfl (fun K hK => ?_)
                  go_simp
                  exact hK _ _ ⟨_, _, _, _, _, _, _, _, _, _, _, _, _, rfl, ⟨(by rw [Array.size_setIfInBounds]; exact HI.out.hs), fun h => HI.out.h0 (dn_old h (by decide)), fun h => HI.out.h1 (dn_old h (by decide)), fun h => HI.out.h2 (dn_old h (by decide)), fun h => HI.out.h3 (dn_old h (by decide)), fun _ => rfl, fun h => HI.out.h5 (dn_old h (by decide)), fun h => HI.out.h6 (dn_old h (by decide)), fun h => HI.out.h7 (dn_old h (by decide)), fun h' => HI.out.w7 (fun q => h' (dn_keep q)), fun h' => HI.out.w12 (fun q => h' (dn_keep q)), fun h h' => HI.out.h8 (dn_old h (by decide)) (fun q => h' (dn_keep q)), fun h' => HI.out.hb (fun q => h' (dn_keep q)), fun h h' => HI.out.h9 (dn_old h (by decide)) (fun q => h' (dn_keep q)), fun h h' => HI.out.h10 (dn_old h (by decide)) (fun q => h' (dn_keep q)), fun h => HI.out.h11 (dn_old h (by decide)), fun h => HI.out.h12 (dn_old h (by decide)), fun h => dn_keep (HI.out.d9 (dn_old h (by decide))), fun h => dn_keep (HI.out.d10 (dn_old h (by decide))), fun h => ⟨dn_keep (HI.out.d11 (dn_old h (by decide))).1, dn_keep (HI.out.d11 (dn_old h (by decide))).2⟩, fun h => dn_keep (HI.out.d12 (dn_old h (by decide)))⟩⟩
                · skip
                  clear hdep
                  refine wpOp_step rfl (fun K hK => ?_)
                  go_simp
                  exact hK _ _ ⟨_, _, _, _, _, _, _, _, _, _, _, _, _, rfl, ⟨(by rw [Array.size_setIfInBounds]; exact HI.out.hs), fun h => HI.out.h0 (dn_old h (by decide)), fun h => HI.out.h1 (dn_old h (by decide)), fun h => HI.out.h2 (dn_old h (by decide)), fun h => HI.out.h3 (dn_old h (by decide)), fun h => HI.out.h4 (dn_old h (by decide)), fun _ => rfl, fun h => HI.out.h6 (dn_old h (by decide)), fun h => HI.out.h7 (dn_old h (by decide)), fun h' => HI.out.w7 (fun q => h' (dn_keep q)), fun h' => HI.out.w12 (fun q => h' (dn_keep q)), fun h h' => HI.out.h8 (dn_old h (by decide)) (fun q => h' (dn_keep q)), fun h' => HI.out.hb (fun q => h' (dn_keep q)), fun h h' => HI.out.h9 (dn_old h (by decide)) (fun q => h' (dn_keep q)), fun h h' => HI.out.h10 (dn_old h (by decide)) (fun q => h' (dn_keep q)), fun h => HI.out.h11 (dn_old h (by decide)), fun h => HI.out.h12 (dn_old h (by decide)), fun h => dn_keep (HI.out.d9 (dn_old h (by decide))), fun h => dn_keep (HI.out.d10 (dn_old h (by decide))), fun h => ⟨dn_keep (HI.out.d11 (dn_old h (by decide))).1, dn_keep (HI.out.d11 (dn_old h (by decide))).2⟩, fun h => dn_keep (HI.out.d12 (dn_old h (by decide)))⟩⟩
                · skip
                  have q5 : dn LB 5 := hdep _ rfl { on := 5, ground := .data } (by simp) rfl
                  clear hdep
                  obtain rfl := HI.out.h5 q5
                  refine wpOp_step rfl (fun K hK => ?_)
                  go_simp
                  rw [wrap62 (by omega) (by omega)]
                  exact hK _ _ ⟨_, _, _, _, _, _, _, _, _, _, _, _, _, rfl, ⟨(by rw [Array.size_setIfInBounds]; exact HI.out.hs), fun h => HI.out.h0 (dn_old h (by decide)), fun h => HI.out.h1 (dn_old h (by decide)), fun h => HI.out.h2 (dn_old h (by decide)), fun h => HI.out.h3 (dn_old h (by decide)), fun h => HI.out.h4 (dn_old h (by decide)), fun h => HI.out.h5 (dn_old h (by decide)), fun _ => rfl, fun h => HI.out.h7 (dn_old h (by decide)), fun h' => HI.out.w7 (fun q => h' (dn_keep q)), fun h' => HI.out.w12 (fun q => h' (dn_keep q)), fun h h' => HI.out.h8 (dn_old h (by decide)) (fun q => h' (dn_keep q)), fun h' => HI.out.hb (fun q => h' (dn_keep q)), fun h h' => HI.out.h9 (dn_old h (by decide)) (fun q => h' (dn_keep q)), fun h h' => HI.out.h10 (dn_old h (by decide)) (fun q => h' (dn_keep q)), fun h => HI.out.h11 (dn_old h (by decide)), fun h => HI.out.h12 (dn_old h (by decide)), fun h => dn_keep (HI.out.d9 (dn_old h (by decide))), fun h => dn_keep (HI.out.d10 (dn_old h (by decide))), fun h => ⟨dn_keep (HI.out.d11 (dn_old h (by decide))).1, dn_keep (HI.out.d11 (dn_old h (by decide))).2⟩, fun h => dn_keep (HI.out.d12 (dn_old h (by decide)))⟩⟩
                · skip
                  have q4 : dn LB 4 := hdep _ rfl { on := 4, ground := .data } (by simp) rfl
                  have q6 : dn LB 6 := hdep _ rfl { on := 6, ground := .data } (by simp) rfl
                  clear hdep
                  obtain rfl := HI.out.h4 q4
                  obtain rfl := HI.out.h6 q6
                  refine wpOp_step rfl (fun K hK => ?_)
                  go_simp
                  exact hK _ _ ⟨_, _, _, _, _, _, _, _, _, _, _, _, _, rfl, ⟨(by rw [Array.size_setIfInBounds]; exact HI.out.hs), fun h => HI.out.h0 (dn_old h (by decide)), fun h => HI.out.h1 (dn_old h (by decide)), fun h => HI.out.h2 (dn_old h (by decide)), fun h => HI.out.h3 (dn_old h (by decide)), fun h => HI.out.h4 (dn_old h (by decide)), fun h => HI.out.h5 (dn_old h (by decide)), fun h => HI.out.h6 (dn_old h (by decide)), fun _ => rfl, fun h' => HI.out.w7 (fun q => h' (dn_keep q)), fun h' => HI.out.w12 (fun q => h' (dn_keep q)), fun h h' => HI.out.h8 (dn_old h (by decide)) (fun q => h' (dn_keep q)), fun h' => HI.out.hb (fun q => h' (dn_keep q)), fun h h' => HI.out.h9 (dn_old h (by decide)) (fun q => h' (dn_keep q)), fun h h' => HI.out.h10 (dn_old h (by decide)) (fun q => h' (dn_keep q)), fun h => HI.out.h11 (dn_old h (by decide)), fun h => HI.out.h12 (dn_old h (by decide)), fun h => dn_keep (HI.out.d9 (dn_old h (by decide))), fun h => dn_keep (HI.out.d10 (dn_old h (by decide))), fun h => ⟨dn_keep (HI.out.d11 (dn_old h (by decide))).1, dn_keep (HI.out.d11 (dn_old h (by decide))).2⟩, fun h => dn_keep (HI.out.d12 (dn_old h (by decide)))⟩⟩
                · skip
                  have q3 : dn LB 3 := hdep _ rfl { on := 3, ground := .data } (by simp) rfl
                  have q7 : dn LB 7 := hdep _ rfl { on := 7, ground := .data } (by simp) rfl
                  clear hdep
                  obtain rfl := HI.out.h3 q3
                  obtain rfl := HI.out.h7 q7
                  obtain rfl := HI.out.w7 (dn_not HF.out)
                  refine wpOp_step rfl (fun K hK => ?_)
                  go_simp
                  exact hK _ _ ⟨_, _, _, _, _, _, _, _, _, _, _, _, _, rfl, ⟨(by rw [Array.size_setIfInBounds]; exact HI.out.hs), fun h => HI.out.h0 (dn_old h (by decide)), fun h => HI.out.h1 (dn_old h (by decide)), fun h => HI.out.h2 (dn_old h (by decide)), fun h => HI.out.h3 (dn_old h (by decide)), fun h => HI.out.h4 (dn_old h (by decide)), fun h => HI.out.h5 (dn_old h (by decide)), fun h => HI.out.h6 (dn_old h (by decide)), fun h => HI.out.h7 (dn_old h (by decide)), fun h' => absurd (dn_self2 HF.out) h', fun h' => HI.out.w12 (fun q => h' (dn_keep q)), fun _ _ => ⟨rfl, rfl⟩, fun _ => below_box2 _ _, fun h => (dn_not HF.out (HI.out.d9 (dn_old h (by decide)))).elim, fun h => (dn_not HF.out (HI.out.d9 (HI.out.d10 (dn_old h (by decide))))).elim, fun h => (dn_not HF.out (HI.out.d9 (HI.out.d10 (HI.out.d11 (dn_old h (by decide))).2))).elim, fun h => HI.out.h12 (dn_old h (by decide)), fun h => dn_keep (HI.out.d9 (dn_old h (by decide))), fun h => dn_keep (HI.out.d10 (dn_old h (by decide))), fun h => ⟨dn_keep (HI.out.d11 (dn_old h (by decide))).1, dn_keep (HI.out.d11 (dn_old h (by decide))).2⟩, fun h => dn_keep (HI.out.d12 (dn_old h (by decide)))⟩⟩
                · skip
                  have q8 : dn LB 8 := hdep _ rfl { on := 8, ground := .data } (by simp) rfl
                  clear hdep
                  obtain ⟨rfl, rfl⟩ := HI.out.h8 q8 (dn_not HF.out)
                  refine wpOp_step rfl (fun K hK => ?_)
                  go_simp
                  go_at_call 96
                  refine HCC.out.mono ?_
                  rintro e wP ⟨uP, rfl, ho, hbk⟩
                  have hbw := (below_box2 W (.cells #[.slice (some ⟨b2, o2, none⟩) j (j + 1), .slice (some ⟨b2, o2, none⟩) (m - (j + 1)) 0] 22)).trans (hbk.mono (by simp))
                  exact hK _ _ ⟨_, _, _, _, _, _, _, _, _, _, _, _, _, rfl, ⟨(by rw [Array.size_setIfInBounds]; exact HI.out.hs), fun h => HI.out.h0 (dn_old h (by decide)), fun h => HI.out.h1 (dn_old h (by decide)), fun h => HI.out.h2 (dn_old h (by decide)), fun h => HI.out.h3 (dn_old h (by decide)), fun h => HI.out.h4 (dn_old h (by decide)), fun h => HI.out.h5 (dn_old h (by decide)), fun h => HI.out.h6 (dn_old h (by decide)), fun h => HI.out.h7 (dn_old h (by decide)), fun h' => absurd (dn_keep q8) h', fun h' => HI.out.w12 (fun q => h' (dn_keep q)), fun _ h' => absurd (dn_self2 HF.out) h', fun _ => hbw, fun _ _ => ⟨owns_slice ho, ho.down (by simp)⟩, fun h => (dn_not HF.out (HI.out.d10 (dn_old h (by decide)))).elim, fun h => (dn_not HF.out (HI.out.d10 (HI.out.d11 (dn_old h (by decide))).2)).elim, fun h => HI.out.h12 (dn_old h (by decide)), fun _ => dn_keep q8, fun h => dn_keep (HI.out.d10 (dn_old h (by decide))), fun h => ⟨dn_keep (HI.out.d11 (dn_old h (by decide))).1, dn_keep (HI.out.d11 (dn_old h (by decide))).2⟩, fun h => dn_keep (HI.out.d12 (dn_old h (by decide)))⟩⟩
                · skip
                  have q9 : dn LB 9 := hdep _ rfl { on := 9, ground := .data } (by simp) rfl
                  clear hdep
                  have n11 : ¬ dn LB 11 := fun q => dn_not HF.out (HI.out.d11 q).2
                  have hbw := HI.out.hb n11
                  obtain ⟨⟨a39, c39, rfl⟩, ho⟩ := HI.out.h9 q9 (dn_not HF.out)
                  refine wpOp_step rfl (fun K hK => ?_)
                  go_simp
                  exact hK _ _ ⟨_, _, _, _, _, _, _, _, _, _, _, _, _, rfl, ⟨(by rw [Array.size_setIfInBounds]; exact HI.out.hs), fun h => HI.out.h0 (dn_old h (by decide)), fun h => HI.out.h1 (dn_old h (by decide)), fun h => HI.out.h2 (dn_old h (by decide)), fun h => HI.out.h3 (dn_old h (by decide)), fun h => HI.out.h4 (dn_old h (by decide)), fun h => HI.out.h5 (dn_old h (by decide)), fun h => HI.out.h6 (dn_old h (by decide)), fun h => HI.out.h7 (dn_old h (by decide)), fun h' => absurd (dn_keep (HI.out.d9 q9)) h', fun h' => HI.out.w12 (fun q => h' (dn_keep q)), fun _ h' => absurd (dn_keep q9) h', fun _ => hbw.alloc hbw.size _, fun _ h' => absurd (dn_self2 HF.out) h', fun _ _ => ⟨wx, _, rfl, rfl, hbw, ⟨_, _, rfl⟩, ho⟩, fun h => (n11 (dn_old h (by decide))).elim, fun h => HI.out.h12 (dn_old h (by decide)), fun h => dn_keep (HI.out.d9 (dn_old h (by decide))), fun _ => dn_keep q9, fun h => ⟨dn_keep (HI.out.d11 (dn_old h (by decide))).1, dn_keep (HI.out.d11 (dn_old h (by decide))).2⟩, fun h => dn_keep (HI.out.d12 (dn_old h (by decide)))⟩⟩
                · skip
                  have q0 : dn LB 0 := hdep _ rfl { on := 0, ground := .data } (by simp) rfl
                  have q10 : dn LB 10 := hdep _ rfl { on := 10, ground := .data } (by simp) rfl
                  clear hdep
                  obtain ⟨wz, zv, rfl, rfl, hbz, ⟨a39, c39, rfl⟩, ho⟩ := HI.out.h10 q10 (dn_not HF.out)
                  obtain rfl := HI.out.h0 q0
                  have hsz := hbz.size
                  have hnn := HNN.out
                  have hrb := HRB.out
                  obtain ⟨vals, SN⟩ := ownM_snoc HOM.out hbz HNN.out ho (fun k e => by cases e)
                  obtain ⟨i1, hi1, hy0, hy1, hy2⟩ := info_parts infoRow
                  obtain ⟨v5, w5, hr5, hown5, hgrow5, _, hat5⟩ := run_append_own_at (P := Try.prog) (w := wz.alloc (.cells #[.slice a39 row.length c39] 22)) wr.heap.size 23 23 22 i1 (.slice none 0 0) 1 24 Try.underlying23 hi1 hy0 hy1 hy2 rfl (by decide) (.slice av P.length cvv) P.length vals ((show World.ownsRow wz _ _ _ _ _ _ from SN.row).alloc _) ⟨wz.heap.size, 0, none⟩ 1 1 [.slice a39 row.length c39] rfl (cell_one_new _ _ _) (by simp [Value.oneCell']) (by unfold maxLen; omega) (by omega) (by simp; omega)
                  have hm5 := SN.fin _ _ _ hown5 hgrow5 hat5
                  have hbb : Below wr.heap.size W w5 := ((hbz.mono hnn).alloc (by omega) _).grown hgrow5 (by simp; omega) (fun k e => (HOM.out.lt k e).1)
                  refine wpOp_step rfl (fun K hK => ?_)
                  refine step_appendM_told rfl (.tmp 30) (.tmp 40) (.slice av P.length cvv) (.slice (some ⟨wz.heap.size, 0, none⟩) 1 1) _ rfl rfl rfl rfl hr5 ?_
                  exact hK _ _ ⟨_, _, _, _, _, _, _, _, _, _, _, _, _, rfl, ⟨(by rw [Array.size_setIfInBounds]; exact HI.out.hs), fun h => HI.out.h0 (dn_old h (by decide)), fun h => HI.out.h1 (dn_old h (by decide)), fun h => HI.out.h2 (dn_old h (by decide)), fun h => HI.out.h3 (dn_old h (by decide)), fun h => HI.out.h4 (dn_old h (by decide)), fun h => HI.out.h5 (dn_old h (by decide)), fun h => HI.out.h6 (dn_old h (by decide)), fun h => HI.out.h7 (dn_old h (by decide)), fun h' => absurd (dn_keep (HI.out.d9 (HI.out.d10 q10))) h', fun h' => HI.out.w12 (fun q => h' (dn_keep q)), fun _ h' => absurd (dn_keep (HI.out.d10 q10)) h', fun h' => absurd (dn_self2 HF.out) h', fun _ h' => absurd (dn_keep q10) h', fun _ h' => absurd (dn_self2 HF.out) h', fun _ => ⟨hm5, hbb⟩, fun h => (dn_not HF.out (HI.out.d12 (dn_old h (by decide)))).elim, fun h => dn_keep (HI.out.d9 (dn_old h (by decide))), fun h => dn_keep (HI.out.d10 (dn_old h (by decide))), fun _ => ⟨dn_keep q0, dn_keep q10⟩, fun h => dn_keep (HI.out.d12 (dn_old h (by decide)))⟩⟩
                · skip
                  have q11 : dn LB 11 := hdep _ rfl { on := 11, ground := .data } (by simp) rfl
                  clear hdep
                  refine wpOp_step rfl (fun K hK => ?_)
                  go_simp
                  exact hK _ _ ⟨_, _, _, _, _, _, _, _, _, _, _, _, _, rfl, ⟨(by rw [Array.size_setIfInBounds]; exact HI.out.hs), fun h => HI.out.h0 (dn_old h (by decide)), fun h => HI.out.h1 (dn_old h (by decide)), fun h => HI.out.h2 (dn_old h (by decide)), fun h => HI.out.h3 (dn_old h (by decide)), fun h => HI.out.h4 (dn_old h (by decide)), fun h => HI.out.h5 (dn_old h (by decide)), fun h => HI.out.h6 (dn_old h (by decide)), fun h => HI.out.h7 (dn_old h (by decide)), fun h' => HI.out.w7 (fun q => h' (dn_keep q)), fun h' => absurd (dn_self2 HF.out) h', fun h h' => HI.out.h8 (dn_old h (by decide)) (fun q => h' (dn_keep q)), fun h' => HI.out.hb (fun q => h' (dn_keep q)), fun h h' => HI.out.h9 (dn_old h (by decide)) (fun q => h' (dn_keep q)), fun h h' => HI.out.h10 (dn_old h (by decide)) (fun q => h' (dn_keep q)), fun h => HI.out.h11 (dn_old h (by decide)), fun _ => rfl, fun h => dn_keep (HI.out.d9 (dn_old h (by decide))), fun h => dn_keep (HI.out.d10 (dn_old h (by decide))), fun h => ⟨dn_keep (HI.out.d11 (dn_old h (by decide))).1, dn_keep (HI.out.d11 (dn_old h (by decide))).2⟩, fun _ => dn_keep q11⟩⟩
              case hend =>
                rintro LB act wx ⟨s7, s30, s31, s32, s33, s34, s35, s36, s37, s38, s39, s40, s41, rfl, I⟩ hrd
                have Dn := all_done2 I.hs (by kernel_rfl) hrd
                obtain ⟨hm5, hbb⟩ := I.h11 (Dn 11 (by decide))
                obtain rfl := I.h12 (Dn 12 (by decide))
                clear I Dn hrd
                have hwe := HW0.out
                subst hwe
                have HHB := hid ((HBQ.out.trans ((below_drewN (Below.refl wr.heap.size wq) 1))).trans hbb)
                have HM5 := hid hm5
                clear hm5 hbb
                go_wp2_with fail
                go_roundw
                case measure => simp only [intOf]; have := HLK.out; omega
                case rel => exact ⟨K + 1, by go_num, HLK.out, hid (by rw [HTK.out]; exact HM5.out), HHB⟩
            · skip
              have HCC : Hid (Calls Try.prog 96 #[.slice (some ⟨W.heap.size, 0, none⟩) 2 2] (W.alloc (.cells #[.slice (some ⟨b2, o2, none⟩) j c2, .slice (some ⟨b2, o2 + (j + 1), none⟩) (m - (j + 1)) (c2 - (j + 1))] 22)) fun e w' => ∃ v, e = .returned v ∧ Owns w' (W.alloc (.cells #[.slice (some ⟨b2, o2, none⟩) j c2, .slice (some ⟨b2, o2 + (j + 1), none⟩) (m - (j + 1)) (c2 - (j + 1))] 22)).heap.size v row ∧ Below (W.alloc (.cells #[.slice (some ⟨b2, o2, none⟩) j c2, .slice (some ⟨b2, o2 + (j + 1), none⟩) (m - (j + 1)) (c2 - (j + 1))] 22)).heap.size (W.alloc (.cells #[.slice (some ⟨b2, o2, none⟩) j c2, .slice (some ⟨b2, o2 + (j + 1), none⟩) (m - (j + 1)) (c2 - (j + 1))] 22)) w') := hid (by
                have hk := below_box2 W (.cells #[.slice (some ⟨b2, o2, none⟩) j c2, .slice (some ⟨b2, o2 + (j + 1), none⟩) (m - (j + 1)) (c2 - (j + 1))] 22)
                have h := concat_any W.heap.size (.slice (some ⟨b2, o2, none⟩) j c2) (.slice (some ⟨b2, o2 + (j + 1), none⟩) (m - (j + 1)) (c2 - (j + 1))) (r.take j) (r.drop (j + 1)) (W.alloc (.cells #[.slice (some ⟨b2, o2, none⟩) j c2, .slice (some ⟨b2, o2 + (j + 1), none⟩) (m - (j + 1)) (c2 - (j + 1))] 22)) (cellB (i := 0) (heap_new rfl)) (cellB (i := 1) (heap_new rfl)) ((HPW.out.take (k := j) (by have := HLT.out; omega) HRL.out).keep hk) ((HPW.out.drop (k := j + 1) (by have := HLT.out; omega) HRL.out).keep hk) (.inr ⟨_, _, _, rfl⟩) (.inr ⟨_, _, _, rfl⟩) (by have hlk9 := HLK.out; have := HCL.out; rw [HRW.out] at this; unfold cutL at this; rw [List.length_append] at this; omega) (by rw [List.length_take, List.length_drop, HRL.out]; omega)
                rw [HRW.out]
                exact h)
              go_wp2_with fail
              refine region_inv (by kernel_rfl) (fun LB act wx => ∃ (s7 s30 s31 s32 s33 s34 s35 s36 s37 s38 s39 s40 s41 : Value), act = ({ tmps := #[.slice (some ⟨b, o, none⟩) m cv, undef, .int .i64 0, .int .i64 S, .int .i64 g, .int .i64 (j : Int), .int .i64 x, s7, undef, .slice (some ⟨b2, o2, none⟩) m c2, .slice (some ⟨b, o, none⟩) m cv, .int .i64 (m : Int), .bool false, .slice (some ⟨b, o, none⟩) m cv, .pointer (some ⟨b, o, none⟩), .slice (some ⟨b0, o0, none⟩) m c0, .int .i64 (m : Int), .int .i64 (j : Int), .bool true, .int .i64 (j : Int), .pointer (some ⟨b0, o0 + j, none⟩), .int .i64 x, .slice (some ⟨wr.heap.size, 0, none⟩) 0 0, .slice (some ⟨b, o, none⟩) m cv, .slice (some ⟨b, o + 1, none⟩) (m - 1) (cv - 1), .int .i64 ((m - 1 : Nat) : Int), .int .i64 (K : Int), .bool true, .pointer (some ⟨b, o + 1 + K, none⟩), .slice (some ⟨b2, o2, none⟩) m c2, s30, s31, s32, s33, s34, s35, s36, s37, s38, s39, s40, s41, u42, u43, u44, u45, u46, u47, u48, u49, u50, u51, u52, u53, undef], defers := [] } : Act) ∧ DetI wr.heap.size W (.slice av P.length cvv) (.slice (some ⟨b2, o2, none⟩) m c2) (.slice (some ⟨b2, o2, none⟩) j c2) (.slice (some ⟨b2, o2, none⟩) m c2) (.int .i64 ((j : Int) + 1)) (.slice (some ⟨b2, o2 + (j + 1), none⟩) (m - (j + 1)) (c2 - (j + 1))) (.int .i64 (j : Int)) P row LB wx s7 s30 s31 s32 s33 s34 s35 s36 s37 s38 s39 s40 s41) ?h0 ?hend ?hstep
              case h0 => exact ⟨_, _, _, _, _, _, _, _, _, _, _, _, _, rfl, ⟨rfl, fun h => (dn_new h).elim, fun h => (dn_new h).elim, fun h => (dn_new h).elim, fun h => (dn_new h).elim, fun h => (dn_new h).elim, fun h => (dn_new h).elim, fun h => (dn_new h).elim, fun h => (dn_new h).elim, fun _ => HW0.out.symm, fun _ => rfl, fun h => (dn_new h).elim, fun _ => HWB.out, fun h => (dn_new h).elim, fun h => (dn_new h).elim, fun h => (dn_new h).elim, fun h => (dn_new h).elim, fun h => (dn_new h).elim, fun h => (dn_new h).elim, fun h => (dn_new h).elim, fun h => (dn_new h).elim⟩⟩
              case hstep =>
                rintro LB act wx k ⟨s7, s30, s31, s32, s33, s34, s35, s36, s37, s38, s39, s40, s41, rfl, I⟩ hk
                obtain ⟨hi1, hf, hdep⟩ := ready_mem hk
                have hi2 : k < 13 := hi1
                have HI := hid I
                have HF := hid hf
                clear hk hi1 I hf
                have hc : k = 0 ∨ k = 1 ∨ k = 2 ∨ k = 3 ∨ k = 4 ∨ k = 5 ∨ k = 6 ∨ k = 7 ∨ k = 8 ∨ k = 9 ∨ k = 10 ∨ k = 11 ∨ k = 12 := by omega
                clear hi2
                rcases hc with rfl | rfl | rfl | rfl | rfl | rfl | rfl | rfl | rfl | rfl | rfl | rfl | rfl
                · skip
                  clear hdep
                  obtain rfl := HI.out.w12 (fun q => dn_not HF.out (HI.out.d11 (HI.out.d12 q)).1)
                  refine wpOp_step rfl (fun K hK => ?_)
                  go_simp
                  exact hK _ _ ⟨_, _, _, _, _, _, _, _, _, _, _, _, _, rfl, ⟨(by rw [Array.size_setIfInBounds]; exact HI.out.hs), fun _ => rfl, fun h => HI.out.h1 (dn_old h (by decide)), fun h => HI.out.h2 (dn_old h (by decide)), fun h => HI.out.h3 (dn_old h (by decide)), fun h => HI.out.h4 (dn_old h (by decide)), fun h => HI.out.h5 (dn_old h (by decide)), fun h => HI.out.h6 (dn_old h (by decide)), fun h => HI.out.h7 (dn_old h (by decide)), fun h' => HI.out.w7 (fun q => h' (dn_keep q)), fun h' => HI.out.w12 (fun q => h' (dn_keep q)), fun h h' => HI.out.h8 (dn_old h (by decide)) (fun q => h' (dn_keep q)), fun h' => HI.out.hb (fun q => h' (dn_keep q)), fun h h' => HI.out.h9 (dn_old h (by decide)) (fun q => h' (dn_keep q)), fun h h' => HI.out.h10 (dn_old h (by decide)) (fun q => h' (dn_keep q)), fun h => HI.out.h11 (dn_old h (by decide)), fun h => HI.out.h12 (dn_old h (by decide)), fun h => dn_keep (HI.out.d9 (dn_old h (by decide))), fun h => dn_keep (HI.out.d10 (dn_old h (by decide))), fun h => ⟨dn_keep (HI.out.d11 (dn_old h (by decide))).1, dn_keep (HI.out.d11 (dn_old h (by decide))).2⟩, fun h => dn_keep (HI.out.d12 (dn_old h (by decide)))⟩⟩
                · skip
                  clear hdep
                  refine wpOp_step rfl (fun K hK => ?_)
                  go_simp
                  exact hK _ _ ⟨_, _, _, _, _, _, _, _, _, _, _, _, _, rfl, ⟨(by rw [Array.size_setIfInBounds]; exact HI.out.hs), fun h => HI.out.h0 (dn_old h (by decide)), fun _ => rfl, fun h => HI.out.h2 (dn_old h (by decide)), fun h => HI.out.h3 (dn_old h (by decide)), fun h => HI.out.h4 (dn_old h (by decide)), fun h => HI.out.h5 (dn_old h (by decide)), fun h => HI.out.h6 (dn_old h (by decide)), fun h => HI.out.h7 (dn_old h (by decide)), fun h' => HI.out.w7 (fun q => h' (dn_keep q)), fun h' => HI.out.w12 (fun q => h' (dn_keep q)), fun h h' => HI.out.h8 (dn_old h (by decide)) (fun q => h' (dn_keep q)), fun h' => HI.out.hb (fun q => h' (dn_keep q)), fun h h' => HI.out.h9 (dn_old h (by decide)) (fun q => h' (dn_keep q)), fun h h' => HI.out.h10 (dn_old h (by decide)) (fun q => h' (dn_keep q)), fun h => HI.out.h11 (dn_old h (by decide)), fun h => HI.out.h12 (dn_old h (by decide)), fun h => dn_keep (HI.out.d9 (dn_old h (by decide))), fun h => dn_keep (HI.out.d10 (dn_old h (by decide))), fun h => ⟨dn_keep (HI.out.d11 (dn_old h (by decide))).1, dn_keep (HI.out.d11 (dn_old h (by decide))).2⟩, fun h => dn_keep (HI.out.d12 (dn_old h (by decide)))⟩⟩
                · skip
                  clear hdep
                  refine wpOp_step rfl (fun K hK => ?_)
                  go_simp
                  exact hK _ _ ⟨_, _, _, _, _, _, _, _, _, _, _, _, _, rfl, ⟨(by rw [Array.size_setIfInBounds]; exact HI.out.hs), fun h => HI.out.h0 (dn_old h (by decide)), fun h => HI.out.h1 (dn_old h (by decide)), fun _ => rfl, fun h => HI.out.h3 (dn_old h (by decide)), fun h => HI.out.h4 (dn_old h (by decide)), fun h => HI.out.h5 (dn_old h (by decide)), fun h => HI.out.h6 (dn_old h (by decide)), fun h => HI.out.h7 (dn_old h (by decide)), fun h' => HI.out.w7 (fun q => h' (dn_keep q)), fun h' => HI.out.w12 (fun q => h' (dn_keep q)), fun h h' => HI.out.h8 (dn_old h (by decide)) (fun q => h' (dn_keep q)), fun h' => HI.out.hb (fun q => h' (dn_keep q)), fun h h' => HI.out.h9 (dn_old h (by decide)) (fun q => h' (dn_keep q)), fun h h' => HI.out.h10 (dn_old h (by decide)) (fun q => h' (dn_keep q)), fun h => HI.out.h11 (dn_old h (by decide)), fun h => HI.out.h12 (dn_old h (by decide)), fun h => dn_keep (HI.out.d9 (dn_old h (by decide))), fun h => dn_keep (HI.out.d10 (dn_old h (by decide))), fun h => ⟨dn_keep (HI.out.d11 (dn_old h (by decide))).1, dn_keep (HI.out.d11 (dn_old h (by decide))).2⟩, fun h => dn_keep (HI.out.d12 (dn_old h (by decide)))⟩⟩
                · skip
                  have q1 : dn LB 1 := hdep _ rfl { on := 1, ground := .data } (by simp) rfl
                  have q2 : dn LB 2 := hdep _ rfl { on := 2, ground := .data } (by simp) rfl
                  clear hdep
                  obtain rfl := HI.out.h1 q1
                  obtain rfl := HI.out.h2 q2
                  refine wpOp_step rfl (fun K hK => ?_)
                  go_simp
                  try (rw [if_pos (show (j : Int) ≤ (j : Int) + 1 by omega)]; go_simp)
                  exact hK _ _ ⟨_, _, _, _, _, _, _, _, _, _, _, _, _, rfl, ⟨(by rw [Array.size_setIfInBounds]; exact HI.out.hs), fun h => HI.out.h0 (dn_old h (by decide)), fun h => HI.out.h1 (dn_old h (by decide)), fun h => HI.out.h2 (dn_old h (by decide)), fun _ => rfl, fun h => HI.out.h4 (dn_old h (by decide)), fun h => HI.out.h5 (dn_old h (by decide)), fun h => HI.out.h6 (dn_old h (by decide)), fun h => HI.out.h7 (dn_old h (by decide)), fun h' => HI.out.w7 (fun q => h' (dn_keep q)), fun h' => HI.out.w12 (fun q => h' (dn_keep q)), fun h h' => HI.out.h8 (dn_old h (by decide)) (fun q => h' (dn_keep q)), fun h' => HI.out.hb (fun q => h' (dn_keep q)), fun h h' => HI.out.h9 (dn_old h (by decide)) (fun q => h' (dn_keep q)), fun h h' => HI.out.h10 (dn_old h (by decide)) (fun q => h' (dn_keep q)), fun h => HI.out.h11 (dn_old h (by decide)), fun h => HI.out.h12 (dn_old h (by decide)), fun h => dn_keep (HI.out.d9 (dn_old h (by decide))), fun h => dn_keep (HI.out.d10 (dn_old h (by decide))), fun h => ⟨dn_keep (HI.out.d11 (dn_old h (by decide))).1, dn_keep (HI.out.d11 (dn_old h (by decide))).2⟩, fun h => dn_keep (HI.out.d12 (dn_old h (by decide)))⟩⟩
                · skip
                  clear hdep
                  refine wpOp_step rfl (fun K hK => ?_)
                  go_simp
                  exact hK _ _ ⟨_, _, _, _, _, _, _, _, _, _, _, _, _, rfl, ⟨(by rw [Array.size_setIfInBounds]; exact HI.out.hs), fun h => HI.out.h0 (dn_old h (by decide)), fun h => HI.out.h1 (dn_old h (by decide)), fun h => HI.out.h2 (dn_old h (by decide)), fun h => HI.out.h3 (dn_old h (by decide)), fun _ => rfl, fun h => HI.out.h5 (dn_old h (by decide)), fun h => HI.out.h6 (dn_old h (by decide)), fun h => HI.out.h7 (dn_old h (by decide)), fun h' => HI.out.w7 (fun q => h' (dn_keep q)), fun h' => HI.out.w12 (fun q => h' (dn_keep q)), fun h h' => HI.out.h8 (dn_old h (by decide)) (fun q => h' (dn_keep q)), fun h' => HI.out.hb (fun q => h' (dn_keep q)), fun h h' => HI.out.h9 (dn_old h (by decide)) (fun q => h' (dn_keep q)), fun h h' => HI.out.h10 (dn_old h (by decide)) (fun q => h' (dn_keep q)), fun h => HI.out.h11 (dn_old h (by decide)), fun h => HI.out.h12 (dn_old h (by decide)), fun h => dn_keep (HI.out.d9 (dn_old h (by decide))), fun h => dn_keep (HI.out.d10 (dn_old h (by decide))), fun h => ⟨dn_keep (HI.out.d11 (dn_old h (by decide))).1, dn_keep (HI.out.d11 (dn_old h (by decide))).2⟩, fun h => dn_keep (HI.out.d12 (dn_old h (by decide)))⟩⟩
                · skip
                  clear hdep
                  refine wpOp_step rfl (fun K hK => ?_)
                  go_simp
                  exact hK _ _ ⟨_, _, _, _, _, _, _, _, _, _, _, _, _, rfl, ⟨(by rw [Array.size_setIfInBounds]; exact HI.out.hs), fun h => HI.out.h0 (dn_old h (by decide)), fun h => HI.out.h1 (dn_old h (by decide)), fun h => HI.out.h2 (dn_old h (by decide)), fun h => HI.out.h3 (dn_old h (by decide)), fun h => HI.out.h4 (dn_old h (by decide)), fun _ => rfl, fun h => HI.out.h6 (dn_old h (by decide)), fun h => HI.out.h7 (dn_old h (by decide)), fun h' => HI.out.w7 (fun q => h' (dn_keep q)), fun h' => HI.out.w12 (fun q => h' (dn_keep q)), fun h h' => HI.out.h8 (dn_old h (by decide)) (fun q => h' (dn_keep q)), fun h' => HI.out.hb (fun q => h' (dn_keep q)), fun h h' => HI.out.h9 (dn_old h (by decide)) (fun q => h' (dn_keep q)), fun h h' => HI.out.h10 (dn_old h (by decide)) (fun q => h' (dn_keep q)), fun h => HI.out.h11 (dn_old h (by decide)), fun h => HI.out.h12 (dn_old h (by decide)), fun h => dn_keep (HI.out.d9 (dn_old h (by decide))), fun h => dn_keep (HI.out.d10 (dn_old h (by decide))), fun h => ⟨dn_keep (HI.out.d11 (dn_old h (by decide))).1, dn_keep (HI.out.d11 (dn_old h (by decide))).2⟩, fun h => dn_keep (HI.out.d12 (dn_old h (by decide)))⟩⟩
                · skip
                  have q5 : dn LB 5 := hdep _ rfl { on := 5, ground := .data } (by simp) rfl
                  clear hdep
                  obtain rfl := HI.out.h5 q5
                  refine wpOp_step rfl (fun K hK => ?_)
                  go_simp
                  rw [wrap62 (by omega) (by omega)]
                  exact hK _ _ ⟨_, _, _, _, _, _, _, _, _, _, _, _, _, rfl, ⟨(by rw [Array.size_setIfInBounds]; exact HI.out.hs), fun h => HI.out.h0 (dn_old h (by decide)), fun h => HI.out.h1 (dn_old h (by decide)), fun h => HI.out.h2 (dn_old h (by decide)), fun h => HI.out.h3 (dn_old h (by decide)), fun h => HI.out.h4 (dn_old h (by decide)), fun h => HI.out.h5 (dn_old h (by decide)), fun _ => rfl, fun h => HI.out.h7 (dn_old h (by decide)), fun h' => HI.out.w7 (fun q => h' (dn_keep q)), fun h' => HI.out.w12 (fun q => h' (dn_keep q)), fun h h' => HI.out.h8 (dn_old h (by decide)) (fun q => h' (dn_keep q)), fun h' => HI.out.hb (fun q => h' (dn_keep q)), fun h h' => HI.out.h9 (dn_old h (by decide)) (fun q => h' (dn_keep q)), fun h h' => HI.out.h10 (dn_old h (by decide)) (fun q => h' (dn_keep q)), fun h => HI.out.h11 (dn_old h (by decide)), fun h => HI.out.h12 (dn_old h (by decide)), fun h => dn_keep (HI.out.d9 (dn_old h (by decide))), fun h => dn_keep (HI.out.d10 (dn_old h (by decide))), fun h => ⟨dn_keep (HI.out.d11 (dn_old h (by decide))).1, dn_keep (HI.out.d11 (dn_old h (by decide))).2⟩, fun h => dn_keep (HI.out.d12 (dn_old h (by decide)))⟩⟩
                · skip
                  have q4 : dn LB 4 := hdep _ rfl { on := 4, ground := .data } (by simp) rfl
                  have q6 : dn LB 6 := hdep _ rfl { on := 6, ground := .data } (by simp) rfl
                  clear hdep
                  obtain rfl := HI.out.h4 q4
                  obtain rfl := HI.out.h6 q6
                  refine wpOp_step rfl (fun K hK => ?_)
                  go_simp
                  exact hK _ _ ⟨_, _, _, _, _, _, _, _, _, _, _, _, _, rfl, ⟨(by rw [Array.size_setIfInBounds]; exact HI.out.hs), fun h => HI.out.h0 (dn_old h (by decide)), fun h => HI.out.h1 (dn_old h (by decide)), fun h => HI.out.h2 (dn_old h (by decide)), fun h => HI.out.h3 (dn_old h (by decide)), fun h => HI.out.h4 (dn_old h (by decide)), fun h => HI.out.h5 (dn_old h (by decide)), fun h => HI.out.h6 (dn_old h (by decide)), fun _ => rfl, fun h' => HI.out.w7 (fun q => h' (dn_keep q)), fun h' => HI.out.w12 (fun q => h' (dn_keep q)), fun h h' => HI.out.h8 (dn_old h (by decide)) (fun q => h' (dn_keep q)), fun h' => HI.out.hb (fun q => h' (dn_keep q)), fun h h' => HI.out.h9 (dn_old h (by decide)) (fun q => h' (dn_keep q)), fun h h' => HI.out.h10 (dn_old h (by decide)) (fun q => h' (dn_keep q)), fun h => HI.out.h11 (dn_old h (by decide)), fun h => HI.out.h12 (dn_old h (by decide)), fun h => dn_keep (HI.out.d9 (dn_old h (by decide))), fun h => dn_keep (HI.out.d10 (dn_old h (by decide))), fun h => ⟨dn_keep (HI.out.d11 (dn_old h (by decide))).1, dn_keep (HI.out.d11 (dn_old h (by decide))).2⟩, fun h => dn_keep (HI.out.d12 (dn_old h (by decide)))⟩⟩
                · skip
                  have q3 : dn LB 3 := hdep _ rfl { on := 3, ground := .data } (by simp) rfl
                  have q7 : dn LB 7 := hdep _ rfl { on := 7, ground := .data } (by simp) rfl
                  clear hdep
                  obtain rfl := HI.out.h3 q3
                  obtain rfl := HI.out.h7 q7
                  obtain rfl := HI.out.w7 (dn_not HF.out)
                  refine wpOp_step rfl (fun K hK => ?_)
                  go_simp
                  exact hK _ _ ⟨_, _, _, _, _, _, _, _, _, _, _, _, _, rfl, ⟨(by rw [Array.size_setIfInBounds]; exact HI.out.hs), fun h => HI.out.h0 (dn_old h (by decide)), fun h => HI.out.h1 (dn_old h (by decide)), fun h => HI.out.h2 (dn_old h (by decide)), fun h => HI.out.h3 (dn_old h (by decide)), fun h => HI.out.h4 (dn_old h (by decide)), fun h => HI.out.h5 (dn_old h (by decide)), fun h => HI.out.h6 (dn_old h (by decide)), fun h => HI.out.h7 (dn_old h (by decide)), fun h' => absurd (dn_self2 HF.out) h', fun h' => HI.out.w12 (fun q => h' (dn_keep q)), fun _ _ => ⟨rfl, rfl⟩, fun _ => below_box2 _ _, fun h => (dn_not HF.out (HI.out.d9 (dn_old h (by decide)))).elim, fun h => (dn_not HF.out (HI.out.d9 (HI.out.d10 (dn_old h (by decide))))).elim, fun h => (dn_not HF.out (HI.out.d9 (HI.out.d10 (HI.out.d11 (dn_old h (by decide))).2))).elim, fun h => HI.out.h12 (dn_old h (by decide)), fun h => dn_keep (HI.out.d9 (dn_old h (by decide))), fun h => dn_keep (HI.out.d10 (dn_old h (by decide))), fun h => ⟨dn_keep (HI.out.d11 (dn_old h (by decide))).1, dn_keep (HI.out.d11 (dn_old h (by decide))).2⟩, fun h => dn_keep (HI.out.d12 (dn_old h (by decide)))⟩⟩
                · skip
                  have q8 : dn LB 8 := hdep _ rfl { on := 8, ground := .data } (by simp) rfl
                  clear hdep
                  obtain ⟨rfl, rfl⟩ := HI.out.h8 q8 (dn_not HF.out)
                  refine wpOp_step rfl (fun K hK => ?_)
                  go_simp
                  go_at_call 96
                  refine HCC.out.mono ?_
                  rintro e wP ⟨uP, rfl, ho, hbk⟩
                  have hbw := (below_box2 W (.cells #[.slice (some ⟨b2, o2, none⟩) j c2, .slice (some ⟨b2, o2 + (j + 1), none⟩) (m - (j + 1)) (c2 - (j + 1))] 22)).trans (hbk.mono (by simp))
                  exact hK _ _ ⟨_, _, _, _, _, _, _, _, _, _, _, _, _, rfl, ⟨(by rw [Array.size_setIfInBounds]; exact HI.out.hs), fun h => HI.out.h0 (dn_old h (by decide)), fun h => HI.out.h1 (dn_old h (by decide)), fun h => HI.out.h2 (dn_old h (by decide)), fun h => HI.out.h3 (dn_old h (by decide)), fun h => HI.out.h4 (dn_old h (by decide)), fun h => HI.out.h5 (dn_old h (by decide)), fun h => HI.out.h6 (dn_old h (by decide)), fun h => HI.out.h7 (dn_old h (by decide)), fun h' => absurd (dn_keep q8) h', fun h' => HI.out.w12 (fun q => h' (dn_keep q)), fun _ h' => absurd (dn_self2 HF.out) h', fun _ => hbw, fun _ _ => ⟨owns_slice ho, ho.down (by simp)⟩, fun h => (dn_not HF.out (HI.out.d10 (dn_old h (by decide)))).elim, fun h => (dn_not HF.out (HI.out.d10 (HI.out.d11 (dn_old h (by decide))).2)).elim, fun h => HI.out.h12 (dn_old h (by decide)), fun _ => dn_keep q8, fun h => dn_keep (HI.out.d10 (dn_old h (by decide))), fun h => ⟨dn_keep (HI.out.d11 (dn_old h (by decide))).1, dn_keep (HI.out.d11 (dn_old h (by decide))).2⟩, fun h => dn_keep (HI.out.d12 (dn_old h (by decide)))⟩⟩
                · skip
                  have q9 : dn LB 9 := hdep _ rfl { on := 9, ground := .data } (by simp) rfl
                  clear hdep
                  have n11 : ¬ dn LB 11 := fun q => dn_not HF.out (HI.out.d11 q).2
                  have hbw := HI.out.hb n11
                  obtain ⟨⟨a39, c39, rfl⟩, ho⟩ := HI.out.h9 q9 (dn_not HF.out)
                  refine wpOp_step rfl (fun K hK => ?_)
                  go_simp
                  exact hK _ _ ⟨_, _, _, _, _, _, _, _, _, _, _, _, _, rfl, ⟨(by rw [Array.size_setIfInBounds]; exact HI.out.hs), fun h => HI.out.h0 (dn_old h (by decide)), fun h => HI.out.h1 (dn_old h (by decide)), fun h => HI.out.h2 (dn_old h (by decide)), fun h => HI.out.h3 (dn_old h (by decide)), fun h => HI.out.h4 (dn_old h (by decide)), fun h => HI.out.h5 (dn_old h (by decide)), fun h => HI.out.h6 (dn_old h (by decide)), fun h => HI.out.h7 (dn_old h (by decide)), fun h' => absurd (dn_keep (HI.out.d9 q9)) h', fun h' => HI.out.w12 (fun q => h' (dn_keep q)), fun _ h' => absurd (dn_keep q9) h', fun _ => hbw.alloc hbw.size _, fun _ h' => absurd (dn_self2 HF.out) h', fun _ _ => ⟨wx, _, rfl, rfl, hbw, ⟨_, _, rfl⟩, ho⟩, fun h => (n11 (dn_old h (by decide))).elim, fun h => HI.out.h12 (dn_old h (by decide)), fun h => dn_keep (HI.out.d9 (dn_old h (by decide))), fun _ => dn_keep q9, fun h => ⟨dn_keep (HI.out.d11 (dn_old h (by decide))).1, dn_keep (HI.out.d11 (dn_old h (by decide))).2⟩, fun h => dn_keep (HI.out.d12 (dn_old h (by decide)))⟩⟩
                · skip
                  have q0 : dn LB 0 := hdep _ rfl { on := 0, ground := .data } (by simp) rfl
                  have q10 : dn LB 10 := hdep _ rfl { on := 10, ground := .data } (by simp) rfl
                  clear hdep
                  obtain ⟨wz, zv, rfl, rfl, hbz, ⟨a39, c39, rfl⟩, ho⟩ := HI.out.h10 q10 (dn_not HF.out)
                  obtain rfl := HI.out.h0 q0
                  have hsz := hbz.size
                  have hnn := HNN.out
                  have hrb := HRB.out
                  obtain ⟨vals, SN⟩ := ownM_snoc HOM.out hbz HNN.out ho (fun k e => by cases e)
                  obtain ⟨i1, hi1, hy0, hy1, hy2⟩ := info_parts infoRow
                  obtain ⟨v5, w5, hr5, hown5, hgrow5, _, hat5⟩ := run_append_own_at (P := Try.prog) (w := wz.alloc (.cells #[.slice a39 row.length c39] 22)) wr.heap.size 23 23 22 i1 (.slice none 0 0) 1 24 Try.underlying23 hi1 hy0 hy1 hy2 rfl (by decide) (.slice av P.length cvv) P.length vals ((show World.ownsRow wz _ _ _ _ _ _ from SN.row).alloc _) ⟨wz.heap.size, 0, none⟩ 1 1 [.slice a39 row.length c39] rfl (cell_one_new _ _ _) (by simp [Value.oneCell']) (by unfold maxLen; omega) (by omega) (by simp; omega)
                  have hm5 := SN.fin _ _ _ hown5 hgrow5 hat5
                  have hbb : Below wr.heap.size W w5 := ((hbz.mono hnn).alloc (by omega) _).grown hgrow5 (by simp; omega) (fun k e => (HOM.out.lt k e).1)
                  refine wpOp_step rfl (fun K hK => ?_)
                  refine step_appendM_told rfl (.tmp 30) (.tmp 40) (.slice av P.length cvv) (.slice (some ⟨wz.heap.size, 0, none⟩) 1 1) _ rfl rfl rfl rfl hr5 ?_
                  exact hK _ _ ⟨_, _, _, _, _, _, _, _, _, _, _, _, _, rfl, ⟨(by rw [Array.size_setIfInBounds]; exact HI.out.hs), fun h => HI.out.h0 (dn_old h (by decide)), fun h => HI.out.h1 (dn_old h (by decide)), fun h => HI.out.h2 (dn_old h (by decide)), fun h => HI.out.h3 (dn_old h (by decide)), fun h => HI.out.h4 (dn_old h (by decide)), fun h => HI.out.h5 (dn_old h (by decide)), fun h => HI.out.h6 (dn_old h (by decide)), fun h => HI.out.h7 (dn_old h (by decide)), fun h' => absurd (dn_keep (HI.out.d9 (HI.out.d10 q10))) h', fun h' => HI.out.w12 (fun q => h' (dn_keep q)), fun _ h' => absurd (dn_keep (HI.out.d10 q10)) h', fun h' => absurd (dn_self2 HF.out) h', fun _ h' => absurd (dn_keep q10) h', fun _ h' => absurd (dn_self2 HF.out) h', fun _ => ⟨hm5, hbb⟩, fun h => (dn_not HF.out (HI.out.d12 (dn_old h (by decide)))).elim, fun h => dn_keep (HI.out.d9 (dn_old h (by decide))), fun h => dn_keep (HI.out.d10 (dn_old h (by decide))), fun _ => ⟨dn_keep q0, dn_keep q10⟩, fun h => dn_keep (HI.out.d12 (dn_old h (by decide)))⟩⟩
                · skip
                  have q11 : dn LB 11 := hdep _ rfl { on := 11, ground := .data } (by simp) rfl
                  clear hdep
                  refine wpOp_step rfl (fun K hK => ?_)
                  go_simp
                  exact hK _ _ ⟨_, _, _, _, _, _, _, _, _, _, _, _, _, rfl, ⟨(by rw [Array.size_setIfInBounds]; exact HI.out.hs), fun h => HI.out.h0 (dn_old h (by decide)), fun h => HI.out.h1 (dn_old h (by decide)), fun h => HI.out.h2 (dn_old h (by decide)), fun h => HI.out.h3 (dn_old h (by decide)), fun h => HI.out.h4 (dn_old h (by decide)), fun h => HI.out.h5 (dn_old h (by decide)), fun h => HI.out.h6 (dn_old h (by decide)), fun h => HI.out.h7 (dn_old h (by decide)), fun h' => HI.out.w7 (fun q => h' (dn_keep q)), fun h' => absurd (dn_self2 HF.out) h', fun h h' => HI.out.h8 (dn_old h (by decide)) (fun q => h' (dn_keep q)), fun h' => HI.out.hb (fun q => h' (dn_keep q)), fun h h' => HI.out.h9 (dn_old h (by decide)) (fun q => h' (dn_keep q)), fun h h' => HI.out.h10 (dn_old h (by decide)) (fun q => h' (dn_keep q)), fun h => HI.out.h11 (dn_old h (by decide)), fun _ => rfl, fun h => dn_keep (HI.out.d9 (dn_old h (by decide))), fun h => dn_keep (HI.out.d10 (dn_old h (by decide))), fun h => ⟨dn_keep (HI.out.d11 (dn_old h (by decide))).1, dn_keep (HI.out.d11 (dn_old h (by decide))).2⟩, fun _ => dn_keep q11⟩⟩
              case hend =>
                rintro LB act wx ⟨s7, s30, s31, s32, s33, s34, s35, s36, s37, s38, s39, s40, s41, rfl, I⟩ hrd
                have Dn := all_done2 I.hs (by kernel_rfl) hrd
                obtain ⟨hm5, hbb⟩ := I.h11 (Dn 11 (by decide))
                obtain rfl := I.h12 (Dn 12 (by decide))
                clear I Dn hrd
                have hwe := HW0.out
                subst hwe
                have HHB := hid ((HBQ.out.trans ((below_drewN (Below.refl wr.heap.size wq) 1))).trans hbb)
                have HM5 := hid hm5
                clear hm5 hbb
                go_wp2_with fail
                go_roundw
                case measure => simp only [intOf]; have := HLK.out; omega
                case rel => exact ⟨K + 1, by go_num, HLK.out, hid (by rw [HTK.out]; exact HM5.out), HHB⟩
          · have hKn : K = n := by omega
            have hki : ¬ K < m - 1 := by have := HME.out; omega
            obtain ⟨ao, co, hao⟩ := HO.out.rd.form
            rw [show ((minorL R j).take K).length = n by rw [List.length_take, (minor_sq HS.out (by rw [← HME.out]; exact HLT.out)).1]; omega] at hao
            subst hao
            have HDE := HIH.out j (by rw [← HME.out]; exact HLT.out) _ wq (by
              have h := HO.out.rd
              rw [List.take_of_length_le (by rw [(minor_sq HS.out (by rw [← HME.out]; exact HLT.out)).1]; omega)] at h
              exact h) (own_cap9 HO.out)
            have HD := hid HDE
            have hpb := HPB.out (j + 1)
            have htb := HTB.out j
            have hsu : sumF (fun j => alt j * at2 R 0 j * detR n (minorL R j)) (j + 1) = S + g * x * detR n (minorL R j) := by
              rw [HSE.out, HGE.out, HX.out]; rfl
            rw [hsu] at hpb
            have HSU := hid hsu
            have hspb := HPB.out j
            rw [← HSE.out] at hspb
            rw [← HX.out] at htb
            obtain ⟨Dt, hDt⟩ : ∃ Dt, Dt = detR n (minorL R j) := ⟨_, rfl⟩
            rw [← hDt] at HD HSU hpb htb
            have hgx : -1000000 ≤ g * x ∧ g * x ≤ 1000000 := by rcases HGP.out with e | e <;> rw [e] <;> omega
            have hgd : -2000000000000000000 ≤ g * x * Dt ∧ g * x * Dt ≤ 2000000000000000000 := by
              rcases HGP.out with e | e <;> rw [e]
              · rw [Int.one_mul]; exact htb
              · rw [show (-1 : Int) * x * Dt = -(x * Dt) by grind]; omega
            have hgg : -1 ≤ g ∧ g ≤ 1 := by rcases HGP.out with e | e <;> omega
            have hj3 : (j : Int) ≤ 2 := by omega
            have hs1 : -6000000000000000000 ≤ S + g * x * Dt ∧ S + g * x * Dt ≤ 6000000000000000000 := by push_cast at hpb; omega
            clear hsu hDt hpb htb hspb HDE hKn hlk
            go_wp2_with fail
            refine HD.out.mono ?_
            rintro e w5 ⟨rfl, hb5⟩
            have HB5 := hid (HB.out.trans ((HBQ.out.trans (hb5.mono HBQ.out.size)).mono HB.out.size))
            clear hb5
            go_wp2_with fail
            go_roundw
            case measure => simp only [intOf]; have := HLT.out; omega
            case rel => exact ⟨j + 1, _, _, by go_num, HLT.out, rfl, rfl, hid HSU.out.symm, hid (by rw [alt_succ, HGE.out]), HB5⟩
    · obtain rfl : j = m := by omega
      have HE : Hid (S = detR (n + 1) R) := hid (by rw [HSE.out, HME.out]; rfl)
      clear hlt
      go_wp2_with fail
      go_ret
      exact ⟨retI HE.out, HB.out⟩

end Go.Proofs.Ytacjejnbomdhbab

set_option linter.unusedVariables false
namespace Go.Proofs.Ytacjejnbomdhbab
open Go.RowKit

theorem det9_any (n : Nat) (hn : n = 1 ∨ n = 2 ∨ n = 3) (v : Value) (R : List (List Int)) (w : World) (h : RdM w v R) (hcp : ∀ a n c, v = .slice a n c → n ≤ c) (hs : Sq n R) (hb : ∀ r ∈ R, ∀ x ∈ r, -1000000 ≤ x ∧ x ≤ 1000000) : Calls Try.prog 72 #[v] w fun e w' => e = .returned (.int .i64 (detF n (at2 R))) ∧ Below w.heap.size w w' := by
  rw [← det_is hn hs]
  have d1 := det_next 0 (by omega) (fun v R w h _ hs _ => det_zero v R w h hs)
  have d2 := det_next 1 (by omega) d1
  have d3 := det_next 2 (by omega) d2
  rcases hn with rfl | rfl | rfl
  · exact d1 v R w h hcp hs hb
  · exact d2 v R w h hcp hs hb
  · exact d3 v R w h hcp hs hb

set_option maxRecDepth 100000 in
set_option maxHeartbeats 4000000 in
theorem moveSign_any (vf va : Value) (xs : List Int) (A : List (List Int)) (a : Int) (w : World) (hx : Rd w vf xs) (hA : RdM w va A) (hcp : ∀ a n c, va = .slice a n c → n ≤ c) : Calls Try.prog 35 #[vf, .agg #[va, .int .i64 a]] w fun e w' => e = .returned (.int .i64 (signW xs A a)) ∧ Below w.heap.size w w' := by
  obtain ⟨ax, cx, rfl, _⟩ := hx.form
  obtain ⟨aa, ca, rfl⟩ := hA.form
  have hbl : Below w.heap.size w (w.alloc (.cells #[.slice aa A.length ca, .int .i64 a] 29)) := below_box2 _ _
  have HX := hid (hx.keep hbl)
  have HA := hid (hA.keep hbl)
  have HB := hid hbl
  have H1 : Hid (MvAt (w.alloc (.cells #[.slice aa A.length ca, .int .i64 a] 29)) w.heap.size (.slice aa A.length ca) a) := hid (heap_new rfl)
  have HV := hid (valid9_any w.heap.size _ _ xs A a _ H1.out HA.out HX.out)
  have HCP := hid hcp
  clear hx hA hbl hcp
  cases hva : moveB xs A a with
  | false =>
    rw [hva] at HV
    have HE : Hid (signW xs A a = 0) := hid (by unfold signW; rw [hva]; rfl)
    clear hva
    go_enter Try.func35, Try.ntmps35
    go_wp2_with fail
    refine HV.out.mono ?_
    rintro e w2 ⟨rfl, hb2⟩
    have HB2 := hid (HB.out.trans (hb2.mono HB.out.size))
    clear hb2
    go_wp2_with fail
    go_ret
    exact ⟨retI HE.out.symm, HB2.out⟩
  | true =>
    have oA := moveB_iff.1 hva
    rw [hva] at HV
    have HE : Hid (signW xs A a = sg (detF xs.length (at2 A))) := hid (sign_ok oA)
    have HDC := hid (fun (wx : World) (h : RdM wx (.slice aa A.length ca) A) => det9_any xs.length oA.n3 _ A wx h HCP.out oA.sq oA.bd)
    obtain ⟨D, hD⟩ : ∃ D, D = detF xs.length (at2 A) := ⟨_, rfl⟩
    rw [← hD] at HE HDC
    clear hva oA hD
    go_enter Try.func35, Try.ntmps35
    go_wp2_with fail
    refine HV.out.mono ?_
    rintro e w2 ⟨rfl, hb2⟩
    have HB2 := hid (HB.out.trans (hb2.mono HB.out.size))
    have hq := H1.out.keep hb2
    have z0 := cellB (i := 0) hq
    have HA2 := hid (HA.out.keep hb2)
    clear hb2 hq
    go_wp2_with fail
    refine (HDC.out _ HA2.out).mono ?_
    rintro e w3 ⟨rfl, hb3⟩
    have HB3 := hid (HB2.out.trans (hb3.mono HB2.out.size))
    clear hb3
    by_cases h0 : 0 < D
    · have HS : Hid (signW xs A a = 1) := hid (by rw [HE.out, sg_pos h0])
      go_wp2_with fail
      go_ret
      exact ⟨retI HS.out.symm, HB3.out⟩
    · have HS : Hid (signW xs A a = -1) := hid (by rw [HE.out]; unfold sg; rw [if_neg h0])
      go_wp2_with fail
      go_ret
      exact ⟨retI HS.out.symm, HB3.out⟩

/-- what a mirror done behind or ahead of a move in memory leaves -/
def StepPost (o : Option (List (List Int) × Int)) (bm : Nat) (w : World) (e : Ending) (w' : World) : Prop :=
  e = .returned (.bool o.isSome) ∧ ∃ wy, Below w.heap.size w wy ∧ (w' = wy ∨ ∃ v0 v1, w' = (wy.setCell ⟨bm, 0, none⟩ v0).setCell ⟨bm, 1, none⟩ v1) ∧ ∀ R d, o = some (R, d) → ∃ u, MvAt w' bm u d ∧ OwnM w' w.heap.size none u R

set_option maxRecDepth 100000 in
set_option maxHeartbeats 4000000 in
theorem precede_any (bm : Nat) (vf vw va : Value) (xs ws : List Int) (A : List (List Int)) (a : Int) (w : World) (hm : MvAt w bm va a) (hA : RdM w va A) (hx : Rd w vf xs) (hw : Rd w vw ws) (oA : MoveOk xs A a) :
    Calls Try.prog 74 #[.pointer (some ⟨bm, 0, none⟩), vf, vw] w (StepPost ((mirV xs ws).bind fun M => mulV xs A a M.1 M.2) bm w) := by
  have HMI := hid (moveMirror_any vf vw xs ws w hx hw)
  have HM := hid hm
  have HA := hid hA
  have HOA := hid oA
  obtain ⟨ax, cx, rfl, _⟩ := hx.form
  obtain ⟨aw, cw, rfl, _⟩ := hw.form
  clear hm hA hx hw oA
  cases hmv : mirV xs ws with
  | none =>
    rw [hmv] at HMI
    clear hmv
    go_enter Try.func74, Try.ntmps74
    go_wp2_with fail
    refine HMI.out.mono ?_
    rintro e w2 ⟨u, rfl, ho, hb2⟩
    simp only [Option.elim_none, Option.isSome_none] at ho ⊢
    obtain ⟨au, cu, rfl⟩ := ho.rd.form
    have HB2 := hid hb2
    clear ho hb2
    go_wp2_with fail
    go_ret
    exact ⟨rfl, _, HB2.out.alloc HB2.out.size _, .inl rfl, fun R d h => by cases h⟩
  | some p =>
    obtain ⟨M, m⟩ := p
    have oM := (mir_some hmv).1
    rw [hmv] at HMI
    have HTM := hid (fun (b2 : Nat) (vm : Value) (w' : World) (h1 : MvAt w' bm va a) (h2 : MvAt w' b2 vm m) (h3 : RdM w' va A) (h4 : RdM w' vm M) => times_move bm b2 va vm A M a m w' h1 h2 h3 h4 HOA.out oM)
    change Calls Try.prog _ _ w (StepPost (mulV xs A a M m) bm w)
    obtain ⟨O, hO⟩ : ∃ O, O = mulV xs A a M m := ⟨_, rfl⟩
    rw [← hO] at HTM ⊢
    clear hmv oM hO
    go_enter Try.func74, Try.ntmps74
    go_wp2_with fail
    refine HMI.out.mono ?_
    rintro e w2 ⟨u, rfl, ho, hb2⟩
    simp only [Option.elim_some, Option.isSome_some] at ho ⊢
    obtain ⟨au, cu, rfl⟩ := ho.rd.form
    have hb3 := hb2.alloc hb2.size (.cells #[.slice au M.length cu, .int .i64 m] 29)
    have HQ := hid (HTM.out w2.heap.size _ (w2.alloc (.cells #[.slice au M.length cu, .int .i64 m] 29)) (HM.out.keep hb3) (heap_new rfl) (HA.out.keep hb3) (ho.rd.keep (below_box2 _ _)))
    have HB3 := hid hb3
    clear ho hb2 hb3
    go_wp2_with fail
    refine HQ.out.mono ?_
    rintro e w4 hp
    obtain ⟨R2, d2, b2, au2, cu2, rfl, ho, hb4, HE2⟩ := movePost_un hp
    have hbb := HB3.out.trans (hb4.mono HB3.out.size)
    have hq := HM.out.keep hbb
    have z0 := cellB (i := 0) hq
    have z1 := cellB (i := 1) hq
    have y0 := frozenB (i := 0) hq
    have y1 := frozenB (i := 1) hq
    have HH := hid hq
    have HBB := hid hbb
    have HS3 := hid HB3.out.size
    have HO := hid ho
    clear hp ho hb4 hbb hq
    go_wp2_with fail
    go_ret
    have hlt : bm < w.heap.size := (Array.getElem?_eq_some_iff.1 HM.out).1
    obtain ⟨e1, e2, e3⟩ := HE2.out
    refine ⟨by rw [← e3]; rfl, _, HBB.out, .inr ⟨_, _, rfl⟩, fun R d h => ?_⟩
    subst h
    obtain rfl : R2 = R := e1
    obtain rfl : d2 = d := e2
    exact ⟨_, heap_two1 (heap_two0 HH.out), ((HO.out.setLow (a := ⟨bm, 0, none⟩) (.inl (by have := HS3.out; show bm < _; omega)) _).setLow (a := ⟨bm, 1, none⟩) (.inl (by have := HS3.out; show bm < _; omega)) _).down HS3.out⟩

set_option maxRecDepth 100000 in
set_option maxHeartbeats 4000000 in
theorem follow_any (bm : Nat) (vf vw va : Value) (xs ws : List Int) (A : List (List Int)) (a : Int) (w : World) (hm : MvAt w bm va a) (hA : RdM w va A) (hx : Rd w vf xs) (hw : Rd w vw ws) (oA : MoveOk xs A a) :
    Calls Try.prog 81 #[.pointer (some ⟨bm, 0, none⟩), vf, vw] w (StepPost ((mirV xs ws).bind fun M => mulV xs M.1 M.2 A a) bm w) := by
  have HMI := hid (moveMirror_any vf vw xs ws w hx hw)
  have HM := hid hm
  have HA := hid hA
  have HOA := hid oA
  obtain ⟨ax, cx, rfl, _⟩ := hx.form
  obtain ⟨aw, cw, rfl, _⟩ := hw.form
  clear hm hA hx hw oA
  cases hmv : mirV xs ws with
  | none =>
    rw [hmv] at HMI
    clear hmv
    go_enter Try.func81, Try.ntmps81
    go_wp2_with fail
    refine HMI.out.mono ?_
    rintro e w2 ⟨u, rfl, ho, hb2⟩
    simp only [Option.elim_none, Option.isSome_none] at ho ⊢
    obtain ⟨au, cu, rfl⟩ := ho.rd.form
    have HB2 := hid hb2
    clear ho hb2
    go_wp2_with fail
    go_ret
    exact ⟨rfl, _, HB2.out.alloc HB2.out.size _, .inl rfl, fun R d h => by cases h⟩
  | some p =>
    obtain ⟨M, m⟩ := p
    have oM := (mir_some hmv).1
    rw [hmv] at HMI
    have HTM := hid (fun (b2 : Nat) (vm : Value) (w' : World) (h1 : MvAt w' bm va a) (h2 : MvAt w' b2 vm m) (h3 : RdM w' va A) (h4 : RdM w' vm M) => times_move b2 bm vm va M A m a w' h2 h1 h4 h3 oM HOA.out)
    change Calls Try.prog _ _ w (StepPost (mulV xs M m A a) bm w)
    obtain ⟨O, hO⟩ : ∃ O, O = mulV xs M m A a := ⟨_, rfl⟩
    rw [← hO] at HTM ⊢
    clear hmv oM hO
    go_enter Try.func81, Try.ntmps81
    go_wp2_with fail
    refine HMI.out.mono ?_
    rintro e w2 ⟨u, rfl, ho, hb2⟩
    simp only [Option.elim_some, Option.isSome_some] at ho ⊢
    obtain ⟨au, cu, rfl⟩ := ho.rd.form
    have hb3 := hb2.alloc hb2.size (.cells #[.slice au M.length cu, .int .i64 m] 29)
    have HQ := hid (HTM.out w2.heap.size _ (w2.alloc (.cells #[.slice au M.length cu, .int .i64 m] 29)) (HM.out.keep hb3) (heap_new rfl) (HA.out.keep hb3) (ho.rd.keep (below_box2 _ _)))
    have HB3 := hid hb3
    clear ho hb2 hb3
    go_wp2_with fail
    refine HQ.out.mono ?_
    rintro e w4 hp
    obtain ⟨R2, d2, b2, au2, cu2, rfl, ho, hb4, HE2⟩ := movePost_un hp
    have hbb := HB3.out.trans (hb4.mono HB3.out.size)
    have hq := HM.out.keep hbb
    have z0 := cellB (i := 0) hq
    have z1 := cellB (i := 1) hq
    have y0 := frozenB (i := 0) hq
    have y1 := frozenB (i := 1) hq
    have HH := hid hq
    have HBB := hid hbb
    have HS3 := hid HB3.out.size
    have HO := hid ho
    clear hp ho hb4 hbb hq
    go_wp2_with fail
    go_ret
    have hlt : bm < w.heap.size := (Array.getElem?_eq_some_iff.1 HM.out).1
    obtain ⟨e1, e2, e3⟩ := HE2.out
    refine ⟨by rw [← e3]; rfl, _, HBB.out, .inr ⟨_, _, rfl⟩, fun R d h => ?_⟩
    subst h
    obtain rfl : R2 = R := e1
    obtain rfl : d2 = d := e2
    exact ⟨_, heap_two1 (heap_two0 HH.out), ((HO.out.setLow (a := ⟨bm, 0, none⟩) (.inl (by have := HS3.out; show bm < _; omega)) _).setLow (a := ⟨bm, 1, none⟩) (.inl (by have := HS3.out; show bm < _; omega)) _).down HS3.out⟩

end Go.Proofs.Ytacjejnbomdhbab

set_option linter.unusedVariables false
namespace Go.Proofs.Ytacjejnbomdhbab
open Go.RowKit

theorem of_no {xs : List Int} {list : List (List Int)} (h : (frm3B xs && decide (list.length ≤ 6)) = false) : ofV xs list = none := by unfold ofV; rw [h]; rfl
theorem of_yes {xs : List Int} {list : List (List Int)} (h : frm3B xs = true) (h2 : list.length ≤ 6) : ofV xs list = list.foldl (ofStep xs) (some (stayL xs.length, 1)) := by unfold ofV; rw [h, decide_eq_true h2]; rfl
theorem ofstep_ok {xs ws : List Int} {A R : List (List Int)} {a d : Int} (h : ofStep xs (some (A, a)) ws = some (R, d)) : MoveOk xs R d := by
  unfold ofStep at h
  simp only [Option.bind_some] at h
  cases hm : mirV xs ws with
  | none => rw [hm] at h; cases h
  | some M =>
    rw [hm] at h
    exact (mul_some h).2.2.1
set_option maxRecDepth 100000 in
set_option maxHeartbeats 8000000 in
theorem moveOf9_any (vf vl : Value) (xs : List Int) (list : List (List Int)) (w : World) (hx : Rd w vf xs) (hl : RdM w vl list) : Calls Try.prog 39 #[vf, vl] w (MovePost (ofV xs list) w) := by
  have hbl : Below w.heap.size w (w.alloc (.cells #[.slice none 0 0, .int .i64 0] 29)) := below_box2 _ _
  have HST := hid (moveStay_any vf xs _ (hx.keep hbl))
  have HX := hid (hx.keep hbl)
  have HLL := hid (hl.keep hbl)
  have HR0 : Hid ((w.alloc (.cells #[.slice none 0 0, .int .i64 0] 29)).heap[w.heap.size]? = some (.cells #[.slice none 0 0, .int .i64 0] 29 (0, 0))) := hid (heap_new rfl)
  have HB0 := hid hbl
  obtain ⟨ax, cx, rfl, _⟩ := hx.form
  obtain ⟨al, cl, rfl⟩ := hl.form
  have hmx : list.length ≤ maxLen := by
    rcases Nat.eq_zero_or_pos list.length with e | e
    · rw [e]; exact Nat.zero_le _
    · obtain ⟨_, _, _, _, _, h, _⟩ := hl
      obtain ⟨_, _, _, h, _⟩ := h e
      exact h
  unfold maxLen at hmx
  clear hx hl hbl
  cases hf : frm3B xs with
  | false =>
    have HE : Hid (ofV xs list = none) := hid (of_no (by rw [hf]; rfl))
    have HS : Hid (stayV xs = none) := hid (by unfold stayV; rw [hf]; rfl)
    rw [HS.out] at HST
    clear hf
    go_enter Try.func39, Try.ntmps39
    go_wp2_with fail
    refine HST.out.mono ?_
    rintro e w2 ⟨u, rfl, ho, hb2⟩
    simp only [Option.elim_none, Option.isSome_none] at ho ⊢
    obtain ⟨au, cu, rfl⟩ := ho.rd.form
    have hq := heap_below hb2 HR0.out
    have z0 := cellB (i := 0) hq
    have z1 := cellB (i := 1) hq
    have y0 := frozenB (i := 0) hq
    have y1 := frozenB (i := 1) hq
    have HB2 := hid (HB0.out.trans (hb2.mono HB0.out.size))
    have hlt := (Array.getElem?_eq_some_iff.1 hq).1
    clear ho hb2 hq
    go_wp2_with fail
    refine bodyPost_ret (v := .tuple #[.agg #[.slice none 0 0, .int .i64 0], .bool false]) (by simp [results, Try.results39, go_sem] <;> go_simp) rfl ?_
    rw [HE.out]
    first | exact ⟨_, rfl, ownM_nil _ _ _, HB2.out.alloc HB2.out.size _⟩ | exact ⟨_, rfl, ownM_nil _ _ _, HB2.out⟩ | exact movePost_none HB2.out (Nat.le_refl _) _ _ | exact ⟨_, rfl, ownM_nil _ _ _, ((HB2.out.setCell (Nat.le_refl _) _).setCell (Nat.le_refl _) _).alloc (by simp; exact HB2.out.size) _⟩
  | true =>
    have HS : Hid (stayV xs = some (stayL xs.length, 1)) := hid (by unfold stayV; rw [hf]; rfl)
    rw [HS.out] at HST
    have hf2 : fvB xs = true ∧ xs.length ≤ 3 := by unfold frm3B at hf; rwa [Bool.and_eq_true, decide_eq_true_eq] at hf
    by_cases h6 : (list.length : Int) ≤ 6
    · have HE0 := hid (of_yes (list := list) hf (by omega))
      have HOK0 := hid (stay_ok hf2.1 hf2.2)
      clear hf hf2
      go_enter Try.func39, Try.ntmps39
      go_wp2_with fail
      refine HST.out.mono ?_
      rintro e w2 ⟨u, rfl, ho, hb2⟩
      simp only [Option.elim_some, Option.isSome_some] at ho ⊢
      obtain ⟨au, cu, rfl⟩ := ho.rd.form
      have hq := heap_below hb2 HR0.out
      have HB2 := hid (HB0.out.trans (hb2.mono HB0.out.size))
      have hlt := (Array.getElem?_eq_some_iff.1 hq).1
      have HLT := hid hlt
      have HX2 := hid (HX.out.keep hb2)
      have HL2 := hid (HLL.out.keep hb2)
      have hb3 := below_box2 w2 (.cells #[.slice au (stayL xs.length).length cu, .int .i64 1] 29)
      have HR3 := hid (heap_below hb3 hq)
      have HQ2 := hid hq
      have HMV3 : Hid (MvAt (w2.alloc (.cells #[.slice au (stayL xs.length).length cu, .int .i64 1] 29)) w2.heap.size (.slice au (stayL xs.length).length cu) 1) := hid (heap_new rfl)
      have HO3 : Hid (OwnM (w2.alloc (.cells #[.slice au (stayL xs.length).length cu, .int .i64 1] 29)) (w.heap.size + 1) (some w2.heap.size) (.slice au (stayL xs.length).length cu) (stayL xs.length)) := hid (((ho.exOf (k := w2.heap.size) (.inr (Nat.le_refl _))).down (by simp)).keep hb3)
      have HB3 := hid (HB2.out.trans (hb3.mono HB2.out.size))
      have HS3 : Hid (w2.heap.size < (w2.alloc (.cells #[.slice au (stayL xs.length).length cu, .int .i64 1] 29)).heap.size) := hid (by simp)
      clear ho hb2 hq hb3
      go_wp2_with fail
      go_loopw [25] (fun si wr => ∃ (K : Nat) (A : List (List Int)) (a : Int) (va : Value), si = .int .i64 (K : Int) ∧ K ≤ list.length ∧ Hid ((list.take K).foldl (ofStep xs) (some (stayL xs.length, 1)) = some (A, a)) ∧ Hid (MoveOk xs A a) ∧ Hid (MvAt wr w2.heap.size va a) ∧ Hid (OwnM wr (w.heap.size + 1) (some w2.heap.size) va A) ∧ Hid (∀ g, g < w2.heap.size → g ≠ w2.heap.size → wr.heap[g]? = w2.heap[g]?) ∧ Hid (Below w.heap.size w wr) ∧ w2.heap.size < wr.heap.size) (fun si _ => list.length - (intOf si).toNat)
      case atStart => exact ⟨0, _, _, _, rfl, by omega, hid rfl, HOK0, HMV3, HO3, hid (fun g h _ => Below.heap_alloc _ _ _ h), HB3, HS3.out⟩
      case round =>
        obtain ⟨K, A, a, va, rfl, hK, HF, HOK, HMV, HO, HKP, HB, hsz⟩ := hrel
        rename World => wr
        have HXr := hid (HX2.out.at_blocks (fun g h => HKP.out g h (by omega)))
        have hlr := HL2.out.at_blocks (fun g h => HKP.out g h (by omega))
        have hrr := (HKP.out w.heap.size HLT.out (by have := HLT.out; omega)).trans HQ2.out
        have HRR := hid hrr
        by_cases hlt : K < list.length
        · obtain ⟨b, o, u, rfl, hc, hr⟩ := hlr.row hlt
          have HFN := hid (fold_next (xs := xs) (m := some (stayL xs.length, 1)) hlt)
          have HFNO := hid (fun h => fold_none (xs := xs) (list := list) (i := K) (m := some (stayL xs.length, 1)) hlt h)
          obtain ⟨ws, hws⟩ : ∃ ws, ws = list.getD K [] := ⟨_, rfl⟩
          rw [← hws] at hr HFN HFNO
          rw [HF.out] at HFN HFNO
          have HPC := hid (precede_any w2.heap.size _ _ va xs ws A a wr HMV.out HO.out.rd HXr.out hr HOK.out)
          obtain ⟨ar, cr, rfl, _⟩ := hr.form
          have hKi : (K : Int) < (list.length : Int) := by omega
          have HLTK := hid hlt
          obtain ⟨OO, hOO⟩ : ∃ OO, OO = ofStep xs (some (A, a)) ws := ⟨_, rfl⟩
          have hOE : ((mirV xs ws).bind fun M => mulV xs A a M.1 M.2) = OO := by rw [hOO]; rfl
          rw [hOE] at HPC
          rw [← hOO] at HFN HFNO
          have HOKN : Hid (∀ R d, OO = some (R, d) → MoveOk xs R d) := hid (fun R d h => ofstep_ok (hOO.symm.trans h))
          clear hr hws hlt hOO hOE hlr
          go_wp2_with fail
          refine HPC.out.mono ?_
          rintro e w5 ⟨rfl, wy, hby, hw5, hst⟩
          have hbw : Below w.heap.size w w5 := by
            have h1 := HB.out.trans (hby.mono HB.out.size)
            rcases hw5 with rfl | ⟨v0, v1, rfl⟩
            · exact h1
            · exact (h1.setCell (by show w.heap.size ≤ w2.heap.size; have := HLT.out; omega) _).setCell (by show w.heap.size ≤ w2.heap.size; have := HLT.out; omega) _
          have hkp : ∀ g, g < wr.heap.size → g ≠ w2.heap.size → w5.heap[g]? = wr.heap[g]? := fun g h1 h2 => by
            have h3 := hby.block g h1
            rcases hw5 with rfl | ⟨v0, v1, rfl⟩
            · exact h3
            · rw [heap_setCell_other _ _ _ _ h2, heap_setCell_other _ _ _ _ h2]; exact h3
          have hs5 : wr.heap.size ≤ w5.heap.size := by
            rcases hw5 with rfl | ⟨v0, v1, rfl⟩
            · exact hby.size
            · simpa using hby.size
          have HBW := hid hbw
          have HKP5 := hid hkp
          have hq5 := (hkp w.heap.size (by have := HLT.out; omega) (by have := HLT.out; omega)).trans HRR.out
          have HS5 := hid hs5
          cases OO with
          | none =>
            have HE : Hid (ofV xs list = none) := hid (by rw [HE0.out]; exact HFNO.out (.inr rfl))
            have z0 := cellB (i := 0) hq5
            have z1 := cellB (i := 1) hq5
            have y0 := frozenB (i := 0) hq5
            have y1 := frozenB (i := 1) hq5
            clear hbw hkp hs5 hby hw5 hst hq5
            simp only [Option.isSome_none]
            go_wp2_with fail
            refine bodyPost_ret (v := .tuple #[.agg #[.slice none 0 0, .int .i64 0], .bool false]) (by simp [results, Try.results39, go_sem] <;> go_simp) rfl ?_
            rw [HE.out]
            first | exact ⟨_, rfl, ownM_nil _ _ _, HBW.out.alloc HBW.out.size _⟩ | exact ⟨_, rfl, ownM_nil _ _ _, HBW.out⟩ | exact movePost_none HBW.out (Nat.le_refl _) _ _ | exact ⟨_, rfl, ownM_nil _ _ _, ((HBW.out.setCell (Nat.le_refl _) _).setCell (Nat.le_refl _) _).alloc (by simp; exact HBW.out.size) _⟩
          | some p =>
            obtain ⟨R, d⟩ := p
            obtain ⟨u5, hm5, ho5⟩ := hst R d rfl
            have HM5 := hid hm5
            have HO5 := hid (((ho5.exOf (k := w2.heap.size) (.inl hsz))).down (show w.heap.size + 1 ≤ wr.heap.size by have := HLT.out; omega))
            clear hbw hkp hs5 hby hw5 hst hm5 ho5 hq5
            simp only [Option.isSome_some]
            go_wp2_with fail
            go_roundw
            case measure => simp only [intOf]; have := HLTK.out; omega
            case rel => exact ⟨K + 1, R, d, u5, by go_num, HLTK.out, HFN, hid (HOKN.out R d rfl), HM5, HO5, hid (fun g h1 h2 => (HKP5.out g (by omega) h2).trans (HKP.out g h1 h2)), HBW, by have := HS5.out; omega⟩
        · obtain rfl : K = list.length := by omega
          have HE : Hid (ofV xs list = some (A, a)) := hid (by rw [HE0.out, ← HF.out, List.take_length])
          obtain ⟨av, cv, rfl⟩ := HO.out.rd.form
          have t0 := cellB (i := 0) HMV.out
          have t1 := cellB (i := 1) HMV.out
          have z0 := cellB (i := 0) hrr
          have z1 := cellB (i := 1) hrr
          have y0 := frozenB (i := 0) hrr
          have y1 := frozenB (i := 1) hrr
          clear hlt hlr hrr
          go_wp2_with fail
          refine bodyPost_ret (v := .tuple #[.agg #[.slice av A.length cv, .int .i64 a], .bool true]) (by simp [results, Try.results39, go_sem] <;> go_simp) rfl ?_
          rw [HE.out]
          exact movePost_o HO.out.free HB.out (Nat.le_refl _) (Nat.lt_succ_self _) _ _ ⟨rfl, rfl, rfl⟩
    · have HE : Hid (ofV xs list = none) := hid (of_no (by rw [hf, decide_eq_false (by omega)]; rfl))
      clear hf hf2
      go_enter Try.func39, Try.ntmps39
      go_wp2_with fail
      refine HST.out.mono ?_
      rintro e w2 ⟨u, rfl, ho, hb2⟩
      simp only [Option.elim_some, Option.isSome_some] at ho ⊢
      obtain ⟨au, cu, rfl⟩ := ho.rd.form
      have hq := heap_below hb2 HR0.out
      have z0 := cellB (i := 0) hq
      have z1 := cellB (i := 1) hq
      have y0 := frozenB (i := 0) hq
      have y1 := frozenB (i := 1) hq
      have HB2 := hid (HB0.out.trans (hb2.mono HB0.out.size))
      have hlt := (Array.getElem?_eq_some_iff.1 hq).1
      clear ho hb2 hq
      go_wp2_with fail
      refine bodyPost_ret (v := .tuple #[.agg #[.slice none 0 0, .int .i64 0], .bool false]) (by simp [results, Try.results39, go_sem] <;> go_simp) rfl ?_
      rw [HE.out]
      first | exact ⟨_, rfl, ownM_nil _ _ _, HB2.out.alloc HB2.out.size _⟩ | exact ⟨_, rfl, ownM_nil _ _ _, HB2.out⟩ | exact movePost_none HB2.out (Nat.le_refl _) _ _ | exact ⟨_, rfl, ownM_nil _ _ _, ((HB2.out.setCell (Nat.le_refl _) _).setCell (Nat.le_refl _) _).alloc (by simp; exact HB2.out.size) _⟩

end Go.Proofs.Ytacjejnbomdhbab

set_option linter.unusedVariables false
namespace Go.Proofs.Ytacjejnbomdhbab
open Go.RowKit Go.Shelf

set_option maxRecDepth 100000 in
set_option maxHeartbeats 1000000 in
theorem slEq_any (va vb : Value) (X Y : List Int) (w3 : World) (hx : Rd w3 va X) (hy : Rd w3 vb Y) (hl1 : X.length ≤ 1000000000002) (hl2 : Y.length ≤ 1000000000002) :
    Calls Try.prog 97 #[va, vb] w3 fun e w' => e = .returned (.bool (decide (X = Y))) ∧ ∃ k, w' = w3.drewN k := by
  obtain ⟨ax, cx, rfl, hfx⟩ := hx.form
  obtain ⟨ay, cy, rfl, hfy⟩ := hy.form
  have HFX := hid hfx
  have HFY := hid hfy
  clear hfx hfy hx hy
  by_cases hl : X.length = Y.length
  · have T : ((X.length : Int) != (Y.length : Int)) = false := by rw [bne_eq_false_iff_eq]; omega
    have HL := hid hl
    clear hl
    go_enter Try.func97, Try.ntmps97
    go_wp2
    go_loopw [13] (fun si wr => ∃ K k : Nat, si = .int .i64 K ∧ K ≤ X.length ∧ Hid (∀ j, j < K → X.getD j 0 = Y.getD j 0) ∧ wr = w3.drewN k) (fun si _ => X.length - (intOf si).toNat)
    case atStart => exact ⟨0, 0, rfl, by omega, hid (fun j hj => absurd hj (by omega)), rfl⟩
    case round =>
      obtain ⟨K, k, rfl, hK, HE, rfl⟩ := hrel
      by_cases hlt : K < X.length
      · obtain ⟨b1, o1, rfl, m1, hc1⟩ := HFX.out (by omega)
        obtain ⟨b2, o2, rfl, m2, hc2⟩ := HFY.out (by have := HL.out; omega)
        obtain ⟨x, hx⟩ : ∃ x, x = X.getD K 0 := ⟨_, rfl⟩
        obtain ⟨y, hy⟩ : ∃ y, y = Y.getD K 0 := ⟨_, rfl⟩
        have c1 := hc1 K hlt
        have c2 := hc2 K (by have := HL.out; omega)
        rw [← hx] at c1
        rw [← hy] at c2
        have Hx := hid hx
        have Hy := hid hy
        have hi : (K : Int) < (X.length : Int) := by omega
        have hi2 : (K : Int) < (Y.length : Int) := by have := HL.out; omega
        unfold maxLen at m1 m2
        clear hc1 hc2 hx hy
        by_cases hxy : x = y
        · have T2 : (x != y) = false := by rw [bne_eq_false_iff_eq]; exact hxy
          have HXY := hid hxy
          clear hxy
          go_wp2
          go_quiet (fail)
          go_wp2
          go_roundw
          case rel => exact ⟨K + 1, _, by go_num, by omega, hid (by intro j hj; by_cases e : j = K; (· rw [e, ← Hx.out, ← Hy.out, HXY.out]); (· exact HE.out j (by omega))), by first | rfl | exact World.drewN_drewN ..⟩
          case measure => simp only [intOf]; omega
        · have T2 : (x != y) = true := by rw [bne_iff_ne]; exact hxy
          have HXY := hid hxy
          have HF : Hid (decide (X = Y) = false) := hid (decide_eq_false (fun e => HXY.out (by rw [Hx.out, Hy.out, e])))
          clear hxy
          go_wp2
          go_quiet (fail)
          go_wp2
          go_ret
          exact ⟨retB HF.out.symm, by first | exact ⟨_, rfl⟩ | (rw [World.drewN_drewN]; exact ⟨_, rfl⟩)⟩
      · obtain rfl : K = X.length := by omega
        have HT : Hid (decide (X = Y) = true) := hid (by
          refine decide_eq_true (List.ext_getElem HL.out fun j h1 h2 => ?_)
          have := HE.out j h1
          rw [getD_at _ _ h1, getD_at _ _ h2] at this
          exact this)
        clear hlt
        go_wp2
        go_ret
        exact ⟨retB HT.out.symm, ⟨k, rfl⟩⟩
  · have T : ((X.length : Int) != (Y.length : Int)) = true := by rw [bne_iff_ne]; omega
    have HF : Hid (decide (X = Y) = false) := hid (decide_eq_false (fun e => hl (by rw [e])))
    clear hl
    go_enter Try.func97, Try.ntmps97
    go_wp2
    go_ret
    exact ⟨retB HF.out.symm, ⟨0, rfl⟩⟩

end Go.Proofs.Ytacjejnbomdhbab

set_option linter.unusedVariables false
namespace Go.Proofs.Ytacjejnbomdhbab
open Go.RowKit

theorem termW7 {x v u : Int} (h1 : -30 ≤ x) (h2 : x ≤ 30) (h3 : -2000000 ≤ v) (h4 : v ≤ 2000000) (h5 : -2000000 ≤ u) (h6 : u ≤ 2000000) : -60000000 ≤ x * v ∧ x * v ≤ 60000000 ∧ -120000000000000 ≤ x * v * u ∧ x * v * u ≤ 120000000000000 := by
  have e1 : (x * v).natAbs ≤ 30 * 2000000 := by rw [Int.natAbs_mul]; exact Nat.mul_le_mul (by omega) (by omega)
  have e2 : (x * v * u).natAbs ≤ 30 * 2000000 * 2000000 := by rw [Int.natAbs_mul]; exact Nat.mul_le_mul e1 (by omega)
  omega
theorem pairW_bd {xs vs ws : List Int} (h : fvB xs = true) (hv : ∀ v ∈ vs, -2000000 ≤ v ∧ v ≤ 2000000) (hw : ∀ v ∈ ws, -2000000 ≤ v ∧ v ≤ 2000000) (hl : vs.length = xs.length) (hl2 : ws.length = xs.length) : ∀ i, i ≤ xs.length → -120000000000000 * (i : Int) ≤ pairI xs vs ws i ∧ pairI xs vs ws i ≤ 120000000000000 * (i : Int)
  | 0, _ => by simp [pairI]
  | i + 1, hi => by
    have ih := pairW_bd h hv hw hl hl2 i (by omega)
    have ht := fv_at h (show i < xs.length by omega)
    have hvv := hv (vs.getD i 0) (by rw [getD_at _ _ (by omega)]; exact List.getElem_mem _)
    have hww := hw (ws.getD i 0) (by rw [getD_at _ _ (by omega)]; exact List.getElem_mem _)
    have hb := termW7 ht.2.1 ht.2.2 hvv.1 hvv.2 hww.1 hww.2
    unfold pairI
    push_cast
    omega
theorem grow_two {W W' : World} {B : Nat} {v v' u : Value} {ys : List Int} {o : Obj} (hu : Owns W B u ys) (hne : ∀ k, u.ownBlock = some k → v.ownBlock ≠ some k) (hg : (W.alloc o).grownBy W' v.ownBlock) (hat : v'.ownBlock = v.ownBlock ∨ v'.ownBlock = some (W.alloc o).heap.size) : Owns W' B u ys ∧ ∀ k, u.ownBlock = some k → v'.ownBlock ≠ some k := by
  refine ⟨hu.at_block fun k e => (hg.block k (by simp; have := hu.lt k e; omega) (fun e2 => hne k e e2.symm)).trans (Below.heap_alloc _ _ _ (hu.lt k e)), fun k e e2 => ?_⟩
  rcases hat with h | h
  · exact hne k e (h.symm.trans e2)
  · rw [h] at e2
    have := hu.lt k e
    simp at e2
    omega
theorem owns_made (W : World) {B : Nat} (h : B ≤ W.heap.size) : Owns (W.alloc (.cells #[] 3)) B (.slice (some ⟨W.heap.size, 0, none⟩) 0 0) [] := World.ownsRow_made (size := 1) W #[] 0 h (by unfold maxLen; omega) rfl
theorem rd_cellsAt {w : World} {b o n cap : Nat} {xs : List Int} (h : Rd w (.slice (some ⟨b, o, none⟩) n cap) xs) {i : Nat} (hi : i < xs.length) : w.cell? ⟨b, o + i, none⟩ = some (.int .i64 (xs.getD i 0)) := by
  obtain ⟨a, c, e, hf⟩ := h.form
  simp only [Value.slice.injEq] at e
  obtain ⟨rfl, _, _⟩ := e
  obtain ⟨b2, o2, e2, _, hc⟩ := hf (by omega)
  simp only [Option.some.injEq, Addr.mk.injEq, and_true] at e2
  obtain ⟨rfl, rfl⟩ := e2
  exact hc i hi
theorem rd_some {w : World} {a : Option Addr} {n cap : Nat} {xs : List Int} (h : Rd w (.slice a n cap) xs) (hl : 0 < xs.length) : ∃ b o, a = some ⟨b, o, none⟩ := by
  obtain ⟨a2, c, e, hf⟩ := h.form
  simp only [Value.slice.injEq] at e
  obtain ⟨rfl, _, _⟩ := e
  obtain ⟨b2, o2, e2, _⟩ := hf hl
  exact ⟨b2, o2, e2⟩
theorem app_fact {w wr w3 : World} {pre ys : List Int} {x : Int} {v v' u : Value} {o : Obj} (hO : Owns wr w.heap.size v pre) (hB : Below w.heap.size w wr) (hu : Owns wr w.heap.size u ys) (hne : ∀ k, u.ownBlock = some k → v.ownBlock ≠ some k)
    (hown : World.ownsRow w3 w.heap.size 3 1 v' (pre.length + 1) (pre.map (Value.int .i64) ++ [.int .i64 x])) (hg : (wr.alloc o).grownBy w3 v.ownBlock) (hat : v'.ownBlock = v.ownBlock ∨ v'.ownBlock = some (wr.alloc o).heap.size) :
    Owns w3 w.heap.size v' (pre ++ [x]) ∧ Below w.heap.size w w3 ∧ Owns w3 w.heap.size u ys ∧ ∀ k, u.ownBlock = some k → v'.ownBlock ≠ some k := by
  refine ⟨?_, (hB.alloc hB.size _).grown hg (by simp; have := hB.size; omega) (fun k e => hO.ge k e), grow_two hu hne hg hat⟩
  unfold Owns
  simpa using hown
theorem diff_eq {us vs : List Int} {n : Nat} (hl : us.length = n) (hl2 : vs.length = n) : (us = vs) ↔ someB (diffL us vs 1 n) = false := by
  constructor
  · rintro rfl
    cases h : someB (diffL us us 1 n) with
    | false => rfl
    | true =>
      obtain ⟨v, hv, h0⟩ := someB_iff.1 h
      unfold diffL rowL at hv
      rw [List.mem_map] at hv
      obtain ⟨i, _, rfl⟩ := hv
      omega
  · intro h
    refine list_ext hl hl2 fun i hi => ?_
    have e := someB_no h (i := i)
    rw [diff_at hi] at e
    omega

set_option maxRecDepth 100000 in
set_option maxHeartbeats 1000000 in
theorem pairAtW_any (vf vv vw : Value) (xs vs ws : List Int) (w : World) (hx : Rd w vf xs) (hv : Rd w vv vs) (hw : Rd w vw ws) (hf : fvB xs = true) (bv : ∀ v ∈ vs, -2000000 ≤ v ∧ v ≤ 2000000) (bw : ∀ v ∈ ws, -2000000 ≤ v ∧ v ≤ 2000000) (hl : vs.length = xs.length) (hl2 : ws.length = xs.length) :
    Calls Try.prog 58 #[vf, vv, vw] w fun e w' => e = .returned (.int .i64 (pairI xs vs ws xs.length)) ∧ ∃ k, w' = w.drewN k := by
  obtain ⟨a, cap, rfl, hform⟩ := hx.form
  obtain ⟨a', cap', rfl, hform'⟩ := hv.form
  obtain ⟨a3, cap3, rfl, hform3⟩ := hw.form
  have HFM := hid hform
  have HFV := hid hform'
  have HFW := hid hform3
  have HF := hid hf
  have HVB := hid bv
  have HWB := hid bw
  have HL := hid hl
  have HL2 := hid hl2
  have hl4 := (fvB_iff.1 hf).2.2
  clear hform hform' hform3 hx hv hw hf bv bw hl hl2
  go_enter Try.func58, Try.ntmps58
  go_wp2_with fail
  go_loopw [7, 12] (fun so si wr => ∃ K k : Nat, si = .int .i64 K ∧ K ≤ xs.length ∧ so = .int .i64 (pairI xs vs ws K) ∧ wr = w.drewN k) (fun _ si _ => xs.length - (intOf si).toNat)
  case atStart => exact ⟨0, 0, rfl, by omega, rfl, rfl⟩
  case round =>
    obtain ⟨K, k, rfl, hK, rfl, rfl⟩ := hrel
    by_cases hlt : K < xs.length
    · obtain ⟨b, o, rfl, hml, hc⟩ := HFM.out (by omega)
      obtain ⟨b', o', rfl, hml', hc'⟩ := HFV.out (by have := HL.out; omega)
      obtain ⟨b3, o3, rfl, hml3, hc3⟩ := HFW.out (by have := HL2.out; omega)
      have hcell := hc K hlt
      have hcell' := hc' K (by have := HL.out; omega)
      have hcell3 := hc3 K (by have := HL2.out; omega)
      have ht := fv_at HF.out hlt
      have hv1 := HVB.out (vs.getD K 0) (by rw [getD_at _ _ (by have := HL.out; omega)]; exact List.getElem_mem _)
      have hw1 := HWB.out (ws.getD K 0) (by rw [getD_at _ _ (by have := HL2.out; omega)]; exact List.getElem_mem _)
      have hbd := termW7 ht.2.1 ht.2.2 hv1.1 hv1.2 hw1.1 hw1.2
      have hvb := pairW_bd HF.out HVB.out HWB.out HL.out HL2.out K (by omega)
      have hst : pairI xs vs ws (K + 1) = pairI xs vs ws K + xs.getD K 0 * vs.getD K 0 * ws.getD K 0 := rfl
      obtain ⟨x, hx⟩ : ∃ x, x = xs.getD K 0 := ⟨_, rfl⟩
      obtain ⟨y, hy⟩ : ∃ y, y = vs.getD K 0 := ⟨_, rfl⟩
      obtain ⟨z, hz⟩ : ∃ z, z = ws.getD K 0 := ⟨_, rfl⟩
      obtain ⟨s, hs⟩ : ∃ s, s = pairI xs vs ws K := ⟨_, rfl⟩
      rw [← hx] at hcell hst hbd
      rw [← hy] at hcell' hst hbd
      rw [← hz] at hcell3 hst hbd
      rw [← hs] at hst hvb ⊢
      have hKi : (K : Int) < (xs.length : Int) := by omega
      have hKj : (K : Int) < (vs.length : Int) := by have := HL.out; omega
      have hKl : (K : Int) < (ws.length : Int) := by have := HL2.out; omega
      have HLT := hid hlt
      have HST := hid hst
      have b1 := hbd.1
      have b2 := hbd.2.1
      have b3' := hbd.2.2.1
      have b4 := hbd.2.2.2
      have s1 := hvb.1
      have s2 := hvb.2
      clear hx hy hz hs hc hc' hc3 hml hml' hml3 hlt hbd hvb hst ht hv1 hw1
      go_wp2_with fail
      go_quiet (fail)
      go_wp2_with fail
      go_roundw
      case measure => simp only [intOf]; have := HLT.out; omega
      case rel => exact ⟨K + 1, _, by go_num, by have := HLT.out; omega, vI HST.out.symm, by first | rfl | exact World.drewN_drewN ..⟩
    · obtain rfl : K = xs.length := by omega
      clear hlt
      go_wp2_with fail
      go_ret
      exact ⟨rfl, k, rfl⟩

def HandPost (R : List (List Int)) (w : World) (e : Ending) (w' : World) : Prop := ∃ u, e = .returned u ∧ OwnM w' w.heap.size none u R ∧ Below w.heap.size w w'
set_option maxRecDepth 100000 in
set_option maxHeartbeats 8000000 in
theorem between_any (vf vu vv : Value) (xs us vs : List Int) (w : World) (hx : Rd w vf xs) (hu : Rd w vu us) (hv : Rd w vv vs) (hf : frm3B xs = true) (hub : ∀ v ∈ us, -1000000 ≤ v ∧ v ≤ 1000000) (hvb : ∀ v ∈ vs, -1000000 ≤ v ∧ v ≤ 1000000) (hul : us.length = xs.length) (hvl : vs.length = xs.length)
    (hS : valI xs (diffL us vs 1 xs.length) xs.length = 0 → ∃ v ∈ diffL us vs (-1) xs.length, v ≠ 0) (hV : ∃ v ∈ vs, v ≠ 0) : Calls Try.prog 78 #[vf, vu, vv] w (HandPost (carryL xs us vs) w) := by
  obtain ⟨i0, hi0, hz0, hz1, hz2⟩ := info_parts infoInt
  obtain ⟨ax, cx, rfl, _⟩ := hx.form
  obtain ⟨au, cu, rfl, _⟩ := hu.form
  obtain ⟨av, cv, rfl, _⟩ := hv.form
  obtain ⟨n, hn⟩ : ∃ n, n = xs.length := ⟨_, rfl⟩
  have HX := hid hx
  have HU := hid hu
  have HV := hid hv
  have hfv : fvB xs = true := by unfold frm3B at hf; rw [Bool.and_eq_true] at hf; exact hf.1
  have hn3 : n ≤ 3 := by unfold frm3B at hf; rw [Bool.and_eq_true, decide_eq_true_eq, ← hn] at hf; exact hf.2
  have hn1 : 1 ≤ n := by rw [hn]; exact (fvB_iff.1 hfv).2.1
  have HEQ : Hid (Calls Try.prog 97 #[.slice au us.length cu, .slice av vs.length cv] w fun e w' => e = .returned (.bool (decide (us = vs))) ∧ Below w.heap.size w w') := hid ((slEq_any _ _ us vs w hu hv (by omega) (by omega)).mono (by rintro e w' ⟨rfl, k, rfl⟩; exact ⟨rfl, below_drewN (Below.refl _ _) k⟩))
  have HCL : Hid (carryL xs us vs = if someB (diffL us vs 1 n) = false then [] else if valI xs (diffL us vs 1 n) n = 0 then [plainL (diffL us vs (-1) n), plainL vs] else [plainL (diffL us vs 1 n)]) := hid (by rw [hn]; rfl)
  rw [hul, ← hn] at HU HEQ
  rw [hvl, ← hn] at HV HEQ
  rw [← hn] at HX hul hvl hS
  have hde := diff_eq hul hvl
  have HBU := hid (fF_bd (by omega) hub)
  have HBV := hid (fF_bd (by omega) hvb)
  have HDB := hid (diff_bd (n := n) (c := 1) (by omega) (.inl rfl) hub hvb)
  have HSB := hid (diff_bd (n := n) (c := -1) (by omega) (.inr rfl) hub hvb)
  have HVB := hid hvb
  have HFV := hid hfv
  have HS2 := hid hS
  have HS3 := hid hV
  have HVL := hid hvl
  have HUL := hid hul
  have HNX := hid hn
  rw [hul, hvl]
  rw [← hn]
  clear hx hu hv hf hub hvb hS hV hfv
  by_cases he : us = vs
  · have HE : Hid (carryL xs us vs = []) := hid (by rw [HCL.out, if_pos (hde.1 he)])
    rw [decide_eq_true he] at HEQ
    clear he hde hul hvl hn
    go_enter Try.func78, Try.ntmps78
    go_wp2_with fail
    refine HEQ.out.mono ?_
    rintro e w1 ⟨rfl, hb1⟩
    have HB1 := hid hb1
    clear hb1
    go_wp2_with fail
    go_ret
    exact ⟨_, rfl, by rw [HE.out]; exact (ownM_none _ none (by simp)).down HB1.out.size, HB1.out.alloc HB1.out.size _⟩
  · have hds : someB (diffL us vs 1 n) = true := by
      cases h : someB (diffL us vs 1 n) with
      | true => rfl
      | false => exact absurd (hde.2 h) he
    have HDS := hid (someB_iff.1 hds)
    have HCL2 : Hid (carryL xs us vs = if valI xs (diffL us vs 1 n) n = 0 then [plainL (diffL us vs (-1) n), plainL vs] else [plainL (diffL us vs 1 n)]) := hid (by rw [HCL.out, if_neg (by rw [hds]; simp)])
    rw [decide_eq_false he] at HEQ
    clear he hde hul hvl hn hds
    go_enter Try.func78, Try.ntmps78
    go_wp2_with fail
    refine HEQ.out.mono ?_
    rintro e w1 ⟨rfl, hb1⟩
    have HB1 := hid hb1
    have HB12 : Hid (Below w.heap.size w ((w1.alloc (.cells #[] 3)).alloc (.cells #[] 3))) := hid ((hb1.alloc hb1.size _).alloc (by simp; have := hb1.size; omega) _)
    have HD0 : Hid (Owns ((w1.alloc (.cells #[] 3)).alloc (.cells #[] 3)) w.heap.size (.slice (some ⟨w1.heap.size, 0, none⟩) 0 0) []) := hid ((show Owns (w1.alloc (.cells #[] 3)) w.heap.size _ [] from World.ownsRow_made (size := 1) w1 #[] 0 hb1.size (by unfold maxLen; omega) rfl).at_block fun g e => Below.heap_alloc _ _ _ (by cases e; simp))
    have HS0 : Hid (Owns ((w1.alloc (.cells #[] 3)).alloc (.cells #[] 3)) w.heap.size (.slice (some ⟨w1.heap.size + 1, 0, none⟩) 0 0) []) := hid (by
      have h := owns_made (w1.alloc (.cells #[] 3)) (B := w.heap.size) (by simp; have := hb1.size; omega)
      simpa using h)
    obtain ⟨bu, ou, rfl⟩ := rd_some HU.out (by rw [HUL.out]; omega)
    obtain ⟨bv, ov, rfl⟩ := rd_some HV.out (by rw [HVL.out]; omega)
    clear hb1
    go_wp2_with fail
    go_loopw [7, 8, 19] (fun sd ss si wr => ∃ i : Nat, si = .int .i64 i ∧ i ≤ n ∧ Hid (Owns wr w.heap.size sd ((diffL us vs 1 n).take i)) ∧ Hid (Owns wr w.heap.size ss ((diffL us vs (-1) n).take i)) ∧ Hid (∀ k, ss.ownBlock = some k → sd.ownBlock ≠ some k) ∧ Hid (Below w.heap.size w wr)) (fun _ _ si _ => n - (intOf si).toNat)
    case atStart => exact ⟨0, rfl, by omega, hid (by simpa using HD0.out), hid (by simpa using HS0.out), hid (fun k e e2 => by cases e; simp [Value.ownBlock] at e2), HB12⟩
    case round =>
      obtain ⟨i, rfl, hi, HO, HP, HNE, HBW⟩ := hrel
      rename World => wr
      by_cases hlt : i < n
      · have e1 := rd_cellsAt (HU.out.keep HBW.out) (i := i) (by rw [HUL.out]; exact hlt)
        have e2 := rd_cellsAt (HV.out.keep HBW.out) (i := i) (by rw [HVL.out]; exact hlt)
        have b1 := HBU.out i
        have b2 := HBV.out i
        have HTK := hid (rowL_take n (fun r => fF us r - 1 * fF vs r) hlt)
        have HTS := hid (rowL_take n (fun r => fF us r - -1 * fF vs r) hlt)
        have HV3 := hid (fun (w3 : World) (hb : Below w.heap.size w w3) => rd_cellsAt (HV.out.keep hb) (i := i) (by rw [HVL.out]; exact hlt))
        have h1 : fF us i = us.getD i 0 := rfl
        have h2 : fF vs i = vs.getD i 0 := rfl
        rw [h1] at b1
        rw [h2] at b2
        simp only [h1, h2] at HTK HTS
        obtain ⟨x, hxe⟩ : ∃ x, x = us.getD i 0 := ⟨_, rfl⟩
        obtain ⟨y, hye⟩ : ∃ y, y = vs.getD i 0 := ⟨_, rfl⟩
        rw [← hxe] at e1 b1 HTK HTS
        rw [← hye] at e2 b2 HTK HTS HV3
        rw [show x - 1 * y = x - y by omega] at HTK
        rw [show x - -1 * y = x + y by omega] at HTS
        have f1 := wrapW (x := x - y) (by omega) (by omega)
        have f2 := wrapW (x := x + y) (by omega) (by omega)
        obtain ⟨pre, hpre⟩ : ∃ pre, pre = (diffL us vs 1 n).take i := ⟨_, rfl⟩
        obtain ⟨prs, hprs⟩ : ∃ prs, prs = (diffL us vs (-1) n).take i := ⟨_, rfl⟩
        have hprel : pre.length ≤ 4 := by rw [hpre, List.length_take]; unfold diffL; rw [row_len]; omega
        have hprsl : prs.length ≤ 4 := by rw [hprs, List.length_take]; unfold diffL; rw [row_len]; omega
        have HTK2 : Hid ((diffL us vs 1 n).take (i + 1) = pre ++ [x - y]) := hid (by rw [hpre]; exact HTK.out)
        have HTS2 : Hid ((diffL us vs (-1) n).take (i + 1) = prs ++ [x + y]) := hid (by rw [hprs]; exact HTS.out)
        rw [← hpre] at HO
        rw [← hprs] at HP
        have hin : (i : Int) < (n : Int) := by omega
        have HLT := hid hlt
        have hbs : w.heap.size ≤ wr.heap.size := HBW.out.size
        have HF1 := hid (fun (v' : Value) (w3 : World) hown hg hat => app_fact (w := w) (wr := wr) (w3 := w3) (v' := v') (x := x - y) (o := .cells #[.int .i64 (x - y)] 3) HO.out HBW.out HP.out HNE.out hown hg hat)
        have HF2M := hid (fun (va : Value) (w3 : World) (ho : Owns w3 w.heap.size va (pre ++ [x - y])) (hb : Below w.heap.size w w3) (hp : Owns w3 w.heap.size u8 prs) (hne : ∀ k, u8.ownBlock = some k → va.ownBlock ≠ some k) (v' : Value) (w4 : World) hown hg hat => app_fact (w := w) (wr := w3) (w3 := w4) (v' := v') (x := x + y) (o := .cells #[.int .i64 (x + y)] 3) hp hb ho (fun k e e2 => hne k e2 e) hown hg hat)
        have hi := hi0
        clear hxe hye h1 h2 hpre hprs HTK HTS hlt
        go_wp2_with (first | (at_builtin; refine wpList_append_own_at _ rfl _ _ 22 rfl w.heap.size 3 i0 (.int .i64 0) 1 8 Try.underlying22 hi hz0 hz1 hz2 rfl (by decide) _ _ _ rfl ((show World.ownsRow _ _ _ _ _ _ _ from HP3.out).alloc _) ⟨w3.heap.size, 0, none⟩ 1 1 [.int .i64 (x + y)] rfl rfl (cell_one_new _ _ _) (by simp [Value.oneCell']) (by unfold maxLen; omega) (by omega) (by simp; omega) ?_; intro v2 w4 hown2 hgrow2 _ hat2; obtain ⟨ho4, hb4, hp4, hne4⟩ := HF2.out _ _ hown2 hgrow2 hat2; have HO4 := hid ho4; have HB4 := hid hb4; have HP4 := hid hp4; have HNE4 := hid hne4; clear ho4 hb4 hp4 hne4 hown2 hgrow2 hat2 e3) | (at_builtin; refine wpList_append_own_at _ rfl _ _ 22 rfl w.heap.size 3 i0 (.int .i64 0) 1 8 Try.underlying22 hi hz0 hz1 hz2 rfl (by decide) _ _ _ rfl ((show World.ownsRow _ _ _ _ _ _ _ from HO.out).alloc _) ⟨wr.heap.size, 0, none⟩ 1 1 [.int .i64 (x - y)] rfl rfl (cell_one_new _ _ _) (by simp [Value.oneCell']) (by unfold maxLen; omega) (by omega) (by simp; omega) ?_; intro v' w3 hown' hgrow _ hat; obtain ⟨ho3, hb3, hp3, hne3⟩ := HF1.out _ _ hown' hgrow hat; have HO3 := hid ho3; have HB3 := hid hb3; have HP3 := hid hp3; have HNE3 := hid hne3; have HF2 := hid (HF2M.out v' w3 ho3 hb3 hp3 hne3); have e3 := HV3.out _ hb3; have hbs3 : w.heap.size ≤ w3.heap.size := hb3.size; clear ho3 hb3 hp3 hne3 hown' hgrow hat e1 e2))
        go_roundw
        case measure => simp only [intOf]; have := HLT.out; omega
        case rel => exact ⟨i + 1, by go_num, HLT.out, hid (by rw [HTK2.out]; exact HP4.out), hid (by rw [HTS2.out]; exact HO4.out), hid (fun k e e2 => HNE4.out k e2 e), HB4⟩
      · obtain rfl : i = n := by omega
        have ED : (diffL us vs 1 i).take i = diffL us vs 1 i := List.take_of_length_le (by unfold diffL; rw [row_len]; exact Nat.le_refl _)
        have ES : (diffL us vs (-1) i).take i = diffL us vs (-1) i := List.take_of_length_le (by unfold diffL; rw [row_len]; exact Nat.le_refl _)
        have LD : (diffL us vs 1 i).length = i := by unfold diffL; rw [row_len]
        have LS : (diffL us vs (-1) i).length = i := by unfold diffL; rw [row_len]
        rw [ED] at HO
        rw [ES] at HP
        have hdv := pairW_bd (xs := xs) HFV.out HDB.out HDB.out (by rw [LD, HNX.out]) (by rw [LD, HNX.out]) i (by rw [HNX.out]; exact Nat.le_refl _)
        rw [pair_self] at hdv
        have HXr := hid (HX.out.keep HBW.out)
        have HPA : Hid (Calls Try.prog 58 #[.slice ax i cx, u7, u7] wr fun e w' => e = .returned (.int .i64 (valI xs (diffL us vs 1 i) i)) ∧ Below wr.heap.size wr w') := hid (by
          have h := pairAtW_any _ _ _ xs _ _ wr HXr.out HO.out.rd HO.out.rd HFV.out HDB.out HDB.out (by rw [LD, HNX.out]) (by rw [LD, HNX.out])
          refine h.mono ?_
          rintro e w' ⟨rfl, k, rfl⟩
          exact ⟨by rw [pair_self, ← HNX.out], below_drewN (Below.refl _ _) k⟩)
        have HPD := hid (fun (wx : World) (h : Rd wx u7 (diffL us vs 1 i)) => plainOfW_any _ _ wx h (by rw [LD]; omega) (fun v hv => by have := HDB.out v hv; omega) HDS.out)
        have HPV := hid (fun (wx : World) (h : Rd wx (.slice (some ⟨bv, ov, none⟩) i cv) vs) => plainOfW_any _ _ wx h (by rw [HVL.out]; omega) (fun v hv => by have := HVB.out v hv; omega) HS3.out)
        have HPS := hid (fun (h0 : valI xs (diffL us vs 1 i) i = 0) (wx : World) (h : Rd wx u8 (diffL us vs (-1) i)) => plainOfW_any _ _ wx h (by rw [LS]; omega) (fun v hv => by have := HSB.out v hv; omega) (HS2.out h0))
        obtain ⟨a7, c7, rfl⟩ := HO.out.reads
        obtain ⟨a8, c8, rfl⟩ := HP.out.reads
        obtain ⟨D, hD⟩ : ∃ D, D = diffL us vs 1 i := ⟨_, rfl⟩
        obtain ⟨S, hS⟩ : ∃ S, S = diffL us vs (-1) i := ⟨_, rfl⟩
        obtain ⟨q, hq⟩ : ∃ q, q = valI xs D i := ⟨_, rfl⟩
        rw [← hD, ← hS]
        rw [← hD] at HO HCL2 HPD
        rw [← hD] at HPA HPS hdv
        rw [← hS] at HP HCL2 HPS
        rw [← hq] at hdv HCL2 HPS HPA
        clear hD hS hq ED ES LD LS hlt
        by_cases h0 : q = 0
        · subst h0
          have HPS2 := hid (HPS.out rfl)
          have HE : Hid (carryL xs us vs = [plainL S, plainL vs]) := hid (by rw [HCL2.out, if_pos rfl])
          go_wp2_with fail
          refine HPA.out.mono ?_
          rintro e w6 ⟨rfl, hb6⟩
          have HB6 := hid (HBW.out.trans (hb6.mono HBW.out.size))
          have HP6 := hid (HP.out.keep HP.out.lt hb6)
          clear hb6
          go_wp2_with fail
          refine (HPS2.out _ HP6.out.rd).mono ?_
          rintro e w7 ⟨u, rfl, ho7, hb7⟩
          have HB7 := hid (HB6.out.trans (hb7.mono HB6.out.size))
          have HO7 := hid ho7
          have HV7 := hid (HV.out.keep HB7.out)
          clear ho7 hb7
          go_wp2_with fail
          trace_state
          refine (HPV.out _ HV7.out).mono ?_
          rintro e w8 ⟨u9, rfl, ho9, hb9⟩
          have HB8 := hid (HB7.out.trans (hb9.mono HB7.out.size))
          have HL := hid (ownM_lit2 ((HO7.out.keep HO7.out.lt hb9).down (B := w.heap.size) HB6.out.size) (ho9.down (B := w.heap.size) HB7.out.size) (fun k e e2 => by have h1 := HO7.out.lt k e; have h2 := ho9.ge k e2; omega) HB8.out.size)
          obtain ⟨ay, cy, rfl⟩ := HO7.out.reads
          obtain ⟨az, cz, rfl⟩ := ho9.reads
          clear ho9 hb9
          go_wp2_with fail
          go_ret
          exact ⟨_, rfl, by rw [HE.out]; exact HL.out, HB8.out.alloc HB8.out.size _⟩
        · have Q0 : (q != 0) = true := by rw [bne_iff_ne]; exact h0
          have HE : Hid (carryL xs us vs = [plainL D]) := hid (by rw [HCL2.out, if_neg h0])
          clear h0
          go_wp2_with fail
          refine HPA.out.mono ?_
          rintro e w6 ⟨rfl, hb6⟩
          have HB6 := hid (HBW.out.trans (hb6.mono HBW.out.size))
          have HO6 := hid (HO.out.keep HO.out.lt hb6)
          clear hb6
          go_wp2_with fail
          refine (HPD.out _ HO6.out.rd).mono ?_
          rintro e w7 ⟨u, rfl, ho7, hb7⟩
          have HB7 := hid (HB6.out.trans (hb7.mono HB6.out.size))
          have HL := hid (ownM_lit1 (ho7.down (B := w.heap.size) HB6.out.size) HB7.out.size)
          obtain ⟨ay, cy, rfl⟩ := ho7.reads
          clear ho7 hb7
          go_wp2_with fail
          go_ret
          exact ⟨_, rfl, by rw [HE.out]; exact HL.out, HB7.out.alloc HB7.out.size _⟩

end Go.Proofs.Ytacjejnbomdhbab

set_option linter.unusedVariables false
namespace Go.Proofs.Ytacjejnbomdhbab
open Go.RowKit

set_option maxRecDepth 100000 in
set_option maxHeartbeats 8000000 in
theorem moveCarry_any (vf vu vv : Value) (xs us vs : List Int) (w : World) (hx : Rd w vf xs) (hu : Rd w vu us) (hv : Rd w vv vs) : Calls Try.prog 46 #[vf, vu, vv] w (ListPost (carryOk xs us vs) (if carryOk xs us vs then carryL xs us vs else []) w) := by
  obtain ⟨ax, cx, rfl, _⟩ := hx.form
  obtain ⟨au, cu, rfl, _⟩ := hu.form
  obtain ⟨av, cv, rfl, _⟩ := hv.form
  have HX := hid hx
  have HU := hid hu
  have HV := hid hv
  have HMO := hid (movable_any _ xs w hx)
  have HVU := hid (vectorWithin_any _ us (xs.length : Int) 500 (by omega) (by omega) w hu)
  have HVV := hid (vectorWithin_any _ vs (xs.length : Int) 500 (by omega) (by omega) w hv)
  clear hx hu hv
  cases hf : frm3B xs with
  | false =>
    have HE : Hid (carryOk xs us vs = false) := hid (by unfold carryOk; rw [hf]; rfl)
    rw [hf] at HMO
    clear hf
    rw [HE.out]
    go_enter Try.func46, Try.ntmps46
    go_wp2_with fail
    refine HMO.out.mono ?_
    rintro e w' ⟨rfl, rfl⟩
    go_wp2_with fail
    refine bodyPost_ret (v := .tuple #[.slice (some ⟨w.heap.size, 0, none⟩) 0 0, .bool false]) (by simp [results, Try.results46, go_sem]) rfl ?_
    exact listPost_nil (Below.refl _ _)
  | true =>
    rw [hf] at HMO
    have hfv : fvB xs = true := by unfold frm3B at hf; rw [Bool.and_eq_true] at hf; exact hf.1
    have hn3 : xs.length ≤ 3 := by unfold frm3B at hf; rw [Bool.and_eq_true, decide_eq_true_eq] at hf; exact hf.2
    cases hu5 : vecB xs us 500 with
    | false =>
      have HE : Hid (carryOk xs us vs = false) := hid (by unfold carryOk; rw [hf, hu5]; rfl)
      rw [vec_is hfv] at hu5
      rw [hu5] at HVU
      clear hf hfv hu5
      rw [HE.out]
      go_enter Try.func46, Try.ntmps46
      go_wp2_with fail
      refine HMO.out.mono ?_
      rintro e w' ⟨rfl, rfl⟩
      go_wp2_with fail
      refine HVU.out.mono ?_
      rintro e w' ⟨rfl, rfl⟩
      go_wp2_with fail
      refine bodyPost_ret (v := .tuple #[.slice (some ⟨w.heap.size, 0, none⟩) 0 0, .bool false]) (by simp [results, Try.results46, go_sem]) rfl ?_
      exact listPost_nil (Below.refl _ _)
    | true =>
      rw [← vec_is hfv, hu5] at HVU
      cases hv5 : vecB xs vs 500 with
      | false =>
        have HE : Hid (carryOk xs us vs = false) := hid (by unfold carryOk; rw [hf, hu5, hv5]; rfl)
        rw [vec_is hfv] at hv5
        rw [hv5] at HVV
        clear hf hfv hu5 hv5
        rw [HE.out]
        go_enter Try.func46, Try.ntmps46
        go_wp2_with fail
        refine HMO.out.mono ?_
        rintro e w' ⟨rfl, rfl⟩
        go_wp2_with fail
        refine HVU.out.mono ?_
        rintro e w' ⟨rfl, rfl⟩
        go_wp2_with fail
        refine HVV.out.mono ?_
        rintro e w' ⟨rfl, rfl⟩
        go_wp2_with fail
        refine bodyPost_ret (v := .tuple #[.slice (some ⟨w.heap.size, 0, none⟩) 0 0, .bool false]) (by simp [results, Try.results46, go_sem]) rfl ?_
        exact listPost_nil (Below.refl _ _)
      | true =>
        rw [← vec_is hfv, hv5] at HVV
        obtain ⟨hub, _, hul⟩ := vecB_iff.1 hu5
        obtain ⟨hvb, _, hvl⟩ := vecB_iff.1 hv5
        have HPV : Hid (Calls Try.prog 58 #[.slice ax xs.length cx, .slice av vs.length cv, .slice av vs.length cv] w fun e w' => e = .returned (.int .i64 (valI xs vs xs.length)) ∧ Below w.heap.size w w') := hid (by
          refine (pairAtW_any _ _ _ xs vs vs w HX.out HV.out HV.out hfv (fun v hv => by have := hvb v hv; omega) (fun v hv => by have := hvb v hv; omega) hvl hvl).mono ?_
          rintro e w' ⟨rfl, k, rfl⟩
          exact ⟨by rw [pair_self], below_drewN (Below.refl _ _) k⟩)
        have HPU : Hid (∀ wx : World, Rd wx (.slice ax xs.length cx) xs → Rd wx (.slice au us.length cu) us → Calls Try.prog 58 #[.slice ax xs.length cx, .slice au us.length cu, .slice au us.length cu] wx fun e w' => e = .returned (.int .i64 (valI xs us xs.length)) ∧ Below wx.heap.size wx w') := hid (fun wx h1 h2 => by
          refine (pairAtW_any _ _ _ xs us us wx h1 h2 h2 hfv (fun v hv => by have := hub v hv; omega) (fun v hv => by have := hub v hv; omega) hul hul).mono ?_
          rintro e w' ⟨rfl, k, rfl⟩
          exact ⟨by rw [pair_self], below_drewN (Below.refl _ _) k⟩)
        have hq1 := pairW_bd hfv (fun v hv => by have := hub v hv; omega) (fun v hv => by have := hub v hv; omega) hul hul xs.length (Nat.le_refl _)
        have hq2 := pairW_bd hfv (fun v hv => by have := hvb v hv; omega) (fun v hv => by have := hvb v hv; omega) hvl hvl xs.length (Nat.le_refl _)
        rw [pair_self] at hq1 hq2
        obtain ⟨q, hq⟩ : ∃ q, q = valI xs us xs.length := ⟨_, rfl⟩
        obtain ⟨r, hr⟩ : ∃ r, r = valI xs vs xs.length := ⟨_, rfl⟩
        rw [← hq] at hq1 HPU
        rw [← hr] at hq2 HPV
        have hok : carryOk xs us vs = (!decide (q = 0) && decide (q = r)) := by unfold carryOk; rw [← hq, ← hr, hf, hu5, hv5]; rfl
        have HOI := hid (fun h : carryOk xs us vs = true => And.intro (carry_sum h) (carry_some h))
        have HB := hid (fun (wx : World) (h1 : Rd wx (.slice ax xs.length cx) xs) (h2 : Rd wx (.slice au us.length cu) us) (h3 : Rd wx (.slice av vs.length cv) vs) (h4 : carryOk xs us vs = true) => between_any _ _ _ xs us vs wx h1 h2 h3 hf (fun v hv => by have := hub v hv; omega) (fun v hv => by have := hvb v hv; omega) hul hvl (carry_sum h4) (carry_some h4))
        by_cases hr0 : r = 0
        · subst hr0
          have HE : Hid (carryOk xs us vs = false) := hid (by rw [hok]; by_cases h : q = 0; (· rw [decide_eq_true h]; rfl); (· rw [decide_eq_false h]; rfl))
          clear hf hfv hu5 hv5 hub hvb hul hvl hq hr hok hq1 hq2
          rw [HE.out]
          go_enter Try.func46, Try.ntmps46
          go_wp2_with fail
          refine HMO.out.mono ?_
          rintro e w' ⟨rfl, rfl⟩
          go_wp2_with fail
          refine HVU.out.mono ?_
          rintro e w' ⟨rfl, rfl⟩
          go_wp2_with fail
          refine HVV.out.mono ?_
          rintro e w' ⟨rfl, rfl⟩
          go_wp2_with fail
          refine HPV.out.mono ?_
          rintro e w2 ⟨rfl, hb2⟩
          have HB2 := hid hb2
          have HX2 := hid (HX.out.keep hb2)
          have HU2 := hid (HU.out.keep hb2)
          clear hb2
          go_wp2_with fail
          refine bodyPost_ret (v := .tuple #[.slice (some ⟨w2.heap.size, 0, none⟩) 0 0, .bool false]) (by simp [results, Try.results46, go_sem]) rfl ?_
          exact listPost_nil HB2.out
        · have R0 : (r == 0) = false := by rw [beq_eq_false_iff_ne]; exact hr0
          by_cases hqr : q = r
          · subst hqr
            have hOK : carryOk xs us vs = true := by rw [hok, decide_eq_false hr0]; simp
            have HOK := hid hOK
            have Q1 : (q != q) = false := by simp
            rw [hOK, if_pos rfl]
            clear hf hfv hu5 hv5 hub hvb hul hvl hq hr hok hr0 hOK hq1 hq2
            go_enter Try.func46, Try.ntmps46
            go_wp2_with fail
            refine HMO.out.mono ?_
            rintro e w' ⟨rfl, rfl⟩
            go_wp2_with fail
            refine HVU.out.mono ?_
            rintro e w' ⟨rfl, rfl⟩
            go_wp2_with fail
            refine HVV.out.mono ?_
            rintro e w' ⟨rfl, rfl⟩
            go_wp2_with fail
            refine HPV.out.mono ?_
            rintro e w2 ⟨rfl, hb2⟩
            have HB2 := hid hb2
            have HX2 := hid (HX.out.keep hb2)
            have HU2 := hid (HU.out.keep hb2)
            clear hb2
            go_wp2_with fail
            refine (HPU.out _ HX2.out HU2.out).mono ?_
            rintro e w3 ⟨rfl, hb3⟩
            have HB3 := hid (HB2.out.trans (hb3.mono HB2.out.size))
            clear hb3
            go_wp2_with fail
            refine (HB.out _ (HX.out.keep HB3.out) (HU.out.keep HB3.out) (HV.out.keep HB3.out) HOK.out).mono ?_
            rintro e w4 ⟨u, rfl, ho, hb4⟩
            have HB4 := hid (HB3.out.trans (hb4.mono HB3.out.size))
            have HO := hid (ho.down HB3.out.size)
            obtain ⟨ay, cy, rfl⟩ := ho.rd.form
            clear ho hb4
            go_wp2_with fail
            refine bodyPost_ret (v := .tuple #[.slice ay (carryL xs us vs).length cy, .bool true]) (by simp [results, Try.results46, go_sem]) rfl ?_
            exact ⟨_, rfl, HO.out, HB4.out⟩
          · have Q1 : (q != r) = true := by rw [bne_iff_ne]; exact hqr
            have HE : Hid (carryOk xs us vs = false) := hid (by rw [hok, decide_eq_false hqr]; simp)
            rw [HE.out]
            clear hf hfv hu5 hv5 hub hvb hul hvl hq hr hok hr0 hqr hq1 hq2
            go_enter Try.func46, Try.ntmps46
            go_wp2_with fail
            refine HMO.out.mono ?_
            rintro e w' ⟨rfl, rfl⟩
            go_wp2_with fail
            refine HVU.out.mono ?_
            rintro e w' ⟨rfl, rfl⟩
            go_wp2_with fail
            refine HVV.out.mono ?_
            rintro e w' ⟨rfl, rfl⟩
            go_wp2_with fail
            refine HPV.out.mono ?_
            rintro e w2 ⟨rfl, hb2⟩
            have HB2 := hid hb2
            have HX2 := hid (HX.out.keep hb2)
            have HU2 := hid (HU.out.keep hb2)
            clear hb2
            go_wp2_with fail
            refine (HPU.out _ HX2.out HU2.out).mono ?_
            rintro e w3 ⟨rfl, hb3⟩
            have HB3 := hid (HB2.out.trans (hb3.mono HB2.out.size))
            clear hb3
            go_wp2_with fail
            refine bodyPost_ret (v := .tuple #[.slice (some ⟨w3.heap.size, 0, none⟩) 0 0, .bool false]) (by simp [results, Try.results46, go_sem]) rfl ?_
            exact listPost_nil HB3.out

end Go.Proofs.Ytacjejnbomdhbab

set_option linter.unusedVariables false
namespace Go.Proofs.Ytacjejnbomdhbab
open Go.RowKit

theorem un_len (n i : Nat) : (unL n i).length = n := by unfold unL; simp
theorem split_fail {xs : List Int} {A : List (List Int)} {a : Int} {st st' : SplitSt} {LS : List (List Int)} {i k : Nat} (h : splitN xs (A, a, []) i = some st) (h2 : splitAt xs st i = putAll xs st LS) (h3 : putAll xs st (LS.take k) = some st') (h4 : splitPut xs st' (plainL (LS.getD k [])) = none) (hk : k < LS.length) (hi : i < xs.length) : splitV xs A a = none := by
  have e : splitN xs (A, a, []) (i + 1) = none := by
    show (splitN xs (A, a, []) i).bind (fun st => splitAt xs st i) = none
    rw [h]
    show splitAt xs st i = none
    rw [h2]
    refine putAll_none (k := k + 1) ?_
    rw [putAll_next hk, h3]
    exact h4
  unfold splitV
  split
  · rw [splitN_none e xs.length hi]; rfl
  · rfl
theorem split_go {xs : List Int} {A : List (List Int)} {a : Int} {st st' : SplitSt} {i : Nat} (h : splitN xs (A, a, []) i = some st) (h2 : splitAt xs st i = some st') : splitN xs (A, a, []) (i + 1) = some st' := by
  show (splitN xs (A, a, []) i).bind (fun st => splitAt xs st i) = some st'
  rw [h]
  exact h2
theorem put_is {xs ws : List Int} {R M : List (List Int)} {d m : Int} {L : List (List Int)} (h : mirV xs ws = some (M, m)) : splitPut xs (R, d, L) ws = (mulV xs M m R d).map (fun m => (m.1, m.2, L ++ [ws])) := by
  unfold splitPut
  rw [h]
  rfl
theorem put_no {xs ws : List Int} {st : SplitSt} (h : mirV xs ws = none) : splitPut xs st ws = none := by
  unfold splitPut
  rw [h]
  rfl
theorem listPost_nil2 {w W : World} {ok : Bool} {k : Nat} (hb : Below w.heap.size w W) (hk : k = W.heap.size) : ListPost ok [] w (.returned (.tuple #[.slice (some ⟨k, 0, none⟩) 0 0, .bool ok])) (W.alloc (.cells #[] 22)) := by
  subst hk
  exact listPost_nil hb
/-- the box of the parameter is written, then the list of vectors grows -/
theorem split_step {we wg : World} {bm : Nat} {c0 c1 v0 v1 : Value} {so : Value} {o : Obj} (hbm : we.heap[bm]? = some (.cells #[c0, c1] 29 (0, 0))) (hg : ((((we.setCell ⟨bm, 0, none⟩ v0).setCell ⟨bm, 1, none⟩ v1)).alloc o).grownBy wg so.ownBlock) (hso : so.ownBlock ≠ some bm) : we.heap.size ≤ wg.heap.size ∧ (∀ g, g < we.heap.size → g ≠ bm → so.ownBlock ≠ some g → wg.heap[g]? = we.heap[g]?) ∧ wg.heap[bm]? = some (.cells #[v0, v1] 29 (0, 0)) := by
  have hs := hg.size
  have hl := (Array.getElem?_eq_some_iff.1 hbm).1
  simp at hs
  refine ⟨by omega, fun g h1 h2 h3 => ?_, ?_⟩
  · rw [hg.block g (by simp; omega) (fun e => h3 e.symm), Below.heap_alloc _ _ _ (by simp; omega), Below.heap_setCell _ _ _ g (fun e => h2 e), Below.heap_setCell _ _ _ g (fun e => h2 e)]
  · rw [hg.block bm (by simp; omega) (fun e => hso e.symm), Below.heap_alloc _ _ _ (by simp; omega)]
    exact heap_cells2 hbm

set_option maxRecDepth 100000 in
set_option maxHeartbeats 16000000 in
theorem moveSplitS_any (vf va : Value) (xs : List Int) (A : List (List Int)) (a : Int) (w : World) (hx : Rd w vf xs) (hA : RdM w va A) : Calls Try.prog 42 #[vf, .agg #[va, .int .i64 a]] w (ListPost (splitV xs A a).isSome ((splitV xs A a).getD []) w) := by
  obtain ⟨i0, hi0, hz0, hz1, hz2⟩ := info_parts infoInt
  obtain ⟨i1, hi1, hy0, hy1, hy2⟩ := info_parts infoRow
  obtain ⟨ax, cx, rfl, _⟩ := hx.form
  obtain ⟨aa, ca, rfl⟩ := hA.form
  obtain ⟨W1, hW1⟩ : ∃ W1, W1 = (w.alloc (.cells #[.slice aa A.length ca, .int .i64 a] 29)).alloc (.cells #[] 22) := ⟨_, rfl⟩
  have hs0 : (w.alloc (.cells #[.slice aa A.length ca, .int .i64 a] 29)).heap.size = w.heap.size + 1 := by simp
  have hb1 : Below w.heap.size w W1 := by rw [hW1]; exact (below_box2 w _).alloc (by simp) _
  have h01 : W1.heap[w.heap.size]? = some (.cells #[.slice aa A.length ca, .int .i64 a] 29 (0, 0)) := by rw [hW1, Below.heap_alloc _ _ _ (by simp)]; exact World.alloc_heap_new w _
  have ho1 : OwnM W1 (w.heap.size + 1) none (.slice (some ⟨w.heap.size + 1, 0, none⟩) 0 0) [] := by
    have h := ownM_none (w.alloc (.cells #[.slice aa A.length ca, .int .i64 a] 29)) none (by simp)
    rw [hs0, ← hW1] at h
    exact h
  have hr1 : RdS W1 (fun g => g ≠ w.heap.size) (.slice aa A.length ca) A := hA.rdS.to hb1.size fun g hg _ => ⟨by omega, hb1.block g hg⟩
  have x0 := cellB (i := 0) h01
  have x1 := cellB (i := 1) h01
  have HX := hid hx
  have HX1 := hid (hx.keep hb1)
  have HB1 := hid hb1
  have H01 := hid h01
  have HO1 := hid ho1
  have HR1 := hid hr1
  have HW1 := hid hW1
  rw [hW1] at x0 x1
  have HVA := hid (fun (wx : World) (h1 : Rd wx (.slice ax xs.length cx) xs) (h2 : RdM wx (.slice aa A.length ca) A) => moveValidS_any (.slice ax xs.length cx) (.slice aa A.length ca) xs A a wx h1 h2)
  clear hx hA hb1 h01 ho1 hr1 hs0 hW1
  cases hva : moveB xs A a with
  | false =>
    have HE : Hid (splitV xs A a = none) := hid (by unfold splitV; rw [hva]; rfl)
    rw [hva] at HVA
    clear hva
    go_enter Try.func42, Try.ntmps42
    go_wp2_with fail
    refine (HVA.out _ (by rw [← HW1.out]; exact HX1.out) (by rw [← HW1.out]; exact HR1.out.rd)).mono ?_
    rintro e w2 ⟨rfl, hb2⟩
    rw [← HW1.out] at hb2
    have HB2 := hid (HB1.out.trans (hb2.mono HB1.out.size))
    have HO2 := hid (HO1.out.keep hb2)
    clear hb2
    go_wp2_with fail
    refine bodyPost_ret (v := .tuple #[.slice (some ⟨w.heap.size + 1, 0, none⟩) 0 0, .bool false]) (by simp [results, Try.results42, go_sem]) rfl ?_
    rw [HE.out]
    exact ⟨_, rfl, HO2.out.down (Nat.le_succ _), HB2.out⟩
  | true =>
    have hMA := moveB_iff.1 hva
    have HVT := hid hva
    rw [hva] at HVA
    have hn1 := (fvB_iff.1 hMA.form).2.1
    have hn3 := hMA.l3
    have hfv := hMA.form
    have HFV := hid hfv
    have HMA := hid hMA
    have HQ : Hid (∀ (ws : List Int) (wx : World) (vw : Value), Rd wx (.slice ax xs.length cx) xs → Rd wx vw ws → (∀ v ∈ ws, -2000000 ≤ v ∧ v ≤ 2000000) → ws.length = xs.length → Calls Try.prog 55 #[.slice ax xs.length cx, vw] wx fun e w' => e = .returned (.int .i64 (valI xs ws xs.length)) ∧ Below wx.heap.size wx w') := hid (fun ws wx vw h1 h2 h3 h4 => by
      refine (l4ValueW_any _ _ xs ws wx h1 h2 hfv h3 h4).mono ?_
      rintro e w' ⟨rfl, k, rfl⟩
      exact ⟨rfl, below_drewN (Below.refl _ _) k⟩)
    clear hva hMA hfv
    go_enter Try.func42, Try.ntmps42
    go_wp2_with fail
    refine (HVA.out _ (by rw [← HW1.out]; exact HX1.out) (by rw [← HW1.out]; exact HR1.out.rd)).mono ?_
    rintro e w2 ⟨rfl, hb2⟩
    rw [← HW1.out] at hb2
    have HB2 := hid (HB1.out.trans (hb2.mono HB1.out.size))
    have HO2 := hid (HO1.out.keep hb2)
    have HR2 := hid (HR1.out.keep hb2)
    have H02 := hid ((hb2.block _ (Array.getElem?_eq_some_iff.1 H01.out).1).trans H01.out)
    clear hb2 x0 x1
    go_wp2_with fail
    go_loopw [6, 7, 8, 9, 10, 11, 12, 13, 14, 15, 16, 17] (fun so si se su st sl sk sw sm sq sn sf wr => ∃ (i : Nat) (u : Value) (R : List (List Int)) (d : Int) (L : List (List Int)), si = .int .i64 i ∧ i ≤ xs.length ∧ Hid (splitN xs (A, a, []) i = some (R, d, L)) ∧ Hid (MoveOk xs R d) ∧ Hid (OwnM wr (w.heap.size + 1) none so L) ∧ Hid (RdS wr (fun g => g ≠ w.heap.size) u R) ∧ Hid (wr.heap[w.heap.size]? = some (.cells #[u, .int .i64 d] 29 (0, 0))) ∧ Hid (L.length ≤ 2 * i) ∧ Hid (Below w.heap.size w wr)) (fun _ si _ _ _ _ _ _ _ _ _ _ _ => xs.length - (intOf si).toNat)
    case atStart => exact ⟨0, _, _, _, _, rfl, by omega, hid rfl, HMA, HO2, HR2, H02, hid (Nat.le_refl _), HB2⟩
    case round =>
      obtain ⟨i, u, R, d, L, rfl, hi, HN, HOK, HO, HRS, HBX, HLN, HBW⟩ := hrel
      rename World => wr
      clear HO1 HR1 H01 HX1 HB1 HO2 HR2 H02 HB2 HW1 HVA
      by_cases hlt : i < xs.length
      · skip
        have hlti : (i : Int) < (xs.length : Int) := by omega
        have HLT := hid hlt
        obtain ⟨ua, uc, rfl⟩ := HRS.out.rd.form
        have hbl := (Array.getElem?_eq_some_iff.1 HBX.out).1
        have HBL := hid hbl
        -- e
        have hz := zero_row xs.length (by omega) wr
        have hc : (wr.alloc (.cells (madeCells #[.int .i64 0] xs.length) 3)).cell? ⟨wr.heap.size, i, none⟩ = some (.int .i64 ((List.replicate xs.length (0 : Int)).getD i 0)) := hz.elem (by rw [List.length_replicate]; exact hlt)
        have hf := hz.thaw i
        obtain ⟨hst, _⟩ := hz.storeAt i 1
        rw [unit_row hlt, un_row] at hst
        rw [World.setCell_alloc_new] at hst
        obtain ⟨We, hWe⟩ : ∃ We, We = wr.alloc (.cells ((madeCells #[.int .i64 0] xs.length).setIfInBounds i (.int .i64 1)) 3) := ⟨_, rfl⟩
        rw [← hWe] at hst
        have hbe : Below wr.heap.size wr We := by rw [hWe]; exact (Below.refl _ _).alloc (Nat.le_refl _) _
        have HE := hid hst
        have HBE := hid hbe
        have hob := (hbe.block _ hbl).trans HBX.out
        have HOBE := hid hob
        have cp0 := cellB (i := 0) hob
        have cp1 := cellB (i := 1) hob
        rw [hWe] at cp0 cp1
        have HWE := hid hWe
        have HSQ := hid HOK.out.sq
        have HABD := hid HOK.out.at_bd
        have HON : Hid (∀ (wx : World) (vv : Value), RdM wx (.slice ua R.length uc) R → Rd wx vv (unL xs.length i) → Calls Try.prog 68 #[.agg #[.slice ua R.length uc, .int .i64 d], vv] wx fun e w' => ∃ u, e = .returned u ∧ Owns w' wx.heap.size u (rowL xs.length (fun r => at2 R r i)) ∧ Below wx.heap.size wx w') := hid (fun wx vv h1 h2 => by
          have h := l7On_any (.slice ua R.length uc) vv R d (unL xs.length i) wx h1 h2 (by rw [un_len]; exact HSQ.out) (by rw [un_len]; exact hn1) (by rw [un_len]; exact hn3) HABD.out (fun j => fF_bd (m := 1000) (by omega) (fun v hv => by
            unfold unL at hv
            obtain ⟨j, _, rfl⟩ := List.mem_map.1 hv
            unfold unF
            split <;> omega) j)
          rw [un_len, on_unit _ HLT.out] at h
          exact h)
        have HRSE := hid (HRS.out.keep hbe)
        clear hz hst hbe hob hlt hi hWe hbl
        go_wp2_with (at_make; refine wpList_make_row _ rfl _ _ 22 rfl 3 i0 (.int .i64 0) Try.underlying22 hi0 hz0 hz1 rfl .i64 .i64 xs.length rfl rfl (by rw [hz2]; omega) (by omega) ?_)
        rw [← HWE.out]
        refine (HON.out _ _ HRSE.out.rd HE.out.rd).mono ?_
        rintro e w3 ⟨u9, rfl, ho9, hb9⟩
        clear hc hf cp0 cp1
        -- times
        have hb3 := HBE.out.trans (hb9.mono HBE.out.size)
        have HE3 := hid (HE.out.keep HE.out.lt hb9)
        have hz := zero_row xs.length (by omega) w3
        have hc : (w3.alloc (.cells (madeCells #[.int .i64 0] xs.length) 3)).cell? ⟨w3.heap.size, i, none⟩ = some (.int .i64 ((List.replicate xs.length (0 : Int)).getD i 0)) := hz.elem (by rw [List.length_replicate]; exact HLT.out)
        have hf := hz.thaw i
        obtain ⟨hst, _⟩ := hz.storeAt i d
        rw [unit_row HLT.out] at hst
        rw [World.setCell_alloc_new] at hst
        obtain ⟨Wt, hWt⟩ : ∃ Wt, Wt = w3.alloc (.cells ((madeCells #[.int .i64 0] xs.length).setIfInBounds i (.int .i64 d)) 3) := ⟨_, rfl⟩
        rw [← hWt] at hst
        have hbt : Below w3.heap.size w3 Wt := by rw [hWt]; exact (Below.refl _ _).alloc (Nat.le_refl _) _
        have ob3 := (hb3.block _ HBL.out).trans HBX.out
        have hl3 := (Array.getElem?_eq_some_iff.1 ob3).1
        have cp1 := cellB (i := 1) ((Below.heap_alloc w3 (.cells (madeCells #[.int .i64 0] xs.length) 3) _ hl3).trans ob3)
        have hbT := hb3.trans (hbt.mono hb3.size)
        have HBT := hid hbT
        have HET := hid (HE3.out.keep HE3.out.lt hbt)
        have HCT := hid (ho9.keep ho9.lt hbt)
        have HTT := hid hst
        have HWT := hid hWt
        obtain ⟨a9, c9, rfl⟩ := ho9.reads
        rw [row_len] at HCT ⊢
        have hbw3 := hb3.size
        have HS3 := hid hbw3
        clear hz hst hbt ob3 hl3 hb3 hb9 ho9 hWt hbT hbw3
        have HTL : Hid ((rowL xs.length (fun k => if k = i then d else 0)).length = xs.length) := hid (row_len _ _)
        obtain ⟨hd1, hd2⟩ := HOK.out.den
        have HMIX : Hid (∀ (wx : World) (c e : Int) (vu vt : Value), (c = 1 ∨ c = -1) → e = -c → Rd wx vu (rowL xs.length (fun r => at2 R r i)) → Rd wx vt (rowL xs.length (fun k => if k = i then d else 0)) → Calls Try.prog 75 #[vu, vt, .int .i64 e] wx fun en w' => ∃ u, en = .returned u ∧ Owns w' wx.heap.size u (mixL xs.length R d c i) ∧ Below wx.heap.size wx w') := hid (fun wx c e vu vt hc he h1 h2 => by
          have h := l7Mix_any vu vt (rowL xs.length (fun r => at2 R r i)) (rowL xs.length (fun k => if k = i then d else 0)) e wx h1 h2 (by rw [row_len, row_len]) (by rw [row_len]; exact hn1) (by rw [row_len]; exact hn3) (by omega) (fun j => fF_bd (m := 1000000000000) (by omega) (fun v hv => by
            unfold rowL at hv
            obtain ⟨j, _, rfl⟩ := List.mem_map.1 hv
            have := HABD.out j i
            omega) j) (fun j => fF_bd (m := 1000000000000) (by omega) (fun v hv => by
            unfold rowL at hv
            obtain ⟨j, _, rfl⟩ := List.mem_map.1 hv
            split <;> omega) j)
          rw [mix_sum he HTL.out] at h
          exact h)
        go_wp2_with (at_make; refine wpList_make_row _ rfl _ _ 22 rfl 3 i0 (.int .i64 0) Try.underlying22 hi0 hz0 hz1 rfl .i64 .i64 xs.length rfl rfl (by rw [hz2]; omega) (by omega) ?_)
        rw [← HWT.out]
        refine (HMIX.out _ 1 (-1) _ _ (.inl rfl) (by decide) HCT.out.rd HTT.out.rd).mono ?_
        rintro e w5 ⟨u5, rfl, ho5, hb5⟩
        clear hc hf cp1
        have HB5 := hid (HBT.out.trans (hb5.mono HBT.out.size))
        have HE5 := hid (HET.out.keep HET.out.lt hb5)
        have HC5 := hid (HCT.out.keep HCT.out.lt hb5)
        have HT5 := hid (HTT.out.keep HTT.out.lt hb5)
        have HSW := hid (Nat.le_trans HBT.out.size hb5.size : wr.heap.size ≤ w5.heap.size)
        have HM5 := hid (ho5.down (B := wr.heap.size) HBT.out.size)
        have HMB := hid (mix_bd (i := i) HOK.out (c := 1) (.inl rfl))
        have HMB2 := hid (mix_bd (i := i) HOK.out (c := -1) (.inr rfl))
        have HML : Hid ((mixL xs.length R d 1 i).length = xs.length) := hid (row_len _ _)
        have HML2 : Hid ((mixL xs.length R d (-1) i).length = xs.length) := hid (row_len _ _)
        have HMBK := hid (mix_back HOK.out HLT.out)
        have HSK := hid (split_skip (xs := xs) (st := (R, d, L)) (i := i))
        have HS1 := hid (split_one (xs := xs) (st := (R, d, L)) (i := i))
        have HS2 := hid (split_two (xs := xs) (st := (R, d, L)) (i := i))
        obtain ⟨X, hX⟩ : ∃ X, X = mixL xs.length R d 1 i := ⟨_, rfl⟩
        obtain ⟨Y, hY⟩ : ∃ Y, Y = mixL xs.length R d (-1) i := ⟨_, rfl⟩
        have HMX2 := hid (fun (wx : World) (vu vt : Value) h1 h2 => HMIX.out wx (-1) 1 vu vt (.inr rfl) (by decide) h1 h2)
        simp only [← hX, ← hY] at HMB HMB2 HML HML2 HMBK HSK HS1 HS2 HMX2 HM5 ho5
        have HL1 := hid (ownM_lit1 HM5.out HSW.out)
        obtain ⟨a5, c5, rfl⟩ := ho5.reads
        obtain ⟨w6, hw6⟩ : ∃ w6, w6 = w5.alloc (.cells #[.slice a5 X.length c5] 22) := ⟨_, rfl⟩
        have hb6 : Below w5.heap.size w5 w6 := by rw [hw6]; exact (Below.refl _ _).alloc (Nat.le_refl _) _
        have cl0 := cellB (i := 0) (heap_alloc_new w5 (.cells #[.slice a5 X.length c5] 22))
        rw [← hw6] at cl0 HL1
        have HB6 := hid (HB5.out.trans (hb6.mono HB5.out.size))
        have HE6 := hid (HE5.out.keep HE5.out.lt hb6)
        have HC6 := hid (HC5.out.keep HC5.out.lt hb6)
        have HT6 := hid (HT5.out.keep HT5.out.lt hb6)
        have HM6 := hid (HM5.out.keep HM5.out.lt hb6)
        have HW6 := hid hw6
        clear ho5 hb5 hb6 hw6 hX hY HMIX HON
        cases hsm : someB X with
        | false =>
          have HSO := hid hsm
          have HNX := hid (split_go HN.out (HSK.out hsm))
          clear hsm
          go_wp2_with fail
          rw [← HW6.out]
          go_wp2_with (go_at_call 76; refine (l5Some_any _ X _ HM6.out.rd (by rw [HML.out]; omega)).mono ?_; rw [HSO.out]; rintro e w' ⟨rfl, rfl⟩)
          go_roundw
          case measure => simp only [intOf]; have := HLT.out; omega
          case rel => exact ⟨i + 1, _, R, d, L, by go_num, by have := HLT.out; omega, HNX, HOK, hid (HO.out.keep HB6.out), hid (HRS.out.keep HB6.out), hid ((HB6.out.block _ HBL.out).trans HBX.out), hid (by have := HLN.out; omega), hid (HBW.out.trans (HB6.out.mono HBW.out.size))⟩
        | true =>
          have HSO := hid hsm
          have HSX := hid (someB_iff.1 hsm)
          obtain ⟨dv, hdv⟩ : ∃ dv, dv = valI xs X xs.length := ⟨_, rfl⟩
          have HQD : Hid (∀ (wx : World) (vw : Value), Rd wx (.slice ax xs.length cx) xs → Rd wx vw X → Calls Try.prog 55 #[.slice ax xs.length cx, vw] wx fun e w' => e = .returned (.int .i64 dv) ∧ Below wx.heap.size wx w') := hid (fun wx vw h1 h2 => by rw [hdv]; exact HQ.out X wx vw h1 h2 HMB.out HML.out)
          have HX6 := hid (HX.out.keep (HBW.out.trans (HB6.out.mono HBW.out.size)))
          replace HS1 := hid (HS1.out hsm)
          replace HS2 := hid (HS2.out hsm)
          rw [← hdv] at HS1 HS2 HMBK
          clear hsm hdv
          by_cases hd0 : dv = 0
          · skip
            replace HS2 := hid (HS2.out hd0)
            replace HMBK := hid (HMBK.out hd0)
            subst hd0
            go_wp2_with fail
            rw [← HW6.out]
            go_wp2_with (go_at_call 76; refine (l5Some_any _ X _ HM6.out.rd (by rw [HML.out]; omega)).mono ?_; rw [HSO.out]; rintro e w' ⟨rfl, rfl⟩)
            refine (HQD.out _ _ HX6.out HM6.out.rd).mono ?_
            rintro e w7 ⟨rfl, hb7⟩
            have HB7 := hid (HB6.out.trans (hb7.mono HB6.out.size))
            have HE7 := hid (HE6.out.keep HE6.out.lt hb7)
            have HC7 := hid (HC6.out.keep HC6.out.lt hb7)
            have HT7 := hid (HT6.out.keep HT6.out.lt hb7)
            clear hb7
            go_wp2_with fail
            refine (HMX2.out _ _ _ HC7.out.rd HT7.out.rd).mono ?_
            rintro e w8 ⟨u8, rfl, ho8, hb8⟩
            have HB8 := hid (HB7.out.trans (hb8.mono HB7.out.size))
            have HL2 := hid (ownM_lit2 (ho8.down (B := wr.heap.size) HB7.out.size) (HE7.out.keep HE7.out.lt hb8) (fun k e e2 => by have h1 := ho8.ge k e; have h2 := HE7.out.lt k e2; omega) HB8.out.size)
            obtain ⟨a8, c8, rfl⟩ := ho8.reads
            obtain ⟨w9, hw9⟩ : ∃ w9, w9 = w8.alloc (.cells #[.slice a8 Y.length c8, .slice (some ⟨wr.heap.size, 0, none⟩) xs.length xs.length] 22) := ⟨_, rfl⟩
            have HB9 := hid (show Below wr.heap.size wr w9 by rw [hw9]; exact HB8.out.alloc HB8.out.size _)
            rw [← hw9] at HL2
            have HW9 := hid hw9
            clear ho8 hb8 hw9
            obtain ⟨LS, hLS⟩ : ∃ LS, LS = [Y, unL xs.length i] := ⟨_, rfl⟩
            have HLP : Hid (∀ k, k < LS.length → (LS.getD k []).length ≤ 4 ∧ Vec11 (LS.getD k []) ∧ ∃ v ∈ LS.getD k [], v ≠ 0) := hid (by
              rw [hLS]
              intro k hk
              have hk2 : k = 0 ∨ k = 1 := by
                have : k < 2 := by simpa using hk
                omega
              rcases hk2 with rfl | rfl
              · exact ⟨by show Y.length ≤ 4; rw [HML2.out]; omega, fun v hv => by have := HMB2.out v hv; omega, HMBK.out⟩
              · refine ⟨by show (unL xs.length i).length ≤ 4; rw [un_len]; omega, fun v hv => ?_, un_some HLT.out⟩
                have hv : v ∈ unL xs.length i := hv
                unfold unL at hv
                obtain ⟨j, _, rfl⟩ := List.mem_map.1 hv
                unfold unF
                split <;> omega)
            have HLL : Hid (LS.length = 2) := hid (by rw [hLS]; rfl)
            have HLL2 : Hid (LS.length ≤ 2) := hid (by rw [HLL.out]; omega)
            rw [← hLS] at HL2 HS2
            have HSA := HS2
            have HLW := hid HL2.out.rdS
            have HBZ := HB9
            clear hLS
            go_wp2_with fail
            rw [← HW9.out]
            go_loopw [6, 12, 13, 14, 15, 16, 17] (fun so sk sw sm sq sn sf wk => ∃ (k : Nat) (u' : Value) (R' : List (List Int)) (d' : Int) (L' : List (List Int)), sk = .int .i64 k ∧ k ≤ LS.length ∧ Hid (putAll xs (R, d, L) (LS.take k) = some (R', d', L')) ∧ Hid (OwnM wk (w.heap.size + 1) none so L') ∧ Hid (RdS wk (fun g => g ≠ w.heap.size) u' R') ∧ Hid (wk.heap[w.heap.size]? = some (.cells #[u', .int .i64 d'] 29 (0, 0))) ∧ Hid (RdS wk (fun g => w.heap.size + 1 ≤ g ∧ so.ownBlock ≠ some g) (.slice (some ⟨w8.heap.size, 0, none⟩) 2 2) LS) ∧ Hid (L'.length ≤ 2 * i + k) ∧ Hid (Below w.heap.size w wk)) (fun _ sk _ _ _ _ _ _ => LS.length - (intOf sk).toNat)
            case atStart => exact ⟨0, _, R, d, L, rfl, by omega, hid rfl, hid (HO.out.keep HBZ.out), hid (HRS.out.keep HBZ.out), hid ((HBZ.out.block _ HBL.out).trans HBX.out), hid (by
              have h := HLW.out
              refine RdS.to h (Nat.le_refl _) fun g hg hS => ⟨⟨?_, fun e => ?_⟩, rfl⟩
              · have := HBL.out; have := hS.1; omega
              · have := (HO.out.lt g e).2.1; have := hS.1; omega), hid (by have := HLN.out; omega), hid (HBW.out.trans (HBZ.out.mono HBW.out.size))⟩
            case round =>
              obtain ⟨k, u', R', d', L', rfl, hk, HP, HOL, HRP, HBP, HLS, HLN2, HBK⟩ := hrel
              rename World => wk
              skip
              by_cases hkl : k < LS.length
              · skip
                have hkli : (k : Int) < 2 := by have := HLL.out; omega
                have HKL := hid hkl
                obtain ⟨ub, uc', rfl⟩ := HRP.out.rd.form
                obtain ⟨sa, sc, rfl⟩ := HOL.out.rd.form
                have hbl2 := (Array.getElem?_eq_some_iff.1 HBP.out).1
                have HBL2 := hid hbl2
                obtain ⟨b, o, ul, he, hcu, hru⟩ := HLS.out.rd.row hkl
                simp only [Option.some.injEq, Addr.mk.injEq, and_true] at he
                obtain ⟨rfl, rfl⟩ := he
                rw [Nat.zero_add] at hcu
                obtain ⟨h1, h2, h3⟩ := HLP.out k hkl
                have HPL := hid (fun (wx : World) (vv : Value) (h : Rd wx vv (LS.getD k [])) => l5PlainW_any vv (LS.getD k []) wx h h1 h2 h3)
                have HFAIL := hid (fun (h : splitPut xs (R', d', L') (plainL (LS.getD k [])) = none) => split_fail HN.out HSA.out HP.out h hkl HLT.out)
                have HNEXT := hid (fun (s : SplitSt) (h : splitPut xs (R', d', L') (plainL (LS.getD k [])) = some s) => (show putAll xs (R, d, L) (LS.take (k + 1)) = some s by rw [putAll_next hkl, HP.out]; exact h))
                obtain ⟨li, hli⟩ : ∃ li, li = LS.getD k [] := ⟨_, rfl⟩
                obtain ⟨pl, hpl⟩ : ∃ pl, pl = plainL (LS.getD k []) := ⟨_, rfl⟩
                rw [← hpl] at HPL HFAIL HNEXT
                rw [← hli] at HPL hru
                have HRU := hid hru
                obtain ⟨al, cl, rfl, _⟩ := hru.form
                have HXK := hid (HX.out.keep HBK.out)
                have HLEN := hid (show L'.length ≤ 100 by have := HLN2.out; have := HLL2.out; omega)
                clear hkl hk h1 h2 h3 hli hpl hru hbl2
                go_wp2_with fail
                refine (HPL.out _ _ HRU.out).mono ?_
                rintro e wa ⟨u13, rfl, ho13, hba⟩
                obtain ⟨a13, c13, rfl⟩ := ho13.reads
                have HBA := hid hba
                have HPA := hid ho13
                have HXA := hid (HXK.out.keep hba)
                clear ho13 hba
                have HMC := hid (fun (wx : World) (h1 : Rd wx (.slice ax xs.length cx) xs) (h2 : Rd wx (.slice a13 pl.length c13) pl) => moveMirrorS_any _ _ xs pl wx h1 h2)
                cases hm : mirV xs pl with
                | none =>
                  have HEN := hid (HFAIL.out (put_no hm))
                  have HMC2 : Hid (∀ wx : World, Rd wx (.slice ax xs.length cx) xs → Rd wx (.slice a13 pl.length c13) pl → Calls Try.prog 25 #[.slice ax xs.length cx, .slice a13 pl.length c13] wx fun e w' => ∃ u, e = .returned (.tuple #[.agg #[u, .int .i64 0], .bool false]) ∧ OwnM w' wx.heap.size none u [] ∧ Below wx.heap.size wx w') := hid (fun wx h1 h2 => by
                    have h := HMC.out wx h1 h2
                    unfold MovePost at h
                    rw [hm] at h
                    exact h)
                  clear hm HMC
                  go_wp2_with fail
                  refine (HMC2.out _ HXA.out HPA.out.rd).mono ?_
                  rintro e wb ⟨ub3, rfl, hob, hbb⟩
                  obtain ⟨ua3, uc3, rfl⟩ := hob.rd.form
                  have HBB := hid ((HBK.out.trans (HBA.out.mono HBK.out.size)).trans (hbb.mono (HBK.out.trans (HBA.out.mono HBK.out.size)).size))
                  clear hob hbb
                  go_wp2_with fail
                  refine bodyPost_ret (v := .tuple #[.slice (some ⟨wb.heap.size + 1, 0, none⟩) 0 0, .bool false]) (by simp [results, Try.results42, go_sem]) rfl ?_
                  rw [HEN.out]
                  exact listPost_nil2 (HBB.out.alloc HBB.out.size _) (by simp)
                | some Mm =>
                  obtain ⟨M, m⟩ := Mm
                  have HPI := hid (put_is (R := R') (d := d') (L := L') hm)
                  have HMC2 : Hid (∀ wx : World, Rd wx (.slice ax xs.length cx) xs → Rd wx (.slice a13 pl.length c13) pl → Calls Try.prog 25 #[.slice ax xs.length cx, .slice a13 pl.length c13] wx fun e w' => ∃ u, e = .returned (.tuple #[.agg #[u, .int .i64 m], .bool true]) ∧ OwnM w' wx.heap.size none u M ∧ Below wx.heap.size wx w') := hid (fun wx h1 h2 => by
                    have h := HMC.out wx h1 h2
                    unfold MovePost at h
                    rw [hm] at h
                    exact h)
                  clear hm HMC
                  go_wp2_with fail
                  refine (HMC2.out _ HXA.out HPA.out.rd).mono ?_
                  rintro e wb ⟨ub3, rfl, hob, hbb⟩
                  obtain ⟨ua3, uc3, rfl⟩ := hob.rd.form
                  have hb4 := hbb.alloc hbb.size (.cells #[.slice ua3 M.length uc3, .int .i64 m] 29)
                  have HO4 := hid (hob.keep ((Below.refl _ _).alloc (Nat.le_refl _) (.cells #[.slice ua3 M.length uc3, .int .i64 m] 29)))
                  have HB4 := hid (HBA.out.trans (hb4.mono HBA.out.size))
                  have HX4 := hid (HXA.out.keep hb4)
                  have HP4 := hid (HPA.out.keep HPA.out.lt hb4)
                  have HR4 := hid (HRP.out.keep HB4.out)
                  have hob4 := (HB4.out.block _ HBL2.out).trans HBP.out
                  have HOB4 := hid hob4
                  have p0 := cellB (i := 0) hob4
                  have p1 := cellB (i := 1) hob4
                  have HW4 := hid (HBK.out.trans (HB4.out.mono HBK.out.size))
                  have HMLC := hid (fun (h1 : Rd (wb.alloc (.cells #[.slice ua3 M.length uc3, .int .i64 m] 29)) (.slice ax xs.length cx) xs) (h2 : RdM (wb.alloc (.cells #[.slice ua3 M.length uc3, .int .i64 m] 29)) (.slice ua3 M.length uc3) M) (h3 : RdM (wb.alloc (.cells #[.slice ua3 M.length uc3, .int .i64 m] 29)) (.slice ub R'.length uc') R') => moveMulS_any _ _ _ xs M R' m d' _ h1 h2 h3)
                  unfold MovePost at HMLC
                  clear hob hbb hb4 hob4
                  cases hml : mulV xs M m R' d' with
                  | none =>
                    have HEN := hid (HFAIL.out (by rw [HPI.out, hml]; rfl))
                    rw [hml] at HMLC
                    clear hml
                    go_wp2_with fail
                    refine (HMLC.out HX4.out HO4.out.rd HR4.out.rd).mono ?_
                    rintro e w5' ⟨u5', rfl, ho5, hb5⟩
                    have hb5 : Below (wb.alloc (.cells #[.slice ua3 M.length uc3, .int .i64 m] 29)).heap.size (wb.alloc (.cells #[.slice ua3 M.length uc3, .int .i64 m] 29)) w5' := hb5
                    obtain ⟨ua5, uc5, rfl⟩ := ho5.rd.form
                    have HB5' := hid (HW4.out.trans (hb5.mono HW4.out.size))
                    clear ho5 hb5
                    go_wp2_with fail
                    refine bodyPost_ret (v := .tuple #[.slice (some ⟨w5'.heap.size + 1, 0, none⟩) 0 0, .bool false]) (by simp [results, Try.results42, go_sem]) rfl ?_
                    rw [HEN.out]
                    exact listPost_nil2 (HB5'.out.alloc HB5'.out.size _) (by simp)
                  | some Nn =>
                    obtain ⟨R5, d5⟩ := Nn
                    have HNX := hid (HNEXT.out (R5, d5, L' ++ [pl]) (by rw [HPI.out, hml]; rfl))
                    rw [hml] at HMLC
                    clear hml
                    go_wp2_with fail
                    refine (HMLC.out HX4.out HO4.out.rd HR4.out.rd).mono ?_
                    rintro e w5' ⟨u5', rfl, ho5, hb5⟩
                    have ho5 : OwnM w5' (wb.alloc (.cells #[.slice ua3 M.length uc3, .int .i64 m] 29)).heap.size none u5' R5 := ho5
                    have hb5 : Below (wb.alloc (.cells #[.slice ua3 M.length uc3, .int .i64 m] 29)).heap.size (wb.alloc (.cells #[.slice ua3 M.length uc3, .int .i64 m] 29)) w5' := hb5
                    obtain ⟨ua5, uc5, rfl⟩ := ho5.rd.form
                    obtain ⟨we, hwe⟩ : ∃ we, we = w5'.alloc (.cells #[.slice ua5 R5.length uc5, .int .i64 d5] 29) := ⟨_, rfl⟩
                    have hbe1 : Below w5'.heap.size w5' we := by rw [hwe]; exact (Below.refl _ _).alloc (Nat.le_refl _) _
                    have hbe2 := HB4.out.trans ((hb5.mono HB4.out.size).trans (hbe1.mono (Nat.le_trans HB4.out.size hb5.size)))
                    have HBE2 := hid hbe2
                    have HOE := hid (ho5.keep hbe1)
                    have HPE := hid ((HP4.out.keep HP4.out.lt hb5).keep (HP4.out.keep HP4.out.lt hb5).lt hbe1)
                    have hobe := (hbe2.block _ HBL2.out).trans HBP.out
                    have HOBE2 := hid hobe
                    have HWEB := hid (HBK.out.trans (hbe2.mono HBK.out.size))
                    have hske := hbe2.size
                    obtain ⟨vals, SN⟩ := ownM_snoc2 (W := (we.setCell ⟨w.heap.size, 0, none⟩ (.slice ua5 R5.length uc5)).setCell ⟨w.heap.size, 1, none⟩ (.int .i64 d5)) (zv := .slice a13 pl.length c13) (zs := pl) HOL.out (fun g h1 h2 => by
                      rw [Below.heap_setCell _ _ _ g (by show g ≠ w.heap.size; omega), Below.heap_setCell _ _ _ g (by show g ≠ w.heap.size; omega)]
                      exact hbe2.block g h2) (by simpa using hske) (by have := HBL2.out; omega) (HPE.out.at_block fun g e => by
                      have := HPE.out.ge g e
                      have := HBL2.out
                      rw [Below.heap_setCell _ _ _ g (by show g ≠ w.heap.size; omega), Below.heap_setCell _ _ _ g (by show g ≠ w.heap.size; omega)]) (fun k e => by cases e)
                    have HSN := hid SN
                    have hrow := SN.row
                    rw [hwe] at hrow
                    have HROW := hid hrow
                    clear hrow
                    have HSW4 := hid HB4.out.size
                    have HSB5 := hid hb5.size
                    have hbe0 : w.heap.size + 1 ≤ we.heap.size := by have := HBL2.out; omega
                    rw [hwe] at hobe hbe0
                    have x0 := cellB (i := 0) hobe
                    have x1 := cellB (i := 1) hobe
                    have y0 := frozenB (i := 0) hobe
                    have y1 := frozenB (i := 1) hobe
                    have hbe0' : w.heap.size ≤ w5'.heap.size := by simp at hbe0; omega
                    have HWE2 := hid hwe
                    have hll := HLEN.out
                    clear SN ho5 hb5 hbe1 hbe2 hobe hwe p0 p1 hske
                    go_wp2_with (at_builtin; refine wpList_append_own_at _ rfl _ _ 23 rfl (w.heap.size + 1) 22 i1 (.slice none 0 0) 1 24 Try.underlying23 hi1 hy0 hy1 hy2 rfl (by decide) _ _ _ rfl ((show World.ownsRow (((w5'.alloc (.cells #[.slice ua5 R5.length uc5, .int .i64 d5] 29)).setCell ⟨w.heap.size, 0, none⟩ (.slice ua5 R5.length uc5)).setCell ⟨w.heap.size, 1, none⟩ (.int .i64 d5)) _ _ _ _ _ _ from HROW.out).alloc _) ⟨w5'.heap.size + 1, 0, none⟩ 1 1 [.slice a13 pl.length c13] rfl rfl (by have h := cell_one_new (((w5'.alloc (.cells #[.slice ua5 R5.length uc5, .int .i64 d5] 29)).setCell ⟨w.heap.size, 0, none⟩ (.slice ua5 R5.length uc5)).setCell ⟨w.heap.size, 1, none⟩ (.int .i64 d5)) (.slice a13 pl.length c13) 22; simp at h; exact h) (by simp [Value.oneCell']) (by unfold maxLen; omega) (by omega) (by simp; omega) ?_; intro v' wg hown' hgrow _ hat; rw [← HWE2.out] at hgrow hat; have hsn := HSN.out.fin _ _ _ hown' hgrow hat; have HSG := hid hgrow; have HSN3 := hid hsn; have HAT := hid hat; clear hown' hat hsn hgrow)
                    have HSS := hid (split_step HOBE2.out HSG.out (fun e => by have := (HOL.out.lt _ e).1; omega))
                    go_roundw
                    case measure => simp only [intOf]; have := HKL.out; omega
                    case rel =>
                      obtain ⟨s1, s2, s3⟩ := HSS.out
                      have hl2 := HBL2.out
                      have hske := HBE2.out.size
                      have hsw4 := HSW4.out
                      have hsb5 := HSB5.out
                      refine ⟨k + 1, _, R5, d5, L' ++ [pl], by go_num, by have := HKL.out; omega, HNX, HSN3, hid ?_, hid s3, hid ?_, hid ?_, hid ?_⟩
                      · refine HOE.out.rdS.to s1 fun g hg hS => ⟨by have := hS.1; omega, s2 g hg (by have := hS.1; omega) fun e => ?_⟩
                        have := (HOL.out.lt g e).2.1
                        have := hS.1
                        omega
                      · refine HLS.out.to (by omega) fun g hg hS => ⟨⟨hS.1, fun e => ?_⟩, ?_⟩
                        · rcases HAT.out with h | h
                          · rw [h] at e; exact hS.2 e
                          · rw [h] at e
                            have := Option.some.inj e
                            simp at this
                            omega
                        · rw [s2 g (by omega) (by have := hS.1; omega) hS.2]
                          exact HBE2.out.block g hg
                      · rw [List.length_append]
                        have := HLN2.out
                        simp
                        omega
                      · exact (((HWEB.out.setCell (Nat.le_refl _) _).setCell (Nat.le_refl _) _).alloc (by simp; omega) _).grown HSG.out (by simp; omega) (fun k e => by have := (HOL.out.lt k e).1; omega)
              · have hke : k = LS.length := by omega
                have HPF := HP.out
                rw [List.take_of_length_le (by omega)] at HPF
                have HNX := hid (split_go HN.out (HSA.out.trans HPF))
                have HOK2 := hid (putAll_ok (st := (R, d, L)) HOK.out k (by omega) _ HP.out)
                have hge : ¬ (k : Int) < 2 := by have := HLL.out; omega
                have HLN3 := hid (show L'.length ≤ 2 * (i + 1) by have := HLN2.out; have := HLL2.out; omega)
                clear hkl hke HPF hk
                go_wp2_with fail
                go_roundw
                case measure => simp only [intOf]; have := HLT.out; omega
                case rel => exact ⟨i + 1, _, R', d', L', by go_num, by have := HLT.out; omega, HNX, HOK2, HOL, HRP, HBP, HLN3, HBK⟩
          · skip
            replace HS1 := hid (HS1.out hd0)
            have D0 : (dv == 0) = false := by rw [beq_eq_false_iff_ne]; exact hd0
            clear hd0
            go_wp2_with fail
            rw [← HW6.out]
            go_wp2_with (go_at_call 76; refine (l5Some_any _ X _ HM6.out.rd (by rw [HML.out]; omega)).mono ?_; rw [HSO.out]; rintro e w' ⟨rfl, rfl⟩)
            refine (HQD.out _ _ HX6.out HM6.out.rd).mono ?_
            rintro e w7 ⟨rfl, hb7⟩
            have HB7 := hid (HB6.out.trans (hb7.mono HB6.out.size))
            have HL2 := hid (HL1.out.keep hb7)
            clear hb7
            obtain ⟨LS, hLS⟩ : ∃ LS, LS = [X] := ⟨_, rfl⟩
            have HLP : Hid (∀ k, k < LS.length → (LS.getD k []).length ≤ 4 ∧ Vec11 (LS.getD k []) ∧ ∃ v ∈ LS.getD k [], v ≠ 0) := hid (by
              rw [hLS]
              intro k hk
              have hk2 : k = 0 := by simpa using hk
              subst hk2
              exact ⟨by show X.length ≤ 4; rw [HML.out]; omega, fun v hv => by have := HMB.out v hv; omega, HSX.out⟩)
            have HLL : Hid (LS.length = 1) := hid (by rw [hLS]; rfl)
            have HLL2 : Hid (LS.length ≤ 2) := hid (by rw [HLL.out]; omega)
            rw [← hLS] at HL2 HS1
            have HSA := HS1
            have HLW := hid HL2.out.rdS
            have HBZ := HB7
            clear hLS
            go_wp2_with fail
            go_loopw [6, 12, 13, 14, 15, 16, 17] (fun so sk sw sm sq sn sf wk => ∃ (k : Nat) (u' : Value) (R' : List (List Int)) (d' : Int) (L' : List (List Int)), sk = .int .i64 k ∧ k ≤ LS.length ∧ Hid (putAll xs (R, d, L) (LS.take k) = some (R', d', L')) ∧ Hid (OwnM wk (w.heap.size + 1) none so L') ∧ Hid (RdS wk (fun g => g ≠ w.heap.size) u' R') ∧ Hid (wk.heap[w.heap.size]? = some (.cells #[u', .int .i64 d'] 29 (0, 0))) ∧ Hid (RdS wk (fun g => w.heap.size + 1 ≤ g ∧ so.ownBlock ≠ some g) (.slice (some ⟨w5.heap.size, 0, none⟩) 1 1) LS) ∧ Hid (L'.length ≤ 2 * i + k) ∧ Hid (Below w.heap.size w wk)) (fun _ sk _ _ _ _ _ _ => LS.length - (intOf sk).toNat)
            case atStart => exact ⟨0, _, R, d, L, rfl, by omega, hid rfl, hid (HO.out.keep HBZ.out), hid (HRS.out.keep HBZ.out), hid ((HBZ.out.block _ HBL.out).trans HBX.out), hid (by
              have h := HLW.out
              refine RdS.to h (Nat.le_refl _) fun g hg hS => ⟨⟨?_, fun e => ?_⟩, rfl⟩
              · have := HBL.out; have := hS.1; omega
              · have := (HO.out.lt g e).2.1; have := hS.1; omega), hid (by have := HLN.out; omega), hid (HBW.out.trans (HBZ.out.mono HBW.out.size))⟩
            case round =>
              obtain ⟨k, u', R', d', L', rfl, hk, HP, HOL, HRP, HBP, HLS, HLN2, HBK⟩ := hrel
              rename World => wk
              skip
              by_cases hkl : k < LS.length
              · skip
                have hkli : (k : Int) < 1 := by have := HLL.out; omega
                have HKL := hid hkl
                obtain ⟨ub, uc', rfl⟩ := HRP.out.rd.form
                obtain ⟨sa, sc, rfl⟩ := HOL.out.rd.form
                have hbl2 := (Array.getElem?_eq_some_iff.1 HBP.out).1
                have HBL2 := hid hbl2
                obtain ⟨b, o, ul, he, hcu, hru⟩ := HLS.out.rd.row hkl
                simp only [Option.some.injEq, Addr.mk.injEq, and_true] at he
                obtain ⟨rfl, rfl⟩ := he
                rw [Nat.zero_add] at hcu
                obtain ⟨h1, h2, h3⟩ := HLP.out k hkl
                have HPL := hid (fun (wx : World) (vv : Value) (h : Rd wx vv (LS.getD k [])) => l5PlainW_any vv (LS.getD k []) wx h h1 h2 h3)
                have HFAIL := hid (fun (h : splitPut xs (R', d', L') (plainL (LS.getD k [])) = none) => split_fail HN.out HSA.out HP.out h hkl HLT.out)
                have HNEXT := hid (fun (s : SplitSt) (h : splitPut xs (R', d', L') (plainL (LS.getD k [])) = some s) => (show putAll xs (R, d, L) (LS.take (k + 1)) = some s by rw [putAll_next hkl, HP.out]; exact h))
                obtain ⟨li, hli⟩ : ∃ li, li = LS.getD k [] := ⟨_, rfl⟩
                obtain ⟨pl, hpl⟩ : ∃ pl, pl = plainL (LS.getD k []) := ⟨_, rfl⟩
                rw [← hpl] at HPL HFAIL HNEXT
                rw [← hli] at HPL hru
                have HRU := hid hru
                obtain ⟨al, cl, rfl, _⟩ := hru.form
                have HXK := hid (HX.out.keep HBK.out)
                have HLEN := hid (show L'.length ≤ 100 by have := HLN2.out; have := HLL2.out; omega)
                clear hkl hk h1 h2 h3 hli hpl hru hbl2
                go_wp2_with fail
                refine (HPL.out _ _ HRU.out).mono ?_
                rintro e wa ⟨u13, rfl, ho13, hba⟩
                obtain ⟨a13, c13, rfl⟩ := ho13.reads
                have HBA := hid hba
                have HPA := hid ho13
                have HXA := hid (HXK.out.keep hba)
                clear ho13 hba
                have HMC := hid (fun (wx : World) (h1 : Rd wx (.slice ax xs.length cx) xs) (h2 : Rd wx (.slice a13 pl.length c13) pl) => moveMirrorS_any _ _ xs pl wx h1 h2)
                cases hm : mirV xs pl with
                | none =>
                  have HEN := hid (HFAIL.out (put_no hm))
                  have HMC2 : Hid (∀ wx : World, Rd wx (.slice ax xs.length cx) xs → Rd wx (.slice a13 pl.length c13) pl → Calls Try.prog 25 #[.slice ax xs.length cx, .slice a13 pl.length c13] wx fun e w' => ∃ u, e = .returned (.tuple #[.agg #[u, .int .i64 0], .bool false]) ∧ OwnM w' wx.heap.size none u [] ∧ Below wx.heap.size wx w') := hid (fun wx h1 h2 => by
                    have h := HMC.out wx h1 h2
                    unfold MovePost at h
                    rw [hm] at h
                    exact h)
                  clear hm HMC
                  go_wp2_with fail
                  refine (HMC2.out _ HXA.out HPA.out.rd).mono ?_
                  rintro e wb ⟨ub3, rfl, hob, hbb⟩
                  obtain ⟨ua3, uc3, rfl⟩ := hob.rd.form
                  have HBB := hid ((HBK.out.trans (HBA.out.mono HBK.out.size)).trans (hbb.mono (HBK.out.trans (HBA.out.mono HBK.out.size)).size))
                  clear hob hbb
                  go_wp2_with fail
                  refine bodyPost_ret (v := .tuple #[.slice (some ⟨wb.heap.size + 1, 0, none⟩) 0 0, .bool false]) (by simp [results, Try.results42, go_sem]) rfl ?_
                  rw [HEN.out]
                  exact listPost_nil2 (HBB.out.alloc HBB.out.size _) (by simp)
                | some Mm =>
                  obtain ⟨M, m⟩ := Mm
                  have HPI := hid (put_is (R := R') (d := d') (L := L') hm)
                  have HMC2 : Hid (∀ wx : World, Rd wx (.slice ax xs.length cx) xs → Rd wx (.slice a13 pl.length c13) pl → Calls Try.prog 25 #[.slice ax xs.length cx, .slice a13 pl.length c13] wx fun e w' => ∃ u, e = .returned (.tuple #[.agg #[u, .int .i64 m], .bool true]) ∧ OwnM w' wx.heap.size none u M ∧ Below wx.heap.size wx w') := hid (fun wx h1 h2 => by
                    have h := HMC.out wx h1 h2
                    unfold MovePost at h
                    rw [hm] at h
                    exact h)
                  clear hm HMC
                  go_wp2_with fail
                  refine (HMC2.out _ HXA.out HPA.out.rd).mono ?_
                  rintro e wb ⟨ub3, rfl, hob, hbb⟩
                  obtain ⟨ua3, uc3, rfl⟩ := hob.rd.form
                  have hb4 := hbb.alloc hbb.size (.cells #[.slice ua3 M.length uc3, .int .i64 m] 29)
                  have HO4 := hid (hob.keep ((Below.refl _ _).alloc (Nat.le_refl _) (.cells #[.slice ua3 M.length uc3, .int .i64 m] 29)))
                  have HB4 := hid (HBA.out.trans (hb4.mono HBA.out.size))
                  have HX4 := hid (HXA.out.keep hb4)
                  have HP4 := hid (HPA.out.keep HPA.out.lt hb4)
                  have HR4 := hid (HRP.out.keep HB4.out)
                  have hob4 := (HB4.out.block _ HBL2.out).trans HBP.out
                  have HOB4 := hid hob4
                  have p0 := cellB (i := 0) hob4
                  have p1 := cellB (i := 1) hob4
                  have HW4 := hid (HBK.out.trans (HB4.out.mono HBK.out.size))
                  have HMLC := hid (fun (h1 : Rd (wb.alloc (.cells #[.slice ua3 M.length uc3, .int .i64 m] 29)) (.slice ax xs.length cx) xs) (h2 : RdM (wb.alloc (.cells #[.slice ua3 M.length uc3, .int .i64 m] 29)) (.slice ua3 M.length uc3) M) (h3 : RdM (wb.alloc (.cells #[.slice ua3 M.length uc3, .int .i64 m] 29)) (.slice ub R'.length uc') R') => moveMulS_any _ _ _ xs M R' m d' _ h1 h2 h3)
                  unfold MovePost at HMLC
                  clear hob hbb hb4 hob4
                  cases hml : mulV xs M m R' d' with
                  | none =>
                    have HEN := hid (HFAIL.out (by rw [HPI.out, hml]; rfl))
                    rw [hml] at HMLC
                    clear hml
                    go_wp2_with fail
                    refine (HMLC.out HX4.out HO4.out.rd HR4.out.rd).mono ?_
                    rintro e w5' ⟨u5', rfl, ho5, hb5⟩
                    have hb5 : Below (wb.alloc (.cells #[.slice ua3 M.length uc3, .int .i64 m] 29)).heap.size (wb.alloc (.cells #[.slice ua3 M.length uc3, .int .i64 m] 29)) w5' := hb5
                    obtain ⟨ua5, uc5, rfl⟩ := ho5.rd.form
                    have HB5' := hid (HW4.out.trans (hb5.mono HW4.out.size))
                    clear ho5 hb5
                    go_wp2_with fail
                    refine bodyPost_ret (v := .tuple #[.slice (some ⟨w5'.heap.size + 1, 0, none⟩) 0 0, .bool false]) (by simp [results, Try.results42, go_sem]) rfl ?_
                    rw [HEN.out]
                    exact listPost_nil2 (HB5'.out.alloc HB5'.out.size _) (by simp)
                  | some Nn =>
                    obtain ⟨R5, d5⟩ := Nn
                    have HNX := hid (HNEXT.out (R5, d5, L' ++ [pl]) (by rw [HPI.out, hml]; rfl))
                    rw [hml] at HMLC
                    clear hml
                    go_wp2_with fail
                    refine (HMLC.out HX4.out HO4.out.rd HR4.out.rd).mono ?_
                    rintro e w5' ⟨u5', rfl, ho5, hb5⟩
                    have ho5 : OwnM w5' (wb.alloc (.cells #[.slice ua3 M.length uc3, .int .i64 m] 29)).heap.size none u5' R5 := ho5
                    have hb5 : Below (wb.alloc (.cells #[.slice ua3 M.length uc3, .int .i64 m] 29)).heap.size (wb.alloc (.cells #[.slice ua3 M.length uc3, .int .i64 m] 29)) w5' := hb5
                    obtain ⟨ua5, uc5, rfl⟩ := ho5.rd.form
                    obtain ⟨we, hwe⟩ : ∃ we, we = w5'.alloc (.cells #[.slice ua5 R5.length uc5, .int .i64 d5] 29) := ⟨_, rfl⟩
                    have hbe1 : Below w5'.heap.size w5' we := by rw [hwe]; exact (Below.refl _ _).alloc (Nat.le_refl _) _
                    have hbe2 := HB4.out.trans ((hb5.mono HB4.out.size).trans (hbe1.mono (Nat.le_trans HB4.out.size hb5.size)))
                    have HBE2 := hid hbe2
                    have HOE := hid (ho5.keep hbe1)
                    have HPE := hid ((HP4.out.keep HP4.out.lt hb5).keep (HP4.out.keep HP4.out.lt hb5).lt hbe1)
                    have hobe := (hbe2.block _ HBL2.out).trans HBP.out
                    have HOBE2 := hid hobe
                    have HWEB := hid (HBK.out.trans (hbe2.mono HBK.out.size))
                    have hske := hbe2.size
                    obtain ⟨vals, SN⟩ := ownM_snoc2 (W := (we.setCell ⟨w.heap.size, 0, none⟩ (.slice ua5 R5.length uc5)).setCell ⟨w.heap.size, 1, none⟩ (.int .i64 d5)) (zv := .slice a13 pl.length c13) (zs := pl) HOL.out (fun g h1 h2 => by
                      rw [Below.heap_setCell _ _ _ g (by show g ≠ w.heap.size; omega), Below.heap_setCell _ _ _ g (by show g ≠ w.heap.size; omega)]
                      exact hbe2.block g h2) (by simpa using hske) (by have := HBL2.out; omega) (HPE.out.at_block fun g e => by
                      have := HPE.out.ge g e
                      have := HBL2.out
                      rw [Below.heap_setCell _ _ _ g (by show g ≠ w.heap.size; omega), Below.heap_setCell _ _ _ g (by show g ≠ w.heap.size; omega)]) (fun k e => by cases e)
                    have HSN := hid SN
                    have hrow := SN.row
                    rw [hwe] at hrow
                    have HROW := hid hrow
                    clear hrow
                    have HSW4 := hid HB4.out.size
                    have HSB5 := hid hb5.size
                    have hbe0 : w.heap.size + 1 ≤ we.heap.size := by have := HBL2.out; omega
                    rw [hwe] at hobe hbe0
                    have x0 := cellB (i := 0) hobe
                    have x1 := cellB (i := 1) hobe
                    have y0 := frozenB (i := 0) hobe
                    have y1 := frozenB (i := 1) hobe
                    have hbe0' : w.heap.size ≤ w5'.heap.size := by simp at hbe0; omega
                    have HWE2 := hid hwe
                    have hll := HLEN.out
                    clear SN ho5 hb5 hbe1 hbe2 hobe hwe p0 p1 hske
                    go_wp2_with (at_builtin; refine wpList_append_own_at _ rfl _ _ 23 rfl (w.heap.size + 1) 22 i1 (.slice none 0 0) 1 24 Try.underlying23 hi1 hy0 hy1 hy2 rfl (by decide) _ _ _ rfl ((show World.ownsRow (((w5'.alloc (.cells #[.slice ua5 R5.length uc5, .int .i64 d5] 29)).setCell ⟨w.heap.size, 0, none⟩ (.slice ua5 R5.length uc5)).setCell ⟨w.heap.size, 1, none⟩ (.int .i64 d5)) _ _ _ _ _ _ from HROW.out).alloc _) ⟨w5'.heap.size + 1, 0, none⟩ 1 1 [.slice a13 pl.length c13] rfl rfl (by have h := cell_one_new (((w5'.alloc (.cells #[.slice ua5 R5.length uc5, .int .i64 d5] 29)).setCell ⟨w.heap.size, 0, none⟩ (.slice ua5 R5.length uc5)).setCell ⟨w.heap.size, 1, none⟩ (.int .i64 d5)) (.slice a13 pl.length c13) 22; simp at h; exact h) (by simp [Value.oneCell']) (by unfold maxLen; omega) (by omega) (by simp; omega) ?_; intro v' wg hown' hgrow _ hat; rw [← HWE2.out] at hgrow hat; have hsn := HSN.out.fin _ _ _ hown' hgrow hat; have HSG := hid hgrow; have HSN3 := hid hsn; have HAT := hid hat; clear hown' hat hsn hgrow)
                    have HSS := hid (split_step HOBE2.out HSG.out (fun e => by have := (HOL.out.lt _ e).1; omega))
                    go_roundw
                    case measure => simp only [intOf]; have := HKL.out; omega
                    case rel =>
                      obtain ⟨s1, s2, s3⟩ := HSS.out
                      have hl2 := HBL2.out
                      have hske := HBE2.out.size
                      have hsw4 := HSW4.out
                      have hsb5 := HSB5.out
                      refine ⟨k + 1, _, R5, d5, L' ++ [pl], by go_num, by have := HKL.out; omega, HNX, HSN3, hid ?_, hid s3, hid ?_, hid ?_, hid ?_⟩
                      · refine HOE.out.rdS.to s1 fun g hg hS => ⟨by have := hS.1; omega, s2 g hg (by have := hS.1; omega) fun e => ?_⟩
                        have := (HOL.out.lt g e).2.1
                        have := hS.1
                        omega
                      · refine HLS.out.to (by omega) fun g hg hS => ⟨⟨hS.1, fun e => ?_⟩, ?_⟩
                        · rcases HAT.out with h | h
                          · rw [h] at e; exact hS.2 e
                          · rw [h] at e
                            have := Option.some.inj e
                            simp at this
                            omega
                        · rw [s2 g (by omega) (by have := hS.1; omega) hS.2]
                          exact HBE2.out.block g hg
                      · rw [List.length_append]
                        have := HLN2.out
                        simp
                        omega
                      · exact (((HWEB.out.setCell (Nat.le_refl _) _).setCell (Nat.le_refl _) _).alloc (by simp; omega) _).grown HSG.out (by simp; omega) (fun k e => by have := (HOL.out.lt k e).1; omega)
              · have hke : k = LS.length := by omega
                have HPF := HP.out
                rw [List.take_of_length_le (by omega)] at HPF
                have HNX := hid (split_go HN.out (HSA.out.trans HPF))
                have HOK2 := hid (putAll_ok (st := (R, d, L)) HOK.out k (by omega) _ HP.out)
                have hge : ¬ (k : Int) < 1 := by have := HLL.out; omega
                have HLN3 := hid (show L'.length ≤ 2 * (i + 1) by have := HLN2.out; have := HLL2.out; omega)
                clear hkl hke HPF hk
                go_wp2_with fail
                go_roundw
                case measure => simp only [intOf]; have := HLT.out; omega
                case rel => exact ⟨i + 1, _, R', d', L', by go_num, by have := HLT.out; omega, HNX, HOK2, HOL, HRP, HBP, HLN3, HBK⟩
      · have hie : i = xs.length := by omega
        have HNF := HN.out
        rw [hie] at HNF
        have HE : Hid (splitV xs A a = some L) := hid (by unfold splitV; rw [HVT.out, if_pos rfl, HNF]; rfl)
        obtain ⟨sa, sc, rfl⟩ := HO.out.rd.form
        have hge : ¬ (i : Int) < (xs.length : Int) := by omega
        clear hlt hie HNF
        go_wp2_with fail
        refine bodyPost_ret (v := .tuple #[.slice sa L.length sc, .bool true]) (by simp [results, Try.results42, go_sem]) rfl ?_
        rw [HE.out]
        exact ⟨_, rfl, HO.out.down (Nat.le_succ _), HBW.out⟩

end Go.Proofs.Ytacjejnbomdhbab

set_option linter.unusedVariables false
namespace Go.Proofs.Ytacjejnbomdhbab
open Go.RowKit

def putS (xs : List Int) (st : SplitSt) (l : List (List Int)) : Option SplitSt := l.foldl (fun o w => o.bind fun st => splitPut xs st w) (some st)
theorem putS_fold_none (xs : List Int) (l : List (List Int)) : l.foldl (fun (o : Option SplitSt) w => o.bind fun st => splitPut xs st w) none = none := by
  induction l with
  | nil => rfl
  | cons a l ih => rw [List.foldl_cons]; exact ih
theorem putS_next {xs : List Int} {st : SplitSt} {l : List (List Int)} {k : Nat} (hk : k < l.length) : putS xs st (l.take (k + 1)) = (putS xs st (l.take k)).bind fun st => splitPut xs st (l.getD k []) := by
  unfold putS
  rw [List.take_add_one, List.getElem?_eq_getElem hk, List.foldl_append, List.getD_eq_getElem?_getD, List.getElem?_eq_getElem hk]
  rfl
theorem putS_none {xs : List Int} {st : SplitSt} {l : List (List Int)} {k : Nat} (h : putS xs st (l.take k) = none) : putS xs st l = none := by
  rw [← List.take_append_drop k l]
  unfold putS at *
  rw [List.foldl_append, h, putS_fold_none]
theorem plain_axis {n i : Nat} {d : Int} (hi : i < n) (hd : d ≠ 0) : plainL (rowL n (fun r => if r = i then d else 0)) = plainL (unL n i) := by
  rw [← plain_scale hd (un_some hi)]
  congr 1
  unfold unL rowL
  rw [List.map_map]
  refine List.map_congr_left fun r _ => ?_
  show (if r = i then d else 0) = d * unF i r
  unfold unF
  split <;> simp
theorem diff_mix {n i : Nat} {R : List (List Int)} {d c : Int} : diffL (rowL n (fun r => at2 R r i)) (rowL n (fun r => if r = i then d else 0)) c n = mixL n R d c i := by
  refine list_ext (n := n) (by unfold diffL; exact row_len _ _) (by unfold mixL; exact row_len _ _) fun r hr => ?_
  rw [diff_at hr]
  unfold mixL
  rw [row_at hr, row_at hr, row_at hr]
/-- what is done at one place -/
theorem split_carry {xs : List Int} {st : SplitSt} {i : Nat} (hi : i < xs.length) (hd : st.2.1 ≠ 0) : splitAt xs st i = putS xs st (carryL xs (rowL xs.length (fun r => at2 st.1 r i)) (rowL xs.length (fun r => if r = i then st.2.1 else 0))) := by
  unfold carryL splitAt
  rw [diff_mix, diff_mix, plain_axis hi hd]
  split
  · rfl
  · split
    · rfl
    · rfl
theorem splitS_fail {xs : List Int} {A : List (List Int)} {a : Int} {st : SplitSt} {LS : List (List Int)} {i k : Nat} (h : splitN xs (A, a, []) i = some st) (h2 : splitAt xs st i = putS xs st LS) (h3 : putS xs st (LS.take k) = none) (hi : i < xs.length) : splitV xs A a = none := by
  have e : splitN xs (A, a, []) (i + 1) = none := by
    show (splitN xs (A, a, []) i).bind (fun st => splitAt xs st i) = none
    rw [h]
    show splitAt xs st i = none
    rw [h2]
    exact putS_none h3
  unfold splitV
  split
  · rw [splitN_none e xs.length hi]; rfl
  · rfl
theorem put_map {xs ws : List Int} {R : List (List Int)} {d : Int} {L : List (List Int)} {O : Option (List (List Int) × Int)} (h : O = (mirV xs ws).bind fun M => mulV xs M.1 M.2 R d) : splitPut xs (R, d, L) ws = O.map (fun m => (m.1, m.2, L ++ [ws])) := by
  subst h
  unfold splitPut
  cases mirV xs ws with
  | none => rfl
  | some M => rfl

/-- a list of lists of one's own: its own block is none of S, no row's is one of T -/
def OwnA (W : World) (B : Nat) (S T : Nat → Prop) (v : Value) (R : List (List Int)) : Prop := ∃ vals : List Value, vals.length = R.length ∧ World.ownsRow W B 22 1 v R.length vals ∧ (∀ k, v.ownBlock = some k → ¬ S k) ∧ (∀ i, i < R.length → Owns W B (vals.getD i undef) (R.getD i []) ∧ ∀ k, (vals.getD i undef).ownBlock = some k → v.ownBlock ≠ some k ∧ ¬ T k) ∧ ∀ i j k, i < j → j < R.length → (vals.getD i undef).ownBlock = some k → (vals.getD j undef).ownBlock ≠ some k
theorem OwnA.at_blocks {W W' : World} {B : Nat} {S T : Nat → Prop} {v : Value} {R : List (List Int)} (h : OwnA W B S T v R) (hb : ∀ g, B ≤ g → g < W.heap.size → W'.heap[g]? = W.heap[g]?) : OwnA W' B S T v R := by
  obtain ⟨vals, hl, ho, hx, hr, hd⟩ := h
  refine ⟨vals, hl, row_at_block ho fun g e => ?_, hx, fun i hi => ⟨(hr i hi).1.at_block fun g e => ?_, (hr i hi).2⟩, hd⟩
  · have := World.ownsRow.lt ho g e
    exact hb g this.1 this.2
  · exact hb g ((hr i hi).1.ge g e) ((hr i hi).1.lt g e)
theorem OwnA.ownM {W : World} {B : Nat} {S T : Nat → Prop} {v : Value} {R : List (List Int)} (h : OwnA W B S T v R) : OwnM W B none v R := by
  obtain ⟨vals, hl, ho, hx, hr, hd⟩ := h
  exact ⟨vals, hl, ho, fun _ _ => by simp, fun i hi => ⟨(hr i hi).1, fun k e => ⟨((hr i hi).2 k e).1, by simp⟩⟩, hd⟩
theorem OwnM.ownA {W : World} {B : Nat} {ex : Option Nat} {S T : Nat → Prop} {v : Value} {R : List (List Int)} (h : OwnM W B ex v R) (hS : ∀ k, k < W.heap.size → ¬ S k) (hT : ∀ k, k < W.heap.size → ¬ T k) : OwnA W B S T v R := by
  obtain ⟨vals, hl, ho, hx, hr, hd⟩ := h.own
  exact ⟨vals, hl, ho, fun k e => hS k (World.ownsRow.lt ho k e).2, fun i hi => ⟨(hr i hi).1, fun k e => ⟨((hr i hi).2 k e).1, hT k ((hr i hi).1.lt k e)⟩⟩, hd⟩
theorem OwnA.lt {W : World} {B : Nat} {S T : Nat → Prop} {v : Value} {R : List (List Int)} (h : OwnA W B S T v R) : ∀ k, v.ownBlock = some k → B ≤ k ∧ k < W.heap.size ∧ ¬ S k := by
  obtain ⟨vals, _, ho, hx, _⟩ := h
  exact fun k e => ⟨(World.ownsRow.lt ho k e).1, (World.ownsRow.lt ho k e).2, hx k e⟩
structure SnocA (W : World) (B : Nat) (S T : Nat → Prop) (v : Value) (R : List (List Int)) (zv : Value) (zs : List Int) (vals : List Value) : Prop where
  row : World.ownsRow W B 22 1 v R.length vals
  fin : ∀ (W' : World) (v' : Value) (o : Obj), World.ownsRow W' B 22 1 v' (R.length + 1) (vals ++ [zv]) → (W.alloc o).grownBy W' v.ownBlock → (v'.ownBlock = v.ownBlock ∨ v'.ownBlock = some (W.alloc o).heap.size) → OwnA W' B S T v' (R ++ [zs])
/-- one more row, whose block lies in S and T, and not in T' -/
theorem ownA_snoc {W : World} {B : Nat} {S T T' : Nat → Prop} {v zv : Value} {R : List (List Int)} {zs : List Int} (h : OwnA W B S T v R) (hz : Owns W B zv zs) (hzT : ∀ k, zv.ownBlock = some k → S k ∧ T k ∧ ¬ T' k) (hTT : ∀ k, T' k → T k) (hS : ∀ k, S k → k < W.heap.size) : ∃ vals, SnocA W B S T' v R zv zs vals := by
  obtain ⟨vals, hl, ho, hx, hr, hd⟩ := h
  refine ⟨vals, ho, fun W' v' o hown hg hat => ?_⟩
  have key : ∀ {x : Value} {ys : List Int}, Owns W B x ys → (∀ k, x.ownBlock = some k → v.ownBlock ≠ some k) → Owns W' B x ys ∧ ∀ k, x.ownBlock = some k → v'.ownBlock ≠ some k := by
    intro x ys hx hne
    refine ⟨hx.at_block fun g e => ?_, fun k e => ?_⟩
    · have hlt := hx.lt g e
      have e1 : W'.heap[g]? = (W.alloc o).heap[g]? := hg.block g (by simp; omega) (fun e2 => hne g e e2.symm)
      exact e1.trans (Below.heap_alloc _ _ _ hlt)
    · rcases hat with h | h
      · rw [h]; exact hne k e
      · rw [h]
        intro e2
        have := hx.lt k e
        simp only [World.size_alloc, Option.some.injEq] at e2
        omega
  have hz2 := key hz fun k e e2 => hx k e2 (hzT k e).1
  refine ⟨vals ++ [zv], by rw [List.length_append, List.length_append, hl]; rfl, by rw [List.length_append]; exact hown, fun k e hs => ?_, fun i hi => ?_, fun i j k hij hj => ?_⟩
  · rcases hat with h | h
    · rw [h] at e; exact hx k e hs
    · rw [h] at e
      have := hS k hs
      simp only [World.size_alloc, Option.some.injEq] at e
      omega
  · rw [List.length_append] at hi
    simp only [List.length_cons, List.length_nil] at hi
    by_cases e : i < R.length
    · rw [getD_snoc_old _ _ _ (by omega), getD_snoc_old _ _ _ e]
      have hk := key (hr i e).1 fun k e2 => ((hr i e).2 k e2).1
      exact ⟨hk.1, fun k e2 => ⟨hk.2 k e2, fun e3 => ((hr i e).2 k e2).2 (hTT k e3)⟩⟩
    · obtain rfl : i = R.length := by omega
      rw [getD_snoc_new, ← hl, getD_snoc_new]
      exact ⟨hz2.1, fun k e2 => ⟨hz2.2 k e2, (hzT k e2).2.2⟩⟩
  · rw [List.length_append] at hj
    simp only [List.length_cons, List.length_nil] at hj
    rw [getD_snoc_old _ _ _ (by omega)]
    by_cases e : j < R.length
    · rw [getD_snoc_old _ _ _ (by omega)]
      exact hd i j k hij e
    · obtain rfl : j = R.length := by omega
      rw [show (vals ++ [zv]).getD R.length undef = zv by rw [← hl, getD_snoc_new]]
      intro e2 e3
      exact ((hr i (by omega)).2 k e2).2 (hzT k e3).2.1
/-- blocks that lie between two sizes, and are none of the first rows' -/
def Left (a b : Nat) (vals : List Value) (k : Nat) : Nat → Prop := fun g => a ≤ g ∧ g < b ∧ ∀ j, j < k → (vals.getD j undef).ownBlock ≠ some g
/-- a list that has just been made, row by row -/
structure Made (W : World) (B : Nat) (v : Value) (R : List (List Int)) (vals : List Value) : Prop where
  len : vals.length = R.length
  cell : ∀ k, k < R.length → ∃ g cap, v = .slice (some ⟨g, 0, none⟩) R.length cap ∧ B ≤ g ∧ g < W.heap.size ∧ W.cell? ⟨g, k, none⟩ = some (vals.getD k undef)
  row : ∀ k, k < R.length → Owns W B (vals.getD k undef) (R.getD k [])
  left : ∀ k, k < R.length → ∀ g, (vals.getD k undef).ownBlock = some g → Left B W.heap.size vals 0 g ∧ Left B W.heap.size vals k g ∧ ¬ Left B W.heap.size vals (k + 1) g
theorem OwnM.made {W : World} {B : Nat} {v : Value} {R : List (List Int)} (h : OwnM W B none v R) : ∃ vals, Made W B v R vals := by
  obtain ⟨vals, hl, ho, hx, hr, hd⟩ := h.own
  refine ⟨vals, hl, fun k hk => ?_, fun k hk => (hr k hk).1, fun k hk g e => ?_⟩
  · rcases ho.2 with ⟨h3, h4⟩ | ⟨g, cap, cur, h3, hg, hh, _⟩
    · have h4 : R.length = 0 := h4
      omega
    · subst h3
      refine ⟨g, cap, rfl, hg, (Array.getElem?_eq_some_iff.1 hh).1, ?_⟩
      rw [World.ownsRow.cellAt ho k (by omega), List.getElem?_eq_getElem (by omega)]
      simp [List.getD, List.getElem?_eq_getElem (show k < vals.length by omega)]
  · have h1 := (hr k hk).1.ge g e
    have h2 := (hr k hk).1.lt g e
    exact ⟨⟨h1, h2, fun j hj => by omega⟩, ⟨h1, h2, fun j hj e2 => hd j k g hj hk e2 e⟩, fun h3 => h3.2.2 k (Nat.lt_succ_self k) e⟩
theorem left_less {a b k g : Nat} {vals : List Value} (h : Left a b vals (k + 1) g) : Left a b vals k g := ⟨h.1, h.2.1, fun j hj => h.2.2 j (by omega)⟩

end Go.Proofs.Ytacjejnbomdhbab

set_option linter.unusedVariables false
namespace Go.Proofs.Ytacjejnbomdhbab
open Go.RowKit

theorem col_bd {xs : List Int} {R : List (List Int)} {d : Int} (h : MoveOk xs R d) (i : Nat) : ∀ v ∈ rowL xs.length (fun r => at2 R r i), -1000000 ≤ v ∧ v ≤ 1000000 := fun v hv => by
  unfold rowL at hv
  obtain ⟨j, _, rfl⟩ := List.mem_map.1 hv
  exact h.at_bd j i
theorem axis_bd {xs : List Int} {R : List (List Int)} {d : Int} (h : MoveOk xs R d) (i : Nat) : ∀ v ∈ rowL xs.length (fun r => if r = i then d else 0), -1000000 ≤ v ∧ v ≤ 1000000 := fun v hv => by
  unfold rowL at hv
  obtain ⟨j, _, rfl⟩ := List.mem_map.1 hv
  have := h.den
  split <;> omega
theorem axis_some {n i : Nat} {d : Int} (hi : i < n) (hd : d ≠ 0) : ∃ v ∈ rowL n (fun r => if r = i then d else 0), v ≠ 0 := ⟨d, List.mem_map.2 ⟨i, List.mem_range.2 hi, by rw [if_pos rfl]⟩, hd⟩

set_option maxRecDepth 100000 in
set_option maxHeartbeats 16000000 in
theorem moveSplit_any (vf va : Value) (xs : List Int) (A : List (List Int)) (a : Int) (w : World) (hx : Rd w vf xs) (hA : RdM w va A) : Calls Try.prog 43 #[vf, .agg #[va, .int .i64 a]] w (ListPost (splitV xs A a).isSome ((splitV xs A a).getD []) w) := by
  obtain ⟨i1, hi1, hy0, hy1, hy2⟩ := info_parts infoRow
  obtain ⟨ax, cx, rfl, _⟩ := hx.form
  obtain ⟨aa, ca, rfl⟩ := hA.form
  have hb1 : Below w.heap.size w (w.alloc (.cells #[.slice aa A.length ca, .int .i64 a] 29)) := below_box2 w _
  have h01 : (w.alloc (.cells #[.slice aa A.length ca, .int .i64 a] 29)).heap[w.heap.size]? = some (.cells #[.slice aa A.length ca, .int .i64 a] 29 (0, 0)) := World.alloc_heap_new w _
  have hr1 : RdS (w.alloc (.cells #[.slice aa A.length ca, .int .i64 a] 29)) (fun g => g ≠ w.heap.size) (.slice aa A.length ca) A := hA.rdS.to hb1.size fun g hg _ => ⟨by omega, hb1.block g hg⟩
  have HX := hid hx
  have HB1 := hid hb1
  have H01 := hid h01
  have HR1 := hid hr1
  have HVA := hid (valid9_any w.heap.size _ _ xs A a _ h01 hr1.rd (hx.keep hb1))
  clear hx hA hb1 h01 hr1
  cases hva : moveB xs A a with
  | false =>
    have HE : Hid (splitV xs A a = none) := hid (by unfold splitV; rw [hva]; rfl)
    rw [hva] at HVA
    clear hva
    go_enter Try.func43, Try.ntmps43
    go_wp2_with fail
    refine HVA.out.mono ?_
    rintro e w2 ⟨rfl, hb2⟩
    have HB2 := hid (HB1.out.trans (hb2.mono HB1.out.size))
    clear hb2
    go_wp2_with fail
    refine bodyPost_ret (v := .tuple #[.slice (some ⟨w2.heap.size, 0, none⟩) 0 0, .bool false]) (by simp [results, Try.results43, go_sem]) rfl ?_
    rw [HE.out]
    exact listPost_nil HB2.out
  | true =>
    have hMA := moveB_iff.1 hva
    have HVT := hid hva
    rw [hva] at HVA
    have hn3 := hMA.l3
    have HMA := hid hMA
    have HF3 : Hid (frm3B xs = true) := hid (by unfold frm3B; rw [hMA.form, decide_eq_true hMA.l3]; rfl)
    clear hva hMA
    go_enter Try.func43, Try.ntmps43
    go_wp2_with fail
    refine HVA.out.mono ?_
    rintro e w2 ⟨rfl, hb2⟩
    have HB2 := hid (HB1.out.trans (hb2.mono HB1.out.size))
    have hl1 : w.heap.size < w2.heap.size := by have := hb2.size; simp at this; omega
    have hb3 : Below w2.heap.size w2 (w2.alloc (.cells #[] 22)) := (Below.refl _ _).alloc (Nat.le_refl _) _
    have HB3 := hid (HB2.out.trans (hb3.mono HB2.out.size))
    have HR3 := hid ((HR1.out.keep hb2).keep hb3)
    have H03 := hid ((hb3.block _ hl1).trans ((hb2.block _ (Array.getElem?_eq_some_iff.1 H01.out).1).trans H01.out))
    have HO3 := hid ((ownM_none w2 none (by simp)).down (B := w.heap.size + 1) hl1)
    clear hb2 hb3 hl1 HR1 H01 HVA
    go_wp2_with fail
    go_loopw [6, 7, 9, 17] (fun so _ _ si wr => ∃ (i : Nat) (u : Value) (R : List (List Int)) (d : Int) (L : List (List Int)), si = .int .i64 i ∧ i ≤ xs.length ∧ Hid (splitN xs (A, a, []) i = some (R, d, L)) ∧ Hid (MoveOk xs R d) ∧ Hid (OwnM wr (w.heap.size + 1) none so L) ∧ Hid (RdS wr (fun g => g ≠ w.heap.size) u R) ∧ Hid (wr.heap[w.heap.size]? = some (.cells #[u, .int .i64 d] 29 (0, 0))) ∧ Hid (L.length ≤ 2 * i) ∧ Hid (Below w.heap.size w wr)) (fun _ _ _ si _ => xs.length - (intOf si).toNat)
    case atStart => exact ⟨0, _, _, _, _, rfl, by omega, hid rfl, HMA, HO3, HR3, H03, hid (Nat.le_refl _), HB3⟩
    case round =>
      obtain ⟨i, u, R, d, L, rfl, hi, HN, HOK, HO, HRS, HBX, HLN, HBW⟩ := hrel
      rename World => wr
      clear HB1 HB2 HB3 HR3 H03 HO3
      by_cases hlt : i < xs.length
      · have hlti : (i : Int) < (xs.length : Int) := by omega
        have HLT := hid hlt
        have HBL := hid (Array.getElem?_eq_some_iff.1 HBX.out).1
        have HIM := hid (image_any w.heap.size xs.length i u R d wr HBX.out HRS.out.rd HOK.out.sq hlt hn3)
        have HAX := hid (fun (wx : World) (h1 : Below wr.heap.size wr wx) => axis_any w.heap.size xs.length i u R d wx (heap_below h1 HBX.out) (HRS.out.keep h1).rd HOK.out.sq HLT.out hn3)
        obtain ⟨col, hcol⟩ : ∃ col, col = rowL xs.length (fun r => at2 R r i) := ⟨_, rfl⟩
        obtain ⟨axs, haxs⟩ : ∃ axs, axs = rowL xs.length (fun r => if r = i then d else 0) := ⟨_, rfl⟩
        have HBT := hid (fun (wx : World) (vu vv : Value) (h1 : Rd wx (.slice ax xs.length cx) xs) (h2 : Rd wx vu col) (h3 : Rd wx vv axs) => between_any _ _ _ xs col axs wx h1 h2 h3 HF3.out (by rw [hcol]; exact col_bd HOK.out i) (by rw [haxs]; exact axis_bd HOK.out i) (by rw [hcol]; exact row_len _ _) (by rw [haxs]; exact row_len _ _) (by rw [hcol, haxs, diff_mix, diff_mix]; exact mix_back HOK.out HLT.out) (by rw [haxs]; exact axis_some HLT.out HOK.out.d0))
        have HSC := hid (split_carry (st := (R, d, L)) hlt HOK.out.d0)
        have HLS2 := hid (carry_len xs col axs)
        simp only [← hcol, ← haxs] at HIM HAX HSC
        obtain ⟨LS, hLS⟩ : ∃ LS, LS = carryL xs col axs := ⟨_, rfl⟩
        rw [← hLS] at HSC HLS2 HBT
        clear hcol haxs hLS hlt
        go_wp2_with fail
        refine HIM.out.mono ?_
        rintro e w4 ⟨u4, rfl, ho4, hb4⟩
        have HB4 := hid hb4
        have HO4 := hid ho4
        have HAX4 := hid (HAX.out w4 hb4)
        clear ho4 hb4 HAX HIM
        go_wp2_with fail
        refine HAX4.out.mono ?_
        rintro e w5 ⟨u5, rfl, ho5, hb5⟩
        have HB5 := hid (HB4.out.trans (hb5.mono HB4.out.size))
        have HBW5 := hid (HBW.out.trans (HB5.out.mono HBW.out.size))
        have HT5 := hid (HBT.out w5 u4 u5 (HX.out.keep HBW5.out) (HO4.out.keep HO4.out.lt hb5).rd ho5.rd)
        clear ho5 hb5 HAX4 HO4 HBT
        go_wp2_with fail
        refine HT5.out.mono ?_
        rintro e we ⟨lv, rfl, hol, hbe⟩
        obtain ⟨vals, hmd⟩ := hol.made
        have HMD := hid hmd
        obtain ⟨al, cl, rfl⟩ := hol.rd.form
        have HBE := hid (HB5.out.trans (hbe.mono HB5.out.size))
        have hs5 := HB5.out.size
        have HOA := hid ((HO.out.ownA (S := Left w5.heap.size we.heap.size vals 0) (T := Left w5.heap.size we.heap.size vals 0) (fun k h1 h2 => by have := h2.1; omega) (fun k h1 h2 => by have := h2.1; omega)).at_blocks fun g _ h2 => HBE.out.block g h2)
        have HRE := hid (HRS.out.keep HBE.out)
        have HXE := hid (heap_below HBE.out HBX.out)
        have HBWE := hid (HBW.out.trans (HBE.out.mono HBW.out.size))
        have hll := HLS2.out
        have HS5 := hid hs5
        clear hmd hol hbe hs5 HT5
        go_wp2_with fail
        go_loopw [6, 9, 27] (fun so _ sk wi => ∃ (k : Nat) (u' : Value) (R' : List (List Int)) (d' : Int) (L' : List (List Int)), sk = .int .i64 k ∧ k ≤ LS.length ∧ Hid (putS xs (R, d, L) (LS.take k) = some (R', d', L')) ∧ Hid (MoveOk xs R' d') ∧ Hid (OwnA wi (w.heap.size + 1) (Left w5.heap.size we.heap.size vals 0) (Left w5.heap.size we.heap.size vals k) so L') ∧ Hid (RdS wi (fun g => g ≠ w.heap.size) u' R') ∧ Hid (wi.heap[w.heap.size]? = some (.cells #[u', .int .i64 d'] 29 (0, 0))) ∧ Hid (L'.length ≤ 2 * i + k) ∧ Hid (∀ g, w5.heap.size ≤ g → g < we.heap.size → wi.heap[g]? = we.heap[g]?) ∧ Hid (we.heap.size ≤ wi.heap.size) ∧ Hid (Below w.heap.size w wi)) (fun _ _ sk _ => LS.length - (intOf sk).toNat)
        case atStart => exact ⟨0, _, _, _, _, rfl, by omega, hid rfl, HOK, HOA, HRE, HXE, HLN, hid (fun g _ _ => rfl), hid (Nat.le_refl _), HBWE⟩
        case round =>
          obtain ⟨k, u', R', d', L', rfl, hk, HP, HOK2, HOA2, HR2, HX2, HL2, HKP, HSZ, HBW2⟩ := hrel
          rename World => wi
          by_cases hkl : k < LS.length
          · have hki : (k : Int) < (LS.length : Int) := by omega
            have HKL := hid hkl
            obtain ⟨g, cap, hv, hg1, hg2, hc⟩ := HMD.out.cell k hkl
            simp only [Value.slice.injEq, true_and] at hv
            obtain ⟨rfl, rfl⟩ := hv
            have hc2 : wi.cell? ⟨g, k, none⟩ = some (vals.getD k undef) := (World.cell?_of_block (HKP.out g hg1 hg2)).trans hc
            obtain ⟨zs, hzs⟩ : ∃ zs, zs = LS.getD k [] := ⟨_, rfl⟩
            have hz := (HMD.out.row k hkl).at_block fun g e => HKP.out g ((HMD.out.row k hkl).ge g e) ((HMD.out.row k hkl).lt g e)
            rw [← hzs] at hz
            have hzl := HMD.out.left k hkl
            obtain ⟨zv, hzv⟩ : ∃ zv, zv = vals.getD k undef := ⟨_, rfl⟩
            rw [← hzv] at hc2 hz hzl
            have HZL := hid hzl
            have HZ := hid hz
            obtain ⟨az, cz, rfl⟩ := hz.reads
            obtain ⟨OO, hOO⟩ : ∃ OO, OO = (mirV xs zs).bind fun M => mulV xs M.1 M.2 R' d' := ⟨_, rfl⟩
            have HFO := hid (follow_any w.heap.size (.slice ax xs.length cx) (.slice az zs.length cz) u' xs zs R' d' wi HX2.out HR2.out.rd (HX.out.keep HBW2.out) HZ.out.rd HOK2.out)
            rw [← hOO] at HFO
            have HPN := hid (putS_next (xs := xs) (st := (R, d, L)) hkl)
            rw [HP.out, ← hzs] at HPN
            have HPM := hid (put_map (L := L') hOO)
            have HPUT : Hid (putS xs (R, d, L) (LS.take (k + 1)) = OO.map (fun m => (m.1, m.2, L' ++ [zs]))) := hid (by rw [HPN.out]; exact HPM.out)
            have HPOK := hid (fun (R7 : List (List Int)) (d7 : Int) (h : OO = some (R7, d7)) => (put_ok (st' := (R7, d7, L' ++ [zs])) (HPM.out.trans (by rw [h]; rfl)) : MoveOk xs R7 d7))
            clear hc hz hzl hzs hzv hOO hkl HPN HPM
            go_wp2_with fail
            refine HFO.out.mono ?_
            rintro e w7 ⟨rfl, wy, hby, hw7, hst⟩
            have hbm := HBL.out
            have hbl : w.heap.size < wi.heap.size := (Array.getElem?_eq_some_iff.1 HX2.out).1
            have hbw : Below w.heap.size w w7 := by
              have h1 := HBW2.out.trans (hby.mono HBW2.out.size)
              rcases hw7 with rfl | ⟨v0, v1, rfl⟩
              · exact h1
              · exact (h1.setCell (Nat.le_refl _) _).setCell (Nat.le_refl _) _
            have hkp : ∀ g, g < wi.heap.size → g ≠ w.heap.size → w7.heap[g]? = wi.heap[g]? := fun g h1 h2 => by
              have h3 := hby.block g h1
              rcases hw7 with rfl | ⟨v0, v1, rfl⟩
              · exact h3
              · rw [heap_setCell_other _ _ _ _ h2, heap_setCell_other _ _ _ _ h2]; exact h3
            have hs7 : wi.heap.size ≤ w7.heap.size := by
              rcases hw7 with rfl | ⟨v0, v1, rfl⟩
              · exact hby.size
              · simpa using hby.size
            have HBW7 := hid hbw
            have HKP7 := hid hkp
            have HS7 := hid hs7
            cases OO with
            | none =>
              have HE : Hid (splitV xs A a = none) := hid (splitS_fail HN.out HSC.out HPUT.out HLT.out)
              clear hbw hkp hs7 hby hw7 hst hbm hbl
              simp only [Option.isSome_none]
              go_wp2_with fail
              refine bodyPost_ret (v := .tuple #[.slice (some ⟨w7.heap.size, 0, none⟩) 0 0, .bool false]) (by simp [results, Try.results43, go_sem]) rfl ?_
              rw [HE.out]
              exact listPost_nil HBW7.out
            | some p =>
              obtain ⟨R7, d7⟩ := p
              obtain ⟨u7, hm7, ho7⟩ := hst R7 d7 rfl
              have HM7 := hid hm7
              have HO7 := hid ho7
              have hoa := HOA2.out.at_blocks (W' := w7) fun g h1 h2 => hkp g h2 (by omega)
              have hz7 := HZ.out.at_block (W' := w7) fun g e => hkp g (HZ.out.lt g e) (by have := HZ.out.ge g e; have := HS5.out; omega)
              obtain ⟨vals2, SN⟩ := ownA_snoc (T' := Left w5.heap.size we.heap.size vals (k + 1)) hoa (hz7.down (B := w.heap.size + 1) (by have := HS5.out; omega)) HZL.out (fun g h => left_less h) (fun g h => by have := h.2.1; have := HSZ.out; omega)
              have HSN := hid SN
              have HROW := hid SN.row
              have HLS := hid (fun g (e : u6.ownBlock = some g) => hoa.lt g e)
              have hll2 := HL2.out
              have hb7 : w.heap.size + 1 ≤ w7.heap.size := by omega
              clear hbw hkp hs7 hby hw7 hst hm7 ho7 hoa hz7 SN hbl hbm
              simp only [Option.isSome_some]
              go_wp2_with (at_builtin; refine wpList_append_own_at _ rfl _ _ 23 rfl (w.heap.size + 1) 22 i1 (.slice none 0 0) 1 24 Try.underlying23 hi1 hy0 hy1 hy2 rfl (by decide) _ _ _ rfl ((show World.ownsRow w7 _ _ _ _ _ _ from HROW.out).alloc _) ⟨w7.heap.size, 0, none⟩ 1 1 [.slice az zs.length cz] rfl rfl (cell_one_new _ _ _) (by simp [Value.oneCell']) (by unfold maxLen; omega) (by omega) (by simp; omega) ?_; intro v' wg hown' hgrow _ hat; have hsn := HSN.out.fin _ _ _ hown' hgrow hat; have HSG := hid hgrow; have HSN3 := hid hsn; clear hown' hat hsn hgrow)
              have hgs := HSG.out.size
              have hblk : ∀ g, g < w7.heap.size → u6.ownBlock ≠ some g → wg.heap[g]? = w7.heap[g]? := fun g h1 h2 => (HSG.out.block g (by simp; omega) (fun e => h2 e.symm)).trans (Below.heap_alloc _ _ _ h1)
              have HBK := hid hblk
              have hgs2 : w7.heap.size ≤ wg.heap.size := by simp at hgs; omega
              have HGS := hid hgs2
              clear hgs hblk hgs2
              go_roundw
              case measure => simp only [intOf]; have := HKL.out; omega
              case rel =>
                have hbl : w.heap.size < wi.heap.size := (Array.getElem?_eq_some_iff.1 HX2.out).1
                have h7 := HS7.out
                have hgs2 := HGS.out
                refine ⟨k + 1, u7, R7, d7, L' ++ [zs], by go_num, HKL.out, hid HPUT.out, hid (HPOK.out R7 d7 rfl), HSN3, hid (HO7.out.rdS.to hgs2 fun g h1 h2 => ⟨by have h9 := h2.1; omega, HBK.out g h1 fun e => by have h8 := (HOA2.out.lt g e).2.1; have h9 := h2.1; omega⟩), hid ((HBK.out _ (by omega) fun e => by have := (HLS.out _ e).1; omega).trans HM7.out), hid (by rw [List.length_append]; show L'.length + 1 ≤ _; omega), hid (fun g h1 h2 => ?_), hid (by have := HSZ.out; omega), hid ?_⟩
                · rw [HBK.out g (by have := HSZ.out; omega) (fun e => (HLS.out g e).2.2 ⟨h1, h2, fun j hj => by omega⟩), HKP7.out g (by have := HSZ.out; omega) (by have := HS5.out; have := HBL.out; omega), HKP.out g h1 h2]
                · exact (HBW7.out.alloc HBW7.out.size _).grown HSG.out (by simp; omega) (fun g e => by have := (HLS.out g e).1; omega)
          · obtain rfl : k = LS.length := by omega
            have HNX := hid (split_go HN.out (HSC.out.trans (by rw [List.take_length] at HP; exact HP.out)))
            have HOM := hid HOA2.out.ownM
            clear hkl
            go_wp2_with fail
            go_roundw
            case measure => simp only [intOf]; have := HLT.out; omega
            case rel => exact ⟨i + 1, u', R', d', L', by go_num, HLT.out, HNX, HOK2, HOM, HR2, HX2, hid (by have := HL2.out; omega), HBW2⟩
      · obtain rfl : i = xs.length := by omega
        have HE : Hid (splitV xs A a = some L) := hid (by unfold splitV; rw [HVT.out, if_pos rfl, HN.out]; rfl)
        obtain ⟨al, cl, rfl⟩ := HO.out.rd.form
        clear hlt
        go_wp2_with fail
        refine bodyPost_ret (v := .tuple #[.slice al L.length cl, .bool true]) (by simp [results, Try.results43, go_sem]) rfl ?_
        rw [HE.out]
        exact ⟨_, rfl, HO.out.down (Nat.le_succ _), HBW.out⟩

end Go.Proofs.Ytacjejnbomdhbab

namespace Go.Proofs.Ytacjejnbomdhbab
open Go.RowKit
/-- it is nil; or it leads to a row of 'cap' cells, the numbers 'zs' (the first 'len' are its elements), each fitting its kind -/
def IsRow (k : IntKind) (w : World) (a : Option Addr) (len cap : Nat) (zs : List Int) : Prop :=
  (a = none ∧ len = 0 ∧ cap = 0 ∧ zs = []) ∨
  ∃ x, a = some x ∧ len ≤ cap ∧ cap ≤ maxLen ∧ zs.length = cap ∧ (∀ i, i < zs.length → w.cell? (x.add i) = some (.int k (zs.getD i 0))) ∧ ∀ n ∈ zs, (Lit.int k n).wf = true
end Go.Proofs.Ytacjejnbomdhbab

set_option linter.unusedVariables false
namespace Go.Proofs.Ytacjejnbomdhbab
open Go.RowKit

theorem all_eq_of {xs ys : List Int} (hl : xs.length = ys.length) (h : ∀ j, j < xs.length → xs.getD j 0 = ys.getD j 0) : xs = ys := by
  refine List.ext_getElem hl fun j h1 h2 => ?_
  have := h j h1
  simpa [List.getD, List.getElem?_eq_getElem h1, List.getElem?_eq_getElem h2] using this

theorem eqs_len {a b : Int} (h : a ≠ b) : (a != b) = true := by rw [bne_iff_ne]; exact h
theorem eqs_same {a b : Int} (h : a = b) : (a != b) = false := by rw [h]; simp

set_option maxHeartbeats 1000000 in
theorem eqIntS_any (v u : Value) (xs ys : List Int) (w : World) (hx : Rd w v xs) (hy : Rd w u ys) :
    Calls Try.prog 18 #[v, u] w fun e w' => e = .returned (.bool (decide (xs = ys))) ∧ ∃ k, w' = w.drewN k := by
  have form : ∀ {z : Value} {zs : List Int}, Rd w z zs → ∃ a cap, z = .slice a zs.length cap ∧ zs.length ≤ maxLen := by
    rintro z zs (⟨a, cap, rfl, rfl⟩ | ⟨b, o, cap, rfl, _, hm, _⟩)
    · exact ⟨a, cap, rfl, by simp⟩
    · exact ⟨_, _, rfl, hm⟩
  by_cases hl : xs.length = ys.length
  · rcases hx with ⟨a, cap, rfl, rfl⟩ | ⟨b, o, cap, rfl, hp, hm, hcx⟩
    · obtain ⟨a', cap', rfl, _⟩ := form hy
      have e : ys = [] := List.length_eq_zero_iff.1 hl.symm
      have HD : Hid (decide (([] : List Int) = ys) = true) := by show _ = _; rw [e]; rfl
      have HL : ys.length = 0 := hl.symm
      rw [HL]
      clear e hl HL hy
      go_enter Try.func18, Try.ntmps18
      go_wp2
      go_loop [5] (fun i => i = .int .i64 0) (fun _ => 0)
      case atStart => rfl
      case round =>
        obtain rfl := hrel
        go_wp2
        go_ret
        exact ⟨retB (by first | exact HD.out.symm | (rw [eq_comm]; exact HD.out.symm) | (have h := HD.out; simp at h; simp [← h])), 0, rfl⟩
    · rcases hy with ⟨a', cap', rfl, rfl⟩ | ⟨b', o', cap', rfl, _, _, hcy⟩
      · exact absurd hl (by simp; intro e; rw [e] at hp; simp at hp)
      · have T : ((xs.length : Int) != ys.length) = false := eqs_same (by omega)
        unfold maxLen at hm
        have HX := hid hcx
        have HY := hid hcy
        have HL := hid hl
        clear hcx hcy
        go_enter Try.func18, Try.ntmps18
        rw [← hl] at T ⊢
        clear hl
        go_wp2
        go_loopw [5] (fun i wr => ∃ K k : Nat, i = .int .i64 K ∧ K ≤ xs.length ∧ Hid (∀ j, j < K → xs.getD j 0 = ys.getD j 0) ∧ wr = w.drewN k) (fun i _ => xs.length - (intOf i).toNat)
        case atStart => exact ⟨0, 0, rfl, by omega, hid (by omega), rfl⟩
        case round =>
          obtain ⟨K, k, rfl, hK, HE, rfl⟩ := hrel
          by_cases hlt : K < xs.length
          · obtain ⟨x, hx⟩ : ∃ x, x = xs.getD K 0 := ⟨_, rfl⟩
            obtain ⟨y, hy⟩ : ∃ y, y = ys.getD K 0 := ⟨_, rfl⟩
            have c1 := HX.out K hlt
            have c2 := HY.out K (by have := HL.out; omega)
            rw [← hx] at c1
            rw [← hy] at c2
            have Hx := hid hx
            have Hy := hid hy
            clear hx hy
            have hi : (K : Int) < (xs.length : Int) := by omega
            by_cases hxy : x = y
            · have T2 : (x != y) = false := eqs_same hxy
              have HXY := hid hxy
              clear hxy
              go_wp2
              go_quiet (fail)
              go_wp2
              go_roundw
              case rel =>
                exact ⟨K + 1, _, by go_num, by omega, hid (by intro j hj; by_cases e : j = K; (· rw [e, ← Hx.out, ← Hy.out, HXY.out]); (· exact HE.out j (by omega))), by first | rfl | exact World.drewN_drewN ..⟩
              case measure => simp only [intOf]; omega
            · have T2 : (x != y) = true := eqs_len hxy
              have HXY := hid hxy
              clear hxy
              go_wp2
              go_quiet (fail)
              go_wp2
              go_ret
              refine ⟨retB (decide_eq_false fun e => HXY.out ?_).symm, _, by first | rfl | exact World.drewN_drewN ..⟩
              rw [Hx.out, Hy.out, e]
          · go_wp2
            go_ret
            refine ⟨retB (decide_eq_true (all_eq_of HL.out fun j hj => HE.out j (by omega))).symm, _, rfl⟩
  · obtain ⟨a, cap, rfl, m1⟩ := form hx
    obtain ⟨a', cap', rfl, m2⟩ := form hy
    have T : ((xs.length : Int) != ys.length) = true := eqs_len (by omega)
    have HD : Hid (decide (xs = ys) = false) := hid (decide_eq_false fun e => hl (by rw [e]))
    clear hl hx hy
    go_enter Try.func18, Try.ntmps18
    go_wp2
    go_ret
    exact ⟨retB HD.out.symm, 0, rfl⟩

/-- k, k + 1, .. -/
def marksL (k : Int) (n : Nat) : List Int := (List.range n).map (fun (i : Nat) => k + (i : Int))
theorem marksL_len (k : Int) (n : Nat) : (marksL k n).length = n := by simp [marksL]
theorem marksL_get (k : Int) (n i : Nat) (h : i < n) : (marksL k n).getD i 0 = k + i := by simp [marksL, List.getD, h]

set_option maxHeartbeats 1000000 in
theorem heldIntS_any (v : Value) (n : Nat) (k : Int) (hk : 0 ≤ k) (hk2 : k ≤ 1000000) (hn : n ≤ 1000000) (w : World) (hx : Rd w v (marksL k n)) :
    Calls Try.prog 33 #[v, .int .i64 k] w fun e w' => e = .returned (.int .i64 (k + n)) ∧ w = w' := by
  rcases hx with ⟨a, cap, rfl, h0⟩ | ⟨b, o, cap, rfl, hp, hm, hc⟩
  · obtain rfl : n = 0 := by have := marksL_len k n; rw [h0] at this; simpa using this.symm
    clear h0
    go_enter Try.func33, Try.ntmps33
    go_wp2
    go_loop [1, 5] (fun k' i => k' = .int .i64 k ∧ i = .int .i64 0) (fun _ _ => 0)
    case atStart => exact ⟨rfl, rfl⟩
    case round =>
      obtain ⟨rfl, rfl⟩ := hrel
      go_wp2
      go_ret
      exact ⟨retI (by simp), rfl⟩
  · rw [marksL_len] at *
    have HC := hid hc
    clear hc
    go_enter Try.func33, Try.ntmps33
    go_wp2
    go_loop [1, 5] (fun k' i => ∃ K : Nat, k' = .int .i64 (k + K) ∧ i = .int .i64 K ∧ K ≤ n) (fun _ i => n - (intOf i).toNat)
    case atStart => exact ⟨0, by simp, rfl, by omega⟩
    case round =>
      obtain ⟨K, rfl, rfl, hK⟩ := hrel
      by_cases hlt : K < n
      · have c1 := HC.out K (by omega)
        rw [marksL_get k n K hlt] at c1
        have T : ((k + (K : Int)) != k + K) = false := by simp
        have hi : (K : Int) < (n : Int) := by omega
        go_wp2
        go_round
        case rel => exact ⟨K + 1, vI (by push_cast; omega), by go_num, by omega⟩
        case measure => simp only [intOf]; omega
      · obtain rfl : K = n := by omega
        go_wp2
        go_ret
        exact ⟨rfl, rfl⟩

/-- the first i numbers are marked -/
def halfL (k : Int) (i : Nat) (xs : List Int) : List Int := marksL k i ++ xs.drop i
theorem halfL_len (k : Int) (i : Nat) (xs : List Int) (h : i ≤ xs.length) : (halfL k i xs).length = xs.length := by simp [halfL, marksL_len]; omega
theorem halfL_step (k : Int) (i : Nat) (xs : List Int) (h : i < xs.length) : (halfL k i xs).set i (k + i) = halfL k (i + 1) xs := by
  unfold halfL
  rw [List.set_append_right _ _ (by simp [marksL_len]), marksL_len, Nat.sub_self, List.drop_eq_getElem_cons h, List.set_cons_zero]
  simp [marksL, List.range_succ]
theorem halfL_end (k : Int) (xs : List Int) : halfL k xs.length xs = marksL k xs.length := by simp [halfL]

set_option maxHeartbeats 1000000 in
theorem markIntS_any (v : Value) (xs : List Int) (B : Nat) (k : Int) (hk : 0 ≤ k) (hk2 : k ≤ 1000000) (hn : xs.length ≤ 1000000) (w : World) (hx : Owns w B v xs) :
    Calls Try.prog 22 #[v, .int .i64 k] w fun e w' => e = .returned (.int .i64 (k + xs.length)) ∧ Owns w' B v (marksL k xs.length) ∧ Below B w w' := by
  by_cases h0 : xs.length = 0
  · have hx0 : xs = [] := List.length_eq_zero_iff.1 h0
    subst hx0
    have hf : ∃ a cap, v = .slice a 0 cap := by
      rcases hx.2 with ⟨rfl, _⟩ | ⟨g, cap, _, rfl, _⟩
      · exact ⟨_, _, rfl⟩
      · exact ⟨_, _, rfl⟩
    obtain ⟨a, cap, rfl⟩ := hf
    have HX := hid hx
    clear hx h0
    go_enter Try.func22, Try.ntmps22
    go_wp2
    go_loop [1, 5] (fun k' i => k' = .int .i64 k ∧ i = .int .i64 0) (fun _ _ => 0)
    case atStart => exact ⟨rfl, rfl⟩
    case round =>
      obtain ⟨rfl, rfl⟩ := hrel
      go_wp2
      go_ret
      exact ⟨retI (by simp), HX.out, Below.refl _ _⟩
  · have hf : ∃ g cap, v = .slice (some ⟨g, 0, none⟩) xs.length cap ∧ B ≤ g := by
      rcases hx.2 with ⟨_, h⟩ | ⟨g, cap, _, rfl, hg, _⟩
      · omega
      · exact ⟨g, cap, rfl, hg⟩
    obtain ⟨g, cap, rfl, hg⟩ := hf
    obtain ⟨n, hnx⟩ : ∃ n, n = xs.length := ⟨_, rfl⟩
    have HN := hid hnx
    rw [← hnx] at h0 hn ⊢
    have HX : Hid (Owns w B (.slice (some ⟨g, 0, none⟩) n cap) xs) := by rw [hnx]; exact hx
    clear hx hnx
    go_enter Try.func22, Try.ntmps22
    go_wp2
    go_loopw [1, 5] (fun k' i wr => ∃ K : Nat, k' = .int .i64 (k + K) ∧ i = .int .i64 K ∧ K ≤ n ∧ Hid (wr.ownsRow B 3 1 (.slice (some ⟨g, 0, none⟩) n cap) n ((halfL k K xs).map (Value.int .i64))) ∧ Below B w wr) (fun _ i _ => n - (intOf i).toNat)
    case atStart =>
      refine ⟨0, by simp, rfl, by omega, hid ?_, Below.refl _ _⟩
      have := HX.out
      unfold Owns at this
      rw [← HN.out] at this
      simpa [halfL, marksL] using this
    case round =>
      obtain ⟨K, rfl, rfl, hK, HO, hB⟩ := hrel
      by_cases hlt : K < n
      · have hl := halfL_len k K xs (by have := HN.out; omega)
        have c1 : wr.cell? ⟨g, K, none⟩ = some (.int .i64 ((halfL k K xs).getD K 0)) := by
          have hK2 : K < (halfL k K xs).length := by rw [hl, ← HN.out]; exact hlt
          rw [World.ownsRow.cellAt HO.out K (by omega), List.getElem?_map, List.getElem?_eq_getElem hK2]
          simp [List.getD, List.getElem?_eq_getElem hK2]
        obtain ⟨z, hz⟩ : ∃ z, z = (halfL k K xs).getD K 0 := ⟨_, rfl⟩
        rw [← hz] at c1
        have f1 := World.ownsRow.frozenAt HO.out K
        have hi : (K : Int) < (n : Int) := by omega
        have HS := hid (World.ownsRow.stored HO.out K (.int .i64 (k + K)))
        have HT := hid (halfL_step k K xs (by have := HN.out; omega))
        clear hz hl
        go_wp2
        go_roundw
        case rel =>
          refine ⟨K + 1, vI (by push_cast; omega), by go_num, by omega, hid ?_, hB.setCell (p := ⟨g, K, none⟩) hg _⟩
          have := HS.out.1
          rw [← HT.out, List.map_set]
          exact this
        case measure => simp only [intOf]; omega
      · obtain rfl : K = n := by omega
        go_wp2
        go_ret
        refine ⟨rfl, ?_, hB⟩
        have := HO.out
        unfold Owns
        rw [marksL_len]
        have e : halfL k K xs = marksL k K := by
          have h := halfL_end k xs
          rw [← HN.out] at h
          exact h
        rw [e] at this
        exact this

theorem grownBy_rf (w : World) (r : Option Nat) : w.grownBy w r := ⟨rfl, rfl, rfl, Nat.le_refl _, fun _ _ _ => rfl⟩
theorem grownBy_set (W : World) (b o : Nat) (v : Value) : W.grownBy (W.setCell ⟨b, o, none⟩ v) (some b) :=
  ⟨rfl, rfl, rfl, (KeepsWalks.setCell W _ v).size, fun k _ hk => Below.heap_setCell _ _ _ k (fun e => hk (by rw [e]))⟩
theorem Owns.kept {W W' : World} {B : Nat} {v : Value} {xs : List Int} {r : Option Nat} (h : Owns W B v xs) (hg : W.grownBy W' r) (hne : v.ownBlock = none ∨ v.ownBlock ≠ r) : Owns W' B v xs := World.ownsRow.kept h hg hne
/-- the elder of two lists of the call's own, and the younger one, lie apart -/
theorem elder_apart {x y : Value} {W : World} {C : Nat} {ys : List Int} (hlt : ∀ g, x.ownBlock = some g → g < C) (hy : Owns W C y ys) : y.ownBlock = none ∨ y.ownBlock ≠ x.ownBlock := by
  cases hb : y.ownBlock with
  | none => exact .inl rfl
  | some b =>
    right
    intro e
    have h1 := hlt b e.symm
    have h2 := hy.ge b hb
    omega
theorem younger_apart {x y : Value} {W : World} {C : Nat} {xs : List Int} (hlt : ∀ g, y.ownBlock = some g → g < C) (hx : Owns W C x xs) : y.ownBlock = none ∨ y.ownBlock ≠ x.ownBlock := by
  cases hb : y.ownBlock with
  | none => exact .inl rfl
  | some b =>
    right
    intro e
    have h1 := hlt b hb
    have h2 := hx.ge b e.symm
    omega

set_option maxHeartbeats 1000000 in
theorem markIntS2_any (v : Value) (xs : List Int) (B : Nat) (k : Int) (hk : 0 ≤ k) (hk2 : k ≤ 3000000) (hn : xs.length ≤ 3000000) (w : World) (hx : Owns w B v xs) :
    Calls Try.prog 22 #[v, .int .i64 k] w fun e w' => e = .returned (.int .i64 (k + xs.length)) ∧ Owns w' B v (marksL k xs.length) ∧ Below B w w' ∧ w.grownBy w' v.ownBlock := by
  by_cases h0 : xs.length = 0
  · have hx0 : xs = [] := List.length_eq_zero_iff.1 h0
    subst hx0
    have hf : ∃ a cap, v = .slice a 0 cap := by
      rcases hx.2 with ⟨rfl, _⟩ | ⟨g, cap, _, rfl, _⟩
      · exact ⟨_, _, rfl⟩
      · exact ⟨_, _, rfl⟩
    obtain ⟨a, cap, rfl⟩ := hf
    have HX := hid hx
    clear hx h0
    go_enter Try.func22, Try.ntmps22
    go_wp2
    go_loop [1, 5] (fun k' i => k' = .int .i64 k ∧ i = .int .i64 0) (fun _ _ => 0)
    case atStart => exact ⟨rfl, rfl⟩
    case round =>
      obtain ⟨rfl, rfl⟩ := hrel
      go_wp2
      go_ret
      exact ⟨retI (by simp), HX.out, Below.refl _ _, grownBy_rf _ _⟩
  · have hf : ∃ g cap, v = .slice (some ⟨g, 0, none⟩) xs.length cap ∧ B ≤ g := by
      rcases hx.2 with ⟨_, h⟩ | ⟨g, cap, _, rfl, hg, _⟩
      · omega
      · exact ⟨g, cap, rfl, hg⟩
    obtain ⟨g, cap, rfl, hg⟩ := hf
    obtain ⟨n, hnx⟩ : ∃ n, n = xs.length := ⟨_, rfl⟩
    have HN := hid hnx
    rw [← hnx] at h0 hn ⊢
    have HX : Hid (Owns w B (.slice (some ⟨g, 0, none⟩) n cap) xs) := by rw [hnx]; exact hx
    clear hx hnx
    go_enter Try.func22, Try.ntmps22
    go_wp2
    go_loopw [1, 5] (fun k' i wr => ∃ K : Nat, k' = .int .i64 (k + K) ∧ i = .int .i64 K ∧ K ≤ n ∧ Hid (wr.ownsRow B 3 1 (.slice (some ⟨g, 0, none⟩) n cap) n ((halfL k K xs).map (Value.int .i64))) ∧ Below B w wr ∧ Hid (w.grownBy wr (some g))) (fun _ i _ => n - (intOf i).toNat)
    case atStart =>
      refine ⟨0, by simp, rfl, by omega, hid ?_, Below.refl _ _, hid (grownBy_rf _ _)⟩
      have := HX.out
      unfold Owns at this
      rw [← HN.out] at this
      simpa [halfL, marksL] using this
    case round =>
      obtain ⟨K, rfl, rfl, hK, HO, hB, HG⟩ := hrel
      by_cases hlt : K < n
      · have hl := halfL_len k K xs (by have := HN.out; omega)
        have c1 : wr.cell? ⟨g, K, none⟩ = some (.int .i64 ((halfL k K xs).getD K 0)) := by
          have hK2 : K < (halfL k K xs).length := by rw [hl, ← HN.out]; exact hlt
          rw [World.ownsRow.cellAt HO.out K (by omega), List.getElem?_map, List.getElem?_eq_getElem hK2]
          simp [List.getD, List.getElem?_eq_getElem hK2]
        obtain ⟨z, hz⟩ : ∃ z, z = (halfL k K xs).getD K 0 := ⟨_, rfl⟩
        rw [← hz] at c1
        have f1 := World.ownsRow.frozenAt HO.out K
        have hi : (K : Int) < (n : Int) := by omega
        have HS := hid (World.ownsRow.stored HO.out K (.int .i64 (k + K)))
        have HT := hid (halfL_step k K xs (by have := HN.out; omega))
        clear hz hl
        go_wp2
        go_roundw
        case rel =>
          refine ⟨K + 1, vI (by push_cast; omega), by go_num, by omega, hid ?_, hB.setCell (p := ⟨g, K, none⟩) hg _, hid (HG.out.trans (grownBy_set _ g K _))⟩
          have := HS.out.1
          rw [← HT.out, List.map_set]
          exact this
        case measure => simp only [intOf]; omega
      · obtain rfl : K = n := by omega
        go_wp2
        go_ret
        refine ⟨rfl, ?_, hB, HG.out⟩
        have := HO.out
        unfold Owns
        rw [marksL_len]
        have e : halfL k K xs = marksL k K := by
          have h := halfL_end k xs
          rw [← HN.out] at h
          exact h
        rw [e] at this
        exact this

theorem Rd.keep2 {w w' : World} {v : Value} {xs : List Int} (h : Rd w v xs) (hb : Below w.heap.size w w') : Rd w' v xs := by
  rcases h with h | ⟨b, o, cap, hv, h0, hm, hc⟩
  · exact .inl h
  · refine .inr ⟨b, o, cap, hv, h0, hm, fun i hi => ?_⟩
    have hci := hc i hi
    obtain ⟨ob, ho, _⟩ := cells_of_cell hci
    have hlt : b < w.heap.size := (Array.getElem?_eq_some_iff.1 ho).1
    rw [hb.cell (p := ⟨b, o + i, none⟩) hlt]
    exact hci
theorem rowIs_owns {w : World} {b n B : Nat} {f : Nat → Value} {xs : List Int} (h : w.rowIs b 3 n f) (hn : n = xs.length) (hf : ∀ i, i < n → f i = .int .i64 (xs.getD i 0)) (hB : B ≤ b) (hm : n ≤ maxLen) : Owns w B (.slice (some ⟨b, 0, none⟩) n n) xs := by
  subst hn
  obtain ⟨c, hb, hs, hc⟩ := h
  refine ⟨by simp, .inr ⟨b, xs.length, c, rfl, hB, hb, Nat.le_refl _, hm, by rw [hs, Nat.mul_one], ?_⟩⟩
  rw [Nat.mul_one, List.take_of_length_le (by rw [Array.length_toList, hs]; exact Nat.le_refl _)]
  refine List.ext_getElem? fun i => ?_
  rw [Array.getElem?_toList]
  by_cases hi : i < xs.length
  · rw [hc i hi, hf i hi, List.getElem?_map, List.getElem?_eq_getElem hi, getD_at _ _ hi]; rfl
  · rw [List.getElem?_eq_none (by rw [List.length_map]; omega), Array.getElem?_eq_none (by omega)]

set_option maxRecDepth 100000 in
set_option maxHeartbeats 1000000 in
theorem toIntS_any (v : Value) (xs : List Int) (w : World) (h : Rd w v xs) (hl : xs.length ≤ 1048576) :
    Calls Try.prog 15 #[v] w fun e w' => ∃ u, e = .returned u ∧ Owns w' w.heap.size u xs ∧ Below w.heap.size w w' ∧ (∃ ad n c, u = .slice (some ad) n c) := by
  obtain ⟨i0, hi, hz0, hz1, hz2⟩ := info_parts infoInt
  have HH := hid h
  obtain ⟨a, cap, rfl, _⟩ := h.form
  obtain ⟨m, hm⟩ : ∃ m, m = xs.length := ⟨_, rfl⟩
  have HM := hid hm
  rw [← hm] at hl HH ⊢
  have HB0 := hid ((Below.refl w.heap.size w).alloc (Nat.le_refl _) (.cells (madeCells #[.int .i64 0] m) 3))
  have HR0 := hid (World.rowIs_made w (.int .i64 0) m 3)
  clear h hm
  go_enter Try.func15, Try.ntmps15
  go_wp2_with (at_make; refine wpList_make_row _ rfl _ _ 22 rfl 3 i0 (.int .i64 0) Try.underlying22 hi hz0 hz1 rfl .i64 .i64 m rfl rfl (by rw [hz2]; omega) (by omega) ?_)
  go_loopw [4] (fun si wr => ∃ K : Nat, si = .int .i64 K ∧ K ≤ m ∧ Hid (wr.rowIs w.heap.size 3 m (fun j => if j < K then .int .i64 (xs.getD j 0) else .int .i64 0)) ∧ Hid (Below w.heap.size w wr)) (fun si _ => m - (intOf si).toNat)
  case atStart => exact ⟨0, rfl, by omega, hid (HR0.out.congr (fun i hi => by simp)), HB0⟩
  case round =>
    obtain ⟨K, rfl, hK, HR, HB⟩ := hrel
    rename World => wr
    by_cases hlt : K < m
    · obtain ⟨a2, cap2, e2, hform⟩ := (HH.out.keep2 HB.out).form
      rw [← HM.out] at e2 hform
      cases e2
      obtain ⟨bb, o, rfl, hml, hc⟩ := hform (by omega)
      have c1 := hc K hlt
      have c2 := HR.out.cell hlt
      have f2 := HR.out.frozen K
      have hi0 : (K : Int) < (m : Int) := by omega
      obtain ⟨x, hx⟩ : ∃ x, x = xs.getD K 0 := ⟨_, rfl⟩
      rw [← hx] at c1
      have HS := hid ((HR.out.set K (.int .i64 x)).congr (g := fun j => if j < K + 1 then .int .i64 (xs.getD j 0) else .int .i64 0) (fun i hi => by
        by_cases e : i = K
        · rw [if_pos e, if_pos (by omega), e, hx]
        · rw [if_neg e]
          by_cases h : i < K
          · rw [if_pos h, if_pos (by omega)]
          · rw [if_neg h, if_neg (by omega)]))
      have HBs := hid (HB.out.setCell (p := ⟨w.heap.size, K, none⟩) (Nat.le_refl _) (.int .i64 x))
      have HLT := hid hlt
      rw [if_neg (by omega)] at c2
      unfold maxLen at hml
      clear hform hc hx hlt
      go_wp2_with fail
      go_roundw
      case measure => simp only [intOf]; have := HLT.out; omega
      case rel => exact ⟨K + 1, by go_num, by have := HLT.out; omega, HS, HBs⟩
    · obtain rfl : K = m := by omega
      have HO := hid (rowIs_owns (B := w.heap.size) HR.out HM.out (fun i hi => by rw [if_pos hi]) (Nat.le_refl _) (by unfold maxLen; omega))
      clear hlt
      go_wp2_with fail
      go_ret
      exact ⟨_, rfl, HO.out, HB.out, _, _, _, rfl⟩

theorem rd_row {w : World} {a : Option Addr} {len cap : Nat} {zs : List Int} (h : IsRow .i64 w a len cap zs) : ∃ xs : List Int, xs.length = len ∧ Rd w (.slice a len cap) xs := by
  rcases h with ⟨rfl, rfl, rfl, rfl⟩ | ⟨x, rfl, hl, hm, hz, hcell, hwz⟩
  · exact ⟨[], rfl, .inl ⟨_, _, rfl, rfl⟩⟩
  · refine ⟨zs.take len, by rw [List.length_take]; omega, ?_⟩
    by_cases h0 : len = 0
    · subst h0
      exact .inl ⟨_, _, rfl, by simp⟩
    · obtain ⟨b, off, spot⟩ := x
      have hspot : spot = none := by simpa [Addr.add] using World.cell?_spot (hcell 0 (by omega))
      subst hspot
      have hlen : (zs.take len).length = len := by rw [List.length_take]; omega
      refine .inr ⟨b, off, cap, by rw [hlen], by omega, by rw [hlen]; omega, fun i hi => ?_⟩
      rw [hlen] at hi
      have hc := hcell i (by omega)
      have hg : (zs.take len).getD i 0 = zs.getD i 0 := by
        rw [getD_at _ _ (by rw [hlen]; exact hi), getD_at _ _ (by omega), List.getElem_take]
      rw [hg]
      by_cases hi0 : i = 0
      · subst hi0; simpa [Addr.add] using hc
      · simpa [Addr.add, hi0] using hc
theorem fvalF (xs vs : List Int) : ∃ (x : Int) (c : Bool), fvalV xs vs = .tuple #[.int .i64 x, .bool c] := by
  unfold fvalV
  split
  · exact ⟨_, _, rfl⟩
  · exact ⟨_, _, rfl⟩
theorem signsF (xs : List Int) : ∃ (x : Int) (c : Bool), signsV xs = .tuple #[.int .i64 x, .bool c] := by
  unfold signsV
  split
  · exact ⟨_, _, rfl⟩
  · exact ⟨_, _, rfl⟩


end Go.Proofs.Ytacjejnbomdhbab

set_option linter.unusedVariables false
namespace Go.Proofs.Ytacjejnbomdhbab
open Go.RowKit

theorem rows_eq {R S : List (List Int)} (hl : R.length = S.length) (h : ∀ j, j < R.length → R.getD j [] = S.getD j []) : R = S := by
  refine List.ext_getElem hl fun j h1 h2 => ?_
  have := h j h1
  simpa [List.getD, List.getElem?_eq_getElem h1, List.getElem?_eq_getElem h2] using this

theorem RdM.short {W : World} {v : Value} {R : List (List Int)} (h : RdM W v R) : R.length ≤ maxLen := by
  rcases Nat.eq_zero_or_pos R.length with e | e
  · rw [e]; exact Nat.zero_le _
  · obtain ⟨_, _, _, _, _, h, _⟩ := h
    obtain ⟨_, _, _, h, _⟩ := h e
    exact h
set_option maxRecDepth 100000 in
set_option maxHeartbeats 1000000 in
theorem eqIntSS_any (v u : Value) (R S : List (List Int)) (w : World) (hR : RdM w v R) (hS : RdM w u S) :
    Calls Try.prog 40 #[v, u] w fun e w' => e = .returned (.bool (decide (R = S))) ∧ ∃ k, w' = w.drewN k := by
  obtain ⟨a, ca, rfl⟩ := hR.form
  obtain ⟨b, cb, rfl⟩ := hS.form
  have HR := hid hR
  have HS := hid hS
  have hmx := hR.short
  unfold maxLen at hmx
  clear hR hS
  by_cases hl : R.length = S.length
  · have T : ((R.length : Int) != S.length) = false := eqs_same (by omega)
    have HL := hid hl
    rw [← hl] at HS T ⊢
    clear hl
    go_enter Try.func40, Try.ntmps40
    go_wp2
    go_loopw [5] (fun i wr => ∃ K : Nat, i = .int .i64 K ∧ K ≤ R.length ∧ Hid (∀ j, j < K → R.getD j [] = S.getD j []) ∧ Hid (∃ k, wr = w.drewN k)) (fun i _ => R.length - (intOf i).toNat)
    case atStart => exact ⟨0, rfl, by omega, hid (by omega), hid ⟨0, rfl⟩⟩
    case round =>
      obtain ⟨K, rfl, hK, HE, HW⟩ := hrel
      rename World => wr
      have hRr : RdM wr (.slice a R.length ca) R := by obtain ⟨k, rfl⟩ := HW.out; exact HR.out
      have hSr : RdM wr (.slice b R.length cb) S := by obtain ⟨k, rfl⟩ := HW.out; exact HS.out
      have HRr := hid hRr
      have HSr := hid hSr
      clear hRr hSr
      by_cases hlt : K < R.length
      · obtain ⟨b1, o1, x1, rfl, c1, r1⟩ := HRr.out.row hlt
        obtain ⟨b2, o2, x2, rfl, c2, r2⟩ := HSr.out.row (i := K) (by have := HL.out; omega)
        obtain ⟨x, hx⟩ : ∃ x, x = R.getD K [] := ⟨_, rfl⟩
        obtain ⟨y, hy⟩ : ∃ y, y = S.getD K [] := ⟨_, rfl⟩
        rw [← hx] at r1
        rw [← hy] at r2
        have HC := hid (fun m => eqIntS_any x1 x2 x y (wr.drewN m) r1 r2)
        obtain ⟨f1, d1, rfl, _⟩ := r1.form
        obtain ⟨f2, d2, rfl, _⟩ := r2.form
        have Hx := hid hx
        have Hy := hid hy
        have hi : (K : Int) < (R.length : Int) := by omega
        have HLT := hid hlt
        clear hx hy r1 r2
        by_cases hxy : x = y
        · have HXY := hid hxy
          simp only [decide_eq_true hxy] at HC
          clear hxy
          go_wp2
          go_quiet ((go_at_call 18; exact Calls.quiet_of (HC.out _)))
          go_wp2
          go_roundw
          case rel =>
            exact ⟨K + 1, by go_num, HLT.out, hid (by intro j hj; by_cases e : j = K; (· rw [e, ← Hx.out, ← Hy.out, HXY.out]); (· exact HE.out j (by omega))), hid (by obtain ⟨k, rfl⟩ := HW.out; exact ⟨_, World.drewN_drewN ..⟩)⟩
          case measure => simp only [intOf]; have := HLT.out; omega
        · have HXY := hid hxy
          simp only [decide_eq_false hxy] at HC
          clear hxy
          go_wp2
          go_quiet ((go_at_call 18; exact Calls.quiet_of (HC.out _)))
          go_wp2
          go_ret
          refine ⟨retB (decide_eq_false fun e => HXY.out ?_).symm, by obtain ⟨k, rfl⟩ := HW.out; exact ⟨_, World.drewN_drewN ..⟩⟩
          rw [Hx.out, Hy.out, e]
      · go_wp2
        go_ret
        exact ⟨retB (decide_eq_true (rows_eq HL.out fun j hj => HE.out j (by omega))).symm, HW.out⟩
  · have T : ((R.length : Int) != S.length) = true := eqs_len (by omega)
    have HD : Hid (decide (R = S) = false) := hid (decide_eq_false fun e => hl (by rw [e]))
    clear hl
    go_enter Try.func40, Try.ntmps40
    go_wp2
    go_ret
    exact ⟨retB HD.out.symm, 0, rfl⟩

set_option maxRecDepth 100000 in
set_option maxHeartbeats 1000000 in
theorem eqMove_any (v u : Value) (R S : List (List Int)) (c d : Int) (w : World) (hR : RdM w v R) (hS : RdM w u S) :
    Calls Try.prog 19 #[.agg #[v, .int .i64 c], .agg #[u, .int .i64 d]] w fun e w' => e = .returned (.bool (decide (R = S) && decide (c = d))) ∧ Below w.heap.size w w' := by
  obtain ⟨a, ca, rfl⟩ := hR.form
  obtain ⟨b, cb, rfl⟩ := hS.form
  have hb : Below w.heap.size w ((w.alloc (.cells #[.slice a R.length ca, .int .i64 c] 29)).alloc (.cells #[.slice b S.length cb, .int .i64 d] 29)) := (below_box2 _ _).alloc (by simp) _
  have HEQ : Hid (Calls Try.prog 40 #[.slice a R.length ca, .slice b S.length cb] ((w.alloc (.cells #[.slice a R.length ca, .int .i64 c] 29)).alloc (.cells #[.slice b S.length cb, .int .i64 d] 29)) fun e w' => e = .returned (.bool (decide (R = S))) ∧ Below ((w.alloc (.cells #[.slice a R.length ca, .int .i64 c] 29)).alloc (.cells #[.slice b S.length cb, .int .i64 d] 29)).heap.size ((w.alloc (.cells #[.slice a R.length ca, .int .i64 c] 29)).alloc (.cells #[.slice b S.length cb, .int .i64 d] 29)) w') := hid ((eqIntSS_any _ _ R S _ (hR.keep hb) (hS.keep hb)).mono (by rintro e w' ⟨rfl, k, rfl⟩; exact ⟨rfl, below_drewN (Below.refl _ _) k⟩))
  have HB := hid hb
  have H1 : Hid (((w.alloc (.cells #[.slice a R.length ca, .int .i64 c] 29)).alloc (.cells #[.slice b S.length cb, .int .i64 d] 29)).heap[w.heap.size]? = some (.cells #[.slice a R.length ca, .int .i64 c] 29 (0, 0))) := hid (heap_up (heap_new rfl))
  have H2 : Hid (((w.alloc (.cells #[.slice a R.length ca, .int .i64 c] 29)).alloc (.cells #[.slice b S.length cb, .int .i64 d] 29)).heap[w.heap.size + 1]? = some (.cells #[.slice b S.length cb, .int .i64 d] 29 (0, 0))) := hid (heap_new (by simp))
  clear hb hR hS
  cases hRS : decide (R = S) with
  | false =>
    rw [hRS] at HEQ
    clear hRS
    go_enter Try.func19, Try.ntmps19
    go_wp2_with fail
    refine HEQ.out.mono ?_
    rintro e w2 ⟨rfl, hb2⟩
    have HB2 := hid (HB.out.trans (hb2.mono HB.out.size))
    clear hb2
    go_wp2_with fail
    go_ret
    exact ⟨rfl, HB2.out⟩
  | true =>
    rw [hRS] at HEQ
    clear hRS
    by_cases hcd : c = d
    · have T : (c != d) = false := eqs_same hcd
      have HD := hid (decide_eq_true hcd)
      clear hcd
      go_enter Try.func19, Try.ntmps19
      go_wp2_with fail
      refine HEQ.out.mono ?_
      rintro e w2 ⟨rfl, hb2⟩
      have HB2 := hid (HB.out.trans (hb2.mono HB.out.size))
      have q1 := cellB (i := 1) (heap_below hb2 H1.out)
      have q2 := cellB (i := 1) (heap_below hb2 H2.out)
      clear hb2
      go_wp2_with fail
      go_ret
      exact ⟨retB (by rw [HD.out]; rfl), HB2.out⟩
    · have T : (c != d) = true := eqs_len hcd
      have HD := hid (decide_eq_false hcd)
      clear hcd
      go_enter Try.func19, Try.ntmps19
      go_wp2_with fail
      refine HEQ.out.mono ?_
      rintro e w2 ⟨rfl, hb2⟩
      have HB2 := hid (HB.out.trans (hb2.mono HB.out.size))
      have q1 := cellB (i := 1) (heap_below hb2 H1.out)
      have q2 := cellB (i := 1) (heap_below hb2 H2.out)
      clear hb2
      go_wp2_with fail
      go_ret
      exact ⟨retB (by rw [HD.out]; rfl), HB2.out⟩

end Go.Proofs.Ytacjejnbomdhbab

set_option linter.unusedVariables false
namespace Go.Proofs.Ytacjejnbomdhbab
open Go.RowKit

/-- how many numbers the first rows hold -/
def preL (R : List (List Int)) : Nat → Nat
  | 0 => 0
  | i + 1 => preL R i + (R.getD i []).length
theorem preL_mono (R : List (List Int)) {i j : Nat} (h : i ≤ j) : preL R i ≤ preL R j := by
  induction j with
  | zero => rw [show i = 0 by omega]; exact Nat.le_refl _
  | succ j ih =>
    by_cases e : i = j + 1
    · rw [e]; exact Nat.le_refl _
    · have := ih (by omega)
      show preL R i ≤ preL R j + _
      omega
/-- k, k + 1, .. from row to row -/
def markR (k : Int) (R : List (List Int)) : List (List Int) := (List.range R.length).map fun i => marksL (k + (preL R i : Nat)) (R.getD i []).length
theorem markR_len (k : Int) (R : List (List Int)) : (markR k R).length = R.length := by simp [markR]
theorem markR_at (k : Int) (R : List (List Int)) {i : Nat} (h : i < R.length) : (markR k R).getD i [] = marksL (k + (preL R i : Nat)) (R.getD i []).length := by simp [markR, List.getD, h]

set_option maxRecDepth 100000 in
set_option maxHeartbeats 1000000 in
theorem heldIntSS_any (v : Value) (R : List (List Int)) (k : Int) (hk : 0 ≤ k) (hk2 : k ≤ 100000) (hn : preL R R.length ≤ 100000) (w : World) (hx : RdM w v (markR k R)) :
    Calls Try.prog 44 #[v, .int .i64 k] w fun e w' => e = .returned (.int .i64 (k + (preL R R.length : Nat))) ∧ w = w' := by
  obtain ⟨a, cap, rfl⟩ := hx.form
  have hmx := hx.short
  unfold maxLen at hmx
  rw [markR_len] at hx hmx ⊢
  have HX := hid hx
  have HN := hid hn
  clear hx hn
  go_enter Try.func44, Try.ntmps44
  go_wp2
  go_loop [1, 5] (fun k' i => ∃ K : Nat, k' = .int .i64 (k + (preL R K : Nat)) ∧ i = .int .i64 K ∧ K ≤ R.length) (fun _ i => R.length - (intOf i).toNat)
  case atStart => exact ⟨0, by simp [preL], rfl, by omega⟩
  case round =>
    obtain ⟨K, rfl, rfl, hK⟩ := hrel
    by_cases hlt : K < R.length
    · obtain ⟨b1, o1, x1, rfl, c1, r1⟩ := HX.out.row (i := K) (by rw [markR_len]; exact hlt)
      rw [markR_at k R hlt] at r1
      have hp1 := preL_mono R (show K ≤ R.length by omega)
      have hp2 := preL_mono R (show K + 1 ≤ R.length by omega)
      have hp3 : preL R (K + 1) = preL R K + (R.getD K []).length := rfl
      have HP3 := hid hp3
      obtain ⟨n, hn⟩ : ∃ n, n = (R.getD K []).length := ⟨_, rfl⟩
      obtain ⟨p, hp⟩ : ∃ p, p = preL R K := ⟨_, rfl⟩
      rw [← hn, ← hp] at HP3
      rw [← hn, ← hp] at r1
      have hN := HN.out
      have HC := hid (heldIntS_any x1 n (k + (p : Nat)) (by omega) (by omega) (by omega) _ r1)
      obtain ⟨f1, d1, rfl, _⟩ := r1.form
      rw [← hp]
      have hi : (K : Int) < (R.length : Int) := by omega
      have HLT := hid hlt
      have hge : ¬ (k + (p : Int) + (n : Int) < 0) := by omega
      clear r1 hp1 hp2 hp3 hn hp hN
      go_wp2_with fail
      refine HC.out.mono ?_
      rintro e w' ⟨rfl, rfl⟩
      go_wp2_with fail
      go_round
      case rel => exact ⟨K + 1, vI (by rw [HP3.out]; push_cast; omega), by go_num, HLT.out⟩
      case measure => simp only [intOf]; have := HLT.out; omega
    · obtain rfl : K = R.length := by omega
      clear hlt
      go_wp2_with fail
      go_ret
      exact ⟨rfl, rfl⟩

/-- a list of lists of one's own, all its blocks below C -/
structure OwnC (W : World) (B C : Nat) (v : Value) (R : List (List Int)) (vals : List Value) : Prop where
  len : vals.length = R.length
  own : World.ownsRow W B 22 1 v R.length vals
  top : ∀ k, v.ownBlock = some k → k < C
  row : ∀ i, i < R.length → Owns W B (vals.getD i undef) (R.getD i []) ∧ ∀ k, (vals.getD i undef).ownBlock = some k → k < C ∧ v.ownBlock ≠ some k
  apart : ∀ i j k, i < j → j < R.length → (vals.getD i undef).ownBlock = some k → (vals.getD j undef).ownBlock ≠ some k
theorem OwnM.ownC {W : World} {B : Nat} {v : Value} {R : List (List Int)} (h : OwnM W B none v R) : ∃ vals, OwnC W B W.heap.size v R vals := by
  obtain ⟨vals, hl, ho, hx, hr, hd⟩ := h.own
  exact ⟨vals, hl, ho, fun k e => (World.ownsRow.lt ho k e).2, fun i hi => ⟨(hr i hi).1, fun k e => ⟨(hr i hi).1.lt k e, ((hr i hi).2 k e).1⟩⟩, hd⟩
theorem OwnC.ownM {W : World} {B C : Nat} {v : Value} {R : List (List Int)} {vals : List Value} (h : OwnC W B C v R vals) : OwnM W B none v R :=
  ⟨vals, h.len, h.own, fun _ _ => by simp, fun i hi => ⟨(h.row i hi).1, fun k e => ⟨((h.row i hi).2 k e).2, by simp⟩⟩, h.apart⟩
theorem OwnC.rd {W : World} {B C : Nat} {v : Value} {R : List (List Int)} {vals : List Value} (h : OwnC W B C v R vals) : RdM W v R := h.ownM.rd
theorem OwnC.at_blocks {W W' : World} {B C : Nat} {v : Value} {R : List (List Int)} {vals : List Value} (h : OwnC W B C v R vals) (hb : ∀ g, B ≤ g → g < C → W'.heap[g]? = W.heap[g]?) : OwnC W' B C v R vals :=
  ⟨h.len, row_at_block h.own fun g e => hb g (World.ownsRow.lt h.own g e).1 (h.top g e), h.top, fun i hi => ⟨(h.row i hi).1.at_block fun g e => hb g ((h.row i hi).1.ge g e) ((h.row i hi).2 g e).1, (h.row i hi).2⟩, h.apart⟩

set_option maxRecDepth 100000 in
set_option maxHeartbeats 1000000 in
theorem markIntSS_any (v : Value) (R : List (List Int)) (vals : List Value) (B C : Nat) (k : Int) (hk : 0 ≤ k) (hk2 : k ≤ 100000) (hn : preL R R.length ≤ 100000) (w : World) (hx : OwnC w B C v R vals) :
    Calls Try.prog 41 #[v, .int .i64 k] w fun e w' => e = .returned (.int .i64 (k + (preL R R.length : Nat))) ∧ OwnC w' B C v (markR k R) vals ∧ Below B w w' ∧ ∀ g, C ≤ g → g < w.heap.size → w'.heap[g]? = w.heap[g]? := by
  obtain ⟨a, cap, rfl⟩ := hx.rd.form
  have hmx := hx.rd.short
  unfold maxLen at hmx
  have HX := hid hx
  have HN := hid hn
  clear hx hn
  go_enter Try.func41, Try.ntmps41
  go_wp2
  go_loopw [1, 5] (fun k' i wr => ∃ K : Nat, k' = .int .i64 (k + (preL R K : Nat)) ∧ i = .int .i64 K ∧ K ≤ R.length ∧ Hid (World.ownsRow wr B 22 1 (.slice a R.length cap) R.length vals) ∧ Hid (∀ i, i < R.length → Owns wr B (vals.getD i undef) (if i < K then marksL (k + (preL R i : Nat)) (R.getD i []).length else R.getD i [])) ∧ Hid (Below B w wr) ∧ Hid (∀ g, C ≤ g → g < w.heap.size → wr.heap[g]? = w.heap[g]?)) (fun _ i _ => R.length - (intOf i).toNat)
  case atStart => exact ⟨0, by simp [preL], rfl, by omega, hid HX.out.own, hid (fun i hi => by rw [if_neg (by omega)]; exact (HX.out.row i hi).1), hid (Below.refl _ _), hid (fun g _ _ => rfl)⟩
  case round =>
    obtain ⟨K, rfl, rfl, hK, HO, HR, HB, HU⟩ := hrel
    rename World => wr
    by_cases hlt : K < R.length
    · have hrow := HR.out K hlt
      rw [if_neg (by omega)] at hrow
      have hcell : ∃ b o, a = some ⟨b, o, none⟩ ∧ wr.cell? ⟨b, o + K, none⟩ = some (vals.getD K undef) := by
        rcases HO.out.2 with ⟨_, h4⟩ | ⟨g, cp, cur, h3, hg, hh, _⟩
        · have h4 : R.length = 0 := h4
          omega
        · simp only [Value.slice.injEq] at h3
          obtain ⟨rfl, _, rfl⟩ := h3
          refine ⟨g, 0, rfl, ?_⟩
          rw [Nat.zero_add, World.ownsRow.cellAt HO.out K (by omega), List.getElem?_eq_getElem (by rw [HX.out.len]; exact hlt)]
          simp [List.getD, List.getElem?_eq_getElem (show K < vals.length by rw [HX.out.len]; exact hlt)]
      obtain ⟨b, o, rfl, hc⟩ := hcell
      have hp1 := preL_mono R (show K ≤ R.length by omega)
      have hp2 := preL_mono R (show K + 1 ≤ R.length by omega)
      have hp3 : preL R (K + 1) = preL R K + (R.getD K []).length := rfl
      have HP3 := hid hp3
      have hN := HN.out
      obtain ⟨xs, hxs⟩ : ∃ xs, xs = R.getD K [] := ⟨_, rfl⟩
      obtain ⟨p, hp⟩ : ∃ p, p = preL R K := ⟨_, rfl⟩
      obtain ⟨u, hu⟩ : ∃ u, u = vals.getD K undef := ⟨_, rfl⟩
      rw [← hxs, ← hu] at hrow
      rw [← hu] at hc
      rw [← hxs, ← hp] at HP3 hp3
      rw [← hp] at hp1
      have HC := hid (markIntS2_any u xs B (k + (p : Nat)) (by omega) (by omega) (by omega) _ hrow)
      have HU0 := hid hu
      have HXS := hid hxs
      have HPE := hid hp
      obtain ⟨f1, d1, rfl⟩ := hrow.reads
      have hi : (K : Int) < (R.length : Int) := by omega
      have HLT := hid hlt
      rw [← hp]
      clear hrow hp1 hp2 hp3 hxs hp hu hN
      go_wp2_with fail
      refine HC.out.mono ?_
      rintro e w' ⟨rfl, ho, hb, hg⟩
      have HO2 := hid ho
      have HB2 := hid (HB.out.trans hb)
      have HG := hid hg
      clear ho hb hg
      go_wp2_with fail
      go_roundw
      case rel =>
        refine ⟨K + 1, vI (by rw [HP3.out]; push_cast; omega), by go_num, HLT.out, hid ?_, hid fun i hi => ?_, HB2, hid fun g h1 h2 => ?_⟩
        · refine World.ownsRow.kept HO.out HG.out ?_
          cases e : (Value.slice (some ⟨b, o, none⟩) R.length cap).ownBlock with
          | none => exact .inl rfl
          | some q =>
            right
            intro e2
            rw [HU0.out] at e2
            exact ((HX.out.row K HLT.out).2 q e2.symm).2 e
        · by_cases e : i = K
          · subst e
            rw [if_pos (Nat.lt_succ_self _), ← HU0.out, ← HXS.out, ← HPE.out]
            exact HO2.out
          · have h := HR.out i hi
            rw [show (if i < K + 1 then marksL (k + (preL R i : Nat)) (R.getD i []).length else R.getD i []) = (if i < K then marksL (k + (preL R i : Nat)) (R.getD i []).length else R.getD i []) by
              by_cases h1 : i < K
              · rw [if_pos h1, if_pos (by omega)]
              · rw [if_neg h1, if_neg (by omega)]]
            refine h.kept HG.out ?_
            rw [HU0.out]
            cases e3 : (vals.getD i undef).ownBlock with
            | none => exact .inl rfl
            | some q =>
              right
              intro e2
              rcases Nat.lt_or_gt_of_ne e with h1 | h1
              · exact HX.out.apart i K q h1 HLT.out e3 e2.symm
              · exact HX.out.apart K i q h1 hi e2.symm e3
        · have hsz := HB.out.size
          rw [HG.out.block g (by omega) (fun e => ?_), HU.out g h1 h2]
          rw [HU0.out] at e
          have := ((HX.out.row K HLT.out).2 g e.symm).1
          omega
      case measure => simp only [intOf]; have := HLT.out; omega
    · obtain rfl : K = R.length := by omega
      clear hlt
      go_wp2_with fail
      go_ret
      refine ⟨rfl, ⟨by rw [markR_len]; exact HX.out.len, by rw [markR_len]; exact HO.out, HX.out.top, fun i hi => ?_, fun i j q h1 h2 => HX.out.apart i j q h1 (by rw [markR_len] at h2; exact h2)⟩, HB.out, HU.out⟩
      rw [markR_len] at hi
      have h := HR.out i hi
      rw [if_pos hi] at h
      rw [markR_at k R hi]
      exact ⟨h, (HX.out.row i hi).2⟩

end Go.Proofs.Ytacjejnbomdhbab

set_option linter.unusedVariables false
namespace Go.Proofs.Ytacjejnbomdhbab
open Go.RowKit

set_option maxRecDepth 100000 in
set_option maxHeartbeats 1000000 in
theorem szIntS_any (v : Value) (xs : List Int) (n : Int) (h1 : 0 ≤ n) (h2 : n ≤ 1048576) (w : World) (h : Rd w v xs) :
    Calls Try.prog 73 #[v, .int .i64 n] w fun e w' => e = .returned (.int .i64 (if n < xs.length then -1 else n - xs.length)) ∧ w = w' := by
  obtain ⟨a, cap, rfl, hf⟩ := h.form
  have hmx : xs.length ≤ maxLen := by
    rcases Nat.eq_zero_or_pos xs.length with e | e
    · rw [e]; exact Nat.zero_le _
    · obtain ⟨_, _, _, hm, _⟩ := hf e; exact hm
  unfold maxLen at hmx
  have f : IntKind.i64.wrap (n - (xs.length : Int)) = n - (xs.length : Int) := by rw [IntKind.wrap_i64]; omega
  clear h hf
  by_cases hlt : n < (xs.length : Int)
  · rw [if_pos hlt]
    have hl2 : n - (xs.length : Int) < 0 := by omega
    clear hlt
    go_enter Try.func73, Try.ntmps73
    go_wp2_with fail
    go_ret
    exact ⟨rfl, rfl⟩
  · rw [if_neg hlt]
    have hl2 : ¬ (n - (xs.length : Int) < 0) := by omega
    clear hlt
    go_enter Try.func73, Try.ntmps73
    go_wp2_with fail
    go_ret
    exact ⟨rfl, rfl⟩

set_option maxRecDepth 100000 in
set_option maxHeartbeats 1000000 in
theorem szIntSS_any (v : Value) (R : List (List Int)) (n : Int) (h1 : 0 ≤ n) (h2 : n ≤ 1048576) (w : World) (h : RdM w v R) :
    Calls Try.prog 36 #[v, .int .i64 n] w fun e w' => w = w' ∧ (e = .returned (.int .i64 (-1)) ∨ ((R.length : Int) + (preL R R.length : Nat) ≤ n ∧ e = .returned (.int .i64 (n - (R.length : Int) - (preL R R.length : Nat))))) := by
  obtain ⟨a, cap, rfl⟩ := h.form
  have hmx := h.short
  unfold maxLen at hmx
  have HX := hid h
  have f : IntKind.i64.wrap (n - (R.length : Int)) = n - (R.length : Int) := by rw [IntKind.wrap_i64]; omega
  clear h
  by_cases hlt : n < (R.length : Int)
  · have hl2 : n - (R.length : Int) < 0 := by omega
    clear hlt
    go_enter Try.func36, Try.ntmps36
    go_wp2_with fail
    go_ret
    exact ⟨rfl, .inl rfl⟩
  · have hl2 : ¬ (n - (R.length : Int) < 0) := by omega
    clear hlt
    go_enter Try.func36, Try.ntmps36
    go_wp2_with fail
    go_loop [1, 5] (fun k' i => ∃ (K : Nat) (x : Int), k' = .int .i64 x ∧ i = .int .i64 K ∧ K ≤ R.length ∧ 0 ≤ x ∧ x ≤ 1048576 ∧ Hid (x = n - (R.length : Int) - (preL R K : Nat))) (fun _ i => R.length - (intOf i).toNat)
    case atStart => exact ⟨0, _, rfl, rfl, by omega, by omega, by omega, hid (by simp [preL])⟩
    case round =>
      obtain ⟨K, x, rfl, rfl, hK, hx0, hx1, HXE⟩ := hrel
      by_cases hlt : K < R.length
      · obtain ⟨b1, o1, x1, rfl, c1, r1⟩ := HX.out.row (i := K) hlt
        have HC := hid (szIntS_any x1 (R.getD K []) x hx0 hx1 _ r1)
        have hp3 : preL R (K + 1) = preL R K + (R.getD K []).length := rfl
        have HP3 := hid hp3
        obtain ⟨f1, d1, rfl, _⟩ := r1.form
        have hi : (K : Int) < (R.length : Int) := by omega
        have HLT := hid hlt
        obtain ⟨q, hq⟩ : ∃ q, q = (R.getD K []).length := ⟨_, rfl⟩
        rw [← hq] at HC HP3 c1
        clear r1 hp3 hq
        by_cases hxq : x < (q : Int)
        · simp only [if_pos hxq] at HC
          clear hxq
          go_wp2_with fail
          refine HC.out.mono ?_
          rintro e w' ⟨rfl, rfl⟩
          go_wp2_with fail
          go_ret
          exact ⟨rfl, .inl rfl⟩
        · simp only [if_neg hxq] at HC
          have hge : ¬ (x - (q : Int) < 0) := by omega
          have hge2 : 0 ≤ x - (q : Int) := by omega
          have hge3 : x - (q : Int) ≤ 1048576 := by omega
          clear hxq
          go_wp2_with fail
          refine HC.out.mono ?_
          rintro e w' ⟨rfl, rfl⟩
          go_wp2_with fail
          go_round
          case rel => exact ⟨K + 1, x - (q : Int), rfl, by go_num, HLT.out, hge2, hge3, hid (by rw [HP3.out, HXE.out]; push_cast; omega)⟩
          case measure => simp only [intOf]; have := HLT.out; omega
      · obtain rfl : K = R.length := by omega
        clear hlt
        go_wp2_with fail
        go_ret
        refine ⟨rfl, .inr ⟨?_, ?_⟩⟩
        · have := HXE.out
          omega
        · exact retI HXE.out

theorem rowIs_own {w : World} {b n B : Nat} {t : TypeId} {f : Nat → Value} {vals : List Value} (h : w.rowIs b t n f) (hn : n = vals.length) (hf : ∀ i, i < n → f i = vals.getD i undef) (hB : B ≤ b) (hm : n ≤ maxLen) : World.ownsRow w B t 1 (.slice (some ⟨b, 0, none⟩) n n) n vals := by
  subst hn
  obtain ⟨c, hb, hs, hc⟩ := h
  refine ⟨by simp, .inr ⟨b, vals.length, c, rfl, hB, hb, Nat.le_refl _, hm, by rw [hs, Nat.mul_one], ?_⟩⟩
  rw [Nat.mul_one, List.take_of_length_le (by rw [Array.length_toList, hs]; exact Nat.le_refl _)]
  refine List.ext_getElem? fun i => ?_
  rw [Array.getElem?_toList]
  by_cases hi : i < vals.length
  · rw [hc i hi, hf i hi, List.getElem?_eq_getElem hi]
    simp [List.getD, List.getElem?_eq_getElem hi]
  · rw [List.getElem?_eq_none (by omega), Array.getElem?_eq_none (by omega)]
theorem rowIs_block {w w' : World} {b n : Nat} {t : TypeId} {f : Nat → Value} (h : w.rowIs b t n f) (hb : w'.heap[b]? = w.heap[b]?) : w'.rowIs b t n f := by
  obtain ⟨c, h1, h2, h3⟩ := h
  exact ⟨c, hb.trans h1, h2, h3⟩

set_option maxRecDepth 100000 in
set_option maxHeartbeats 2000000 in
theorem toIntSS_any (v : Value) (R : List (List Int)) (w : World) (h : RdM w v R) (hl : R.length ≤ 1048576) (hr : ∀ i, i < R.length → (R.getD i []).length ≤ 1048576) :
    Calls Try.prog 38 #[v] w fun e w' => ∃ u, e = .returned u ∧ OwnM w' w.heap.size none u R ∧ Below w.heap.size w w' ∧ (∃ ad n c, u = .slice (some ad) n c) := by
  obtain ⟨i1, hi1, hy0, hy1, hy2⟩ := info_parts infoRow
  obtain ⟨a, cap, rfl⟩ := h.form
  obtain ⟨m, hm⟩ : ∃ m, m = R.length := ⟨_, rfl⟩
  have HH := hid h
  have HM := hid hm
  have HRL := hid hr
  rw [← hm] at hl HH ⊢
  have HB0 := hid ((Below.refl w.heap.size w).alloc (Nat.le_refl _) (.cells (madeCells #[.slice none 0 0] m) 22))
  have HR0 := hid (World.rowIs_made w (.slice none 0 0) m 22)
  have HS0 : Hid (w.heap.size + 1 ≤ (w.alloc (.cells (madeCells #[.slice none 0 0] m) 22)).heap.size) := hid (by simp)
  clear h hm hr
  go_enter Try.func38, Try.ntmps38
  go_wp2_with (at_make; refine wpList_make_row _ rfl _ _ 23 rfl 22 i1 (.slice none 0 0) Try.underlying23 hi1 hy0 hy1 rfl .i64 .i64 m rfl rfl (by rw [hy2]; omega) (by omega) ?_)
  go_loopw [4] (fun si wr => ∃ (K : Nat) (vs : List Value), si = .int .i64 K ∧ K ≤ m ∧ Hid (vs.length = K) ∧ Hid (wr.rowIs w.heap.size 22 m (fun j => if j < K then vs.getD j undef else .slice none 0 0)) ∧ Hid (∀ i, i < K → Owns wr (w.heap.size + 1) (vs.getD i undef) (R.getD i [])) ∧ Hid (∀ i j k, i < j → j < K → (vs.getD i undef).ownBlock = some k → (vs.getD j undef).ownBlock ≠ some k) ∧ Hid (w.heap.size + 1 ≤ wr.heap.size) ∧ Hid (Below w.heap.size w wr)) (fun si _ => m - (intOf si).toNat)
  case atStart => exact ⟨0, [], rfl, by omega, hid rfl, hid (HR0.out.congr (fun i hi => by simp)), hid (fun i hi => by omega), hid (fun i j k h1 h2 => by omega), HS0, HB0⟩
  case round =>
    obtain ⟨K, vs, rfl, hK, HL, HR, HO, HA, HS, HB⟩ := hrel
    rename World => wr
    by_cases hlt : K < m
    · obtain ⟨b1, o1, x1, e1, c1, r1⟩ := RdM.row (HH.out.keep HB.out) (i := K) (by rw [← HM.out]; exact hlt)
      obtain rfl := e1
      have HC := hid (toIntS_any x1 (R.getD K []) wr r1 (HRL.out K (by rw [← HM.out]; exact hlt)))
      obtain ⟨f1, d1, rfl, _⟩ := r1.form
      have hi0 : (K : Int) < (m : Int) := by omega
      have HLT := hid hlt
      obtain ⟨zs, hzs⟩ : ∃ zs, zs = R.getD K [] := ⟨_, rfl⟩
      rw [← hzs] at HC c1
      have HZS := hid hzs
      clear r1 hzs hlt
      go_wp2_with fail
      refine HC.out.mono ?_
      rintro e w2 ⟨u, rfl, ho, hb, ad, un, uc, hu⟩
      have hs := HS.out
      have hsz := hb.size
      have hr2 := rowIs_block HR.out (hb.block w.heap.size (by omega))
      have c2 := hr2.cell HLT.out
      rw [if_neg (by omega)] at c2
      have f2 := hr2.frozen K
      have HS2 := hid ((hr2.set K u).congr (g := fun j => if j < K + 1 then (vs ++ [u]).getD j undef else .slice none 0 0) (fun i hi => by
        by_cases e : i = K
        · rw [if_pos e, if_pos (by omega), e]
          have h := getD_snoc_new vs u undef
          rw [HL.out] at h
          exact h.symm
        · rw [if_neg e]
          by_cases h : i < K
          · rw [if_pos h, if_pos (by omega), getD_snoc_old _ _ _ (by rw [HL.out]; exact h)]
          · rw [if_neg h, if_neg (by omega)]))
      have HU := hid ho
      have HBW := hid hb
      have HBs := hid ((HB.out.trans (hb.mono HB.out.size)).setCell (p := ⟨w.heap.size, K, none⟩) (Nat.le_refl _) u)
      have HUN := hid hu
      subst hu
      clear ho hb hr2 hs hsz
      go_wp2_with fail
      go_roundw
      case measure => simp only [intOf]; have := HLT.out; omega
      case rel =>
        have hl := HL.out
        have hsz := HBW.out.size
        have hs := HS.out
        refine ⟨K + 1, vs ++ [.slice (some ad) un uc], by go_num, HLT.out, hid (by rw [List.length_append, hl]; rfl), HS2, hid fun i hi => ?_, hid fun i j k h1 h2 => ?_, hid (by simp; omega), HBs⟩
        · by_cases e : i < K
          · rw [getD_snoc_old _ _ _ (by omega)]
            refine (HO.out i e).at_block fun g eg => ?_
            have h3 := (HO.out i e).ge g eg
            have h4 := (HO.out i e).lt g eg
            rw [Below.heap_setCell _ _ _ g (by show g ≠ w.heap.size; omega)]
            exact HBW.out.block g h4
          · obtain rfl : i = K := by omega
            rw [← hl, getD_snoc_new, hl, ← HZS.out]
            refine (HU.out.down (B := w.heap.size + 1) hs).at_block fun g eg => ?_
            have h3 := HU.out.ge g eg
            rw [Below.heap_setCell _ _ _ g (by show g ≠ w.heap.size; omega)]
        · rw [getD_snoc_old _ _ _ (by omega)]
          by_cases e : j < K
          · rw [getD_snoc_old _ _ _ (by omega)]
            exact HA.out i j k h1 e
          · obtain rfl : j = K := by omega
            intro e1 e2
            rw [← hl, getD_snoc_new] at e2
            have h3 := (HO.out i h1).lt k e1
            have h4 := HU.out.ge k e2
            omega
    · obtain rfl : K = m := by omega
      have HROW := hid (rowIs_own (B := w.heap.size) HR.out HL.out.symm (fun i hi => by rw [if_pos hi]) (Nat.le_refl _) (by unfold maxLen; omega))
      clear hlt
      go_wp2_with fail
      go_ret
      refine ⟨_, rfl, ⟨vs, by rw [HL.out, HM.out], by rw [← HM.out]; exact HROW.out, fun _ _ => by simp, fun i hi => ⟨(HO.out i (by rw [HM.out]; exact hi)).down (Nat.le_succ _), fun k e => ⟨fun e2 => ?_, by simp⟩⟩, fun i j k h1 h2 => HA.out i j k h1 (by rw [HM.out]; exact h2)⟩, HB.out, _, _, _, rfl⟩
      have h3 := (HO.out i (by rw [HM.out]; exact hi)).ge k e
      have e3 : w.heap.size = k := by simpa [Value.ownBlock] using e2
      omega

end Go.Proofs.Ytacjejnbomdhbab

set_option linter.unusedVariables false
namespace Go.Proofs.Ytacjejnbomdhbab
open Go.RowKit

theorem below_box3 (w : World) (o : Obj) : Below w.heap.size w (w.alloc o) := (Below.refl _ _).alloc (Nat.le_refl _) _
set_option maxRecDepth 100000 in
set_option maxHeartbeats 1000000 in
theorem heldMove_any (v : Value) (R : List (List Int)) (d k : Int) (hk : 0 ≤ k) (hk2 : k ≤ 100000) (hn : preL R R.length ≤ 100000) (w : World) (hx : RdM w v (markR k R)) :
    Calls Try.prog 24 #[.agg #[v, .int .i64 d], .int .i64 k] w fun e w' => e = .returned (.int .i64 (k + (preL R R.length : Nat))) ∧ Below w.heap.size w w' := by
  obtain ⟨a, cap, rfl⟩ := hx.form
  have hb := below_box3 w (.cells #[.slice a (markR k R).length cap, .int .i64 d] 29)
  have HC := hid (heldIntSS_any _ R k hk hk2 hn _ (hx.keep hb))
  have HB := hid hb
  have hge : ¬ (k + ((preL R R.length : Nat) : Int) < 0) := by omega
  obtain ⟨q, hq⟩ : ∃ q, q = k + ((preL R R.length : Nat) : Int) := ⟨_, rfl⟩
  rw [← hq] at HC hge ⊢
  clear hx hb hq
  go_enter Try.func24, Try.ntmps24
  go_wp2_with fail
  refine HC.out.mono ?_
  rintro e w' ⟨rfl, rfl⟩
  go_wp2_with fail
  go_ret
  exact ⟨rfl, HB.out⟩
set_option maxRecDepth 100000 in
set_option maxHeartbeats 1000000 in
theorem markMove_any (v : Value) (R : List (List Int)) (vals : List Value) (B C : Nat) (d k : Int) (hk : 0 ≤ k) (hk2 : k ≤ 100000) (hn : preL R R.length ≤ 100000) (w : World) (hx : OwnC w B C v R vals) (hB : B ≤ w.heap.size) (hC : C ≤ w.heap.size) :
    Calls Try.prog 23 #[.agg #[v, .int .i64 d], .int .i64 k] w fun e w' => e = .returned (.int .i64 (k + (preL R R.length : Nat))) ∧ OwnC w' B C v (markR k R) vals ∧ Below B w w' ∧ ∀ g, C ≤ g → g < w.heap.size → w'.heap[g]? = w.heap[g]? := by
  obtain ⟨a, cap, rfl⟩ := hx.rd.form
  have hb := below_box3 w (.cells #[.slice a R.length cap, .int .i64 d] 29)
  have HC := hid (markIntSS_any _ R vals B C k hk hk2 hn _ (hx.at_blocks fun g _ h2 => hb.block g (by omega)))
  have HB := hid hb
  have HBB := hid hB
  clear hx hb
  go_enter Try.func23, Try.ntmps23
  go_wp2_with fail
  refine HC.out.mono ?_
  rintro e w' ⟨rfl, h1, h2, h3⟩
  have H1 := hid h1
  have H2 := hid h2
  have H3 := hid h3
  clear h1 h2 h3
  go_wp2_with fail
  go_ret
  exact ⟨rfl, H1.out, (HB.out.mono HBB.out).trans H2.out, fun g h1 h2 => (H3.out g h1 (by simp; omega)).trans (HB.out.block g h2)⟩
set_option maxRecDepth 100000 in
set_option maxHeartbeats 1000000 in
theorem szMove_any (v : Value) (R : List (List Int)) (d n : Int) (h1 : 0 ≤ n) (h2 : n ≤ 1048576) (w : World) (h : RdM w v R) :
    Calls Try.prog 13 #[.agg #[v, .int .i64 d], .int .i64 n] w fun e w' => Below w.heap.size w w' ∧ (e = .returned (.int .i64 (-1)) ∨ ((R.length : Int) + (preL R R.length : Nat) ≤ n ∧ e = .returned (.int .i64 (n - (R.length : Int) - (preL R R.length : Nat))))) := by
  obtain ⟨a, cap, rfl⟩ := h.form
  have hb := below_box3 w (.cells #[.slice a R.length cap, .int .i64 d] 25)
  have HC := hid (szIntSS_any _ R n h1 h2 _ (h.keep hb))
  have HB := hid hb
  clear h hb
  go_enter Try.func13, Try.ntmps13
  go_wp2_with fail
  refine HC.out.mono ?_
  rintro e w' ⟨rfl, rfl | ⟨hle, rfl⟩⟩
  · go_wp2_with fail
    go_ret
    exact ⟨HB.out, .inl rfl⟩
  · have hge : ¬ (n - (R.length : Int) - ((preL R R.length : Nat) : Int) < 0) := by omega
    have HLE := hid hle
    obtain ⟨q, hq⟩ : ∃ q, q = n - (R.length : Int) - ((preL R R.length : Nat) : Int) := ⟨_, rfl⟩
    have HQ := hid hq
    rw [← hq] at hge ⊢
    clear hle hq
    go_wp2_with fail
    go_ret
    exact ⟨HB.out, .inr ⟨HLE.out, retI HQ.out⟩⟩
set_option maxRecDepth 100000 in
set_option maxHeartbeats 2000000 in
theorem toMove_any (v : Value) (R : List (List Int)) (d : Int) (w : World) (h : RdM w v R) (hl : R.length ≤ 1048576) (hr : ∀ i, i < R.length → (R.getD i []).length ≤ 1048576) :
    Calls Try.prog 16 #[.agg #[v, .int .i64 d]] w fun e w' => ∃ u, e = .returned (.agg #[u, .int .i64 d]) ∧ OwnM w' w.heap.size none u R ∧ Below w.heap.size w w' := by
  obtain ⟨a, cap, rfl⟩ := h.form
  have hb : Below w.heap.size w (((w.alloc (.cells #[.slice a R.length cap, .int .i64 d] 25)).alloc (.cells #[.slice none 0 0, .int .i64 0] 29)).alloc (.cells #[.slice none 0 0, .int .i64 0] 29)) := ((below_box3 _ _).alloc (by simp) _).alloc (by simp; omega) _
  have H1 : Hid ((((w.alloc (.cells #[.slice a R.length cap, .int .i64 d] 25)).alloc (.cells #[.slice none 0 0, .int .i64 0] 29)).alloc (.cells #[.slice none 0 0, .int .i64 0] 29)).heap[w.heap.size]? = some (.cells #[.slice a R.length cap, .int .i64 d] 25 (0, 0))) := hid (heap_up (heap_up (heap_new rfl)))
  have H2 : Hid ((((w.alloc (.cells #[.slice a R.length cap, .int .i64 d] 25)).alloc (.cells #[.slice none 0 0, .int .i64 0] 29)).alloc (.cells #[.slice none 0 0, .int .i64 0] 29)).heap[w.heap.size + 1]? = some (.cells #[.slice none 0 0, .int .i64 0] 29 (0, 0))) := hid (heap_up (heap_new (by simp)))
  have H3 : Hid ((((w.alloc (.cells #[.slice a R.length cap, .int .i64 d] 25)).alloc (.cells #[.slice none 0 0, .int .i64 0] 29)).alloc (.cells #[.slice none 0 0, .int .i64 0] 29)).heap[w.heap.size + 1 + 1]? = some (.cells #[.slice none 0 0, .int .i64 0] 29 (0, 0))) := hid (heap_new (by simp))
  have HC := hid (toIntSS_any _ R _ (h.keep hb) hl hr)
  have HB := hid hb
  obtain ⟨W3, hW3⟩ : ∃ W3, W3 = (((w.alloc (.cells #[.slice a R.length cap, .int .i64 d] 25)).alloc (.cells #[.slice none 0 0, .int .i64 0] 29)).alloc (.cells #[.slice none 0 0, .int .i64 0] 29)) := ⟨_, rfl⟩
  have HS : Hid (W3.heap.size = w.heap.size + 3) := hid (by rw [hW3]; simp)
  rw [← hW3] at HB H1 H2 H3 HC
  have HW := hid hW3
  clear h hb hW3
  go_enter Try.func16, Try.ntmps16
  go_wp2_with fail
  rw [← HW.out]
  refine HC.out.mono ?_
  rintro e w4 ⟨u, rfl, ho, hb4, _⟩
  have q1 := heap_below hb4 H1.out
  have q2 := heap_below hb4 H2.out
  have q3 := heap_below hb4 H3.out
  have x0 := cellB (i := 0) q1
  have x1 := cellB (i := 1) q1
  have y0 := cellB (i := 0) q2
  have y1 := cellB (i := 1) q2
  have z0 := cellB (i := 0) q3
  have z1 := cellB (i := 1) q3
  have f0 := frozenB (i := 0) q2
  have f1 := frozenB (i := 1) q2
  have g0 := frozenB (i := 0) q3
  have g1 := frozenB (i := 1) q3
  have HO := hid ho
  have HB4 := hid (HB.out.trans (hb4.mono HB.out.size))
  obtain ⟨au, cu, rfl⟩ := ho.rd.form
  have HQ2 := hid q2
  have HQ3 := hid q3
  clear ho hb4 q1 q2 q3
  go_wp2_with fail
  refine bodyPost_ret (v := .agg #[.slice au R.length cu, .int .i64 d]) (by simp [results, Try.results16, go_sem] <;> go_simp) rfl ?_
  have hs := HS.out
  have ho := HO.out
  refine ⟨_, rfl, ?_, ?_⟩
  · refine OwnM.down ?_ (show w.heap.size ≤ W3.heap.size by omega)
    refine OwnM.setLow (OwnM.setLow (OwnM.setLow (OwnM.setLow ho (.inl ?_) _) (.inl ?_) _) (.inl ?_) _) (.inl ?_) _ <;> (rw [hs]; show _ + _ < _; omega)
  · refine (((HB4.out.setCell ?_ _).setCell ?_ _).setCell ?_ _).setCell ?_ _ <;> (show _ ≤ _ + _; omega)

end Go.Proofs.Ytacjejnbomdhbab

set_option linter.unusedVariables false
namespace Go.Proofs.Ytacjejnbomdhbab
open Go.RowKit Go.ChangeShapes Go.WideShapes

theorem rows_open {H : Type} {enc : TypeId × Value → H} {w : World} {base fuel : Nat} {held : Bool} {a : Option Addr} {len cap : Nat} {x : DataW H × List MemPlace} (h : DataW.trod enc Try.prog w base (fun _ => true) held fuel 23 [.slice a len cap] = some x) : ∃ R, RdM w (.slice a len cap) R := by
  rcases Go.Deep.open_int_rows Try.underlying23 Try.underlying22 Try.underlying3 (by kernel_rfl) (by kernel_rfl) h with ⟨hcs, _⟩ | ⟨ad, l, c, A, L, C, Z, hcs, _, hl, hm, _, hr⟩
  · simp only [List.cons.injEq, Value.slice.injEq, and_true] at hcs
    obtain ⟨rfl, rfl, rfl⟩ := hcs
    exact ⟨[], rdM_nil _ _ _⟩
  · simp only [List.cons.injEq, Value.slice.injEq, and_true] at hcs
    obtain ⟨rfl, rfl, rfl⟩ := hcs
    refine ⟨(List.range len).map fun r => (Z r).take (L r), some ad, cap, (List.range len).map fun r => .slice (A r) (L r) (C r), by simp, by simp, fun h0 => ?_, fun i hi => ?_⟩
    · simp only [List.length_map, List.length_range] at h0 ⊢
      obtain ⟨b, off, spot⟩ := ad
      have hspot : spot = none := by simpa [Addr.add] using World.cell?_spot (hr 0 (by omega)).1
      subst hspot
      refine ⟨b, off, rfl, by omega, fun i hi => ?_⟩
      have hc := (hr i (by omega)).1
      rw [show ((List.range len).map fun r => Value.slice (A r) (L r) (C r)).getD i undef = .slice (A i) (L i) (C i) by simp [List.getD, hi]]
      by_cases e : i = 0
      · subst e; simpa [Addr.add] using hc
      · simpa [Addr.add, e] using hc
    · simp only [List.length_map, List.length_range] at hi
      rw [show ((List.range len).map fun r => Value.slice (A r) (L r) (C r)).getD i undef = .slice (A i) (L i) (C i) by simp [List.getD, hi], show ((List.range len).map fun r => (Z r).take (L r)).getD i [] = (Z i).take (L i) by simp [List.getD, hi]]
      obtain ⟨_, h1, h2, h3, h4, h5, h6⟩ := hr i (by omega)
      have hlen : ((Z i).take (L i)).length = L i := by rw [List.length_take]; omega
      by_cases h0 : L i = 0
      · exact .inl ⟨A i, C i, by rw [h0], by rw [h0, List.take_zero]⟩
      · obtain ⟨a', ha⟩ : ∃ a', A i = some a' := by
          cases e : A i with
          | none => have := h5 e; omega
          | some a' => exact ⟨a', rfl⟩
        obtain ⟨_, hcell⟩ := h6 a' ha
        rw [ha]
        obtain ⟨b, off, spot⟩ := a'
        have hspot : spot = none := by simpa [Addr.add] using World.cell?_spot (hcell 0 (by omega))
        subst hspot
        refine .inr ⟨b, off, C i, by rw [hlen], by omega, by rw [hlen]; omega, fun j hj => ?_⟩
        rw [hlen] at hj
        have hc := hcell j (by omega)
        have hg : ((Z i).take (L i)).getD j 0 = (Z i).getD j 0 := by
          rw [getD_at _ _ (by rw [hlen]; exact hj), getD_at _ _ (by omega), List.getElem_take]
        rw [hg]
        by_cases e : j = 0
        · subst e; simpa [Addr.add] using hc
        · simpa [Addr.add, e] using hc
theorem move_open {H : Type} {enc : TypeId × Value → H} {w : World} {base b0 : Nat} {r : Reach} {held : Bool} {v : Value} {d : DataW H} {ps : List MemPlace} (hv : Value.okWide Try.prog w r b0 25 v) (h : DataW.Trod enc Try.prog w base (fun _ => true) held 25 v d ps) : ∃ (u : Value) (R : List (List Int)) (n : Int), v = .agg #[u, .int .i64 n] ∧ RdM w u R := by
  obtain ⟨v0, v1, y0, y1, n, rfl, _, _, h0, h1⟩ := Go.Joins.open_agg2 Try.underlying25 (by kernel_rfl) (by kernel_rfl) hv h
  obtain ⟨a, l, c, e⟩ := Go.Joins.slice_form Try.underlying23 h0
  simp only [List.cons.injEq, and_true] at e
  subst e
  obtain ⟨R, hR⟩ := rows_open h0
  obtain ⟨k, e, _, _⟩ := DataW.trod_int Try.underlying3 h1
  simp only [List.cons.injEq, and_true] at e
  subst e
  exact ⟨_, R, k, rfl, hR⟩

end Go.Proofs.Ytacjejnbomdhbab

set_option linter.unusedVariables false
namespace Go.Proofs.Ytacjejnbomdhbab
open Go.RowKit

theorem pre_bd {R : List (List Int)} {m : Nat} (h : ∀ r ∈ R, r.length ≤ m) : ∀ i, i ≤ R.length → preL R i ≤ m * i
  | 0, _ => Nat.le_refl _
  | i + 1, hi => by
    have ih := pre_bd h i (by omega)
    have h1 := h (R.getD i []) (by rw [List.getD_eq_getElem?_getD, List.getElem?_eq_getElem (by omega)]; exact List.getElem_mem _)
    show preL R i + (R.getD i []).length ≤ m * (i + 1)
    rw [Nat.mul_succ]
    omega
theorem move_rows {xs : List Int} {o : Option (List (List Int) × Int)} (h : ∀ R d, o = some (R, d) → MoveOk xs R d) : preL (o.elim [] (·.1)) (o.elim [] (·.1)).length ≤ 1000 := by
  cases o with
  | none => exact Nat.zero_le _
  | some p =>
    obtain ⟨R, d⟩ := p
    have hm := h R d rfl
    have hs := hm.sq
    have h3 := hm.l3
    have := pre_bd (R := R) (m := 3) (fun r hr => by rw [hs.2 r hr]; exact h3) R.length (Nat.le_refl _)
    have h1 := hs.1
    show preL R R.length ≤ 1000
    omega
theorem stay_rows (xs : List Int) : ∀ R d, stayV xs = some (R, d) → MoveOk xs R d := fun R d h => by
  unfold stayV at h
  split at h
  · next hf =>
    simp only [Option.some.injEq, Prod.mk.injEq] at h
    obtain ⟨rfl, rfl⟩ := h
    unfold frm3B at hf
    rw [Bool.and_eq_true, decide_eq_true_eq] at hf
    exact stay_ok hf.1 hf.2
  · cases h

theorem dec_two (R : List (List Int)) (d : Int) : (decide (R = R) && decide (d = d)) = true := by simp
theorem dec_one (xs : List Int) : decide (xs = xs) = true := by simp

end Go.Proofs.Ytacjejnbomdhbab

set_option linter.unusedVariables false
namespace Go.Proofs.Ytacjejnbomdhbab
open Go.RowKit

theorem dec_rows (R : List (List Int)) : decide (R = R) = true := by simp
theorem carry_rows (xs us vs : List Int) : preL (if carryOk xs us vs = true then carryL xs us vs else []) (if carryOk xs us vs = true then carryL xs us vs else []).length ≤ 1000 := by
  by_cases h : carryOk xs us vs = true
  · rw [if_pos h]
    obtain ⟨hf, _, hv, _, _⟩ := carry_facts h
    unfold frm3B at hf
    rw [Bool.and_eq_true, decide_eq_true_eq] at hf
    have lv := (vecB_iff.1 hv).2.2
    have hr : ∀ r ∈ carryL xs us vs, r.length ≤ 3 := fun r hr => by
      have hd : ∀ c, (diffL us vs c xs.length).length = xs.length := fun c => by unfold diffL; rw [row_len]
      unfold carryL at hr
      split at hr
      · cases hr
      · split at hr
        · simp only [List.mem_cons, List.not_mem_nil, or_false] at hr
          rcases hr with rfl | rfl
          · rw [plainL_len, hd]; exact hf.2
          · rw [plainL_len, lv]; exact hf.2
        · simp only [List.mem_cons, List.not_mem_nil, or_false] at hr
          subst hr
          rw [plainL_len, hd]; exact hf.2
    have h1 := pre_bd hr _ (Nat.le_refl _)
    have h2 := carry_len xs us vs
    omega
  · rw [if_neg h]; exact Nat.zero_le _

end Go.Proofs.Ytacjejnbomdhbab

namespace Go.Proofs.Ytacjejnbomdhbab.fnExactMoveCarry
open Go.ChangeShapes Go.WideShapes Go.ChangeAt Go.RowKit
open Go.ChangeMaps (open_string shut_string)
set_option linter.unusedVariables false
set_option maxRecDepth 100000 in
set_option maxHeartbeats 4000000 in
theorem walk  (a0 : Option Addr) (len0 cap0 : Nat) (z0 : List Int) (a1 : Option Addr) (len1 cap1 : Nat) (z1 : List Int) (a2 : Option Addr) (len2 cap2 : Nat) (z2 : List Int) (w : World) (w0 : IsRow .i64 w a0 len0 cap0 z0) (w1 : IsRow .i64 w a1 len1 cap1 z1) (w2 : IsRow .i64 w a2 len2 cap2 z2) :
    Calls Try.prog 12 #[.slice a0 len0 cap0, .slice a1 len1 cap1, .slice a2 len2 cap2] w fun e w' => e = .returned (.bool true) ∧ Below w.heap.size w w' := by
  obtain ⟨xs0, hxl0, hrd0⟩ := rd_row w0
  have RA0 := hid hrd0
  have HXL0 := hid hxl0
  clear hrd0 hxl0 w0
  obtain ⟨xs1, hxl1, hrd1⟩ := rd_row w1
  have RA1 := hid hrd1
  have HXL1 := hid hxl1
  clear hrd1 hxl1 w1
  obtain ⟨xs2, hxl2, hrd2⟩ := rd_row w2
  have RA2 := hid hrd2
  have HXL2 := hid hxl2
  clear hrd2 hxl2 w2
  by_cases hl0a : (1048576 : Int) < (len0 : Int)
  · go_enter Try.func12, Try.ntmps12
    go_wp2
    go_ret
    exact ⟨rfl, Below.refl _ _⟩
  by_cases hl1a : (1048576 : Int) < (len1 : Int)
  · go_enter Try.func12, Try.ntmps12
    go_wp2
    go_ret
    exact ⟨rfl, Below.refl _ _⟩
  by_cases hl2a : (1048576 : Int) < (len2 : Int)
  · go_enter Try.func12, Try.ntmps12
    go_wp2
    go_ret
    exact ⟨rfl, Below.refl _ _⟩
  have hl0 : xs0.length ≤ 1048576 := by have := HXL0.out; omega
  have hl1 : xs1.length ≤ 1048576 := by have := HXL1.out; omega
  have hl2 : xs2.length ≤ 1048576 := by have := HXL2.out; omega
  obtain ⟨R, hR⟩ : ∃ R, R = (if carryOk xs0 xs1 xs2 then carryL xs0 xs1 xs2 else []) := ⟨_, rfl⟩
  obtain ⟨b, hb⟩ : ∃ b, b = carryOk xs0 xs1 xs2 := ⟨_, rfl⟩
  have hlen : preL R R.length ≤ 1000 := by rw [hR]; exact carry_rows xs0 xs1 xs2
  have S : Hid (∀ (va vb vc : Value) (w : World), Rd w va xs0 → Rd w vb xs1 → Rd w vc xs2 → Calls Try.prog 45 #[va, vb, vc] w fun e w' => ∃ u, e = .returned (.tuple #[u, .bool b]) ∧ OwnM w' w.heap.size none u R ∧ Below w.heap.size w w') := hid (fun va vb vc w h0 h1 h2 => by rw [hR, hb]; exact moveCarryS_any va vb vc xs0 xs1 xs2 w h0 h1 h2)
  have I : Hid (∀ (va vb vc : Value) (w : World), Rd w va xs0 → Rd w vb xs1 → Rd w vc xs2 → Calls Try.prog 46 #[va, vb, vc] w fun e w' => ∃ u, e = .returned (.tuple #[u, .bool b]) ∧ OwnM w' w.heap.size none u R ∧ Below w.heap.size w w') := hid (fun va vb vc w h0 h1 h2 => by rw [hR, hb]; exact moveCarry_any va vb vc xs0 xs1 xs2 w h0 h1 h2)
  have TB : (b != b) = false := by simp
  have T1 : ((1 + ((preL R R.length : Nat) : Int)) != 1 + ((preL R R.length : Nat) : Int)) = false := by simp
  have T2 : ¬ ((1 + ((preL R R.length : Nat) : Int)) < 0) := by omega
  clear hR hb
  go_enter Try.func12, Try.ntmps12
  obtain ⟨W0, hW0⟩ : ∃ W0, W0 = w := ⟨_, rfl⟩
  have B0 : Hid (Below w.heap.size w W0) := hid (by rw [hW0]; exact Below.refl _ _)
  rw [← hW0]
  have HW0 := hid hW0
  clear hW0
  go_wp2_with fail
  refine (toIntS_any _ xs0 _ (RA0.out.keep2 B0.out) hl0).mono ?_
  rintro e W1 ⟨u0, rfl, o1, b1, _⟩
  have E1 := hid b1
  have s1 : W0.heap.size ≤ W1.heap.size := E1.out.size
  have B1 := hid (B0.out.trans (E1.out.mono B0.out.size))
  have Ou0_1 := hid o1
  have LTu0 := hid o1.lt
  clear o1 b1
  go_wp2_with fail
  refine (toIntS_any _ xs1 _ (RA1.out.keep2 B1.out) hl1).mono ?_
  rintro e W2 ⟨u1, rfl, o2, b2, _⟩
  have E2 := hid b2
  have s2 : W1.heap.size ≤ W2.heap.size := E2.out.size
  have B2 := hid (B1.out.trans (E2.out.mono B1.out.size))
  have Ou0_2 := hid (Ou0_1.out.keep Ou0_1.out.lt E2.out)
  clear Ou0_1
  have Ou1_2 := hid o2
  have LTu1 := hid o2.lt
  clear o2 b2
  go_wp2_with fail
  refine (toIntS_any _ xs2 _ (RA2.out.keep2 B2.out) hl2).mono ?_
  rintro e W3 ⟨u2, rfl, o3, b3, _⟩
  have E3 := hid b3
  have s3 : W2.heap.size ≤ W3.heap.size := E3.out.size
  have B3 := hid (B2.out.trans (E3.out.mono B2.out.size))
  have Ou0_3 := hid (Ou0_2.out.keep Ou0_2.out.lt E3.out)
  clear Ou0_2
  have Ou1_3 := hid (Ou1_2.out.keep Ou1_2.out.lt E3.out)
  clear Ou1_2
  have Ou2_3 := hid o3
  have LTu2 := hid o3.lt
  clear o3 b3
  go_wp2_with fail
  refine (S.out _ _ _ _ Ou0_3.out.rd Ou1_3.out.rd Ou2_3.out.rd).mono ?_
  rintro e W4 ⟨p, rfl, o4, b4⟩
  have E4 := hid b4
  have s4 : W3.heap.size ≤ W4.heap.size := E4.out.size
  have B4 := hid (B3.out.trans (E4.out.mono B3.out.size))
  have Ou0_4 := hid (Ou0_3.out.keep Ou0_3.out.lt E4.out)
  clear Ou0_3
  have Ou1_4 := hid (Ou1_3.out.keep Ou1_3.out.lt E4.out)
  clear Ou1_3
  have Ou2_4 := hid (Ou2_3.out.keep Ou2_3.out.lt E4.out)
  clear Ou2_3
  obtain ⟨valsp, oc4⟩ := o4.ownC
  obtain ⟨ap, cp, rfl⟩ := o4.rd.form
  have Op_4 := hid oc4
  clear o4 b4 oc4
  go_wp2_with fail
  refine (toIntS_any _ xs0 _ (RA0.out.keep2 B4.out) hl0).mono ?_
  rintro e W5 ⟨y0, rfl, o5, b5, _⟩
  have E5 := hid b5
  have s5 : W4.heap.size ≤ W5.heap.size := E5.out.size
  have B5 := hid (B4.out.trans (E5.out.mono B4.out.size))
  have Op_5 := hid (Op_4.out.at_blocks fun g _ h => E5.out.block g (by omega))
  clear Op_4
  have Oy0_5 := hid o5
  have LTy0 := hid o5.lt
  clear o5 b5
  go_wp2_with fail
  refine (toIntS_any _ xs1 _ (RA1.out.keep2 B5.out) hl1).mono ?_
  rintro e W6 ⟨y1, rfl, o6, b6, _⟩
  have E6 := hid b6
  have s6 : W5.heap.size ≤ W6.heap.size := E6.out.size
  have B6 := hid (B5.out.trans (E6.out.mono B5.out.size))
  have Op_6 := hid (Op_5.out.at_blocks fun g _ h => E6.out.block g (by omega))
  clear Op_5
  have Oy0_6 := hid (Oy0_5.out.keep Oy0_5.out.lt E6.out)
  clear Oy0_5
  have Oy1_6 := hid o6
  have LTy1 := hid o6.lt
  clear o6 b6
  go_wp2_with fail
  refine (toIntS_any _ xs2 _ (RA2.out.keep2 B6.out) hl2).mono ?_
  rintro e W7 ⟨y2, rfl, o7, b7, _⟩
  have E7 := hid b7
  have s7 : W6.heap.size ≤ W7.heap.size := E7.out.size
  have B7 := hid (B6.out.trans (E7.out.mono B6.out.size))
  have Op_7 := hid (Op_6.out.at_blocks fun g _ h => E7.out.block g (by omega))
  clear Op_6
  have Oy0_7 := hid (Oy0_6.out.keep Oy0_6.out.lt E7.out)
  clear Oy0_6
  have Oy1_7 := hid (Oy1_6.out.keep Oy1_6.out.lt E7.out)
  clear Oy1_6
  have Oy2_7 := hid o7
  have LTy2 := hid o7.lt
  clear o7 b7
  go_wp2_with fail
  refine (I.out _ _ _ _ Oy0_7.out.rd Oy1_7.out.rd Oy2_7.out.rd).mono ?_
  rintro e W8 ⟨g, rfl, o8, b8⟩
  have E8 := hid b8
  have s8 : W7.heap.size ≤ W8.heap.size := E8.out.size
  have B8 := hid (B7.out.trans (E8.out.mono B7.out.size))
  have Op_8 := hid (Op_7.out.at_blocks fun g _ h => E8.out.block g (by omega))
  clear Op_7
  have Oy0_8 := hid (Oy0_7.out.keep Oy0_7.out.lt E8.out)
  clear Oy0_7
  have Oy1_8 := hid (Oy1_7.out.keep Oy1_7.out.lt E8.out)
  clear Oy1_7
  have Oy2_8 := hid (Oy2_7.out.keep Oy2_7.out.lt E8.out)
  clear Oy2_7
  obtain ⟨valsg, oc8⟩ := o8.ownC
  obtain ⟨ag, cg, rfl⟩ := o8.rd.form
  have Og_8 := hid oc8
  clear o8 b8 oc8
  go_wp2_with fail
  refine (eqIntSS_any _ _ R R _ Og_8.out.rd Op_8.out.rd).mono ?_
  rw [dec_rows]
  rintro e W9 ⟨rfl, k9, hk9⟩
  have b9 : Below W8.heap.size W8 W9 := by rw [hk9]; exact below_drewN (Below.refl _ _) k9
  clear hk9
  have E9 := hid b9
  have s9 : W8.heap.size ≤ W9.heap.size := E9.out.size
  have B9 := hid (B8.out.trans (E9.out.mono B8.out.size))
  have Op_9 := hid (Op_8.out.at_blocks fun g _ h => E9.out.block g (by omega))
  clear Op_8
  have Oy0_9 := hid (Oy0_8.out.keep Oy0_8.out.lt E9.out)
  clear Oy0_8
  have Oy1_9 := hid (Oy1_8.out.keep Oy1_8.out.lt E9.out)
  clear Oy1_8
  have Oy2_9 := hid (Oy2_8.out.keep Oy2_8.out.lt E9.out)
  clear Oy2_8
  have Og_9 := hid (Og_8.out.at_blocks fun g _ h => E9.out.block g (by omega))
  clear Og_8
  clear b9
  go_wp2_with fail
  refine (toIntS_any _ xs0 _ (RA0.out.keep2 B9.out) hl0).mono ?_
  rintro e W10 ⟨t0, rfl, o10, b10, _⟩
  have E10 := hid b10
  have s10 : W9.heap.size ≤ W10.heap.size := E10.out.size
  have B10 := hid (B9.out.trans (E10.out.mono B9.out.size))
  have Op_10 := hid (Op_9.out.at_blocks fun g _ h => E10.out.block g (by omega))
  clear Op_9
  have Oy0_10 := hid (Oy0_9.out.keep Oy0_9.out.lt E10.out)
  clear Oy0_9
  have Oy1_10 := hid (Oy1_9.out.keep Oy1_9.out.lt E10.out)
  clear Oy1_9
  have Oy2_10 := hid (Oy2_9.out.keep Oy2_9.out.lt E10.out)
  clear Oy2_9
  have Og_10 := hid (Og_9.out.at_blocks fun g _ h => E10.out.block g (by omega))
  clear Og_9
  have Ot0_10 := hid o10
  have LTt0 := hid o10.lt
  clear o10 b10
  go_wp2_with fail
  refine (eqIntS_any _ _ xs0 xs0 _ Oy0_10.out.rd Ot0_10.out.rd).mono ?_
  rw [dec_one]
  rintro e W11 ⟨rfl, k11, hk11⟩
  have b11 : Below W10.heap.size W10 W11 := by rw [hk11]; exact below_drewN (Below.refl _ _) k11
  clear hk11
  have E11 := hid b11
  have s11 : W10.heap.size ≤ W11.heap.size := E11.out.size
  have B11 := hid (B10.out.trans (E11.out.mono B10.out.size))
  have Op_11 := hid (Op_10.out.at_blocks fun g _ h => E11.out.block g (by omega))
  clear Op_10
  have Oy0_11 := hid (Oy0_10.out.keep Oy0_10.out.lt E11.out)
  clear Oy0_10
  have Oy1_11 := hid (Oy1_10.out.keep Oy1_10.out.lt E11.out)
  clear Oy1_10
  have Oy2_11 := hid (Oy2_10.out.keep Oy2_10.out.lt E11.out)
  clear Oy2_10
  have Og_11 := hid (Og_10.out.at_blocks fun g _ h => E11.out.block g (by omega))
  clear Og_10
  have Ot0_11 := hid (Ot0_10.out.keep Ot0_10.out.lt E11.out)
  clear Ot0_10
  clear b11
  go_wp2_with fail
  refine (toIntS_any _ xs1 _ (RA1.out.keep2 B11.out) hl1).mono ?_
  rintro e W12 ⟨t1, rfl, o12, b12, _⟩
  have E12 := hid b12
  have s12 : W11.heap.size ≤ W12.heap.size := E12.out.size
  have B12 := hid (B11.out.trans (E12.out.mono B11.out.size))
  have Op_12 := hid (Op_11.out.at_blocks fun g _ h => E12.out.block g (by omega))
  clear Op_11
  have Oy0_12 := hid (Oy0_11.out.keep Oy0_11.out.lt E12.out)
  clear Oy0_11
  have Oy1_12 := hid (Oy1_11.out.keep Oy1_11.out.lt E12.out)
  clear Oy1_11
  have Oy2_12 := hid (Oy2_11.out.keep Oy2_11.out.lt E12.out)
  clear Oy2_11
  have Og_12 := hid (Og_11.out.at_blocks fun g _ h => E12.out.block g (by omega))
  clear Og_11
  have Ot1_12 := hid o12
  have LTt1 := hid o12.lt
  clear o12 b12
  go_wp2_with fail
  refine (eqIntS_any _ _ xs1 xs1 _ Oy1_12.out.rd Ot1_12.out.rd).mono ?_
  rw [dec_one]
  rintro e W13 ⟨rfl, k13, hk13⟩
  have b13 : Below W12.heap.size W12 W13 := by rw [hk13]; exact below_drewN (Below.refl _ _) k13
  clear hk13
  have E13 := hid b13
  have s13 : W12.heap.size ≤ W13.heap.size := E13.out.size
  have B13 := hid (B12.out.trans (E13.out.mono B12.out.size))
  have Op_13 := hid (Op_12.out.at_blocks fun g _ h => E13.out.block g (by omega))
  clear Op_12
  have Oy0_13 := hid (Oy0_12.out.keep Oy0_12.out.lt E13.out)
  clear Oy0_12
  have Oy1_13 := hid (Oy1_12.out.keep Oy1_12.out.lt E13.out)
  clear Oy1_12
  have Oy2_13 := hid (Oy2_12.out.keep Oy2_12.out.lt E13.out)
  clear Oy2_12
  have Og_13 := hid (Og_12.out.at_blocks fun g _ h => E13.out.block g (by omega))
  clear Og_12
  have Ot1_13 := hid (Ot1_12.out.keep Ot1_12.out.lt E13.out)
  clear Ot1_12
  clear b13
  go_wp2_with fail
  refine (toIntS_any _ xs2 _ (RA2.out.keep2 B13.out) hl2).mono ?_
  rintro e W14 ⟨t2, rfl, o14, b14, _⟩
  have E14 := hid b14
  have s14 : W13.heap.size ≤ W14.heap.size := E14.out.size
  have B14 := hid (B13.out.trans (E14.out.mono B13.out.size))
  have Op_14 := hid (Op_13.out.at_blocks fun g _ h => E14.out.block g (by omega))
  clear Op_13
  have Oy0_14 := hid (Oy0_13.out.keep Oy0_13.out.lt E14.out)
  clear Oy0_13
  have Oy1_14 := hid (Oy1_13.out.keep Oy1_13.out.lt E14.out)
  clear Oy1_13
  have Oy2_14 := hid (Oy2_13.out.keep Oy2_13.out.lt E14.out)
  clear Oy2_13
  have Og_14 := hid (Og_13.out.at_blocks fun g _ h => E14.out.block g (by omega))
  clear Og_13
  have Ot2_14 := hid o14
  have LTt2 := hid o14.lt
  clear o14 b14
  go_wp2_with fail
  refine (eqIntS_any _ _ xs2 xs2 _ Oy2_14.out.rd Ot2_14.out.rd).mono ?_
  rw [dec_one]
  rintro e W15 ⟨rfl, k15, hk15⟩
  have b15 : Below W14.heap.size W14 W15 := by rw [hk15]; exact below_drewN (Below.refl _ _) k15
  clear hk15
  have E15 := hid b15
  have s15 : W14.heap.size ≤ W15.heap.size := E15.out.size
  have B15 := hid (B14.out.trans (E15.out.mono B14.out.size))
  have Op_15 := hid (Op_14.out.at_blocks fun g _ h => E15.out.block g (by omega))
  clear Op_14
  have Oy0_15 := hid (Oy0_14.out.keep Oy0_14.out.lt E15.out)
  clear Oy0_14
  have Oy1_15 := hid (Oy1_14.out.keep Oy1_14.out.lt E15.out)
  clear Oy1_14
  have Oy2_15 := hid (Oy2_14.out.keep Oy2_14.out.lt E15.out)
  clear Oy2_14
  have Og_15 := hid (Og_14.out.at_blocks fun g _ h => E15.out.block g (by omega))
  clear Og_14
  have Ot2_15 := hid (Ot2_14.out.keep Ot2_14.out.lt E15.out)
  clear Ot2_14
  clear b15
  go_wp2_with fail
  refine (markIntS2_any _ xs0 W4.heap.size (1) (by omega) (by omega) (by omega) _ Oy0_15.out).mono ?_
  rintro e W16 ⟨rfl, o16, b16, g16⟩
  have G16 := hid g16
  have s16 : W15.heap.size ≤ W16.heap.size := b16.size
  have B16 := hid (B15.out.trans (b16.mono B4.out.size))
  have Op_16 := hid (Op_15.out.at_blocks fun g h3 h4 => G16.out.block g (by omega) (fun e => by have h1 := Oy0_15.out.ge g e.symm; have h2 := LTy0.out g e.symm; omega))
  clear Op_15
  have Oy1_16 := hid (Oy1_15.out.kept G16.out (elder_apart (fun g h => Nat.lt_of_lt_of_le (LTy0.out g h) (by omega)) Oy1_15.out))
  clear Oy1_15
  have Oy2_16 := hid (Oy2_15.out.kept G16.out (elder_apart (fun g h => Nat.lt_of_lt_of_le (LTy0.out g h) (by omega)) Oy2_15.out))
  clear Oy2_15
  have Og_16 := hid (Og_15.out.at_blocks fun g h3 h4 => G16.out.block g (by omega) (fun e => by have h1 := Oy0_15.out.ge g e.symm; have h2 := LTy0.out g e.symm; omega))
  clear Og_15
  have Oy0_16 := hid o16
  clear o16 b16 g16
  go_wp2_with fail
  refine (markIntS2_any _ xs1 W5.heap.size (1 + (xs0.length : Int)) (by omega) (by omega) (by omega) _ Oy1_16.out).mono ?_
  rintro e W17 ⟨rfl, o17, b17, g17⟩
  have G17 := hid g17
  have s17 : W16.heap.size ≤ W17.heap.size := b17.size
  have B17 := hid (B16.out.trans (b17.mono B5.out.size))
  have Op_17 := hid (Op_16.out.at_blocks fun g h3 h4 => G17.out.block g (by omega) (fun e => by have h1 := Oy1_16.out.ge g e.symm; have h2 := LTy1.out g e.symm; omega))
  clear Op_16
  have Oy0_17 := hid (Oy0_16.out.kept G17.out (younger_apart (fun g h => Nat.lt_of_lt_of_le (LTy0.out g h) (by omega)) Oy1_16.out))
  clear Oy0_16
  have Oy2_17 := hid (Oy2_16.out.kept G17.out (elder_apart (fun g h => Nat.lt_of_lt_of_le (LTy1.out g h) (by omega)) Oy2_16.out))
  clear Oy2_16
  have Og_17 := hid (Og_16.out.at_blocks fun g h3 h4 => G17.out.block g (by omega) (fun e => by have h1 := Oy1_16.out.ge g e.symm; have h2 := LTy1.out g e.symm; omega))
  clear Og_16
  have Oy1_17 := hid o17
  clear o17 b17 g17
  go_wp2_with fail
  refine (markIntS2_any _ xs2 W6.heap.size (1 + (xs0.length : Int) + (xs1.length : Int)) (by omega) (by omega) (by omega) _ Oy2_17.out).mono ?_
  rintro e W18 ⟨rfl, o18, b18, g18⟩
  have G18 := hid g18
  have s18 : W17.heap.size ≤ W18.heap.size := b18.size
  have B18 := hid (B17.out.trans (b18.mono B6.out.size))
  have Op_18 := hid (Op_17.out.at_blocks fun g h3 h4 => G18.out.block g (by omega) (fun e => by have h1 := Oy2_17.out.ge g e.symm; have h2 := LTy2.out g e.symm; omega))
  clear Op_17
  have Oy0_18 := hid (Oy0_17.out.kept G18.out (younger_apart (fun g h => Nat.lt_of_lt_of_le (LTy0.out g h) (by omega)) Oy2_17.out))
  clear Oy0_17
  have Oy1_18 := hid (Oy1_17.out.kept G18.out (younger_apart (fun g h => Nat.lt_of_lt_of_le (LTy1.out g h) (by omega)) Oy2_17.out))
  clear Oy1_17
  have Og_18 := hid (Og_17.out.at_blocks fun g h3 h4 => G18.out.block g (by omega) (fun e => by have h1 := Oy2_17.out.ge g e.symm; have h2 := LTy2.out g e.symm; omega))
  clear Og_17
  have Oy2_18 := hid o18
  clear o18 b18 g18
  have T3 : ¬ (1 + (xs0.length : Int) + (xs1.length : Int) + (xs2.length : Int) < 0) := by omega
  go_wp2_with fail
  refine (eqIntSS_any _ _ R R _ Og_18.out.rd Op_18.out.rd).mono ?_
  rw [dec_rows]
  rintro e W19 ⟨rfl, k19, hk19⟩
  have b19 : Below W18.heap.size W18 W19 := by rw [hk19]; exact below_drewN (Below.refl _ _) k19
  clear hk19
  have E19 := hid b19
  have s19 : W18.heap.size ≤ W19.heap.size := E19.out.size
  have B19 := hid (B18.out.trans (E19.out.mono B18.out.size))
  have Op_19 := hid (Op_18.out.at_blocks fun g _ h => E19.out.block g (by omega))
  clear Op_18
  have Oy0_19 := hid (Oy0_18.out.keep Oy0_18.out.lt E19.out)
  clear Oy0_18
  have Oy1_19 := hid (Oy1_18.out.keep Oy1_18.out.lt E19.out)
  clear Oy1_18
  have Oy2_19 := hid (Oy2_18.out.keep Oy2_18.out.lt E19.out)
  clear Oy2_18
  have Og_19 := hid (Og_18.out.at_blocks fun g _ h => E19.out.block g (by omega))
  clear Og_18
  clear b19
  go_wp2_with fail
  refine (markIntSS_any _ R valsg W7.heap.size W8.heap.size 1 (by omega) (by omega) (by omega) _ Og_19.out).mono ?_
  rintro e W20 ⟨rfl, o20, b20, u20⟩
  have U20 := hid u20
  have D20 := hid b20
  have s20 : W19.heap.size ≤ W20.heap.size := b20.size
  have B20 := hid (B19.out.trans (b20.mono B7.out.size))
  have Op_20 := hid (Op_19.out.at_blocks fun g h3 h4 => D20.out.block g (by omega))
  clear Op_19
  have Og_20 := hid o20
  clear o20 b20 u20
  go_wp2_with fail
  refine (heldIntSS_any _ R 1 (by omega) (by omega) (by omega) _ Og_20.out.rd).mono ?_
  rintro e w' ⟨rfl, rfl⟩
  go_wp2_with fail
  refine (toIntS_any _ xs0 _ (RA0.out.keep2 B20.out) hl0).mono ?_
  rintro e W21 ⟨r0, rfl, o21, b21, _⟩
  have E21 := hid b21
  have s21 : W20.heap.size ≤ W21.heap.size := E21.out.size
  have B21 := hid (B20.out.trans (E21.out.mono B20.out.size))
  have Op_21 := hid (Op_20.out.at_blocks fun g _ h => E21.out.block g (by omega))
  clear Op_20
  have Og_21 := hid (Og_20.out.at_blocks fun g _ h => E21.out.block g (by omega))
  clear Og_20
  have Or0_21 := hid o21
  have LTr0 := hid o21.lt
  clear o21 b21
  go_wp2_with fail
  refine (toIntS_any _ xs1 _ (RA1.out.keep2 B21.out) hl1).mono ?_
  rintro e W22 ⟨r1, rfl, o22, b22, _⟩
  have E22 := hid b22
  have s22 : W21.heap.size ≤ W22.heap.size := E22.out.size
  have B22 := hid (B21.out.trans (E22.out.mono B21.out.size))
  have Op_22 := hid (Op_21.out.at_blocks fun g _ h => E22.out.block g (by omega))
  clear Op_21
  have Og_22 := hid (Og_21.out.at_blocks fun g _ h => E22.out.block g (by omega))
  clear Og_21
  have Or0_22 := hid (Or0_21.out.keep Or0_21.out.lt E22.out)
  clear Or0_21
  have Or1_22 := hid o22
  have LTr1 := hid o22.lt
  clear o22 b22
  go_wp2_with fail
  refine (toIntS_any _ xs2 _ (RA2.out.keep2 B22.out) hl2).mono ?_
  rintro e W23 ⟨r2, rfl, o23, b23, _⟩
  have E23 := hid b23
  have s23 : W22.heap.size ≤ W23.heap.size := E23.out.size
  have B23 := hid (B22.out.trans (E23.out.mono B22.out.size))
  have Op_23 := hid (Op_22.out.at_blocks fun g _ h => E23.out.block g (by omega))
  clear Op_22
  have Og_23 := hid (Og_22.out.at_blocks fun g _ h => E23.out.block g (by omega))
  clear Og_22
  have Or0_23 := hid (Or0_22.out.keep Or0_22.out.lt E23.out)
  clear Or0_22
  have Or1_23 := hid (Or1_22.out.keep Or1_22.out.lt E23.out)
  clear Or1_22
  have Or2_23 := hid o23
  have LTr2 := hid o23.lt
  clear o23 b23
  go_wp2_with fail
  refine (I.out _ _ _ _ Or0_23.out.rd Or1_23.out.rd Or2_23.out.rd).mono ?_
  rintro e W24 ⟨h, rfl, o24, b24⟩
  have E24 := hid b24
  have s24 : W23.heap.size ≤ W24.heap.size := E24.out.size
  have B24 := hid (B23.out.trans (E24.out.mono B23.out.size))
  have Op_24 := hid (Op_23.out.at_blocks fun g _ h => E24.out.block g (by omega))
  clear Op_23
  have Og_24 := hid (Og_23.out.at_blocks fun g _ h => E24.out.block g (by omega))
  clear Og_23
  have Or0_24 := hid (Or0_23.out.keep Or0_23.out.lt E24.out)
  clear Or0_23
  have Or1_24 := hid (Or1_23.out.keep Or1_23.out.lt E24.out)
  clear Or1_23
  have Or2_24 := hid (Or2_23.out.keep Or2_23.out.lt E24.out)
  clear Or2_23
  obtain ⟨valsh, oc24⟩ := o24.ownC
  obtain ⟨ah, ch, rfl⟩ := o24.rd.form
  have Oh_24 := hid oc24
  clear o24 b24 oc24
  go_wp2_with fail
  refine (eqIntSS_any _ _ R R _ Oh_24.out.rd Op_24.out.rd).mono ?_
  rw [dec_rows]
  rintro e W25 ⟨rfl, k25, hk25⟩
  have b25 : Below W24.heap.size W24 W25 := by rw [hk25]; exact below_drewN (Below.refl _ _) k25
  clear hk25
  have E25 := hid b25
  have s25 : W24.heap.size ≤ W25.heap.size := E25.out.size
  have B25 := hid (B24.out.trans (E25.out.mono B24.out.size))
  have Op_25 := hid (Op_24.out.at_blocks fun g _ h => E25.out.block g (by omega))
  clear Op_24
  have Og_25 := hid (Og_24.out.at_blocks fun g _ h => E25.out.block g (by omega))
  clear Og_24
  have Oh_25 := hid (Oh_24.out.at_blocks fun g _ h => E25.out.block g (by omega))
  clear Oh_24
  clear b25
  go_wp2_with fail
  refine (heldIntSS_any _ R 1 (by omega) (by omega) (by omega) _ Og_25.out.rd).mono ?_
  rintro e w' ⟨rfl, rfl⟩
  go_wp2
  go_ret
  exact ⟨rfl, by rw [HW0.out]; exact B25.out⟩
theorem own : ownKnob Try.prog.godebug = none := by kernel_rfl
theorem laidOut : laidOutB Try.prog = true := by kernel_rfl
set_option maxRecDepth 100000 in
theorem lifted (os : Os) (started : os.Started) (H : Type) (enc : TypeId × Value → H) :
    ReturnsInHanded {} Try.checked os 12 .any (Rows.fnExactMoveCarrySpec.pre6 enc Try.prog Try.f12 Rows.fnExactMoveCarryRow.domain false) (Rows.fnExactMoveCarrySpec.post enc Try.prog Try.f12 false true false false) := by
  refine returnsInHanded_of_change (C := Try.checked) own started (by kernel_rfl) Try.func12
    (ChangeSpec.witness6 (enc := enc) (C := Try.checked) false ⟨#[], #[.slice none 0 0, .slice none 0 0, .slice none 0 0], []⟩ 8 (by kernel_rfl) (by kernel_rfl) (by kernel_rfl) (by kernel_rfl)) ?_
  intro W base args ds gs before hval0 hW hcnd _
  have hval : ∀ (j : Nat) t v, Try.f12.params[j]? = some t → args[j]? = some v → Value.okWide Try.prog W .any base t v := hval0
  have hW' := hW
  obtain ⟨p, q, hA0, hV, rfl, hfz, hnd⟩ := hW
  have hA : DataW.TrodAll enc Try.prog W 0 (fun _ => true) true Try.f12.params.toList args.toList ds p := hA0
  rw [Try.params12] at hA hval
  obtain ⟨v0, vs0, d0, ds0, p0, q0, hargs, rfl, rfl, h0, r0⟩ := trodAll_cons hA
  obtain ⟨v1, vs1, d1, ds1, p1, q1, rfl, rfl, rfl, h1, r1⟩ := trodAll_cons r0
  obtain ⟨v2, vs2, d2, ds2, p2, q2, rfl, rfl, rfl, h2, r2⟩ := trodAll_cons r1
  obtain ⟨rfl, rfl, rfl⟩ := trodAll_nil r2
  obtain rfl : args = #[v0, v1, v2] := by cases args; simp_all
  obtain ⟨rfl, rfl⟩ := trodVars_none hV
  obtain ⟨a0, len0, cap0, rfl⟩ := okWide_slice Try.underlying22 (hval 0 22 v0 rfl rfl)
  have k0 := h0
  have lt0 : ∀ x ∈ p0, x.block < W.heap.size := by obtain ⟨m, hm⟩ := k0; exact DataW.trod_lt m _ _ _ hm
  obtain ⟨z0, w0⟩ : ∃ zs, IsRow .i64 W a0 len0 cap0 zs := by
    obtain ⟨fuel, hf⟩ := h0
    rcases open_ints Try.underlying22 Try.underlying3 (by kernel_rfl) hf with ⟨hcs, _⟩ | ⟨x, l, c, zs, hcs, _, hl, hm, hz, _, hcell, hwz⟩
    · simp [Value.cells] at hcs
      obtain ⟨rfl, rfl, rfl⟩ := hcs
      exact ⟨[], .inl ⟨rfl, rfl, rfl, rfl⟩⟩
    · simp [Value.cells] at hcs
      obtain ⟨rfl, rfl, rfl⟩ := hcs
      exact ⟨zs, .inr ⟨_, rfl, hl, hm, by simpa using hz, hcell, hwz⟩⟩
  obtain ⟨a1, len1, cap1, rfl⟩ := okWide_slice Try.underlying22 (hval 1 22 v1 rfl rfl)
  have k1 := h1
  have lt1 : ∀ x ∈ p1, x.block < W.heap.size := by obtain ⟨m, hm⟩ := k1; exact DataW.trod_lt m _ _ _ hm
  obtain ⟨z1, w1⟩ : ∃ zs, IsRow .i64 W a1 len1 cap1 zs := by
    obtain ⟨fuel, hf⟩ := h1
    rcases open_ints Try.underlying22 Try.underlying3 (by kernel_rfl) hf with ⟨hcs, _⟩ | ⟨x, l, c, zs, hcs, _, hl, hm, hz, _, hcell, hwz⟩
    · simp [Value.cells] at hcs
      obtain ⟨rfl, rfl, rfl⟩ := hcs
      exact ⟨[], .inl ⟨rfl, rfl, rfl, rfl⟩⟩
    · simp [Value.cells] at hcs
      obtain ⟨rfl, rfl, rfl⟩ := hcs
      exact ⟨zs, .inr ⟨_, rfl, hl, hm, by simpa using hz, hcell, hwz⟩⟩
  obtain ⟨a2, len2, cap2, rfl⟩ := okWide_slice Try.underlying22 (hval 2 22 v2 rfl rfl)
  have k2 := h2
  have lt2 : ∀ x ∈ p2, x.block < W.heap.size := by obtain ⟨m, hm⟩ := k2; exact DataW.trod_lt m _ _ _ hm
  obtain ⟨z2, w2⟩ : ∃ zs, IsRow .i64 W a2 len2 cap2 zs := by
    obtain ⟨fuel, hf⟩ := h2
    rcases open_ints Try.underlying22 Try.underlying3 (by kernel_rfl) hf with ⟨hcs, _⟩ | ⟨x, l, c, zs, hcs, _, hl, hm, hz, _, hcell, hwz⟩
    · simp [Value.cells] at hcs
      obtain ⟨rfl, rfl, rfl⟩ := hcs
      exact ⟨[], .inl ⟨rfl, rfl, rfl, rfl⟩⟩
    · simp [Value.cells] at hcs
      obtain ⟨rfl, rfl, rfl⟩ := hcs
      exact ⟨zs, .inr ⟨_, rfl, hl, hm, by simpa using hz, hcell, hwz⟩⟩
  clear hA0 hval0
  refine (walk a0 len0 cap0 z0 a1 len1 cap1 z1 a2 len2 cap2 z2 W w0 w1 w2).mono fun e W' ⟨he, bel⟩ => ?_
  subst he
  exact ⟨_, rfl, _, _, _, [], _, [], hW', trodAll_mk1 (shut_bool Try.underlying4 _), (trodAll_cons_mk (Below.trod laidOut (by kernel_rfl) (of_decide_eq_true (by kernel_rfl)) k0 bel lt0) (trodAll_cons_mk (Below.trod laidOut (by kernel_rfl) (of_decide_eq_true (by kernel_rfl)) k1 bel lt1) (trodAll_cons_mk (Below.trod laidOut (by kernel_rfl) (of_decide_eq_true (by kernel_rfl)) k2 bel lt2) trodAll_mk0))), rfl, bel.frame _, fun h => by cases h⟩
theorem over : Rows.fnExactMoveCarryRow.holds Try.pinned (OpenSpec.ofChange Rows.fnExactMoveCarrySpec) :=
  OpenClaim.holds_of_wide 12 Try.f12 rfl rfl rfl rfl rfl rfl rfl ⟨rfl, rfl, rfl, rfl, rfl⟩ rfl rfl rfl rfl rfl (by kernel_rfl) Try.func12 (by kernel_rfl)
    (of_decide_eq_true (by kernel_rfl)) (by unfold Func.isWrapper; first | (rw [if_pos (by decide +kernel)]; kernel_rfl) | (rw [if_neg (by decide +kernel)]; exact ⟨rfl, rfl⟩))
    (fun os started H enc _ => lifted os started H enc)
theorem proved : Rows.FnExactMoveCarrySaid := over
end Go.Proofs.Ytacjejnbomdhbab.fnExactMoveCarry
