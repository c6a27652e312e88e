/-
  Some texts in one file: MpT MpU MpV MpW MpX.
-/
import Derived.Test.YtjabklpnohfjpabQBun36
import Derived.Test.YtjabklpnohfjpabQBun27
import Derived.Test.YtjabklpnohfjpabQSlEq
/-! MpT -/
set_option linter.unusedVariables false
namespace Go.Proofs.Ytjabklpnohfjpab
open Go.RowKit

theorem firm_cut7 (c : Prop) [Decidable c] (x y : Addr) (n k : Nat) : Firm (.slice (if c then some x else some y) n k) := by
  by_cases h : c
  · rw [if_pos h]; exact .inr ⟨_, _, _, rfl⟩
  · rw [if_neg h]; exact .inr ⟨_, _, _, rfl⟩
def cutL (r : List Int) (j : Nat) : List Int := r.take j ++ r.drop (j + 1)
def minorL (R : List (List Int)) (j : Nat) : List (List Int) := (R.drop 1).map (fun r => cutL r j)
def detR : Nat → List (List Int) → Int
  | 0, _ => 1
  | n + 1, R => sumF (fun j => alt j * at2 R 0 j * detR n (minorL R j)) (n + 1)
theorem cut_len {r : List Int} {n j : Nat} (h : r.length = n + 1) (hj : j < n + 1) : (cutL r j).length = n := by
  unfold cutL
  rw [List.length_append, List.length_take, List.length_drop, h]
  omega
theorem minor_sq {R : List (List Int)} {n j : Nat} (h : Sq (n + 1) R) (hj : j < n + 1) : Sq n (minorL R j) := by
  unfold minorL
  refine ⟨by rw [List.length_map, List.length_drop, h.1]; omega, fun r hr => ?_⟩
  obtain ⟨q, hq, rfl⟩ := List.mem_map.1 hr
  exact cut_len (h.2 q (List.mem_of_mem_drop hq)) hj
theorem minor_bd {R : List (List Int)} (h : ∀ r ∈ R, ∀ x ∈ r, -1000000 ≤ x ∧ x ≤ 1000000) (j : Nat) : ∀ r ∈ minorL R j, ∀ x ∈ r, -1000000 ≤ x ∧ x ≤ 1000000 := fun r hr x hx => by
  obtain ⟨q, hq, rfl⟩ := List.mem_map.1 hr
  rcases List.mem_append.1 hx with hx | hx
  · exact h q (List.mem_of_mem_drop hq) x (List.mem_of_mem_take hx)
  · exact h q (List.mem_of_mem_drop hq) x (List.mem_of_mem_drop hx)
theorem alt_pm (j : Nat) : alt j = 1 ∨ alt j = -1 := by unfold alt; split <;> simp
theorem det_bd1 {R : List (List Int)} (h : ∀ r ∈ R, ∀ x ∈ r, -1000000 ≤ x ∧ x ≤ 1000000) : -1000000 ≤ detR 1 R ∧ detR 1 R ≤ 1000000 := by
  have e : detR 1 R = 0 + alt 0 * at2 R 0 0 * 1 := rfl
  have := at2_bd h 0 0
  rw [e, show alt 0 = 1 from rfl]
  omega
theorem det_bd2 {R : List (List Int)} (h : ∀ r ∈ R, ∀ x ∈ r, -1000000 ≤ x ∧ x ≤ 1000000) : -2000000000000 ≤ detR 2 R ∧ detR 2 R ≤ 2000000000000 := by
  have e : detR 2 R = 0 + alt 0 * at2 R 0 0 * detR 1 (minorL R 0) + alt 1 * at2 R 0 1 * detR 1 (minorL R 1) := rfl
  have m0 := mul_bd12 (at2_bd h 0 0) (det_bd1 (minor_bd h 0))
  have m1 := mul_bd12 (at2_bd h 0 1) (det_bd1 (minor_bd h 1))
  rw [e, show alt 0 = 1 from rfl, show alt 1 = -1 from rfl, Int.one_mul, show (-1 : Int) * at2 R 0 1 * detR 1 (minorL R 1) = -(at2 R 0 1 * detR 1 (minorL R 1)) by grind]
  omega
theorem det_bdn {n : Nat} (hn : n ≤ 2) {R : List (List Int)} (h : ∀ r ∈ R, ∀ x ∈ r, -1000000 ≤ x ∧ x ≤ 1000000) : -2000000000000 ≤ detR n R ∧ detR n R ≤ 2000000000000 := by
  have hc : n = 0 ∨ n = 1 ∨ n = 2 := by omega
  rcases hc with rfl | rfl | rfl
  · have : detR 0 R = 1 := rfl
    omega
  · have := det_bd1 h; omega
  · exact det_bd2 h
theorem part_bd {n : Nat} (hn : n ≤ 2) {R : List (List Int)} (h : ∀ r ∈ R, ∀ x ∈ r, -1000000 ≤ x ∧ x ≤ 1000000) (j : Nat) : -(2000000000000000000 * (j : Int)) ≤ sumF (fun j => alt j * at2 R 0 j * detR n (minorL R j)) j ∧ sumF (fun j => alt j * at2 R 0 j * detR n (minorL R j)) j ≤ 2000000000000000000 * (j : Int) :=
  sum_bd (f := fun j => alt j * at2 R 0 j * detR n (minorL R j)) (m := 2000000000000000000) (by omega) j (fun r _ => by
    have := mul_bd18 (at2_bd h 0 r) (det_bdn hn (minor_bd h r))
    rcases alt_pm r with e | e <;> simp only [e]
    · rw [Int.one_mul]; exact this
    · rw [show (-1 : Int) * at2 R 0 r * detR n (minorL R r) = -(at2 R 0 r * detR n (minorL R r)) by grind]; omega)
theorem sq_one {R : List (List Int)} (h : Sq 1 R) : ∃ a, R = [[a]] := by
  obtain ⟨h1, h2⟩ := h
  match R, h1 with
  | [r], _ =>
    have := h2 r (List.mem_cons_self ..)
    match r, this with
    | [a], _ => exact ⟨a, rfl⟩
theorem sq_two {R : List (List Int)} (h : Sq 2 R) : ∃ a b c d, R = [[a, b], [c, d]] := by
  obtain ⟨h1, h2⟩ := h
  match R, h1 with
  | [r, s], _ =>
    have e1 := h2 r (by simp)
    have e2 := h2 s (by simp)
    match r, e1, s, e2 with
    | [a, b], _, [c, d], _ => exact ⟨a, b, c, d, rfl⟩
theorem sq_three {R : List (List Int)} (h : Sq 3 R) : ∃ a b c d e f g i j, R = [[a, b, c], [d, e, f], [g, i, j]] := by
  obtain ⟨h1, h2⟩ := h
  match R, h1 with
  | [r, s, t], _ =>
    have e1 := h2 r (by simp)
    have e2 := h2 s (by simp)
    have e3 := h2 t (by simp)
    match r, e1, s, e2, t, e3 with
    | [a, b, c], _, [d, e, f], _, [g, i, j], _ => exact ⟨a, b, c, d, e, f, g, i, j, rfl⟩
theorem det_is {n : Nat} (hn : n = 1 ∨ n = 2 ∨ n = 3) {R : List (List Int)} (h : Sq n R) : detR n R = detF n (at2 R) := by
  rcases hn with rfl | rfl | rfl
  · obtain ⟨a, rfl⟩ := sq_one h
    show 0 + (1 : Int) * a * 1 = a
    omega
  · obtain ⟨a, b, c, d, rfl⟩ := sq_two h
    show 0 + (1 : Int) * a * (0 + 1 * d * 1) + (-1) * b * (0 + 1 * c * 1) = a * d - b * c
    grind
  · obtain ⟨a, b, c, d, e, f, g, i, j, rfl⟩ := sq_three h
    show 0 + (1 : Int) * a * (0 + 1 * e * (0 + 1 * j * 1) + (-1) * f * (0 + 1 * i * 1)) + (-1) * b * (0 + 1 * d * (0 + 1 * j * 1) + (-1) * f * (0 + 1 * g * 1)) + 1 * c * (0 + 1 * d * (0 + 1 * i * 1) + (-1) * e * (0 + 1 * g * 1)) = a * (e * j - f * i) + b * (f * g - d * j) + c * (d * i - e * g)
    grind

end Go.Proofs.Ytjabklpnohfjpab

/-! MpU -/
set_option linter.unusedVariables false
namespace Go.Proofs.Ytjabklpnohfjpab
open Go.RowKit

/-- what holds within determinant's region -/
structure DetI (n1 : Nat) (W : World) (BV V1 V3 V4 V6 V7 : Value) (VJ : Value) (P : List (List Int)) (row : List Int) (LB : Array Bool) (wx : World) (s7 s30 s31 s32 s33 s34 s35 s36 s37 s38 s39 s40 s41 : Value) : Prop where
  hs : LB.size = 13
  h0 : dn LB 0 → s30 = BV
  h1 : dn LB 1 → s31 = V1
  h2 : dn LB 2 → s32 = VJ
  h3 : dn LB 3 → s33 = V3
  h4 : dn LB 4 → s34 = V4
  h5 : dn LB 5 → s35 = VJ
  h6 : dn LB 6 → s36 = V6
  h7 : dn LB 7 → s37 = V7
  w7 : ¬ dn LB 8 → wx = W
  w12 : ¬ dn LB 12 → s7 = BV
  h8 : dn LB 8 → ¬ dn LB 9 → wx = W.alloc (.cells #[V3, V7] 22) ∧ s38 = .slice (some ⟨W.heap.size, 0, none⟩) 2 2
  hb : ¬ dn LB 11 → Below W.heap.size W wx
  h9 : dn LB 9 → ¬ dn LB 10 → (∃ a c, s39 = .slice a row.length c) ∧ Owns wx W.heap.size s39 row
  h10 : dn LB 10 → ¬ dn LB 11 → ∃ wz zv, wx = wz.alloc (.cells #[zv] 22) ∧ s40 = .slice (some ⟨wz.heap.size, 0, none⟩) 1 1 ∧ Below W.heap.size W wz ∧ (∃ a c, zv = .slice a row.length c) ∧ Owns wz W.heap.size zv row
  h11 : dn LB 11 → OwnM wx n1 none s41 (P ++ [row]) ∧ Below n1 W wx
  h12 : dn LB 12 → s7 = s41
  d9 : dn LB 9 → dn LB 8
  d10 : dn LB 10 → dn LB 9
  d11 : dn LB 11 → dn LB 0 ∧ dn LB 10
  d12 : dn LB 12 → dn LB 11
theorem own_cap9 {W : World} {B : Nat} {ex : Option Nat} {v : Value} {R : List (List Int)} (h : OwnM W B ex v R) : ∀ a n c, v = .slice a n c → n ≤ c := fun a n c e => by
  obtain ⟨vals, hl, ho, _⟩ := h.own
  rcases ho.2 with ⟨rfl, h0⟩ | ⟨g, cap, cur, rfl, _, _, hc, _⟩
  · cases e; omega
  · cases e; exact hc
theorem rd_nil9 {W : World} {a : Option Addr} {n c : Nat} {l : List Int} (h : l.length ≤ 0) (hn : n = 0) : Rd W (.slice a n c) l := by
  subst hn
  exact .inl ⟨a, c, rfl, List.eq_nil_of_length_eq_zero (by omega)⟩
/-- an append of one more row as one step of a region -/
theorem step_appendM_told {ops : Array Oper} {o : Oper} {a : Act} {W w' : World} {K : Act → World → Prop} {Q : Exit → Act → World → Prop} {E : Prop} (hgd : o.guard = none) (s x : Operand) (so xv v' : Value)
    (hop : o.op = .call { callee := .builtin .append, args := #[s, x], argTypes := #[23, 23] }) (ht : o.type = 23) (hs : a.eval s = so) (hx : a.eval x = xv)
    (hrun : (Builtin.append_ #[23, 23] 23 #[so, xv]).run Try.prog W = .ok v' w') (hK : K (a.put o.dst v') w') :
    if Region.wanted o (yielded ops a.tmps) = true then Oper.wp Try.prog o a W K Q else E := by
  have hw : Region.wanted o (yielded ops a.tmps) = true := by simp [Region.wanted, hgd]
  rw [if_pos hw]
  unfold Oper.wp execOp
  simp only [hop, ht, resolve, invoke, builtin, Sem.run_bind, Sem.run_pure, Result.andThen_ok, List.map_toArray, List.map_cons, List.map_nil, hs, hx, hrun]
  exact hK
theorem cell_below9 {w W : World} {b o : Nat} {x : Value} (hb : Below w.heap.size w W) (h : w.cell? ⟨b, o, none⟩ = some x) : W.cell? ⟨b, o, none⟩ = some x := cell_below hb h
set_option maxRecDepth 100000 in
set_option maxHeartbeats 1000000 in
theorem det_zero (v : Value) (R : List (List Int)) (w : World) (h : RdM w v R) (hs : Sq 0 R) : Calls Try.prog 72 #[v] w fun e w' => e = .returned (.int .i64 (detR 0 R)) ∧ Below w.heap.size w w' := by
  obtain ⟨a, c, rfl⟩ := h.form
  rw [hs.1]
  clear h hs
  go_enter Try.func72, Try.ntmps72
  go_wp2
  go_ret
  exact ⟨rfl, Below.refl _ _⟩
set_option maxRecDepth 100000 in
set_option maxHeartbeats 8000000 in
theorem det_next (n : Nat) (hn : n ≤ 2) (ih : ∀ (v : Value) (R : List (List Int)) (w : World), RdM w v R → (∀ a n c, v = .slice a n c → n ≤ c) → Sq n R → (∀ r ∈ R, ∀ x ∈ r, -1000000 ≤ x ∧ x ≤ 1000000) → Calls Try.prog 72 #[v] w fun e w' => e = .returned (.int .i64 (detR n R)) ∧ Below w.heap.size w w')
    (v : Value) (R : List (List Int)) (w : World) (h : RdM w v R) (hcp : ∀ a n c, v = .slice a n c → n ≤ c) (hs : Sq (n + 1) R) (hb : ∀ r ∈ R, ∀ x ∈ r, -1000000 ≤ x ∧ x ≤ 1000000) : Calls Try.prog 72 #[v] w fun e w' => e = .returned (.int .i64 (detR (n + 1) R)) ∧ Below w.heap.size w w' := by
  have HM := hid h
  have HS := hid hs
  have HIH := hid (fun (j : Nat) (hj : j < n + 1) (v : Value) (w' : World) (h : RdM w' v (minorL R j)) (hcp : ∀ a n c, v = .slice a n c → n ≤ c) => ih v (minorL R j) w' h hcp (minor_sq hs hj) (minor_bd hb j))
  have HPB := hid (fun j => part_bd hn hb j)
  have HTB := hid (fun j => mul_bd18 (at2_bd hb 0 j) (det_bdn hn (minor_bd hb j)))
  have HXB := hid (fun j => at2_bd hb 0 j)
  obtain ⟨ad, cv, rfl⟩ := h.form
  obtain ⟨b, o, u0, rfl, hc0, hr0⟩ := h.row (i := 0) (by rw [hs.1]; omega)
  obtain ⟨b0, o0, c0, hrc, hce⟩ := row_cells (m := n + 1) h (t := 0) (by rw [hs.1]; omega) (by omega) (hs.2 _ (by rw [List.getD_eq_getElem?_getD, List.getElem?_eq_getElem (by rw [hs.1]; omega)]; exact List.getElem_mem _))
  clear hc0 hr0
  rw [Nat.add_zero] at hrc
  have HCE := hid hce
  obtain ⟨m, hm⟩ : ∃ m, m = R.length := ⟨_, rfl⟩
  have hm1 : m = n + 1 := hm.trans hs.1
  rw [← hm] at HM ⊢
  rw [← hm1] at hrc
  have T1 : ((m : Int) == 0) = false := beq_eq_false_iff_ne.2 (by omega)
  have hpn : (0 : Int) < (m : Int) := by omega
  have hmc : m ≤ cv := by rw [hm]; exact hcp _ _ _ rfl
  have hm3 : m ≤ 3 := by omega
  have HME := hid hm1
  clear h hs ih hb hce hm hm1 hcp
  go_enter Try.func72, Try.ntmps72
  go_wp2_with fail
  go_loopw [3, 4, 17] (fun ss sg si wr => ∃ (j : Nat) (S g : Int), si = .int .i64 (j : Int) ∧ j ≤ m ∧ ss = .int .i64 S ∧ sg = .int .i64 g ∧ Hid (S = sumF (fun j => alt j * at2 R 0 j * detR n (minorL R j)) j) ∧ Hid (g = alt j) ∧ Hid (Below w.heap.size w wr)) (fun _ _ si _ => m - (intOf si).toNat)
  case atStart => exact ⟨0, 0, 1, rfl, by omega, rfl, rfl, hid rfl, hid rfl, hid (Below.refl _ _)⟩
  case round =>
    obtain ⟨j, S, g, rfl, hj, rfl, rfl, HSE, HGE, HB⟩ := hrel
    rename World => wr
    by_cases hlt : j < m
    · have hji : (j : Int) < (m : Int) := by omega
      have c6 := cell_below9 HB.out (HCE.out j (by rw [← HME.out]; exact hlt))
      have hxb := HXB.out j
      obtain ⟨x, hx⟩ : ∃ x, x = at2 R 0 j := ⟨_, rfl⟩
      have HX := hid hx
      rw [← hx] at c6 hxb
      have hgp : g = 1 ∨ g = -1 := by rw [HGE.out]; exact alt_pm j
      have HGP := hid hgp
      have HO0 : Hid (OwnM (wr.alloc (.cells #[] 22)) wr.heap.size none (.slice (some ⟨wr.heap.size, 0, none⟩) 0 0) []) := hid (ownM_none wr none (by simp))
      have HB0 := hid ((Below.refl wr.heap.size wr).alloc (Nat.le_refl _) (.cells #[] 22))
      have HLT := hid hlt
      clear hx hgp hlt
      by_cases hcv : cv = 1
      · have hm1 : m = 1 := by omega
        have hn0 : n = 0 := by have := HME.out; omega
        have HN0 := hid hn0
        clear hm1 hn0
        subst hcv
        go_wp2_with fail
        go_loopw [7, 26] (fun so si wq => ∃ K : Nat, si = .int .i64 (K : Int) ∧ K ≤ n ∧ Hid (OwnM wq wr.heap.size none so ((minorL R j).take K)) ∧ Hid (Below wr.heap.size wr wq)) (fun _ si _ => n - (intOf si).toNat)
        case atStart => exact ⟨0, rfl, by omega, hid (by simpa using HO0.out), HB0⟩
        case round =>
          obtain ⟨K, rfl, hK, HO, HBQ⟩ := hrel
          rename World => wq
          by_cases hlk : K < n
          · exfalso; have := HN0.out; omega
          · have hKn : K = n := by omega
            have hki : ¬ K < m - 1 := by have := HME.out; omega
            obtain ⟨ao, co, hao⟩ := HO.out.rd.form
            rw [show ((minorL R j).take K).length = n by rw [List.length_take, (minor_sq HS.out (by rw [← HME.out]; exact HLT.out)).1]; omega] at hao
            subst hao
            have HDE := HIH.out j (by rw [← HME.out]; exact HLT.out) _ wq (by
              have h := HO.out.rd
              rw [List.take_of_length_le (by rw [(minor_sq HS.out (by rw [← HME.out]; exact HLT.out)).1]; omega)] at h
              exact h) (own_cap9 HO.out)
            have HD := hid HDE
            have hpb := HPB.out (j + 1)
            have htb := HTB.out j
            have hsu : sumF (fun j => alt j * at2 R 0 j * detR n (minorL R j)) (j + 1) = S + g * x * detR n (minorL R j) := by
              rw [HSE.out, HGE.out, HX.out]; rfl
            rw [hsu] at hpb
            have HSU := hid hsu
            have hspb := HPB.out j
            rw [← HSE.out] at hspb
            rw [← HX.out] at htb
            obtain ⟨Dt, hDt⟩ : ∃ Dt, Dt = detR n (minorL R j) := ⟨_, rfl⟩
            rw [← hDt] at HD HSU hpb htb
            have hgx : -1000000 ≤ g * x ∧ g * x ≤ 1000000 := by rcases HGP.out with e | e <;> rw [e] <;> omega
            have hgd : -2000000000000000000 ≤ g * x * Dt ∧ g * x * Dt ≤ 2000000000000000000 := by
              rcases HGP.out with e | e <;> rw [e]
              · rw [Int.one_mul]; exact htb
              · rw [show (-1 : Int) * x * Dt = -(x * Dt) by grind]; omega
            have hgg : -1 ≤ g ∧ g ≤ 1 := by rcases HGP.out with e | e <;> omega
            have hj3 : (j : Int) ≤ 2 := by omega
            have hs1 : -6000000000000000000 ≤ S + g * x * Dt ∧ S + g * x * Dt ≤ 6000000000000000000 := by push_cast at hpb; omega
            clear hsu hDt hpb htb hspb HDE hKn hlk
            go_wp2_with fail
            refine HD.out.mono ?_
            rintro e w5 ⟨rfl, hb5⟩
            have HB5 := hid (HB.out.trans ((HBQ.out.trans (hb5.mono HBQ.out.size)).mono HB.out.size))
            clear hb5
            go_wp2_with fail
            go_roundw
            case measure => simp only [intOf]; have := HLT.out; omega
            case rel => exact ⟨j + 1, _, _, by go_num, HLT.out, rfl, rfl, hid HSU.out.symm, hid (by rw [alt_succ, HGE.out]), HB5⟩
      · have hcv2 : 1 < cv := by omega
        go_wp2_with fail
        go_loopw [7, 26] (fun so si wq => ∃ K : Nat, si = .int .i64 (K : Int) ∧ K ≤ n ∧ Hid (OwnM wq wr.heap.size none so ((minorL R j).take K)) ∧ Hid (Below wr.heap.size wr wq)) (fun _ si _ => n - (intOf si).toNat)
        case atStart => exact ⟨0, rfl, by omega, hid (by simpa using HO0.out), HB0⟩
        case round =>
          obtain ⟨K, rfl, hK, HO, HBQ⟩ := hrel
          rename World => wq
          by_cases hlk : K < n
          · have hki : K < m - 1 := by have := HME.out; omega
            have hr1 := (HM.out.keep (HB.out.trans (HBQ.out.mono HB.out.size))).row (i := K + 1) (by rw [HS.out.1]; omega)
            obtain ⟨b9, o9, u9, e9, hc9, hr9⟩ := hr1
            cases e9
            have hrl : (R.getD (K + 1) []).length = m := by rw [HME.out]; exact HS.out.2 _ (by rw [List.getD_eq_getElem?_getD, List.getElem?_eq_getElem (by rw [HS.out.1]; omega)]; exact List.getElem_mem _)
            obtain ⟨r, hr⟩ : ∃ r, r = R.getD (K + 1) [] := ⟨_, rfl⟩
            rw [← hr] at hr9 hrl
            have hmk : (minorL R j).length = n := (minor_sq HS.out (by rw [← HME.out]; exact HLT.out)).1
            have hrow : (minorL R j).getD K [] = cutL r j := by
              have hd : K < (R.drop 1).length := by rw [List.length_drop, HS.out.1]; omega
              unfold minorL
              rw [List.getD_eq_getElem?_getD, List.getElem?_map, List.getElem?_drop, hr, List.getD_eq_getElem?_getD, show 1 + K = K + 1 by omega, List.getElem?_eq_getElem (by rw [HS.out.1]; omega)]
              rfl
            have HTK : Hid ((minorL R j).take (K + 1) = (minorL R j).take K ++ [cutL r j]) := hid (by
              rw [List.take_succ_eq_append_getElem (by omega), ← hrow, List.getD_eq_getElem?_getD, List.getElem?_eq_getElem (by omega)]; rfl)
            have hcl : (cutL r j).length = n := cut_len (n := n) (by rw [hrl, HME.out]) (by rw [← HME.out]; exact HLT.out)
            have hrd9 := hr9
            rcases hr9 with ⟨_, _, _, hnil⟩ | ⟨b2, o2, c2, rfl, ⟨_, hc2⟩, _, _⟩
            · rw [hnil] at hrl; simp at hrl; omega
            rw [hrl] at hrd9 hc9 hc2
            have hc10 : wq.cell? ⟨b, o + 1 + K, none⟩ = some (.slice (some ⟨b2, o2, none⟩) m c2) := by rw [show o + 1 + K = o + (K + 1) by omega]; exact hc9
            obtain ⟨P, hP⟩ : ∃ P, P = (minorL R j).take K := ⟨_, rfl⟩
            obtain ⟨row, hrw⟩ : ∃ row, row = cutL r j := ⟨_, rfl⟩
            have hPl : P.length ≤ 4 := by rw [hP, List.length_take]; omega
            rw [← hP] at HO HTK
            rw [← hrw] at HTK hcl
            have HRB := hid hPl
            have hjm : (j : Int) ≤ (m : Int) := by omega
            have hjc : (j : Int) ≤ (c2 : Int) := by have := HLT.out; omega
            have hj1m : (j : Int) + 1 ≤ (m : Int) := by have := HLT.out; omega
            have hj1c : (j : Int) + 1 ≤ (c2 : Int) := by have := HLT.out; omega
            obtain ⟨av, cvv, rfl⟩ := HO.out.rd.form
            obtain ⟨W, hW⟩ : ∃ W, W = wq.drew := ⟨_, rfl⟩
            have HW0 := hid hW
            have HWB : Hid (Below W.heap.size W wq.drew) := hid (by rw [hW]; exact Below.refl _ _)
            have HOM : Hid (OwnM W wr.heap.size none (.slice av P.length cvv) P) := hid (by rw [hW]; exact HO.out.keep (below_drewN (Below.refl _ _) 1))
            have HNN : Hid (wr.heap.size ≤ W.heap.size) := hid (by rw [hW]; exact HBQ.out.size)
            have HLK := hid hlk
            have HPW : Hid (Rd W (.slice (some ⟨b2, o2, none⟩) m c2) r) := hid (by rw [hW]; exact hrd9.keep (below_drewN (Below.refl _ _) 1))
            have HRL := hid hrl
            have HC2 := hid hc2
            have HRW := hid hrw
            have HCL := hid hcl
            clear hc9 hr hmk hrow hrd9 hrl hP hPl hrw hcl hlk hc2 hW
            by_cases hce : c2 = j + 1
            · subst hce
              have hme : m = j + 1 := by have := HC2.out; have := HLT.out; omega
              have HMJ := hid hme
              clear hme
              have HCC : Hid (Calls Try.prog 96 #[.slice (some ⟨W.heap.size, 0, none⟩) 2 2] (W.alloc (.cells #[.slice (some ⟨b2, o2, none⟩) j (j + 1), .slice (some ⟨b2, o2, none⟩) (m - (j + 1)) 0] 22)) fun e w' => ∃ v, e = .returned v ∧ Owns w' (W.alloc (.cells #[.slice (some ⟨b2, o2, none⟩) j (j + 1), .slice (some ⟨b2, o2, none⟩) (m - (j + 1)) 0] 22)).heap.size v row ∧ Below (W.alloc (.cells #[.slice (some ⟨b2, o2, none⟩) j (j + 1), .slice (some ⟨b2, o2, none⟩) (m - (j + 1)) 0] 22)).heap.size (W.alloc (.cells #[.slice (some ⟨b2, o2, none⟩) j (j + 1), .slice (some ⟨b2, o2, none⟩) (m - (j + 1)) 0] 22)) w') := hid (by
                have hk := below_box2 W (.cells #[.slice (some ⟨b2, o2, none⟩) j (j + 1), .slice (some ⟨b2, o2, none⟩) (m - (j + 1)) 0] 22)
                have h := concat_any W.heap.size (.slice (some ⟨b2, o2, none⟩) j (j + 1)) (.slice (some ⟨b2, o2, none⟩) (m - (j + 1)) 0) (r.take j) (r.drop (j + 1)) (W.alloc (.cells #[.slice (some ⟨b2, o2, none⟩) j (j + 1), .slice (some ⟨b2, o2, none⟩) (m - (j + 1)) 0] 22)) (cellB (i := 0) (heap_new rfl)) (cellB (i := 1) (heap_new rfl)) ((HPW.out.take (k := j) (by have := HLT.out; omega) HRL.out).keep hk) ((rd_nil9 (by rw [List.length_drop, HRL.out]; have := HMJ.out; omega) (by have := HMJ.out; omega)).keep hk) (.inr ⟨_, _, _, rfl⟩) (.inr ⟨_, _, _, rfl⟩) (by have hlk9 := HLK.out; have := HCL.out; rw [HRW.out] at this; unfold cutL at this; rw [List.length_append] at this; omega) (by rw [List.length_take, List.length_drop, HRL.out]; omega)
                rw [HRW.out]
                exact h)
              go_wp2_with fail
              refine region_inv (by kernel_rfl) (fun LB act wx => ∃ (s7 s30 s31 s32 s33 s34 s35 s36 s37 s38 s39 s40 s41 : Value), act = ({ tmps := #[.slice (some ⟨b, o, none⟩) m cv, undef, .int .i64 0, .int .i64 S, .int .i64 g, .int .i64 (j : Int), .int .i64 x, s7, undef, .slice (some ⟨b2, o2, none⟩) m (j + 1), .slice (some ⟨b, o, none⟩) m cv, .int .i64 (m : Int), .bool false, .slice (some ⟨b, o, none⟩) m cv, .pointer (some ⟨b, o, none⟩), .slice (some ⟨b0, o0, none⟩) m c0, .int .i64 (m : Int), .int .i64 (j : Int), .bool true, .int .i64 (j : Int), .pointer (some ⟨b0, o0 + j, none⟩), .int .i64 x, .slice (some ⟨wr.heap.size, 0, none⟩) 0 0, .slice (some ⟨b, o, none⟩) m cv, .slice (some ⟨b, o + 1, none⟩) (m - 1) (cv - 1), .int .i64 ((m - 1 : Nat) : Int), .int .i64 (K : Int), .bool true, .pointer (some ⟨b, o + 1 + K, none⟩), .slice (some ⟨b2, o2, none⟩) m (j + 1), s30, s31, s32, s33, s34, s35, s36, s37, s38, s39, s40, s41, u42, u43, u44, u45, u46, u47, u48, u49, u50, u51, u52, u53, undef], defers := [] } : Act) ∧ DetI wr.heap.size W (.slice av P.length cvv) (.slice (some ⟨b2, o2, none⟩) m (j + 1)) (.slice (some ⟨b2, o2, none⟩) j (j + 1)) (.slice (some ⟨b2, o2, none⟩) m (j + 1)) (.int .i64 ((j : Int) + 1)) (.slice (some ⟨b2, o2, none⟩) (m - (j + 1)) 0) (.int .i64 (j : Int)) P row LB wx s7 s30 s31 s32 s33 s34 s35 s36 s37 s38 s39 s40 s41) ?h0 ?hend ?hstep
              case h0 => exact ⟨_, _, _, _, _, _, _, _, _, _, _, _, _, rfl, ⟨rfl, fun h => (dn_new h).elim, fun h => (dn_new h).elim, fun h => (dn_new h).elim, fun h => (dn_new h).elim, fun h => (dn_new h).elim, fun h => (dn_new h).elim, fun h => (dn_new h).elim, fun h => (dn_new h).elim, fun _ => HW0.out.symm, fun _ => rfl, fun h => (dn_new h).elim, fun _ => HWB.out, fun h => (dn_new h).elim, fun h => (dn_new h).elim, fun h => (dn_new h).elim, fun h => (dn_new h).elim, fun h => (dn_new h).elim, fun h => (dn_new h).elim, fun h => (dn_new h).elim, fun h => (dn_new h).elim⟩⟩
              case hstep =>
                rintro LB act wx k ⟨s7, s30, s31, s32, s33, s34, s35, s36, s37, s38, s39, s40, s41, rfl, I⟩ hk
                obtain ⟨hi1, hf, hdep⟩ := ready_mem hk
                have hi2 : k < 13 := hi1
                have HI := hid I
                have HF := hid hf
                clear hk hi1 I hf
                have hc : k = 0 ∨ k = 1 ∨ k = 2 ∨ k = 3 ∨ k = 4 ∨ k = 5 ∨ k = 6 ∨ k = 7 ∨ k = 8 ∨ k = 9 ∨ k = 10 ∨ k = 11 ∨ k = 12 := by omega
                clear hi2
                rcases hc with rfl | rfl | rfl | rfl | rfl | rfl | rfl | rfl | rfl | rfl | rfl | rfl | rfl
                · skip
                  clear hdep
                  obtain rfl := HI.out.w12 (fun q => dn_not HF.out (HI.out.d11 (HI.out.d12 q)).1)
                  refine wpOp_step rfl (fun K hK => ?_)
                  go_simp
                  exact hK _ _ ⟨_, _, _, _, _, _, _, _, _, _, _, _, _, rfl, ⟨(by rw [Array.size_setIfInBounds]; exact HI.out.hs), fun _ => rfl, fun h => HI.out.h1 (dn_old h (by decide)), fun h => HI.out.h2 (dn_old h (by decide)), fun h => HI.out.h3 (dn_old h (by decide)), fun h => HI.out.h4 (dn_old h (by decide)), fun h => HI.out.h5 (dn_old h (by decide)), fun h => HI.out.h6 (dn_old h (by decide)), fun h => HI.out.h7 (dn_old h (by decide)), fun h' => HI.out.w7 (fun q => h' (dn_keep q)), fun h' => HI.out.w12 (fun q => h' (dn_keep q)), fun h h' => HI.out.h8 (dn_old h (by decide)) (fun q => h' (dn_keep q)), fun h' => HI.out.hb (fun q => h' (dn_keep q)), fun h h' => HI.out.h9 (dn_old h (by decide)) (fun q => h' (dn_keep q)), fun h h' => HI.out.h10 (dn_old h (by decide)) (fun q => h' (dn_keep q)), fun h => HI.out.h11 (dn_old h (by decide)), fun h => HI.out.h12 (dn_old h (by decide)), fun h => dn_keep (HI.out.d9 (dn_old h (by decide))), fun h => dn_keep (HI.out.d10 (dn_old h (by decide))), fun h => ⟨dn_keep (HI.out.d11 (dn_old h (by decide))).1, dn_keep (HI.out.d11 (dn_old h (by decide))).2⟩, fun h => dn_keep (HI.out.d12 (dn_old h (by decide)))⟩⟩
                · skip
                  clear hdep
                  refine wpOp_step rfl (fun K hK => ?_)
                  go_simp
                  exact hK _ _ ⟨_, _, _, _, _, _, _, _, _, _, _, _, _, rfl, ⟨(by rw [Array.size_setIfInBounds]; exact HI.out.hs), fun h => HI.out.h0 (dn_old h (by decide)), fun _ => rfl, fun h => HI.out.h2 (dn_old h (by decide)), fun h => HI.out.h3 (dn_old h (by decide)), fun h => HI.out.h4 (dn_old h (by decide)), fun h => HI.out.h5 (dn_old h (by decide)), fun h => HI.out.h6 (dn_old h (by decide)), fun h => HI.out.h7 (dn_old h (by decide)), fun h' => HI.out.w7 (fun q => h' (dn_keep q)), fun h' => HI.out.w12 (fun q => h' (dn_keep q)), fun h h' => HI.out.h8 (dn_old h (by decide)) (fun q => h' (dn_keep q)), fun h' => HI.out.hb (fun q => h' (dn_keep q)), fun h h' => HI.out.h9 (dn_old h (by decide)) (fun q => h' (dn_keep q)), fun h h' => HI.out.h10 (dn_old h (by decide)) (fun q => h' (dn_keep q)), fun h => HI.out.h11 (dn_old h (by decide)), fun h => HI.out.h12 (dn_old h (by decide)), fun h => dn_keep (HI.out.d9 (dn_old h (by decide))), fun h => dn_keep (HI.out.d10 (dn_old h (by decide))), fun h => ⟨dn_keep (HI.out.d11 (dn_old h (by decide))).1, dn_keep (HI.out.d11 (dn_old h (by decide))).2⟩, fun h => dn_keep (HI.out.d12 (dn_old h (by decide)))⟩⟩
                · skip
                  clear hdep
                  refine wpOp_step rfl (fun K hK => ?_)
                  go_simp
                  exact hK _ _ ⟨_, _, _, _, _, _, _, _, _, _, _, _, _, rfl, ⟨(by rw [Array.size_setIfInBounds]; exact HI.out.hs), fun h => HI.out.h0 (dn_old h (by decide)), fun h => HI.out.h1 (dn_old h (by decide)), fun _ => rfl, fun h => HI.out.h3 (dn_old h (by decide)), fun h => HI.out.h4 (dn_old h (by decide)), fun h => HI.out.h5 (dn_old h (by decide)), fun h => HI.out.h6 (dn_old h (by decide)), fun h => HI.out.h7 (dn_old h (by decide)), fun h' => HI.out.w7 (fun q => h' (dn_keep q)), fun h' => HI.out.w12 (fun q => h' (dn_keep q)), fun h h' => HI.out.h8 (dn_old h (by decide)) (fun q => h' (dn_keep q)), fun h' => HI.out.hb (fun q => h' (dn_keep q)), fun h h' => HI.out.h9 (dn_old h (by decide)) (fun q => h' (dn_keep q)), fun h h' => HI.out.h10 (dn_old h (by decide)) (fun q => h' (dn_keep q)), fun h => HI.out.h11 (dn_old h (by decide)), fun h => HI.out.h12 (dn_old h (by decide)), fun h => dn_keep (HI.out.d9 (dn_old h (by decide))), fun h => dn_keep (HI.out.d10 (dn_old h (by decide))), fun h => ⟨dn_keep (HI.out.d11 (dn_old h (by decide))).1, dn_keep (HI.out.d11 (dn_old h (by decide))).2⟩, fun h => dn_keep (HI.out.d12 (dn_old h (by decide)))⟩⟩
                · skip
                  have q1 : dn LB 1 := hdep _ rfl { on := 1, ground := .data } (by simp) rfl
                  have q2 : dn LB 2 := hdep _ rfl { on := 2, ground := .data } (by simp) rfl
                  clear hdep
                  obtain rfl := HI.out.h1 q1
                  obtain rfl := HI.out.h2 q2
                  refine wpOp_step rfl (fun K hK => ?_)
                  go_simp
                  try (rw [if_pos (show (j : Int) ≤ (j : Int) + 1 by omega)]; go_simp)
                  exact hK _ _ ⟨_, _, _, _, _, _, _, _, _, _, _, _, _, rfl, ⟨(by rw [Array.size_setIfInBounds]; exact HI.out.hs), fun h => HI.out.h0 (dn_old h (by decide)), fun h => HI.out.h1 (dn_old h (by decide)), fun h => HI.out.h2 (dn_old h (by decide)), fun _ => rfl, fun h => HI.out.h4 (dn_old h (by decide)), fun h => HI.out.h5 (dn_old h (by decide)), fun h => HI.out.h6 (dn_old h (by decide)), fun h => HI.out.h7 (dn_old h (by decide)), fun h' => HI.out.w7 (fun q => h' (dn_keep q)), fun h' => HI.out.w12 (fun q => h' (dn_keep q)), fun h h' => HI.out.h8 (dn_old h (by decide)) (fun q => h' (dn_keep q)), fun h' => HI.out.hb (fun q => h' (dn_keep q)), fun h h' => HI.out.h9 (dn_old h (by decide)) (fun q => h' (dn_keep q)), fun h h' => HI.out.h10 (dn_old h (by decide)) (fun q => h' (dn_keep q)), fun h => HI.out.h11 (dn_old h (by decide)), fun h => HI.out.h12 (dn_old h (by decide)), fun h => dn_keep (HI.out.d9 (dn_old h (by decide))), fun h => dn_keep (HI.out.d10 (dn_old h (by decide))), fun h => ⟨dn_keep (HI.out.d11 (dn_old h (by decide))).1, dn_keep (HI.out.d11 (dn_old h (by decide))).2⟩, fun h => dn_keep (HI.out.d12 (dn_old h (by decide)))⟩⟩
                · skip
                  clear hdep
                  refine wpOp_step rfl (fun K hK => ?_)
                  go_simp
                  exact hK _ _ ⟨_, _, _, _, _, _, _, _, _, _, _, _, _, rfl, ⟨(by rw [Array.size_setIfInBounds]; exact HI.out.hs), fun h => HI.out.h0 (dn_old h (by decide)), fun h => HI.out.h1 (dn_old h (by decide)), fun h => HI.out.h2 (dn_old h (by decide)), fun h => HI.out.h3 (dn_old h (by decide)), fun _ => rfl, fun h => HI.out.h5 (dn_old h (by decide)), fun h => HI.out.h6 (dn_old h (by decide)), fun h => HI.out.h7 (dn_old h (by decide)), fun h' => HI.out.w7 (fun q => h' (dn_keep q)), fun h' => HI.out.w12 (fun q => h' (dn_keep q)), fun h h' => HI.out.h8 (dn_old h (by decide)) (fun q => h' (dn_keep q)), fun h' => HI.out.hb (fun q => h' (dn_keep q)), fun h h' => HI.out.h9 (dn_old h (by decide)) (fun q => h' (dn_keep q)), fun h h' => HI.out.h10 (dn_old h (by decide)) (fun q => h' (dn_keep q)), fun h => HI.out.h11 (dn_old h (by decide)), fun h => HI.out.h12 (dn_old h (by decide)), fun h => dn_keep (HI.out.d9 (dn_old h (by decide))), fun h => dn_keep (HI.out.d10 (dn_old h (by decide))), fun h => ⟨dn_keep (HI.out.d11 (dn_old h (by decide))).1, dn_keep (HI.out.d11 (dn_old h (by decide))).2⟩, fun h => dn_keep (HI.out.d12 (dn_old h (by decide)))⟩⟩
                · skip
                  clear hdep
                  refine wpOp_step rfl (fun K hK => ?_)
                  go_simp
                  exact hK _ _ ⟨_, _, _, _, _, _, _, _, _, _, _, _, _, rfl, ⟨(by rw [Array.size_setIfInBounds]; exact HI.out.hs), fun h => HI.out.h0 (dn_old h (by decide)), fun h => HI.out.h1 (dn_old h (by decide)), fun h => HI.out.h2 (dn_old h (by decide)), fun h => HI.out.h3 (dn_old h (by decide)), fun h => HI.out.h4 (dn_old h (by decide)), fun _ => rfl, fun h => HI.out.h6 (dn_old h (by decide)), fun h => HI.out.h7 (dn_old h (by decide)), fun h' => HI.out.w7 (fun q => h' (dn_keep q)), fun h' => HI.out.w12 (fun q => h' (dn_keep q)), fun h h' => HI.out.h8 (dn_old h (by decide)) (fun q => h' (dn_keep q)), fun h' => HI.out.hb (fun q => h' (dn_keep q)), fun h h' => HI.out.h9 (dn_old h (by decide)) (fun q => h' (dn_keep q)), fun h h' => HI.out.h10 (dn_old h (by decide)) (fun q => h' (dn_keep q)), fun h => HI.out.h11 (dn_old h (by decide)), fun h => HI.out.h12 (dn_old h (by decide)), fun h => dn_keep (HI.out.d9 (dn_old h (by decide))), fun h => dn_keep (HI.out.d10 (dn_old h (by decide))), fun h => ⟨dn_keep (HI.out.d11 (dn_old h (by decide))).1, dn_keep (HI.out.d11 (dn_old h (by decide))).2⟩, fun h => dn_keep (HI.out.d12 (dn_old h (by decide)))⟩⟩
                · skip
                  have q5 : dn LB 5 := hdep _ rfl { on := 5, ground := .data } (by simp) rfl
                  clear hdep
                  obtain rfl := HI.out.h5 q5
                  refine wpOp_step rfl (fun K hK => ?_)
                  go_simp
                  rw [wrap62 (by omega) (by omega)]
                  exact hK _ _ ⟨_, _, _, _, _, _, _, _, _, _, _, _, _, rfl, ⟨(by rw [Array.size_setIfInBounds]; exact HI.out.hs), fun h => HI.out.h0 (dn_old h (by decide)), fun h => HI.out.h1 (dn_old h (by decide)), fun h => HI.out.h2 (dn_old h (by decide)), fun h => HI.out.h3 (dn_old h (by decide)), fun h => HI.out.h4 (dn_old h (by decide)), fun h => HI.out.h5 (dn_old h (by decide)), fun _ => rfl, fun h => HI.out.h7 (dn_old h (by decide)), fun h' => HI.out.w7 (fun q => h' (dn_keep q)), fun h' => HI.out.w12 (fun q => h' (dn_keep q)), fun h h' => HI.out.h8 (dn_old h (by decide)) (fun q => h' (dn_keep q)), fun h' => HI.out.hb (fun q => h' (dn_keep q)), fun h h' => HI.out.h9 (dn_old h (by decide)) (fun q => h' (dn_keep q)), fun h h' => HI.out.h10 (dn_old h (by decide)) (fun q => h' (dn_keep q)), fun h => HI.out.h11 (dn_old h (by decide)), fun h => HI.out.h12 (dn_old h (by decide)), fun h => dn_keep (HI.out.d9 (dn_old h (by decide))), fun h => dn_keep (HI.out.d10 (dn_old h (by decide))), fun h => ⟨dn_keep (HI.out.d11 (dn_old h (by decide))).1, dn_keep (HI.out.d11 (dn_old h (by decide))).2⟩, fun h => dn_keep (HI.out.d12 (dn_old h (by decide)))⟩⟩
                · skip
                  have q4 : dn LB 4 := hdep _ rfl { on := 4, ground := .data } (by simp) rfl
                  have q6 : dn LB 6 := hdep _ rfl { on := 6, ground := .data } (by simp) rfl
                  clear hdep
                  obtain rfl := HI.out.h4 q4
                  obtain rfl := HI.out.h6 q6
                  refine wpOp_step rfl (fun K hK => ?_)
                  go_simp
                  exact hK _ _ ⟨_, _, _, _, _, _, _, _, _, _, _, _, _, rfl, ⟨(by rw [Array.size_setIfInBounds]; exact HI.out.hs), fun h => HI.out.h0 (dn_old h (by decide)), fun h => HI.out.h1 (dn_old h (by decide)), fun h => HI.out.h2 (dn_old h (by decide)), fun h => HI.out.h3 (dn_old h (by decide)), fun h => HI.out.h4 (dn_old h (by decide)), fun h => HI.out.h5 (dn_old h (by decide)), fun h => HI.out.h6 (dn_old h (by decide)), fun _ => rfl, fun h' => HI.out.w7 (fun q => h' (dn_keep q)), fun h' => HI.out.w12 (fun q => h' (dn_keep q)), fun h h' => HI.out.h8 (dn_old h (by decide)) (fun q => h' (dn_keep q)), fun h' => HI.out.hb (fun q => h' (dn_keep q)), fun h h' => HI.out.h9 (dn_old h (by decide)) (fun q => h' (dn_keep q)), fun h h' => HI.out.h10 (dn_old h (by decide)) (fun q => h' (dn_keep q)), fun h => HI.out.h11 (dn_old h (by decide)), fun h => HI.out.h12 (dn_old h (by decide)), fun h => dn_keep (HI.out.d9 (dn_old h (by decide))), fun h => dn_keep (HI.out.d10 (dn_old h (by decide))), fun h => ⟨dn_keep (HI.out.d11 (dn_old h (by decide))).1, dn_keep (HI.out.d11 (dn_old h (by decide))).2⟩, fun h => dn_keep (HI.out.d12 (dn_old h (by decide)))⟩⟩
                · skip
                  have q3 : dn LB 3 := hdep _ rfl { on := 3, ground := .data } (by simp) rfl
                  have q7 : dn LB 7 := hdep _ rfl { on := 7, ground := .data } (by simp) rfl
                  clear hdep
                  obtain rfl := HI.out.h3 q3
                  obtain rfl := HI.out.h7 q7
                  obtain rfl := HI.out.w7 (dn_not HF.out)
                  refine wpOp_step rfl (fun K hK => ?_)
                  go_simp
                  exact hK _ _ ⟨_, _, _, _, _, _, _, _, _, _, _, _, _, rfl, ⟨(by rw [Array.size_setIfInBounds]; exact HI.out.hs), fun h => HI.out.h0 (dn_old h (by decide)), fun h => HI.out.h1 (dn_old h (by decide)), fun h => HI.out.h2 (dn_old h (by decide)), fun h => HI.out.h3 (dn_old h (by decide)), fun h => HI.out.h4 (dn_old h (by decide)), fun h => HI.out.h5 (dn_old h (by decide)), fun h => HI.out.h6 (dn_old h (by decide)), fun h => HI.out.h7 (dn_old h (by decide)), fun h' => absurd (dn_self2 HF.out) h', fun h' => HI.out.w12 (fun q => h' (dn_keep q)), fun _ _ => ⟨rfl, rfl⟩, fun _ => below_box2 _ _, fun h => (dn_not HF.out (HI.out.d9 (dn_old h (by decide)))).elim, fun h => (dn_not HF.out (HI.out.d9 (HI.out.d10 (dn_old h (by decide))))).elim, fun h => (dn_not HF.out (HI.out.d9 (HI.out.d10 (HI.out.d11 (dn_old h (by decide))).2))).elim, fun h => HI.out.h12 (dn_old h (by decide)), fun h => dn_keep (HI.out.d9 (dn_old h (by decide))), fun h => dn_keep (HI.out.d10 (dn_old h (by decide))), fun h => ⟨dn_keep (HI.out.d11 (dn_old h (by decide))).1, dn_keep (HI.out.d11 (dn_old h (by decide))).2⟩, fun h => dn_keep (HI.out.d12 (dn_old h (by decide)))⟩⟩
                · skip
                  have q8 : dn LB 8 := hdep _ rfl { on := 8, ground := .data } (by simp) rfl
                  clear hdep
                  obtain ⟨rfl, rfl⟩ := HI.out.h8 q8 (dn_not HF.out)
                  refine wpOp_step rfl (fun K hK => ?_)
                  go_simp
                  go_at_call 96
                  refine HCC.out.mono ?_
                  rintro e wP ⟨uP, rfl, ho, hbk⟩
                  have hbw := (below_box2 W (.cells #[.slice (some ⟨b2, o2, none⟩) j (j + 1), .slice (some ⟨b2, o2, none⟩) (m - (j + 1)) 0] 22)).trans (hbk.mono (by simp))
                  exact hK _ _ ⟨_, _, _, _, _, _, _, _, _, _, _, _, _, rfl, ⟨(by rw [Array.size_setIfInBounds]; exact HI.out.hs), fun h => HI.out.h0 (dn_old h (by decide)), fun h => HI.out.h1 (dn_old h (by decide)), fun h => HI.out.h2 (dn_old h (by decide)), fun h => HI.out.h3 (dn_old h (by decide)), fun h => HI.out.h4 (dn_old h (by decide)), fun h => HI.out.h5 (dn_old h (by decide)), fun h => HI.out.h6 (dn_old h (by decide)), fun h => HI.out.h7 (dn_old h (by decide)), fun h' => absurd (dn_keep q8) h', fun h' => HI.out.w12 (fun q => h' (dn_keep q)), fun _ h' => absurd (dn_self2 HF.out) h', fun _ => hbw, fun _ _ => ⟨owns_slice ho, ho.down (by simp)⟩, fun h => (dn_not HF.out (HI.out.d10 (dn_old h (by decide)))).elim, fun h => (dn_not HF.out (HI.out.d10 (HI.out.d11 (dn_old h (by decide))).2)).elim, fun h => HI.out.h12 (dn_old h (by decide)), fun _ => dn_keep q8, fun h => dn_keep (HI.out.d10 (dn_old h (by decide))), fun h => ⟨dn_keep (HI.out.d11 (dn_old h (by decide))).1, dn_keep (HI.out.d11 (dn_old h (by decide))).2⟩, fun h => dn_keep (HI.out.d12 (dn_old h (by decide)))⟩⟩
                · skip
                  have q9 : dn LB 9 := hdep _ rfl { on := 9, ground := .data } (by simp) rfl
                  clear hdep
                  have n11 : ¬ dn LB 11 := fun q => dn_not HF.out (HI.out.d11 q).2
                  have hbw := HI.out.hb n11
                  obtain ⟨⟨a39, c39, rfl⟩, ho⟩ := HI.out.h9 q9 (dn_not HF.out)
                  refine wpOp_step rfl (fun K hK => ?_)
                  go_simp
                  exact hK _ _ ⟨_, _, _, _, _, _, _, _, _, _, _, _, _, rfl, ⟨(by rw [Array.size_setIfInBounds]; exact HI.out.hs), fun h => HI.out.h0 (dn_old h (by decide)), fun h => HI.out.h1 (dn_old h (by decide)), fun h => HI.out.h2 (dn_old h (by decide)), fun h => HI.out.h3 (dn_old h (by decide)), fun h => HI.out.h4 (dn_old h (by decide)), fun h => HI.out.h5 (dn_old h (by decide)), fun h => HI.out.h6 (dn_old h (by decide)), fun h => HI.out.h7 (dn_old h (by decide)), fun h' => absurd (dn_keep (HI.out.d9 q9)) h', fun h' => HI.out.w12 (fun q => h' (dn_keep q)), fun _ h' => absurd (dn_keep q9) h', fun _ => hbw.alloc hbw.size _, fun _ h' => absurd (dn_self2 HF.out) h', fun _ _ => ⟨wx, _, rfl, rfl, hbw, ⟨_, _, rfl⟩, ho⟩, fun h => (n11 (dn_old h (by decide))).elim, fun h => HI.out.h12 (dn_old h (by decide)), fun h => dn_keep (HI.out.d9 (dn_old h (by decide))), fun _ => dn_keep q9, fun h => ⟨dn_keep (HI.out.d11 (dn_old h (by decide))).1, dn_keep (HI.out.d11 (dn_old h (by decide))).2⟩, fun h => dn_keep (HI.out.d12 (dn_old h (by decide)))⟩⟩
                · skip
                  have q0 : dn LB 0 := hdep _ rfl { on := 0, ground := .data } (by simp) rfl
                  have q10 : dn LB 10 := hdep _ rfl { on := 10, ground := .data } (by simp) rfl
                  clear hdep
                  obtain ⟨wz, zv, rfl, rfl, hbz, ⟨a39, c39, rfl⟩, ho⟩ := HI.out.h10 q10 (dn_not HF.out)
                  obtain rfl := HI.out.h0 q0
                  have hsz := hbz.size
                  have hnn := HNN.out
                  have hrb := HRB.out
                  obtain ⟨vals, SN⟩ := ownM_snoc HOM.out hbz HNN.out ho (fun k e => by cases e)
                  obtain ⟨i1, hi1, hy0, hy1, hy2⟩ := info_parts infoRow
                  obtain ⟨v5, w5, hr5, hown5, hgrow5, _, hat5⟩ := run_append_own_at (P := Try.prog) (w := wz.alloc (.cells #[.slice a39 row.length c39] 22)) wr.heap.size 23 23 22 i1 (.slice none 0 0) 1 24 Try.underlying23 hi1 hy0 hy1 hy2 rfl (by decide) (.slice av P.length cvv) P.length vals ((show World.ownsRow wz _ _ _ _ _ _ from SN.row).alloc _) ⟨wz.heap.size, 0, none⟩ 1 1 [.slice a39 row.length c39] rfl (cell_one_new _ _ _) (by simp [Value.oneCell']) (by unfold maxLen; omega) (by omega) (by simp; omega)
                  have hm5 := SN.fin _ _ _ hown5 hgrow5 hat5
                  have hbb : Below wr.heap.size W w5 := ((hbz.mono hnn).alloc (by omega) _).grown hgrow5 (by simp; omega) (fun k e => (HOM.out.lt k e).1)
                  refine wpOp_step rfl (fun K hK => ?_)
                  refine step_appendM_told rfl (.tmp 30) (.tmp 40) (.slice av P.length cvv) (.slice (some ⟨wz.heap.size, 0, none⟩) 1 1) _ rfl rfl rfl rfl hr5 ?_
                  exact hK _ _ ⟨_, _, _, _, _, _, _, _, _, _, _, _, _, rfl, ⟨(by rw [Array.size_setIfInBounds]; exact HI.out.hs), fun h => HI.out.h0 (dn_old h (by decide)), fun h => HI.out.h1 (dn_old h (by decide)), fun h => HI.out.h2 (dn_old h (by decide)), fun h => HI.out.h3 (dn_old h (by decide)), fun h => HI.out.h4 (dn_old h (by decide)), fun h => HI.out.h5 (dn_old h (by decide)), fun h => HI.out.h6 (dn_old h (by decide)), fun h => HI.out.h7 (dn_old h (by decide)), fun h' => absurd (dn_keep (HI.out.d9 (HI.out.d10 q10))) h', fun h' => HI.out.w12 (fun q => h' (dn_keep q)), fun _ h' => absurd (dn_keep (HI.out.d10 q10)) h', fun h' => absurd (dn_self2 HF.out) h', fun _ h' => absurd (dn_keep q10) h', fun _ h' => absurd (dn_self2 HF.out) h', fun _ => ⟨hm5, hbb⟩, fun h => (dn_not HF.out (HI.out.d12 (dn_old h (by decide)))).elim, fun h => dn_keep (HI.out.d9 (dn_old h (by decide))), fun h => dn_keep (HI.out.d10 (dn_old h (by decide))), fun _ => ⟨dn_keep q0, dn_keep q10⟩, fun h => dn_keep (HI.out.d12 (dn_old h (by decide)))⟩⟩
                · skip
                  have q11 : dn LB 11 := hdep _ rfl { on := 11, ground := .data } (by simp) rfl
                  clear hdep
                  refine wpOp_step rfl (fun K hK => ?_)
                  go_simp
                  exact hK _ _ ⟨_, _, _, _, _, _, _, _, _, _, _, _, _, rfl, ⟨(by rw [Array.size_setIfInBounds]; exact HI.out.hs), fun h => HI.out.h0 (dn_old h (by decide)), fun h => HI.out.h1 (dn_old h (by decide)), fun h => HI.out.h2 (dn_old h (by decide)), fun h => HI.out.h3 (dn_old h (by decide)), fun h => HI.out.h4 (dn_old h (by decide)), fun h => HI.out.h5 (dn_old h (by decide)), fun h => HI.out.h6 (dn_old h (by decide)), fun h => HI.out.h7 (dn_old h (by decide)), fun h' => HI.out.w7 (fun q => h' (dn_keep q)), fun h' => absurd (dn_self2 HF.out) h', fun h h' => HI.out.h8 (dn_old h (by decide)) (fun q => h' (dn_keep q)), fun h' => HI.out.hb (fun q => h' (dn_keep q)), fun h h' => HI.out.h9 (dn_old h (by decide)) (fun q => h' (dn_keep q)), fun h h' => HI.out.h10 (dn_old h (by decide)) (fun q => h' (dn_keep q)), fun h => HI.out.h11 (dn_old h (by decide)), fun _ => rfl, fun h => dn_keep (HI.out.d9 (dn_old h (by decide))), fun h => dn_keep (HI.out.d10 (dn_old h (by decide))), fun h => ⟨dn_keep (HI.out.d11 (dn_old h (by decide))).1, dn_keep (HI.out.d11 (dn_old h (by decide))).2⟩, fun _ => dn_keep q11⟩⟩
              case hend =>
                rintro LB act wx ⟨s7, s30, s31, s32, s33, s34, s35, s36, s37, s38, s39, s40, s41, rfl, I⟩ hrd
                have Dn := all_done2 I.hs (by kernel_rfl) hrd
                obtain ⟨hm5, hbb⟩ := I.h11 (Dn 11 (by decide))
                obtain rfl := I.h12 (Dn 12 (by decide))
                clear I Dn hrd
                have hwe := HW0.out
                subst hwe
                have HHB := hid ((HBQ.out.trans ((below_drewN (Below.refl wr.heap.size wq) 1))).trans hbb)
                have HM5 := hid hm5
                clear hm5 hbb
                go_wp2_with fail
                go_roundw
                case measure => simp only [intOf]; have := HLK.out; omega
                case rel => exact ⟨K + 1, by go_num, HLK.out, hid (by rw [HTK.out]; exact HM5.out), HHB⟩
            · skip
              have HCC : Hid (Calls Try.prog 96 #[.slice (some ⟨W.heap.size, 0, none⟩) 2 2] (W.alloc (.cells #[.slice (some ⟨b2, o2, none⟩) j c2, .slice (some ⟨b2, o2 + (j + 1), none⟩) (m - (j + 1)) (c2 - (j + 1))] 22)) fun e w' => ∃ v, e = .returned v ∧ Owns w' (W.alloc (.cells #[.slice (some ⟨b2, o2, none⟩) j c2, .slice (some ⟨b2, o2 + (j + 1), none⟩) (m - (j + 1)) (c2 - (j + 1))] 22)).heap.size v row ∧ Below (W.alloc (.cells #[.slice (some ⟨b2, o2, none⟩) j c2, .slice (some ⟨b2, o2 + (j + 1), none⟩) (m - (j + 1)) (c2 - (j + 1))] 22)).heap.size (W.alloc (.cells #[.slice (some ⟨b2, o2, none⟩) j c2, .slice (some ⟨b2, o2 + (j + 1), none⟩) (m - (j + 1)) (c2 - (j + 1))] 22)) w') := hid (by
                have hk := below_box2 W (.cells #[.slice (some ⟨b2, o2, none⟩) j c2, .slice (some ⟨b2, o2 + (j + 1), none⟩) (m - (j + 1)) (c2 - (j + 1))] 22)
                have h := concat_any W.heap.size (.slice (some ⟨b2, o2, none⟩) j c2) (.slice (some ⟨b2, o2 + (j + 1), none⟩) (m - (j + 1)) (c2 - (j + 1))) (r.take j) (r.drop (j + 1)) (W.alloc (.cells #[.slice (some ⟨b2, o2, none⟩) j c2, .slice (some ⟨b2, o2 + (j + 1), none⟩) (m - (j + 1)) (c2 - (j + 1))] 22)) (cellB (i := 0) (heap_new rfl)) (cellB (i := 1) (heap_new rfl)) ((HPW.out.take (k := j) (by have := HLT.out; omega) HRL.out).keep hk) ((HPW.out.drop (k := j + 1) (by have := HLT.out; omega) HRL.out).keep hk) (.inr ⟨_, _, _, rfl⟩) (.inr ⟨_, _, _, rfl⟩) (by have hlk9 := HLK.out; have := HCL.out; rw [HRW.out] at this; unfold cutL at this; rw [List.length_append] at this; omega) (by rw [List.length_take, List.length_drop, HRL.out]; omega)
                rw [HRW.out]
                exact h)
              go_wp2_with fail
              refine region_inv (by kernel_rfl) (fun LB act wx => ∃ (s7 s30 s31 s32 s33 s34 s35 s36 s37 s38 s39 s40 s41 : Value), act = ({ tmps := #[.slice (some ⟨b, o, none⟩) m cv, undef, .int .i64 0, .int .i64 S, .int .i64 g, .int .i64 (j : Int), .int .i64 x, s7, undef, .slice (some ⟨b2, o2, none⟩) m c2, .slice (some ⟨b, o, none⟩) m cv, .int .i64 (m : Int), .bool false, .slice (some ⟨b, o, none⟩) m cv, .pointer (some ⟨b, o, none⟩), .slice (some ⟨b0, o0, none⟩) m c0, .int .i64 (m : Int), .int .i64 (j : Int), .bool true, .int .i64 (j : Int), .pointer (some ⟨b0, o0 + j, none⟩), .int .i64 x, .slice (some ⟨wr.heap.size, 0, none⟩) 0 0, .slice (some ⟨b, o, none⟩) m cv, .slice (some ⟨b, o + 1, none⟩) (m - 1) (cv - 1), .int .i64 ((m - 1 : Nat) : Int), .int .i64 (K : Int), .bool true, .pointer (some ⟨b, o + 1 + K, none⟩), .slice (some ⟨b2, o2, none⟩) m c2, s30, s31, s32, s33, s34, s35, s36, s37, s38, s39, s40, s41, u42, u43, u44, u45, u46, u47, u48, u49, u50, u51, u52, u53, undef], defers := [] } : Act) ∧ DetI wr.heap.size W (.slice av P.length cvv) (.slice (some ⟨b2, o2, none⟩) m c2) (.slice (some ⟨b2, o2, none⟩) j c2) (.slice (some ⟨b2, o2, none⟩) m c2) (.int .i64 ((j : Int) + 1)) (.slice (some ⟨b2, o2 + (j + 1), none⟩) (m - (j + 1)) (c2 - (j + 1))) (.int .i64 (j : Int)) P row LB wx s7 s30 s31 s32 s33 s34 s35 s36 s37 s38 s39 s40 s41) ?h0 ?hend ?hstep
              case h0 => exact ⟨_, _, _, _, _, _, _, _, _, _, _, _, _, rfl, ⟨rfl, fun h => (dn_new h).elim, fun h => (dn_new h).elim, fun h => (dn_new h).elim, fun h => (dn_new h).elim, fun h => (dn_new h).elim, fun h => (dn_new h).elim, fun h => (dn_new h).elim, fun h => (dn_new h).elim, fun _ => HW0.out.symm, fun _ => rfl, fun h => (dn_new h).elim, fun _ => HWB.out, fun h => (dn_new h).elim, fun h => (dn_new h).elim, fun h => (dn_new h).elim, fun h => (dn_new h).elim, fun h => (dn_new h).elim, fun h => (dn_new h).elim, fun h => (dn_new h).elim, fun h => (dn_new h).elim⟩⟩
              case hstep =>
                rintro LB act wx k ⟨s7, s30, s31, s32, s33, s34, s35, s36, s37, s38, s39, s40, s41, rfl, I⟩ hk
                obtain ⟨hi1, hf, hdep⟩ := ready_mem hk
                have hi2 : k < 13 := hi1
                have HI := hid I
                have HF := hid hf
                clear hk hi1 I hf
                have hc : k = 0 ∨ k = 1 ∨ k = 2 ∨ k = 3 ∨ k = 4 ∨ k = 5 ∨ k = 6 ∨ k = 7 ∨ k = 8 ∨ k = 9 ∨ k = 10 ∨ k = 11 ∨ k = 12 := by omega
                clear hi2
                rcases hc with rfl | rfl | rfl | rfl | rfl | rfl | rfl | rfl | rfl | rfl | rfl | rfl | rfl
                · skip
                  clear hdep
                  obtain rfl := HI.out.w12 (fun q => dn_not HF.out (HI.out.d11 (HI.out.d12 q)).1)
                  refine wpOp_step rfl (fun K hK => ?_)
                  go_simp
                  exact hK _ _ ⟨_, _, _, _, _, _, _, _, _, _, _, _, _, rfl, ⟨(by rw [Array.size_setIfInBounds]; exact HI.out.hs), fun _ => rfl, fun h => HI.out.h1 (dn_old h (by decide)), fun h => HI.out.h2 (dn_old h (by decide)), fun h => HI.out.h3 (dn_old h (by decide)), fun h => HI.out.h4 (dn_old h (by decide)), fun h => HI.out.h5 (dn_old h (by decide)), fun h => HI.out.h6 (dn_old h (by decide)), fun h => HI.out.h7 (dn_old h (by decide)), fun h' => HI.out.w7 (fun q => h' (dn_keep q)), fun h' => HI.out.w12 (fun q => h' (dn_keep q)), fun h h' => HI.out.h8 (dn_old h (by decide)) (fun q => h' (dn_keep q)), fun h' => HI.out.hb (fun q => h' (dn_keep q)), fun h h' => HI.out.h9 (dn_old h (by decide)) (fun q => h' (dn_keep q)), fun h h' => HI.out.h10 (dn_old h (by decide)) (fun q => h' (dn_keep q)), fun h => HI.out.h11 (dn_old h (by decide)), fun h => HI.out.h12 (dn_old h (by decide)), fun h => dn_keep (HI.out.d9 (dn_old h (by decide))), fun h => dn_keep (HI.out.d10 (dn_old h (by decide))), fun h => ⟨dn_keep (HI.out.d11 (dn_old h (by decide))).1, dn_keep (HI.out.d11 (dn_old h (by decide))).2⟩, fun h => dn_keep (HI.out.d12 (dn_old h (by decide)))⟩⟩
                · skip
                  clear hdep
                  refine wpOp_step rfl (fun K hK => ?_)
                  go_simp
                  exact hK _ _ ⟨_, _, _, _, _, _, _, _, _, _, _, _, _, rfl, ⟨(by rw [Array.size_setIfInBounds]; exact HI.out.hs), fun h => HI.out.h0 (dn_old h (by decide)), fun _ => rfl, fun h => HI.out.h2 (dn_old h (by decide)), fun h => HI.out.h3 (dn_old h (by decide)), fun h => HI.out.h4 (dn_old h (by decide)), fun h => HI.out.h5 (dn_old h (by decide)), fun h => HI.out.h6 (dn_old h (by decide)), fun h => HI.out.h7 (dn_old h (by decide)), fun h' => HI.out.w7 (fun q => h' (dn_keep q)), fun h' => HI.out.w12 (fun q => h' (dn_keep q)), fun h h' => HI.out.h8 (dn_old h (by decide)) (fun q => h' (dn_keep q)), fun h' => HI.out.hb (fun q => h' (dn_keep q)), fun h h' => HI.out.h9 (dn_old h (by decide)) (fun q => h' (dn_keep q)), fun h h' => HI.out.h10 (dn_old h (by decide)) (fun q => h' (dn_keep q)), fun h => HI.out.h11 (dn_old h (by decide)), fun h => HI.out.h12 (dn_old h (by decide)), fun h => dn_keep (HI.out.d9 (dn_old h (by decide))), fun h => dn_keep (HI.out.d10 (dn_old h (by decide))), fun h => ⟨dn_keep (HI.out.d11 (dn_old h (by decide))).1, dn_keep (HI.out.d11 (dn_old h (by decide))).2⟩, fun h => dn_keep (HI.out.d12 (dn_old h (by decide)))⟩⟩
                · skip
                  clear hdep
                  refine wpOp_step rfl (fun K hK => ?_)
                  go_simp
                  exact hK _ _ ⟨_, _, _, _, _, _, _, _, _, _, _, _, _, rfl, ⟨(by rw [Array.size_setIfInBounds]; exact HI.out.hs), fun h => HI.out.h0 (dn_old h (by decide)), fun h => HI.out.h1 (dn_old h (by decide)), fun _ => rfl, fun h => HI.out.h3 (dn_old h (by decide)), fun h => HI.out.h4 (dn_old h (by decide)), fun h => HI.out.h5 (dn_old h (by decide)), fun h => HI.out.h6 (dn_old h (by decide)), fun h => HI.out.h7 (dn_old h (by decide)), fun h' => HI.out.w7 (fun q => h' (dn_keep q)), fun h' => HI.out.w12 (fun q => h' (dn_keep q)), fun h h' => HI.out.h8 (dn_old h (by decide)) (fun q => h' (dn_keep q)), fun h' => HI.out.hb (fun q => h' (dn_keep q)), fun h h' => HI.out.h9 (dn_old h (by decide)) (fun q => h' (dn_keep q)), fun h h' => HI.out.h10 (dn_old h (by decide)) (fun q => h' (dn_keep q)), fun h => HI.out.h11 (dn_old h (by decide)), fun h => HI.out.h12 (dn_old h (by decide)), fun h => dn_keep (HI.out.d9 (dn_old h (by decide))), fun h => dn_keep (HI.out.d10 (dn_old h (by decide))), fun h => ⟨dn_keep (HI.out.d11 (dn_old h (by decide))).1, dn_keep (HI.out.d11 (dn_old h (by decide))).2⟩, fun h => dn_keep (HI.out.d12 (dn_old h (by decide)))⟩⟩
                · skip
                  have q1 : dn LB 1 := hdep _ rfl { on := 1, ground := .data } (by simp) rfl
                  have q2 : dn LB 2 := hdep _ rfl { on := 2, ground := .data } (by simp) rfl
                  clear hdep
                  obtain rfl := HI.out.h1 q1
                  obtain rfl := HI.out.h2 q2
                  refine wpOp_step rfl (fun K hK => ?_)
                  go_simp
                  try (rw [if_pos (show (j : Int) ≤ (j : Int) + 1 by omega)]; go_simp)
                  exact hK _ _ ⟨_, _, _, _, _, _, _, _, _, _, _, _, _, rfl, ⟨(by rw [Array.size_setIfInBounds]; exact HI.out.hs), fun h => HI.out.h0 (dn_old h (by decide)), fun h => HI.out.h1 (dn_old h (by decide)), fun h => HI.out.h2 (dn_old h (by decide)), fun _ => rfl, fun h => HI.out.h4 (dn_old h (by decide)), fun h => HI.out.h5 (dn_old h (by decide)), fun h => HI.out.h6 (dn_old h (by decide)), fun h => HI.out.h7 (dn_old h (by decide)), fun h' => HI.out.w7 (fun q => h' (dn_keep q)), fun h' => HI.out.w12 (fun q => h' (dn_keep q)), fun h h' => HI.out.h8 (dn_old h (by decide)) (fun q => h' (dn_keep q)), fun h' => HI.out.hb (fun q => h' (dn_keep q)), fun h h' => HI.out.h9 (dn_old h (by decide)) (fun q => h' (dn_keep q)), fun h h' => HI.out.h10 (dn_old h (by decide)) (fun q => h' (dn_keep q)), fun h => HI.out.h11 (dn_old h (by decide)), fun h => HI.out.h12 (dn_old h (by decide)), fun h => dn_keep (HI.out.d9 (dn_old h (by decide))), fun h => dn_keep (HI.out.d10 (dn_old h (by decide))), fun h => ⟨dn_keep (HI.out.d11 (dn_old h (by decide))).1, dn_keep (HI.out.d11 (dn_old h (by decide))).2⟩, fun h => dn_keep (HI.out.d12 (dn_old h (by decide)))⟩⟩
                · skip
                  clear hdep
                  refine wpOp_step rfl (fun K hK => ?_)
                  go_simp
                  exact hK _ _ ⟨_, _, _, _, _, _, _, _, _, _, _, _, _, rfl, ⟨(by rw [Array.size_setIfInBounds]; exact HI.out.hs), fun h => HI.out.h0 (dn_old h (by decide)), fun h => HI.out.h1 (dn_old h (by decide)), fun h => HI.out.h2 (dn_old h (by decide)), fun h => HI.out.h3 (dn_old h (by decide)), fun _ => rfl, fun h => HI.out.h5 (dn_old h (by decide)), fun h => HI.out.h6 (dn_old h (by decide)), fun h => HI.out.h7 (dn_old h (by decide)), fun h' => HI.out.w7 (fun q => h' (dn_keep q)), fun h' => HI.out.w12 (fun q => h' (dn_keep q)), fun h h' => HI.out.h8 (dn_old h (by decide)) (fun q => h' (dn_keep q)), fun h' => HI.out.hb (fun q => h' (dn_keep q)), fun h h' => HI.out.h9 (dn_old h (by decide)) (fun q => h' (dn_keep q)), fun h h' => HI.out.h10 (dn_old h (by decide)) (fun q => h' (dn_keep q)), fun h => HI.out.h11 (dn_old h (by decide)), fun h => HI.out.h12 (dn_old h (by decide)), fun h => dn_keep (HI.out.d9 (dn_old h (by decide))), fun h => dn_keep (HI.out.d10 (dn_old h (by decide))), fun h => ⟨dn_keep (HI.out.d11 (dn_old h (by decide))).1, dn_keep (HI.out.d11 (dn_old h (by decide))).2⟩, fun h => dn_keep (HI.out.d12 (dn_old h (by decide)))⟩⟩
                · skip
                  clear hdep
                  refine wpOp_step rfl (fun K hK => ?_)
                  go_simp
                  exact hK _ _ ⟨_, _, _, _, _, _, _, _, _, _, _, _, _, rfl, ⟨(by rw [Array.size_setIfInBounds]; exact HI.out.hs), fun h => HI.out.h0 (dn_old h (by decide)), fun h => HI.out.h1 (dn_old h (by decide)), fun h => HI.out.h2 (dn_old h (by decide)), fun h => HI.out.h3 (dn_old h (by decide)), fun h => HI.out.h4 (dn_old h (by decide)), fun _ => rfl, fun h => HI.out.h6 (dn_old h (by decide)), fun h => HI.out.h7 (dn_old h (by decide)), fun h' => HI.out.w7 (fun q => h' (dn_keep q)), fun h' => HI.out.w12 (fun q => h' (dn_keep q)), fun h h' => HI.out.h8 (dn_old h (by decide)) (fun q => h' (dn_keep q)), fun h' => HI.out.hb (fun q => h' (dn_keep q)), fun h h' => HI.out.h9 (dn_old h (by decide)) (fun q => h' (dn_keep q)), fun h h' => HI.out.h10 (dn_old h (by decide)) (fun q => h' (dn_keep q)), fun h => HI.out.h11 (dn_old h (by decide)), fun h => HI.out.h12 (dn_old h (by decide)), fun h => dn_keep (HI.out.d9 (dn_old h (by decide))), fun h => dn_keep (HI.out.d10 (dn_old h (by decide))), fun h => ⟨dn_keep (HI.out.d11 (dn_old h (by decide))).1, dn_keep (HI.out.d11 (dn_old h (by decide))).2⟩, fun h => dn_keep (HI.out.d12 (dn_old h (by decide)))⟩⟩
                · skip
                  have q5 : dn LB 5 := hdep _ rfl { on := 5, ground := .data } (by simp) rfl
                  clear hdep
                  obtain rfl := HI.out.h5 q5
                  refine wpOp_step rfl (fun K hK => ?_)
                  go_simp
                  rw [wrap62 (by omega) (by omega)]
                  exact hK _ _ ⟨_, _, _, _, _, _, _, _, _, _, _, _, _, rfl, ⟨(by rw [Array.size_setIfInBounds]; exact HI.out.hs), fun h => HI.out.h0 (dn_old h (by decide)), fun h => HI.out.h1 (dn_old h (by decide)), fun h => HI.out.h2 (dn_old h (by decide)), fun h => HI.out.h3 (dn_old h (by decide)), fun h => HI.out.h4 (dn_old h (by decide)), fun h => HI.out.h5 (dn_old h (by decide)), fun _ => rfl, fun h => HI.out.h7 (dn_old h (by decide)), fun h' => HI.out.w7 (fun q => h' (dn_keep q)), fun h' => HI.out.w12 (fun q => h' (dn_keep q)), fun h h' => HI.out.h8 (dn_old h (by decide)) (fun q => h' (dn_keep q)), fun h' => HI.out.hb (fun q => h' (dn_keep q)), fun h h' => HI.out.h9 (dn_old h (by decide)) (fun q => h' (dn_keep q)), fun h h' => HI.out.h10 (dn_old h (by decide)) (fun q => h' (dn_keep q)), fun h => HI.out.h11 (dn_old h (by decide)), fun h => HI.out.h12 (dn_old h (by decide)), fun h => dn_keep (HI.out.d9 (dn_old h (by decide))), fun h => dn_keep (HI.out.d10 (dn_old h (by decide))), fun h => ⟨dn_keep (HI.out.d11 (dn_old h (by decide))).1, dn_keep (HI.out.d11 (dn_old h (by decide))).2⟩, fun h => dn_keep (HI.out.d12 (dn_old h (by decide)))⟩⟩
                · skip
                  have q4 : dn LB 4 := hdep _ rfl { on := 4, ground := .data } (by simp) rfl
                  have q6 : dn LB 6 := hdep _ rfl { on := 6, ground := .data } (by simp) rfl
                  clear hdep
                  obtain rfl := HI.out.h4 q4
                  obtain rfl := HI.out.h6 q6
                  refine wpOp_step rfl (fun K hK => ?_)
                  go_simp
                  exact hK _ _ ⟨_, _, _, _, _, _, _, _, _, _, _, _, _, rfl, ⟨(by rw [Array.size_setIfInBounds]; exact HI.out.hs), fun h => HI.out.h0 (dn_old h (by decide)), fun h => HI.out.h1 (dn_old h (by decide)), fun h => HI.out.h2 (dn_old h (by decide)), fun h => HI.out.h3 (dn_old h (by decide)), fun h => HI.out.h4 (dn_old h (by decide)), fun h => HI.out.h5 (dn_old h (by decide)), fun h => HI.out.h6 (dn_old h (by decide)), fun _ => rfl, fun h' => HI.out.w7 (fun q => h' (dn_keep q)), fun h' => HI.out.w12 (fun q => h' (dn_keep q)), fun h h' => HI.out.h8 (dn_old h (by decide)) (fun q => h' (dn_keep q)), fun h' => HI.out.hb (fun q => h' (dn_keep q)), fun h h' => HI.out.h9 (dn_old h (by decide)) (fun q => h' (dn_keep q)), fun h h' => HI.out.h10 (dn_old h (by decide)) (fun q => h' (dn_keep q)), fun h => HI.out.h11 (dn_old h (by decide)), fun h => HI.out.h12 (dn_old h (by decide)), fun h => dn_keep (HI.out.d9 (dn_old h (by decide))), fun h => dn_keep (HI.out.d10 (dn_old h (by decide))), fun h => ⟨dn_keep (HI.out.d11 (dn_old h (by decide))).1, dn_keep (HI.out.d11 (dn_old h (by decide))).2⟩, fun h => dn_keep (HI.out.d12 (dn_old h (by decide)))⟩⟩
                · skip
                  have q3 : dn LB 3 := hdep _ rfl { on := 3, ground := .data } (by simp) rfl
                  have q7 : dn LB 7 := hdep _ rfl { on := 7, ground := .data } (by simp) rfl
                  clear hdep
                  obtain rfl := HI.out.h3 q3
                  obtain rfl := HI.out.h7 q7
                  obtain rfl := HI.out.w7 (dn_not HF.out)
                  refine wpOp_step rfl (fun K hK => ?_)
                  go_simp
                  exact hK _ _ ⟨_, _, _, _, _, _, _, _, _, _, _, _, _, rfl, ⟨(by rw [Array.size_setIfInBounds]; exact HI.out.hs), fun h => HI.out.h0 (dn_old h (by decide)), fun h => HI.out.h1 (dn_old h (by decide)), fun h => HI.out.h2 (dn_old h (by decide)), fun h => HI.out.h3 (dn_old h (by decide)), fun h => HI.out.h4 (dn_old h (by decide)), fun h => HI.out.h5 (dn_old h (by decide)), fun h => HI.out.h6 (dn_old h (by decide)), fun h => HI.out.h7 (dn_old h (by decide)), fun h' => absurd (dn_self2 HF.out) h', fun h' => HI.out.w12 (fun q => h' (dn_keep q)), fun _ _ => ⟨rfl, rfl⟩, fun _ => below_box2 _ _, fun h => (dn_not HF.out (HI.out.d9 (dn_old h (by decide)))).elim, fun h => (dn_not HF.out (HI.out.d9 (HI.out.d10 (dn_old h (by decide))))).elim, fun h => (dn_not HF.out (HI.out.d9 (HI.out.d10 (HI.out.d11 (dn_old h (by decide))).2))).elim, fun h => HI.out.h12 (dn_old h (by decide)), fun h => dn_keep (HI.out.d9 (dn_old h (by decide))), fun h => dn_keep (HI.out.d10 (dn_old h (by decide))), fun h => ⟨dn_keep (HI.out.d11 (dn_old h (by decide))).1, dn_keep (HI.out.d11 (dn_old h (by decide))).2⟩, fun h => dn_keep (HI.out.d12 (dn_old h (by decide)))⟩⟩
                · skip
                  have q8 : dn LB 8 := hdep _ rfl { on := 8, ground := .data } (by simp) rfl
                  clear hdep
                  obtain ⟨rfl, rfl⟩ := HI.out.h8 q8 (dn_not HF.out)
                  refine wpOp_step rfl (fun K hK => ?_)
                  go_simp
                  go_at_call 96
                  refine HCC.out.mono ?_
                  rintro e wP ⟨uP, rfl, ho, hbk⟩
                  have hbw := (below_box2 W (.cells #[.slice (some ⟨b2, o2, none⟩) j c2, .slice (some ⟨b2, o2 + (j + 1), none⟩) (m - (j + 1)) (c2 - (j + 1))] 22)).trans (hbk.mono (by simp))
                  exact hK _ _ ⟨_, _, _, _, _, _, _, _, _, _, _, _, _, rfl, ⟨(by rw [Array.size_setIfInBounds]; exact HI.out.hs), fun h => HI.out.h0 (dn_old h (by decide)), fun h => HI.out.h1 (dn_old h (by decide)), fun h => HI.out.h2 (dn_old h (by decide)), fun h => HI.out.h3 (dn_old h (by decide)), fun h => HI.out.h4 (dn_old h (by decide)), fun h => HI.out.h5 (dn_old h (by decide)), fun h => HI.out.h6 (dn_old h (by decide)), fun h => HI.out.h7 (dn_old h (by decide)), fun h' => absurd (dn_keep q8) h', fun h' => HI.out.w12 (fun q => h' (dn_keep q)), fun _ h' => absurd (dn_self2 HF.out) h', fun _ => hbw, fun _ _ => ⟨owns_slice ho, ho.down (by simp)⟩, fun h => (dn_not HF.out (HI.out.d10 (dn_old h (by decide)))).elim, fun h => (dn_not HF.out (HI.out.d10 (HI.out.d11 (dn_old h (by decide))).2)).elim, fun h => HI.out.h12 (dn_old h (by decide)), fun _ => dn_keep q8, fun h => dn_keep (HI.out.d10 (dn_old h (by decide))), fun h => ⟨dn_keep (HI.out.d11 (dn_old h (by decide))).1, dn_keep (HI.out.d11 (dn_old h (by decide))).2⟩, fun h => dn_keep (HI.out.d12 (dn_old h (by decide)))⟩⟩
                · skip
                  have q9 : dn LB 9 := hdep _ rfl { on := 9, ground := .data } (by simp) rfl
                  clear hdep
                  have n11 : ¬ dn LB 11 := fun q => dn_not HF.out (HI.out.d11 q).2
                  have hbw := HI.out.hb n11
                  obtain ⟨⟨a39, c39, rfl⟩, ho⟩ := HI.out.h9 q9 (dn_not HF.out)
                  refine wpOp_step rfl (fun K hK => ?_)
                  go_simp
                  exact hK _ _ ⟨_, _, _, _, _, _, _, _, _, _, _, _, _, rfl, ⟨(by rw [Array.size_setIfInBounds]; exact HI.out.hs), fun h => HI.out.h0 (dn_old h (by decide)), fun h => HI.out.h1 (dn_old h (by decide)), fun h => HI.out.h2 (dn_old h (by decide)), fun h => HI.out.h3 (dn_old h (by decide)), fun h => HI.out.h4 (dn_old h (by decide)), fun h => HI.out.h5 (dn_old h (by decide)), fun h => HI.out.h6 (dn_old h (by decide)), fun h => HI.out.h7 (dn_old h (by decide)), fun h' => absurd (dn_keep (HI.out.d9 q9)) h', fun h' => HI.out.w12 (fun q => h' (dn_keep q)), fun _ h' => absurd (dn_keep q9) h', fun _ => hbw.alloc hbw.size _, fun _ h' => absurd (dn_self2 HF.out) h', fun _ _ => ⟨wx, _, rfl, rfl, hbw, ⟨_, _, rfl⟩, ho⟩, fun h => (n11 (dn_old h (by decide))).elim, fun h => HI.out.h12 (dn_old h (by decide)), fun h => dn_keep (HI.out.d9 (dn_old h (by decide))), fun _ => dn_keep q9, fun h => ⟨dn_keep (HI.out.d11 (dn_old h (by decide))).1, dn_keep (HI.out.d11 (dn_old h (by decide))).2⟩, fun h => dn_keep (HI.out.d12 (dn_old h (by decide)))⟩⟩
                · skip
                  have q0 : dn LB 0 := hdep _ rfl { on := 0, ground := .data } (by simp) rfl
                  have q10 : dn LB 10 := hdep _ rfl { on := 10, ground := .data } (by simp) rfl
                  clear hdep
                  obtain ⟨wz, zv, rfl, rfl, hbz, ⟨a39, c39, rfl⟩, ho⟩ := HI.out.h10 q10 (dn_not HF.out)
                  obtain rfl := HI.out.h0 q0
                  have hsz := hbz.size
                  have hnn := HNN.out
                  have hrb := HRB.out
                  obtain ⟨vals, SN⟩ := ownM_snoc HOM.out hbz HNN.out ho (fun k e => by cases e)
                  obtain ⟨i1, hi1, hy0, hy1, hy2⟩ := info_parts infoRow
                  obtain ⟨v5, w5, hr5, hown5, hgrow5, _, hat5⟩ := run_append_own_at (P := Try.prog) (w := wz.alloc (.cells #[.slice a39 row.length c39] 22)) wr.heap.size 23 23 22 i1 (.slice none 0 0) 1 24 Try.underlying23 hi1 hy0 hy1 hy2 rfl (by decide) (.slice av P.length cvv) P.length vals ((show World.ownsRow wz _ _ _ _ _ _ from SN.row).alloc _) ⟨wz.heap.size, 0, none⟩ 1 1 [.slice a39 row.length c39] rfl (cell_one_new _ _ _) (by simp [Value.oneCell']) (by unfold maxLen; omega) (by omega) (by simp; omega)
                  have hm5 := SN.fin _ _ _ hown5 hgrow5 hat5
                  have hbb : Below wr.heap.size W w5 := ((hbz.mono hnn).alloc (by omega) _).grown hgrow5 (by simp; omega) (fun k e => (HOM.out.lt k e).1)
                  refine wpOp_step rfl (fun K hK => ?_)
                  refine step_appendM_told rfl (.tmp 30) (.tmp 40) (.slice av P.length cvv) (.slice (some ⟨wz.heap.size, 0, none⟩) 1 1) _ rfl rfl rfl rfl hr5 ?_
                  exact hK _ _ ⟨_, _, _, _, _, _, _, _, _, _, _, _, _, rfl, ⟨(by rw [Array.size_setIfInBounds]; exact HI.out.hs), fun h => HI.out.h0 (dn_old h (by decide)), fun h => HI.out.h1 (dn_old h (by decide)), fun h => HI.out.h2 (dn_old h (by decide)), fun h => HI.out.h3 (dn_old h (by decide)), fun h => HI.out.h4 (dn_old h (by decide)), fun h => HI.out.h5 (dn_old h (by decide)), fun h => HI.out.h6 (dn_old h (by decide)), fun h => HI.out.h7 (dn_old h (by decide)), fun h' => absurd (dn_keep (HI.out.d9 (HI.out.d10 q10))) h', fun h' => HI.out.w12 (fun q => h' (dn_keep q)), fun _ h' => absurd (dn_keep (HI.out.d10 q10)) h', fun h' => absurd (dn_self2 HF.out) h', fun _ h' => absurd (dn_keep q10) h', fun _ h' => absurd (dn_self2 HF.out) h', fun _ => ⟨hm5, hbb⟩, fun h => (dn_not HF.out (HI.out.d12 (dn_old h (by decide)))).elim, fun h => dn_keep (HI.out.d9 (dn_old h (by decide))), fun h => dn_keep (HI.out.d10 (dn_old h (by decide))), fun _ => ⟨dn_keep q0, dn_keep q10⟩, fun h => dn_keep (HI.out.d12 (dn_old h (by decide)))⟩⟩
                · skip
                  have q11 : dn LB 11 := hdep _ rfl { on := 11, ground := .data } (by simp) rfl
                  clear hdep
                  refine wpOp_step rfl (fun K hK => ?_)
                  go_simp
                  exact hK _ _ ⟨_, _, _, _, _, _, _, _, _, _, _, _, _, rfl, ⟨(by rw [Array.size_setIfInBounds]; exact HI.out.hs), fun h => HI.out.h0 (dn_old h (by decide)), fun h => HI.out.h1 (dn_old h (by decide)), fun h => HI.out.h2 (dn_old h (by decide)), fun h => HI.out.h3 (dn_old h (by decide)), fun h => HI.out.h4 (dn_old h (by decide)), fun h => HI.out.h5 (dn_old h (by decide)), fun h => HI.out.h6 (dn_old h (by decide)), fun h => HI.out.h7 (dn_old h (by decide)), fun h' => HI.out.w7 (fun q => h' (dn_keep q)), fun h' => absurd (dn_self2 HF.out) h', fun h h' => HI.out.h8 (dn_old h (by decide)) (fun q => h' (dn_keep q)), fun h' => HI.out.hb (fun q => h' (dn_keep q)), fun h h' => HI.out.h9 (dn_old h (by decide)) (fun q => h' (dn_keep q)), fun h h' => HI.out.h10 (dn_old h (by decide)) (fun q => h' (dn_keep q)), fun h => HI.out.h11 (dn_old h (by decide)), fun _ => rfl, fun h => dn_keep (HI.out.d9 (dn_old h (by decide))), fun h => dn_keep (HI.out.d10 (dn_old h (by decide))), fun h => ⟨dn_keep (HI.out.d11 (dn_old h (by decide))).1, dn_keep (HI.out.d11 (dn_old h (by decide))).2⟩, fun _ => dn_keep q11⟩⟩
              case hend =>
                rintro LB act wx ⟨s7, s30, s31, s32, s33, s34, s35, s36, s37, s38, s39, s40, s41, rfl, I⟩ hrd
                have Dn := all_done2 I.hs (by kernel_rfl) hrd
                obtain ⟨hm5, hbb⟩ := I.h11 (Dn 11 (by decide))
                obtain rfl := I.h12 (Dn 12 (by decide))
                clear I Dn hrd
                have hwe := HW0.out
                subst hwe
                have HHB := hid ((HBQ.out.trans ((below_drewN (Below.refl wr.heap.size wq) 1))).trans hbb)
                have HM5 := hid hm5
                clear hm5 hbb
                go_wp2_with fail
                go_roundw
                case measure => simp only [intOf]; have := HLK.out; omega
                case rel => exact ⟨K + 1, by go_num, HLK.out, hid (by rw [HTK.out]; exact HM5.out), HHB⟩
          · have hKn : K = n := by omega
            have hki : ¬ K < m - 1 := by have := HME.out; omega
            obtain ⟨ao, co, hao⟩ := HO.out.rd.form
            rw [show ((minorL R j).take K).length = n by rw [List.length_take, (minor_sq HS.out (by rw [← HME.out]; exact HLT.out)).1]; omega] at hao
            subst hao
            have HDE := HIH.out j (by rw [← HME.out]; exact HLT.out) _ wq (by
              have h := HO.out.rd
              rw [List.take_of_length_le (by rw [(minor_sq HS.out (by rw [← HME.out]; exact HLT.out)).1]; omega)] at h
              exact h) (own_cap9 HO.out)
            have HD := hid HDE
            have hpb := HPB.out (j + 1)
            have htb := HTB.out j
            have hsu : sumF (fun j => alt j * at2 R 0 j * detR n (minorL R j)) (j + 1) = S + g * x * detR n (minorL R j) := by
              rw [HSE.out, HGE.out, HX.out]; rfl
            rw [hsu] at hpb
            have HSU := hid hsu
            have hspb := HPB.out j
            rw [← HSE.out] at hspb
            rw [← HX.out] at htb
            obtain ⟨Dt, hDt⟩ : ∃ Dt, Dt = detR n (minorL R j) := ⟨_, rfl⟩
            rw [← hDt] at HD HSU hpb htb
            have hgx : -1000000 ≤ g * x ∧ g * x ≤ 1000000 := by rcases HGP.out with e | e <;> rw [e] <;> omega
            have hgd : -2000000000000000000 ≤ g * x * Dt ∧ g * x * Dt ≤ 2000000000000000000 := by
              rcases HGP.out with e | e <;> rw [e]
              · rw [Int.one_mul]; exact htb
              · rw [show (-1 : Int) * x * Dt = -(x * Dt) by grind]; omega
            have hgg : -1 ≤ g ∧ g ≤ 1 := by rcases HGP.out with e | e <;> omega
            have hj3 : (j : Int) ≤ 2 := by omega
            have hs1 : -6000000000000000000 ≤ S + g * x * Dt ∧ S + g * x * Dt ≤ 6000000000000000000 := by push_cast at hpb; omega
            clear hsu hDt hpb htb hspb HDE hKn hlk
            go_wp2_with fail
            refine HD.out.mono ?_
            rintro e w5 ⟨rfl, hb5⟩
            have HB5 := hid (HB.out.trans ((HBQ.out.trans (hb5.mono HBQ.out.size)).mono HB.out.size))
            clear hb5
            go_wp2_with fail
            go_roundw
            case measure => simp only [intOf]; have := HLT.out; omega
            case rel => exact ⟨j + 1, _, _, by go_num, HLT.out, rfl, rfl, hid HSU.out.symm, hid (by rw [alt_succ, HGE.out]), HB5⟩
    · obtain rfl : j = m := by omega
      have HE : Hid (S = detR (n + 1) R) := hid (by rw [HSE.out, HME.out]; rfl)
      clear hlt
      go_wp2_with fail
      go_ret
      exact ⟨retI HE.out, HB.out⟩

end Go.Proofs.Ytjabklpnohfjpab

/-! MpV -/
set_option linter.unusedVariables false
namespace Go.Proofs.Ytjabklpnohfjpab
open Go.RowKit

theorem det9_any (n : Nat) (hn : n = 1 ∨ n = 2 ∨ n = 3) (v : Value) (R : List (List Int)) (w : World) (h : RdM w v R) (hcp : ∀ a n c, v = .slice a n c → n ≤ c) (hs : Sq n R) (hb : ∀ r ∈ R, ∀ x ∈ r, -1000000 ≤ x ∧ x ≤ 1000000) : Calls Try.prog 72 #[v] w fun e w' => e = .returned (.int .i64 (detF n (at2 R))) ∧ Below w.heap.size w w' := by
  rw [← det_is hn hs]
  have d1 := det_next 0 (by omega) (fun v R w h _ hs _ => det_zero v R w h hs)
  have d2 := det_next 1 (by omega) d1
  have d3 := det_next 2 (by omega) d2
  rcases hn with rfl | rfl | rfl
  · exact d1 v R w h hcp hs hb
  · exact d2 v R w h hcp hs hb
  · exact d3 v R w h hcp hs hb

set_option maxRecDepth 100000 in
set_option maxHeartbeats 4000000 in
theorem moveSign_any (vf va : Value) (xs : List Int) (A : List (List Int)) (a : Int) (w : World) (hx : Rd w vf xs) (hA : RdM w va A) (hcp : ∀ a n c, va = .slice a n c → n ≤ c) : Calls Try.prog 35 #[vf, .agg #[va, .int .i64 a]] w fun e w' => e = .returned (.int .i64 (signW xs A a)) ∧ Below w.heap.size w w' := by
  obtain ⟨ax, cx, rfl, _⟩ := hx.form
  obtain ⟨aa, ca, rfl⟩ := hA.form
  have hbl : Below w.heap.size w (w.alloc (.cells #[.slice aa A.length ca, .int .i64 a] 29)) := below_box2 _ _
  have HX := hid (hx.keep hbl)
  have HA := hid (hA.keep hbl)
  have HB := hid hbl
  have H1 : Hid (MvAt (w.alloc (.cells #[.slice aa A.length ca, .int .i64 a] 29)) w.heap.size (.slice aa A.length ca) a) := hid (heap_new rfl)
  have HV := hid (valid9_any w.heap.size _ _ xs A a _ H1.out HA.out HX.out)
  have HCP := hid hcp
  clear hx hA hbl hcp
  cases hva : moveB xs A a with
  | false =>
    rw [hva] at HV
    have HE : Hid (signW xs A a = 0) := hid (by unfold signW; rw [hva]; rfl)
    clear hva
    go_enter Try.func35, Try.ntmps35
    go_wp2_with fail
    refine HV.out.mono ?_
    rintro e w2 ⟨rfl, hb2⟩
    have HB2 := hid (HB.out.trans (hb2.mono HB.out.size))
    clear hb2
    go_wp2_with fail
    go_ret
    exact ⟨retI HE.out.symm, HB2.out⟩
  | true =>
    have oA := moveB_iff.1 hva
    rw [hva] at HV
    have HE : Hid (signW xs A a = sg (detF xs.length (at2 A))) := hid (sign_ok oA)
    have HDC := hid (fun (wx : World) (h : RdM wx (.slice aa A.length ca) A) => det9_any xs.length oA.n3 _ A wx h HCP.out oA.sq oA.bd)
    obtain ⟨D, hD⟩ : ∃ D, D = detF xs.length (at2 A) := ⟨_, rfl⟩
    rw [← hD] at HE HDC
    clear hva oA hD
    go_enter Try.func35, Try.ntmps35
    go_wp2_with fail
    refine HV.out.mono ?_
    rintro e w2 ⟨rfl, hb2⟩
    have HB2 := hid (HB.out.trans (hb2.mono HB.out.size))
    have hq := H1.out.keep hb2
    have z0 := cellB (i := 0) hq
    have HA2 := hid (HA.out.keep hb2)
    clear hb2 hq
    go_wp2_with fail
    refine (HDC.out _ HA2.out).mono ?_
    rintro e w3 ⟨rfl, hb3⟩
    have HB3 := hid (HB2.out.trans (hb3.mono HB2.out.size))
    clear hb3
    by_cases h0 : 0 < D
    · have HS : Hid (signW xs A a = 1) := hid (by rw [HE.out, sg_pos h0])
      go_wp2_with fail
      go_ret
      exact ⟨retI HS.out.symm, HB3.out⟩
    · have HS : Hid (signW xs A a = -1) := hid (by rw [HE.out]; unfold sg; rw [if_neg h0])
      go_wp2_with fail
      go_ret
      exact ⟨retI HS.out.symm, HB3.out⟩

/-- what a mirror done behind or ahead of a move in memory leaves -/
def StepPost (o : Option (List (List Int) × Int)) (bm : Nat) (w : World) (e : Ending) (w' : World) : Prop :=
  e = .returned (.bool o.isSome) ∧ ∃ wy, Below w.heap.size w wy ∧ (w' = wy ∨ ∃ v0 v1, w' = (wy.setCell ⟨bm, 0, none⟩ v0).setCell ⟨bm, 1, none⟩ v1) ∧ ∀ R d, o = some (R, d) → ∃ u, MvAt w' bm u d ∧ OwnM w' w.heap.size none u R

set_option maxRecDepth 100000 in
set_option maxHeartbeats 4000000 in
theorem precede_any (bm : Nat) (vf vw va : Value) (xs ws : List Int) (A : List (List Int)) (a : Int) (w : World) (hm : MvAt w bm va a) (hA : RdM w va A) (hx : Rd w vf xs) (hw : Rd w vw ws) (oA : MoveOk xs A a) :
    Calls Try.prog 74 #[.pointer (some ⟨bm, 0, none⟩), vf, vw] w (StepPost ((mirV xs ws).bind fun M => mulV xs A a M.1 M.2) bm w) := by
  have HMI := hid (moveMirror_any vf vw xs ws w hx hw)
  have HM := hid hm
  have HA := hid hA
  have HOA := hid oA
  obtain ⟨ax, cx, rfl, _⟩ := hx.form
  obtain ⟨aw, cw, rfl, _⟩ := hw.form
  clear hm hA hx hw oA
  cases hmv : mirV xs ws with
  | none =>
    rw [hmv] at HMI
    clear hmv
    go_enter Try.func74, Try.ntmps74
    go_wp2_with fail
    refine HMI.out.mono ?_
    rintro e w2 ⟨u, rfl, ho, hb2⟩
    simp only [Option.elim_none, Option.isSome_none] at ho ⊢
    obtain ⟨au, cu, rfl⟩ := ho.rd.form
    have HB2 := hid hb2
    clear ho hb2
    go_wp2_with fail
    go_ret
    exact ⟨rfl, _, HB2.out.alloc HB2.out.size _, .inl rfl, fun R d h => by cases h⟩
  | some p =>
    obtain ⟨M, m⟩ := p
    have oM := (mir_some hmv).1
    rw [hmv] at HMI
    have HTM := hid (fun (b2 : Nat) (vm : Value) (w' : World) (h1 : MvAt w' bm va a) (h2 : MvAt w' b2 vm m) (h3 : RdM w' va A) (h4 : RdM w' vm M) => times_move bm b2 va vm A M a m w' h1 h2 h3 h4 HOA.out oM)
    change Calls Try.prog _ _ w (StepPost (mulV xs A a M m) bm w)
    obtain ⟨O, hO⟩ : ∃ O, O = mulV xs A a M m := ⟨_, rfl⟩
    rw [← hO] at HTM ⊢
    clear hmv oM hO
    go_enter Try.func74, Try.ntmps74
    go_wp2_with fail
    refine HMI.out.mono ?_
    rintro e w2 ⟨u, rfl, ho, hb2⟩
    simp only [Option.elim_some, Option.isSome_some] at ho ⊢
    obtain ⟨au, cu, rfl⟩ := ho.rd.form
    have hb3 := hb2.alloc hb2.size (.cells #[.slice au M.length cu, .int .i64 m] 29)
    have HQ := hid (HTM.out w2.heap.size _ (w2.alloc (.cells #[.slice au M.length cu, .int .i64 m] 29)) (HM.out.keep hb3) (heap_new rfl) (HA.out.keep hb3) (ho.rd.keep (below_box2 _ _)))
    have HB3 := hid hb3
    clear ho hb2 hb3
    go_wp2_with fail
    refine HQ.out.mono ?_
    rintro e w4 hp
    obtain ⟨R2, d2, b2, au2, cu2, rfl, ho, hb4, HE2⟩ := movePost_un hp
    have hbb := HB3.out.trans (hb4.mono HB3.out.size)
    have hq := HM.out.keep hbb
    have z0 := cellB (i := 0) hq
    have z1 := cellB (i := 1) hq
    have y0 := frozenB (i := 0) hq
    have y1 := frozenB (i := 1) hq
    have HH := hid hq
    have HBB := hid hbb
    have HS3 := hid HB3.out.size
    have HO := hid ho
    clear hp ho hb4 hbb hq
    go_wp2_with fail
    go_ret
    have hlt : bm < w.heap.size := (Array.getElem?_eq_some_iff.1 HM.out).1
    obtain ⟨e1, e2, e3⟩ := HE2.out
    refine ⟨by rw [← e3]; rfl, _, HBB.out, .inr ⟨_, _, rfl⟩, fun R d h => ?_⟩
    subst h
    obtain rfl : R2 = R := e1
    obtain rfl : d2 = d := e2
    exact ⟨_, heap_two1 (heap_two0 HH.out), ((HO.out.setLow (a := ⟨bm, 0, none⟩) (.inl (by have := HS3.out; show bm < _; omega)) _).setLow (a := ⟨bm, 1, none⟩) (.inl (by have := HS3.out; show bm < _; omega)) _).down HS3.out⟩

set_option maxRecDepth 100000 in
set_option maxHeartbeats 4000000 in
theorem follow_any (bm : Nat) (vf vw va : Value) (xs ws : List Int) (A : List (List Int)) (a : Int) (w : World) (hm : MvAt w bm va a) (hA : RdM w va A) (hx : Rd w vf xs) (hw : Rd w vw ws) (oA : MoveOk xs A a) :
    Calls Try.prog 81 #[.pointer (some ⟨bm, 0, none⟩), vf, vw] w (StepPost ((mirV xs ws).bind fun M => mulV xs M.1 M.2 A a) bm w) := by
  have HMI := hid (moveMirror_any vf vw xs ws w hx hw)
  have HM := hid hm
  have HA := hid hA
  have HOA := hid oA
  obtain ⟨ax, cx, rfl, _⟩ := hx.form
  obtain ⟨aw, cw, rfl, _⟩ := hw.form
  clear hm hA hx hw oA
  cases hmv : mirV xs ws with
  | none =>
    rw [hmv] at HMI
    clear hmv
    go_enter Try.func81, Try.ntmps81
    go_wp2_with fail
    refine HMI.out.mono ?_
    rintro e w2 ⟨u, rfl, ho, hb2⟩
    simp only [Option.elim_none, Option.isSome_none] at ho ⊢
    obtain ⟨au, cu, rfl⟩ := ho.rd.form
    have HB2 := hid hb2
    clear ho hb2
    go_wp2_with fail
    go_ret
    exact ⟨rfl, _, HB2.out.alloc HB2.out.size _, .inl rfl, fun R d h => by cases h⟩
  | some p =>
    obtain ⟨M, m⟩ := p
    have oM := (mir_some hmv).1
    rw [hmv] at HMI
    have HTM := hid (fun (b2 : Nat) (vm : Value) (w' : World) (h1 : MvAt w' bm va a) (h2 : MvAt w' b2 vm m) (h3 : RdM w' va A) (h4 : RdM w' vm M) => times_move b2 bm vm va M A m a w' h2 h1 h4 h3 oM HOA.out)
    change Calls Try.prog _ _ w (StepPost (mulV xs M m A a) bm w)
    obtain ⟨O, hO⟩ : ∃ O, O = mulV xs M m A a := ⟨_, rfl⟩
    rw [← hO] at HTM ⊢
    clear hmv oM hO
    go_enter Try.func81, Try.ntmps81
    go_wp2_with fail
    refine HMI.out.mono ?_
    rintro e w2 ⟨u, rfl, ho, hb2⟩
    simp only [Option.elim_some, Option.isSome_some] at ho ⊢
    obtain ⟨au, cu, rfl⟩ := ho.rd.form
    have hb3 := hb2.alloc hb2.size (.cells #[.slice au M.length cu, .int .i64 m] 29)
    have HQ := hid (HTM.out w2.heap.size _ (w2.alloc (.cells #[.slice au M.length cu, .int .i64 m] 29)) (HM.out.keep hb3) (heap_new rfl) (HA.out.keep hb3) (ho.rd.keep (below_box2 _ _)))
    have HB3 := hid hb3
    clear ho hb2 hb3
    go_wp2_with fail
    refine HQ.out.mono ?_
    rintro e w4 hp
    obtain ⟨R2, d2, b2, au2, cu2, rfl, ho, hb4, HE2⟩ := movePost_un hp
    have hbb := HB3.out.trans (hb4.mono HB3.out.size)
    have hq := HM.out.keep hbb
    have z0 := cellB (i := 0) hq
    have z1 := cellB (i := 1) hq
    have y0 := frozenB (i := 0) hq
    have y1 := frozenB (i := 1) hq
    have HH := hid hq
    have HBB := hid hbb
    have HS3 := hid HB3.out.size
    have HO := hid ho
    clear hp ho hb4 hbb hq
    go_wp2_with fail
    go_ret
    have hlt : bm < w.heap.size := (Array.getElem?_eq_some_iff.1 HM.out).1
    obtain ⟨e1, e2, e3⟩ := HE2.out
    refine ⟨by rw [← e3]; rfl, _, HBB.out, .inr ⟨_, _, rfl⟩, fun R d h => ?_⟩
    subst h
    obtain rfl : R2 = R := e1
    obtain rfl : d2 = d := e2
    exact ⟨_, heap_two1 (heap_two0 HH.out), ((HO.out.setLow (a := ⟨bm, 0, none⟩) (.inl (by have := HS3.out; show bm < _; omega)) _).setLow (a := ⟨bm, 1, none⟩) (.inl (by have := HS3.out; show bm < _; omega)) _).down HS3.out⟩

end Go.Proofs.Ytjabklpnohfjpab

/-! MpW -/
set_option linter.unusedVariables false
namespace Go.Proofs.Ytjabklpnohfjpab
open Go.RowKit

theorem of_no {xs : List Int} {list : List (List Int)} (h : (frm3B xs && decide (list.length ≤ 6)) = false) : ofV xs list = none := by unfold ofV; rw [h]; rfl
theorem of_yes {xs : List Int} {list : List (List Int)} (h : frm3B xs = true) (h2 : list.length ≤ 6) : ofV xs list = list.foldl (ofStep xs) (some (stayL xs.length, 1)) := by unfold ofV; rw [h, decide_eq_true h2]; rfl
theorem ofstep_ok {xs ws : List Int} {A R : List (List Int)} {a d : Int} (h : ofStep xs (some (A, a)) ws = some (R, d)) : MoveOk xs R d := by
  unfold ofStep at h
  simp only [Option.bind_some] at h
  cases hm : mirV xs ws with
  | none => rw [hm] at h; cases h
  | some M =>
    rw [hm] at h
    exact (mul_some h).2.2.1
set_option maxRecDepth 100000 in
set_option maxHeartbeats 8000000 in
theorem moveOf9_any (vf vl : Value) (xs : List Int) (list : List (List Int)) (w : World) (hx : Rd w vf xs) (hl : RdM w vl list) : Calls Try.prog 39 #[vf, vl] w (MovePost (ofV xs list) w) := by
  have hbl : Below w.heap.size w (w.alloc (.cells #[.slice none 0 0, .int .i64 0] 29)) := below_box2 _ _
  have HST := hid (moveStay_any vf xs _ (hx.keep hbl))
  have HX := hid (hx.keep hbl)
  have HLL := hid (hl.keep hbl)
  have HR0 : Hid ((w.alloc (.cells #[.slice none 0 0, .int .i64 0] 29)).heap[w.heap.size]? = some (.cells #[.slice none 0 0, .int .i64 0] 29 (0, 0))) := hid (heap_new rfl)
  have HB0 := hid hbl
  obtain ⟨ax, cx, rfl, _⟩ := hx.form
  obtain ⟨al, cl, rfl⟩ := hl.form
  have hmx : list.length ≤ maxLen := by
    rcases Nat.eq_zero_or_pos list.length with e | e
    · rw [e]; exact Nat.zero_le _
    · obtain ⟨_, _, _, _, _, h, _⟩ := hl
      obtain ⟨_, _, _, h, _⟩ := h e
      exact h
  unfold maxLen at hmx
  clear hx hl hbl
  cases hf : frm3B xs with
  | false =>
    have HE : Hid (ofV xs list = none) := hid (of_no (by rw [hf]; rfl))
    have HS : Hid (stayV xs = none) := hid (by unfold stayV; rw [hf]; rfl)
    rw [HS.out] at HST
    clear hf
    go_enter Try.func39, Try.ntmps39
    go_wp2_with fail
    refine HST.out.mono ?_
    rintro e w2 ⟨u, rfl, ho, hb2⟩
    simp only [Option.elim_none, Option.isSome_none] at ho ⊢
    obtain ⟨au, cu, rfl⟩ := ho.rd.form
    have hq := heap_below hb2 HR0.out
    have z0 := cellB (i := 0) hq
    have z1 := cellB (i := 1) hq
    have y0 := frozenB (i := 0) hq
    have y1 := frozenB (i := 1) hq
    have HB2 := hid (HB0.out.trans (hb2.mono HB0.out.size))
    have hlt := (Array.getElem?_eq_some_iff.1 hq).1
    clear ho hb2 hq
    go_wp2_with fail
    refine bodyPost_ret (v := .tuple #[.agg #[.slice none 0 0, .int .i64 0], .bool false]) (by simp [results, Try.results39, go_sem] <;> go_simp) rfl ?_
    rw [HE.out]
    first | exact ⟨_, rfl, ownM_nil _ _ _, HB2.out.alloc HB2.out.size _⟩ | exact ⟨_, rfl, ownM_nil _ _ _, HB2.out⟩ | exact movePost_none HB2.out (Nat.le_refl _) _ _ | exact ⟨_, rfl, ownM_nil _ _ _, ((HB2.out.setCell (Nat.le_refl _) _).setCell (Nat.le_refl _) _).alloc (by simp; exact HB2.out.size) _⟩
  | true =>
    have HS : Hid (stayV xs = some (stayL xs.length, 1)) := hid (by unfold stayV; rw [hf]; rfl)
    rw [HS.out] at HST
    have hf2 : fvB xs = true ∧ xs.length ≤ 3 := by unfold frm3B at hf; rwa [Bool.and_eq_true, decide_eq_true_eq] at hf
    by_cases h6 : (list.length : Int) ≤ 6
    · have HE0 := hid (of_yes (list := list) hf (by omega))
      have HOK0 := hid (stay_ok hf2.1 hf2.2)
      clear hf hf2
      go_enter Try.func39, Try.ntmps39
      go_wp2_with fail
      refine HST.out.mono ?_
      rintro e w2 ⟨u, rfl, ho, hb2⟩
      simp only [Option.elim_some, Option.isSome_some] at ho ⊢
      obtain ⟨au, cu, rfl⟩ := ho.rd.form
      have hq := heap_below hb2 HR0.out
      have HB2 := hid (HB0.out.trans (hb2.mono HB0.out.size))
      have hlt := (Array.getElem?_eq_some_iff.1 hq).1
      have HLT := hid hlt
      have HX2 := hid (HX.out.keep hb2)
      have HL2 := hid (HLL.out.keep hb2)
      have hb3 := below_box2 w2 (.cells #[.slice au (stayL xs.length).length cu, .int .i64 1] 29)
      have HR3 := hid (heap_below hb3 hq)
      have HQ2 := hid hq
      have HMV3 : Hid (MvAt (w2.alloc (.cells #[.slice au (stayL xs.length).length cu, .int .i64 1] 29)) w2.heap.size (.slice au (stayL xs.length).length cu) 1) := hid (heap_new rfl)
      have HO3 : Hid (OwnM (w2.alloc (.cells #[.slice au (stayL xs.length).length cu, .int .i64 1] 29)) (w.heap.size + 1) (some w2.heap.size) (.slice au (stayL xs.length).length cu) (stayL xs.length)) := hid (((ho.exOf (k := w2.heap.size) (.inr (Nat.le_refl _))).down (by simp)).keep hb3)
      have HB3 := hid (HB2.out.trans (hb3.mono HB2.out.size))
      have HS3 : Hid (w2.heap.size < (w2.alloc (.cells #[.slice au (stayL xs.length).length cu, .int .i64 1] 29)).heap.size) := hid (by simp)
      clear ho hb2 hq hb3
      go_wp2_with fail
      go_loopw [25] (fun si wr => ∃ (K : Nat) (A : List (List Int)) (a : Int) (va : Value), si = .int .i64 (K : Int) ∧ K ≤ list.length ∧ Hid ((list.take K).foldl (ofStep xs) (some (stayL xs.length, 1)) = some (A, a)) ∧ Hid (MoveOk xs A a) ∧ Hid (MvAt wr w2.heap.size va a) ∧ Hid (OwnM wr (w.heap.size + 1) (some w2.heap.size) va A) ∧ Hid (∀ g, g < w2.heap.size → g ≠ w2.heap.size → wr.heap[g]? = w2.heap[g]?) ∧ Hid (Below w.heap.size w wr) ∧ w2.heap.size < wr.heap.size) (fun si _ => list.length - (intOf si).toNat)
      case atStart => exact ⟨0, _, _, _, rfl, by omega, hid rfl, HOK0, HMV3, HO3, hid (fun g h _ => Below.heap_alloc _ _ _ h), HB3, HS3.out⟩
      case round =>
        obtain ⟨K, A, a, va, rfl, hK, HF, HOK, HMV, HO, HKP, HB, hsz⟩ := hrel
        rename World => wr
        have HXr := hid (HX2.out.at_blocks (fun g h => HKP.out g h (by omega)))
        have hlr := HL2.out.at_blocks (fun g h => HKP.out g h (by omega))
        have hrr := (HKP.out w.heap.size HLT.out (by have := HLT.out; omega)).trans HQ2.out
        have HRR := hid hrr
        by_cases hlt : K < list.length
        · obtain ⟨b, o, u, rfl, hc, hr⟩ := hlr.row hlt
          have HFN := hid (fold_next (xs := xs) (m := some (stayL xs.length, 1)) hlt)
          have HFNO := hid (fun h => fold_none (xs := xs) (list := list) (i := K) (m := some (stayL xs.length, 1)) hlt h)
          obtain ⟨ws, hws⟩ : ∃ ws, ws = list.getD K [] := ⟨_, rfl⟩
          rw [← hws] at hr HFN HFNO
          rw [HF.out] at HFN HFNO
          have HPC := hid (precede_any w2.heap.size _ _ va xs ws A a wr HMV.out HO.out.rd HXr.out hr HOK.out)
          obtain ⟨ar, cr, rfl, _⟩ := hr.form
          have hKi : (K : Int) < (list.length : Int) := by omega
          have HLTK := hid hlt
          obtain ⟨OO, hOO⟩ : ∃ OO, OO = ofStep xs (some (A, a)) ws := ⟨_, rfl⟩
          have hOE : ((mirV xs ws).bind fun M => mulV xs A a M.1 M.2) = OO := by rw [hOO]; rfl
          rw [hOE] at HPC
          rw [← hOO] at HFN HFNO
          have HOKN : Hid (∀ R d, OO = some (R, d) → MoveOk xs R d) := hid (fun R d h => ofstep_ok (hOO.symm.trans h))
          clear hr hws hlt hOO hOE hlr
          go_wp2_with fail
          refine HPC.out.mono ?_
          rintro e w5 ⟨rfl, wy, hby, hw5, hst⟩
          have hbw : Below w.heap.size w w5 := by
            have h1 := HB.out.trans (hby.mono HB.out.size)
            rcases hw5 with rfl | ⟨v0, v1, rfl⟩
            · exact h1
            · exact (h1.setCell (by show w.heap.size ≤ w2.heap.size; have := HLT.out; omega) _).setCell (by show w.heap.size ≤ w2.heap.size; have := HLT.out; omega) _
          have hkp : ∀ g, g < wr.heap.size → g ≠ w2.heap.size → w5.heap[g]? = wr.heap[g]? := fun g h1 h2 => by
            have h3 := hby.block g h1
            rcases hw5 with rfl | ⟨v0, v1, rfl⟩
            · exact h3
            · rw [heap_setCell_other _ _ _ _ h2, heap_setCell_other _ _ _ _ h2]; exact h3
          have hs5 : wr.heap.size ≤ w5.heap.size := by
            rcases hw5 with rfl | ⟨v0, v1, rfl⟩
            · exact hby.size
            · simpa using hby.size
          have HBW := hid hbw
          have HKP5 := hid hkp
          have hq5 := (hkp w.heap.size (by have := HLT.out; omega) (by have := HLT.out; omega)).trans HRR.out
          have HS5 := hid hs5
          cases OO with
          | none =>
            have HE : Hid (ofV xs list = none) := hid (by rw [HE0.out]; exact HFNO.out (.inr rfl))
            have z0 := cellB (i := 0) hq5
            have z1 := cellB (i := 1) hq5
            have y0 := frozenB (i := 0) hq5
            have y1 := frozenB (i := 1) hq5
            clear hbw hkp hs5 hby hw5 hst hq5
            simp only [Option.isSome_none]
            go_wp2_with fail
            refine bodyPost_ret (v := .tuple #[.agg #[.slice none 0 0, .int .i64 0], .bool false]) (by simp [results, Try.results39, go_sem] <;> go_simp) rfl ?_
            rw [HE.out]
            first | exact ⟨_, rfl, ownM_nil _ _ _, HBW.out.alloc HBW.out.size _⟩ | exact ⟨_, rfl, ownM_nil _ _ _, HBW.out⟩ | exact movePost_none HBW.out (Nat.le_refl _) _ _ | exact ⟨_, rfl, ownM_nil _ _ _, ((HBW.out.setCell (Nat.le_refl _) _).setCell (Nat.le_refl _) _).alloc (by simp; exact HBW.out.size) _⟩
          | some p =>
            obtain ⟨R, d⟩ := p
            obtain ⟨u5, hm5, ho5⟩ := hst R d rfl
            have HM5 := hid hm5
            have HO5 := hid (((ho5.exOf (k := w2.heap.size) (.inl hsz))).down (show w.heap.size + 1 ≤ wr.heap.size by have := HLT.out; omega))
            clear hbw hkp hs5 hby hw5 hst hm5 ho5 hq5
            simp only [Option.isSome_some]
            go_wp2_with fail
            go_roundw
            case measure => simp only [intOf]; have := HLTK.out; omega
            case rel => exact ⟨K + 1, R, d, u5, by go_num, HLTK.out, HFN, hid (HOKN.out R d rfl), HM5, HO5, hid (fun g h1 h2 => (HKP5.out g (by omega) h2).trans (HKP.out g h1 h2)), HBW, by have := HS5.out; omega⟩
        · obtain rfl : K = list.length := by omega
          have HE : Hid (ofV xs list = some (A, a)) := hid (by rw [HE0.out, ← HF.out, List.take_length])
          obtain ⟨av, cv, rfl⟩ := HO.out.rd.form
          have t0 := cellB (i := 0) HMV.out
          have t1 := cellB (i := 1) HMV.out
          have z0 := cellB (i := 0) hrr
          have z1 := cellB (i := 1) hrr
          have y0 := frozenB (i := 0) hrr
          have y1 := frozenB (i := 1) hrr
          clear hlt hlr hrr
          go_wp2_with fail
          refine bodyPost_ret (v := .tuple #[.agg #[.slice av A.length cv, .int .i64 a], .bool true]) (by simp [results, Try.results39, go_sem] <;> go_simp) rfl ?_
          rw [HE.out]
          exact movePost_o HO.out.free HB.out (Nat.le_refl _) (Nat.lt_succ_self _) _ _ ⟨rfl, rfl, rfl⟩
    · have HE : Hid (ofV xs list = none) := hid (of_no (by rw [hf, decide_eq_false (by omega)]; rfl))
      clear hf hf2
      go_enter Try.func39, Try.ntmps39
      go_wp2_with fail
      refine HST.out.mono ?_
      rintro e w2 ⟨u, rfl, ho, hb2⟩
      simp only [Option.elim_some, Option.isSome_some] at ho ⊢
      obtain ⟨au, cu, rfl⟩ := ho.rd.form
      have hq := heap_below hb2 HR0.out
      have z0 := cellB (i := 0) hq
      have z1 := cellB (i := 1) hq
      have y0 := frozenB (i := 0) hq
      have y1 := frozenB (i := 1) hq
      have HB2 := hid (HB0.out.trans (hb2.mono HB0.out.size))
      have hlt := (Array.getElem?_eq_some_iff.1 hq).1
      clear ho hb2 hq
      go_wp2_with fail
      refine bodyPost_ret (v := .tuple #[.agg #[.slice none 0 0, .int .i64 0], .bool false]) (by simp [results, Try.results39, go_sem] <;> go_simp) rfl ?_
      rw [HE.out]
      first | exact ⟨_, rfl, ownM_nil _ _ _, HB2.out.alloc HB2.out.size _⟩ | exact ⟨_, rfl, ownM_nil _ _ _, HB2.out⟩ | exact movePost_none HB2.out (Nat.le_refl _) _ _ | exact ⟨_, rfl, ownM_nil _ _ _, ((HB2.out.setCell (Nat.le_refl _) _).setCell (Nat.le_refl _) _).alloc (by simp; exact HB2.out.size) _⟩

end Go.Proofs.Ytjabklpnohfjpab

/-! MpX -/
set_option linter.unusedVariables false
namespace Go.Proofs.Ytjabklpnohfjpab
open Go.RowKit

theorem termW7 {x v u : Int} (h1 : -30 ≤ x) (h2 : x ≤ 30) (h3 : -2000000 ≤ v) (h4 : v ≤ 2000000) (h5 : -2000000 ≤ u) (h6 : u ≤ 2000000) : -60000000 ≤ x * v ∧ x * v ≤ 60000000 ∧ -120000000000000 ≤ x * v * u ∧ x * v * u ≤ 120000000000000 := by
  have e1 : (x * v).natAbs ≤ 30 * 2000000 := by rw [Int.natAbs_mul]; exact Nat.mul_le_mul (by omega) (by omega)
  have e2 : (x * v * u).natAbs ≤ 30 * 2000000 * 2000000 := by rw [Int.natAbs_mul]; exact Nat.mul_le_mul e1 (by omega)
  omega
theorem pairW_bd {xs vs ws : List Int} (h : fvB xs = true) (hv : ∀ v ∈ vs, -2000000 ≤ v ∧ v ≤ 2000000) (hw : ∀ v ∈ ws, -2000000 ≤ v ∧ v ≤ 2000000) (hl : vs.length = xs.length) (hl2 : ws.length = xs.length) : ∀ i, i ≤ xs.length → -120000000000000 * (i : Int) ≤ pairI xs vs ws i ∧ pairI xs vs ws i ≤ 120000000000000 * (i : Int)
  | 0, _ => by simp [pairI]
  | i + 1, hi => by
    have ih := pairW_bd h hv hw hl hl2 i (by omega)
    have ht := fv_at h (show i < xs.length by omega)
    have hvv := hv (vs.getD i 0) (by rw [getD_at _ _ (by omega)]; exact List.getElem_mem _)
    have hww := hw (ws.getD i 0) (by rw [getD_at _ _ (by omega)]; exact List.getElem_mem _)
    have hb := termW7 ht.2.1 ht.2.2 hvv.1 hvv.2 hww.1 hww.2
    unfold pairI
    push_cast
    omega
theorem grow_two {W W' : World} {B : Nat} {v v' u : Value} {ys : List Int} {o : Obj} (hu : Owns W B u ys) (hne : ∀ k, u.ownBlock = some k → v.ownBlock ≠ some k) (hg : (W.alloc o).grownBy W' v.ownBlock) (hat : v'.ownBlock = v.ownBlock ∨ v'.ownBlock = some (W.alloc o).heap.size) : Owns W' B u ys ∧ ∀ k, u.ownBlock = some k → v'.ownBlock ≠ some k := by
  refine ⟨hu.at_block fun k e => (hg.block k (by simp; have := hu.lt k e; omega) (fun e2 => hne k e e2.symm)).trans (Below.heap_alloc _ _ _ (hu.lt k e)), fun k e e2 => ?_⟩
  rcases hat with h | h
  · exact hne k e (h.symm.trans e2)
  · rw [h] at e2
    have := hu.lt k e
    simp at e2
    omega
theorem owns_made (W : World) {B : Nat} (h : B ≤ W.heap.size) : Owns (W.alloc (.cells #[] 3)) B (.slice (some ⟨W.heap.size, 0, none⟩) 0 0) [] := World.ownsRow_made (size := 1) W #[] 0 h (by unfold maxLen; omega) rfl
theorem rd_cellsAt {w : World} {b o n cap : Nat} {xs : List Int} (h : Rd w (.slice (some ⟨b, o, none⟩) n cap) xs) {i : Nat} (hi : i < xs.length) : w.cell? ⟨b, o + i, none⟩ = some (.int .i64 (xs.getD i 0)) := by
  obtain ⟨a, c, e, hf⟩ := h.form
  simp only [Value.slice.injEq] at e
  obtain ⟨rfl, _, _⟩ := e
  obtain ⟨b2, o2, e2, _, hc⟩ := hf (by omega)
  simp only [Option.some.injEq, Addr.mk.injEq, and_true] at e2
  obtain ⟨rfl, rfl⟩ := e2
  exact hc i hi
theorem rd_some {w : World} {a : Option Addr} {n cap : Nat} {xs : List Int} (h : Rd w (.slice a n cap) xs) (hl : 0 < xs.length) : ∃ b o, a = some ⟨b, o, none⟩ := by
  obtain ⟨a2, c, e, hf⟩ := h.form
  simp only [Value.slice.injEq] at e
  obtain ⟨rfl, _, _⟩ := e
  obtain ⟨b2, o2, e2, _⟩ := hf hl
  exact ⟨b2, o2, e2⟩
theorem app_fact {w wr w3 : World} {pre ys : List Int} {x : Int} {v v' u : Value} {o : Obj} (hO : Owns wr w.heap.size v pre) (hB : Below w.heap.size w wr) (hu : Owns wr w.heap.size u ys) (hne : ∀ k, u.ownBlock = some k → v.ownBlock ≠ some k)
    (hown : World.ownsRow w3 w.heap.size 3 1 v' (pre.length + 1) (pre.map (Value.int .i64) ++ [.int .i64 x])) (hg : (wr.alloc o).grownBy w3 v.ownBlock) (hat : v'.ownBlock = v.ownBlock ∨ v'.ownBlock = some (wr.alloc o).heap.size) :
    Owns w3 w.heap.size v' (pre ++ [x]) ∧ Below w.heap.size w w3 ∧ Owns w3 w.heap.size u ys ∧ ∀ k, u.ownBlock = some k → v'.ownBlock ≠ some k := by
  refine ⟨?_, (hB.alloc hB.size _).grown hg (by simp; have := hB.size; omega) (fun k e => hO.ge k e), grow_two hu hne hg hat⟩
  unfold Owns
  simpa using hown
theorem diff_eq {us vs : List Int} {n : Nat} (hl : us.length = n) (hl2 : vs.length = n) : (us = vs) ↔ someB (diffL us vs 1 n) = false := by
  constructor
  · rintro rfl
    cases h : someB (diffL us us 1 n) with
    | false => rfl
    | true =>
      obtain ⟨v, hv, h0⟩ := someB_iff.1 h
      unfold diffL rowL at hv
      rw [List.mem_map] at hv
      obtain ⟨i, _, rfl⟩ := hv
      omega
  · intro h
    refine list_ext hl hl2 fun i hi => ?_
    have e := someB_no h (i := i)
    rw [diff_at hi] at e
    omega

set_option maxRecDepth 100000 in
set_option maxHeartbeats 1000000 in
theorem pairAtW_any (vf vv vw : Value) (xs vs ws : List Int) (w : World) (hx : Rd w vf xs) (hv : Rd w vv vs) (hw : Rd w vw ws) (hf : fvB xs = true) (bv : ∀ v ∈ vs, -2000000 ≤ v ∧ v ≤ 2000000) (bw : ∀ v ∈ ws, -2000000 ≤ v ∧ v ≤ 2000000) (hl : vs.length = xs.length) (hl2 : ws.length = xs.length) :
    Calls Try.prog 58 #[vf, vv, vw] w fun e w' => e = .returned (.int .i64 (pairI xs vs ws xs.length)) ∧ ∃ k, w' = w.drewN k := by
  obtain ⟨a, cap, rfl, hform⟩ := hx.form
  obtain ⟨a', cap', rfl, hform'⟩ := hv.form
  obtain ⟨a3, cap3, rfl, hform3⟩ := hw.form
  have HFM := hid hform
  have HFV := hid hform'
  have HFW := hid hform3
  have HF := hid hf
  have HVB := hid bv
  have HWB := hid bw
  have HL := hid hl
  have HL2 := hid hl2
  have hl4 := (fvB_iff.1 hf).2.2
  clear hform hform' hform3 hx hv hw hf bv bw hl hl2
  go_enter Try.func58, Try.ntmps58
  go_wp2_with fail
  go_loopw [7, 12] (fun so si wr => ∃ K k : Nat, si = .int .i64 K ∧ K ≤ xs.length ∧ so = .int .i64 (pairI xs vs ws K) ∧ wr = w.drewN k) (fun _ si _ => xs.length - (intOf si).toNat)
  case atStart => exact ⟨0, 0, rfl, by omega, rfl, rfl⟩
  case round =>
    obtain ⟨K, k, rfl, hK, rfl, rfl⟩ := hrel
    by_cases hlt : K < xs.length
    · obtain ⟨b, o, rfl, hml, hc⟩ := HFM.out (by omega)
      obtain ⟨b', o', rfl, hml', hc'⟩ := HFV.out (by have := HL.out; omega)
      obtain ⟨b3, o3, rfl, hml3, hc3⟩ := HFW.out (by have := HL2.out; omega)
      have hcell := hc K hlt
      have hcell' := hc' K (by have := HL.out; omega)
      have hcell3 := hc3 K (by have := HL2.out; omega)
      have ht := fv_at HF.out hlt
      have hv1 := HVB.out (vs.getD K 0) (by rw [getD_at _ _ (by have := HL.out; omega)]; exact List.getElem_mem _)
      have hw1 := HWB.out (ws.getD K 0) (by rw [getD_at _ _ (by have := HL2.out; omega)]; exact List.getElem_mem _)
      have hbd := termW7 ht.2.1 ht.2.2 hv1.1 hv1.2 hw1.1 hw1.2
      have hvb := pairW_bd HF.out HVB.out HWB.out HL.out HL2.out K (by omega)
      have hst : pairI xs vs ws (K + 1) = pairI xs vs ws K + xs.getD K 0 * vs.getD K 0 * ws.getD K 0 := rfl
      obtain ⟨x, hx⟩ : ∃ x, x = xs.getD K 0 := ⟨_, rfl⟩
      obtain ⟨y, hy⟩ : ∃ y, y = vs.getD K 0 := ⟨_, rfl⟩
      obtain ⟨z, hz⟩ : ∃ z, z = ws.getD K 0 := ⟨_, rfl⟩
      obtain ⟨s, hs⟩ : ∃ s, s = pairI xs vs ws K := ⟨_, rfl⟩
      rw [← hx] at hcell hst hbd
      rw [← hy] at hcell' hst hbd
      rw [← hz] at hcell3 hst hbd
      rw [← hs] at hst hvb ⊢
      have hKi : (K : Int) < (xs.length : Int) := by omega
      have hKj : (K : Int) < (vs.length : Int) := by have := HL.out; omega
      have hKl : (K : Int) < (ws.length : Int) := by have := HL2.out; omega
      have HLT := hid hlt
      have HST := hid hst
      have b1 := hbd.1
      have b2 := hbd.2.1
      have b3' := hbd.2.2.1
      have b4 := hbd.2.2.2
      have s1 := hvb.1
      have s2 := hvb.2
      clear hx hy hz hs hc hc' hc3 hml hml' hml3 hlt hbd hvb hst ht hv1 hw1
      go_wp2_with fail
      go_quiet (fail)
      go_wp2_with fail
      go_roundw
      case measure => simp only [intOf]; have := HLT.out; omega
      case rel => exact ⟨K + 1, _, by go_num, by have := HLT.out; omega, vI HST.out.symm, by first | rfl | exact World.drewN_drewN ..⟩
    · obtain rfl : K = xs.length := by omega
      clear hlt
      go_wp2_with fail
      go_ret
      exact ⟨rfl, k, rfl⟩

def HandPost (R : List (List Int)) (w : World) (e : Ending) (w' : World) : Prop := ∃ u, e = .returned u ∧ OwnM w' w.heap.size none u R ∧ Below w.heap.size w w'
set_option maxRecDepth 100000 in
set_option maxHeartbeats 8000000 in
theorem between_any (vf vu vv : Value) (xs us vs : List Int) (w : World) (hx : Rd w vf xs) (hu : Rd w vu us) (hv : Rd w vv vs) (hf : frm3B xs = true) (hub : ∀ v ∈ us, -1000000 ≤ v ∧ v ≤ 1000000) (hvb : ∀ v ∈ vs, -1000000 ≤ v ∧ v ≤ 1000000) (hul : us.length = xs.length) (hvl : vs.length = xs.length)
    (hS : valI xs (diffL us vs 1 xs.length) xs.length = 0 → ∃ v ∈ diffL us vs (-1) xs.length, v ≠ 0) (hV : ∃ v ∈ vs, v ≠ 0) : Calls Try.prog 78 #[vf, vu, vv] w (HandPost (carryL xs us vs) w) := by
  obtain ⟨i0, hi0, hz0, hz1, hz2⟩ := info_parts infoInt
  obtain ⟨ax, cx, rfl, _⟩ := hx.form
  obtain ⟨au, cu, rfl, _⟩ := hu.form
  obtain ⟨av, cv, rfl, _⟩ := hv.form
  obtain ⟨n, hn⟩ : ∃ n, n = xs.length := ⟨_, rfl⟩
  have HX := hid hx
  have HU := hid hu
  have HV := hid hv
  have hfv : fvB xs = true := by unfold frm3B at hf; rw [Bool.and_eq_true] at hf; exact hf.1
  have hn3 : n ≤ 3 := by unfold frm3B at hf; rw [Bool.and_eq_true, decide_eq_true_eq, ← hn] at hf; exact hf.2
  have hn1 : 1 ≤ n := by rw [hn]; exact (fvB_iff.1 hfv).2.1
  have HEQ : Hid (Calls Try.prog 97 #[.slice au us.length cu, .slice av vs.length cv] w fun e w' => e = .returned (.bool (decide (us = vs))) ∧ Below w.heap.size w w') := hid ((slEq_any _ _ us vs w hu hv (by omega) (by omega)).mono (by rintro e w' ⟨rfl, k, rfl⟩; exact ⟨rfl, below_drewN (Below.refl _ _) k⟩))
  have HCL : Hid (carryL xs us vs = if someB (diffL us vs 1 n) = false then [] else if valI xs (diffL us vs 1 n) n = 0 then [plainL (diffL us vs (-1) n), plainL vs] else [plainL (diffL us vs 1 n)]) := hid (by rw [hn]; rfl)
  rw [hul, ← hn] at HU HEQ
  rw [hvl, ← hn] at HV HEQ
  rw [← hn] at HX hul hvl hS
  have hde := diff_eq hul hvl
  have HBU := hid (fF_bd (by omega) hub)
  have HBV := hid (fF_bd (by omega) hvb)
  have HDB := hid (diff_bd (n := n) (c := 1) (by omega) (.inl rfl) hub hvb)
  have HSB := hid (diff_bd (n := n) (c := -1) (by omega) (.inr rfl) hub hvb)
  have HVB := hid hvb
  have HFV := hid hfv
  have HS2 := hid hS
  have HS3 := hid hV
  have HVL := hid hvl
  have HUL := hid hul
  have HNX := hid hn
  rw [hul, hvl]
  rw [← hn]
  clear hx hu hv hf hub hvb hS hV hfv
  by_cases he : us = vs
  · have HE : Hid (carryL xs us vs = []) := hid (by rw [HCL.out, if_pos (hde.1 he)])
    rw [decide_eq_true he] at HEQ
    clear he hde hul hvl hn
    go_enter Try.func78, Try.ntmps78
    go_wp2_with fail
    refine HEQ.out.mono ?_
    rintro e w1 ⟨rfl, hb1⟩
    have HB1 := hid hb1
    clear hb1
    go_wp2_with fail
    go_ret
    exact ⟨_, rfl, by rw [HE.out]; exact (ownM_none _ none (by simp)).down HB1.out.size, HB1.out.alloc HB1.out.size _⟩
  · have hds : someB (diffL us vs 1 n) = true := by
      cases h : someB (diffL us vs 1 n) with
      | true => rfl
      | false => exact absurd (hde.2 h) he
    have HDS := hid (someB_iff.1 hds)
    have HCL2 : Hid (carryL xs us vs = if valI xs (diffL us vs 1 n) n = 0 then [plainL (diffL us vs (-1) n), plainL vs] else [plainL (diffL us vs 1 n)]) := hid (by rw [HCL.out, if_neg (by rw [hds]; simp)])
    rw [decide_eq_false he] at HEQ
    clear he hde hul hvl hn hds
    go_enter Try.func78, Try.ntmps78
    go_wp2_with fail
    refine HEQ.out.mono ?_
    rintro e w1 ⟨rfl, hb1⟩
    have HB1 := hid hb1
    have HB12 : Hid (Below w.heap.size w ((w1.alloc (.cells #[] 3)).alloc (.cells #[] 3))) := hid ((hb1.alloc hb1.size _).alloc (by simp; have := hb1.size; omega) _)
    have HD0 : Hid (Owns ((w1.alloc (.cells #[] 3)).alloc (.cells #[] 3)) w.heap.size (.slice (some ⟨w1.heap.size, 0, none⟩) 0 0) []) := hid ((show Owns (w1.alloc (.cells #[] 3)) w.heap.size _ [] from World.ownsRow_made (size := 1) w1 #[] 0 hb1.size (by unfold maxLen; omega) rfl).at_block fun g e => Below.heap_alloc _ _ _ (by cases e; simp))
    have HS0 : Hid (Owns ((w1.alloc (.cells #[] 3)).alloc (.cells #[] 3)) w.heap.size (.slice (some ⟨w1.heap.size + 1, 0, none⟩) 0 0) []) := hid (by
      have h := owns_made (w1.alloc (.cells #[] 3)) (B := w.heap.size) (by simp; have := hb1.size; omega)
      simpa using h)
    obtain ⟨bu, ou, rfl⟩ := rd_some HU.out (by rw [HUL.out]; omega)
    obtain ⟨bv, ov, rfl⟩ := rd_some HV.out (by rw [HVL.out]; omega)
    clear hb1
    go_wp2_with fail
    go_loopw [7, 8, 19] (fun sd ss si wr => ∃ i : Nat, si = .int .i64 i ∧ i ≤ n ∧ Hid (Owns wr w.heap.size sd ((diffL us vs 1 n).take i)) ∧ Hid (Owns wr w.heap.size ss ((diffL us vs (-1) n).take i)) ∧ Hid (∀ k, ss.ownBlock = some k → sd.ownBlock ≠ some k) ∧ Hid (Below w.heap.size w wr)) (fun _ _ si _ => n - (intOf si).toNat)
    case atStart => exact ⟨0, rfl, by omega, hid (by simpa using HD0.out), hid (by simpa using HS0.out), hid (fun k e e2 => by cases e; simp [Value.ownBlock] at e2), HB12⟩
    case round =>
      obtain ⟨i, rfl, hi, HO, HP, HNE, HBW⟩ := hrel
      rename World => wr
      by_cases hlt : i < n
      · have e1 := rd_cellsAt (HU.out.keep HBW.out) (i := i) (by rw [HUL.out]; exact hlt)
        have e2 := rd_cellsAt (HV.out.keep HBW.out) (i := i) (by rw [HVL.out]; exact hlt)
        have b1 := HBU.out i
        have b2 := HBV.out i
        have HTK := hid (rowL_take n (fun r => fF us r - 1 * fF vs r) hlt)
        have HTS := hid (rowL_take n (fun r => fF us r - -1 * fF vs r) hlt)
        have HV3 := hid (fun (w3 : World) (hb : Below w.heap.size w w3) => rd_cellsAt (HV.out.keep hb) (i := i) (by rw [HVL.out]; exact hlt))
        have h1 : fF us i = us.getD i 0 := rfl
        have h2 : fF vs i = vs.getD i 0 := rfl
        rw [h1] at b1
        rw [h2] at b2
        simp only [h1, h2] at HTK HTS
        obtain ⟨x, hxe⟩ : ∃ x, x = us.getD i 0 := ⟨_, rfl⟩
        obtain ⟨y, hye⟩ : ∃ y, y = vs.getD i 0 := ⟨_, rfl⟩
        rw [← hxe] at e1 b1 HTK HTS
        rw [← hye] at e2 b2 HTK HTS HV3
        rw [show x - 1 * y = x - y by omega] at HTK
        rw [show x - -1 * y = x + y by omega] at HTS
        have f1 := wrapW (x := x - y) (by omega) (by omega)
        have f2 := wrapW (x := x + y) (by omega) (by omega)
        obtain ⟨pre, hpre⟩ : ∃ pre, pre = (diffL us vs 1 n).take i := ⟨_, rfl⟩
        obtain ⟨prs, hprs⟩ : ∃ prs, prs = (diffL us vs (-1) n).take i := ⟨_, rfl⟩
        have hprel : pre.length ≤ 4 := by rw [hpre, List.length_take]; unfold diffL; rw [row_len]; omega
        have hprsl : prs.length ≤ 4 := by rw [hprs, List.length_take]; unfold diffL; rw [row_len]; omega
        have HTK2 : Hid ((diffL us vs 1 n).take (i + 1) = pre ++ [x - y]) := hid (by rw [hpre]; exact HTK.out)
        have HTS2 : Hid ((diffL us vs (-1) n).take (i + 1) = prs ++ [x + y]) := hid (by rw [hprs]; exact HTS.out)
        rw [← hpre] at HO
        rw [← hprs] at HP
        have hin : (i : Int) < (n : Int) := by omega
        have HLT := hid hlt
        have hbs : w.heap.size ≤ wr.heap.size := HBW.out.size
        have HF1 := hid (fun (v' : Value) (w3 : World) hown hg hat => app_fact (w := w) (wr := wr) (w3 := w3) (v' := v') (x := x - y) (o := .cells #[.int .i64 (x - y)] 3) HO.out HBW.out HP.out HNE.out hown hg hat)
        have HF2M := hid (fun (va : Value) (w3 : World) (ho : Owns w3 w.heap.size va (pre ++ [x - y])) (hb : Below w.heap.size w w3) (hp : Owns w3 w.heap.size u8 prs) (hne : ∀ k, u8.ownBlock = some k → va.ownBlock ≠ some k) (v' : Value) (w4 : World) hown hg hat => app_fact (w := w) (wr := w3) (w3 := w4) (v' := v') (x := x + y) (o := .cells #[.int .i64 (x + y)] 3) hp hb ho (fun k e e2 => hne k e2 e) hown hg hat)
        have hi := hi0
        clear hxe hye h1 h2 hpre hprs HTK HTS hlt
        go_wp2_with (first | (at_builtin; refine wpList_append_own_at _ rfl _ _ 22 rfl w.heap.size 3 i0 (.int .i64 0) 1 8 Try.underlying22 hi hz0 hz1 hz2 rfl (by decide) _ _ _ rfl ((show World.ownsRow _ _ _ _ _ _ _ from HP3.out).alloc _) ⟨w3.heap.size, 0, none⟩ 1 1 [.int .i64 (x + y)] rfl rfl (cell_one_new _ _ _) (by simp [Value.oneCell']) (by unfold maxLen; omega) (by omega) (by simp; omega) ?_; intro v2 w4 hown2 hgrow2 _ hat2; obtain ⟨ho4, hb4, hp4, hne4⟩ := HF2.out _ _ hown2 hgrow2 hat2; have HO4 := hid ho4; have HB4 := hid hb4; have HP4 := hid hp4; have HNE4 := hid hne4; clear ho4 hb4 hp4 hne4 hown2 hgrow2 hat2 e3) | (at_builtin; refine wpList_append_own_at _ rfl _ _ 22 rfl w.heap.size 3 i0 (.int .i64 0) 1 8 Try.underlying22 hi hz0 hz1 hz2 rfl (by decide) _ _ _ rfl ((show World.ownsRow _ _ _ _ _ _ _ from HO.out).alloc _) ⟨wr.heap.size, 0, none⟩ 1 1 [.int .i64 (x - y)] rfl rfl (cell_one_new _ _ _) (by simp [Value.oneCell']) (by unfold maxLen; omega) (by omega) (by simp; omega) ?_; intro v' w3 hown' hgrow _ hat; obtain ⟨ho3, hb3, hp3, hne3⟩ := HF1.out _ _ hown' hgrow hat; have HO3 := hid ho3; have HB3 := hid hb3; have HP3 := hid hp3; have HNE3 := hid hne3; have HF2 := hid (HF2M.out v' w3 ho3 hb3 hp3 hne3); have e3 := HV3.out _ hb3; have hbs3 : w.heap.size ≤ w3.heap.size := hb3.size; clear ho3 hb3 hp3 hne3 hown' hgrow hat e1 e2))
        go_roundw
        case measure => simp only [intOf]; have := HLT.out; omega
        case rel => exact ⟨i + 1, by go_num, HLT.out, hid (by rw [HTK2.out]; exact HP4.out), hid (by rw [HTS2.out]; exact HO4.out), hid (fun k e e2 => HNE4.out k e2 e), HB4⟩
      · obtain rfl : i = n := by omega
        have ED : (diffL us vs 1 i).take i = diffL us vs 1 i := List.take_of_length_le (by unfold diffL; rw [row_len]; exact Nat.le_refl _)
        have ES : (diffL us vs (-1) i).take i = diffL us vs (-1) i := List.take_of_length_le (by unfold diffL; rw [row_len]; exact Nat.le_refl _)
        have LD : (diffL us vs 1 i).length = i := by unfold diffL; rw [row_len]
        have LS : (diffL us vs (-1) i).length = i := by unfold diffL; rw [row_len]
        rw [ED] at HO
        rw [ES] at HP
        have hdv := pairW_bd (xs := xs) HFV.out HDB.out HDB.out (by rw [LD, HNX.out]) (by rw [LD, HNX.out]) i (by rw [HNX.out]; exact Nat.le_refl _)
        rw [pair_self] at hdv
        have HXr := hid (HX.out.keep HBW.out)
        have HPA : Hid (Calls Try.prog 58 #[.slice ax i cx, u7, u7] wr fun e w' => e = .returned (.int .i64 (valI xs (diffL us vs 1 i) i)) ∧ Below wr.heap.size wr w') := hid (by
          have h := pairAtW_any _ _ _ xs _ _ wr HXr.out HO.out.rd HO.out.rd HFV.out HDB.out HDB.out (by rw [LD, HNX.out]) (by rw [LD, HNX.out])
          refine h.mono ?_
          rintro e w' ⟨rfl, k, rfl⟩
          exact ⟨by rw [pair_self, ← HNX.out], below_drewN (Below.refl _ _) k⟩)
        have HPD := hid (fun (wx : World) (h : Rd wx u7 (diffL us vs 1 i)) => plainOfW_any _ _ wx h (by rw [LD]; omega) (fun v hv => by have := HDB.out v hv; omega) HDS.out)
        have HPV := hid (fun (wx : World) (h : Rd wx (.slice (some ⟨bv, ov, none⟩) i cv) vs) => plainOfW_any _ _ wx h (by rw [HVL.out]; omega) (fun v hv => by have := HVB.out v hv; omega) HS3.out)
        have HPS := hid (fun (h0 : valI xs (diffL us vs 1 i) i = 0) (wx : World) (h : Rd wx u8 (diffL us vs (-1) i)) => plainOfW_any _ _ wx h (by rw [LS]; omega) (fun v hv => by have := HSB.out v hv; omega) (HS2.out h0))
        obtain ⟨a7, c7, rfl⟩ := HO.out.reads
        obtain ⟨a8, c8, rfl⟩ := HP.out.reads
        obtain ⟨D, hD⟩ : ∃ D, D = diffL us vs 1 i := ⟨_, rfl⟩
        obtain ⟨S, hS⟩ : ∃ S, S = diffL us vs (-1) i := ⟨_, rfl⟩
        obtain ⟨q, hq⟩ : ∃ q, q = valI xs D i := ⟨_, rfl⟩
        rw [← hD, ← hS]
        rw [← hD] at HO HCL2 HPD
        rw [← hD] at HPA HPS hdv
        rw [← hS] at HP HCL2 HPS
        rw [← hq] at hdv HCL2 HPS HPA
        clear hD hS hq ED ES LD LS hlt
        by_cases h0 : q = 0
        · subst h0
          have HPS2 := hid (HPS.out rfl)
          have HE : Hid (carryL xs us vs = [plainL S, plainL vs]) := hid (by rw [HCL2.out, if_pos rfl])
          go_wp2_with fail
          refine HPA.out.mono ?_
          rintro e w6 ⟨rfl, hb6⟩
          have HB6 := hid (HBW.out.trans (hb6.mono HBW.out.size))
          have HP6 := hid (HP.out.keep HP.out.lt hb6)
          clear hb6
          go_wp2_with fail
          refine (HPS2.out _ HP6.out.rd).mono ?_
          rintro e w7 ⟨u, rfl, ho7, hb7⟩
          have HB7 := hid (HB6.out.trans (hb7.mono HB6.out.size))
          have HO7 := hid ho7
          have HV7 := hid (HV.out.keep HB7.out)
          clear ho7 hb7
          go_wp2_with fail
          refine (HPV.out _ HV7.out).mono ?_
          rintro e w8 ⟨u9, rfl, ho9, hb9⟩
          have HB8 := hid (HB7.out.trans (hb9.mono HB7.out.size))
          have HL := hid (ownM_lit2 ((HO7.out.keep HO7.out.lt hb9).down (B := w.heap.size) HB6.out.size) (ho9.down (B := w.heap.size) HB7.out.size) (fun k e e2 => by have h1 := HO7.out.lt k e; have h2 := ho9.ge k e2; omega) HB8.out.size)
          obtain ⟨ay, cy, rfl⟩ := HO7.out.reads
          obtain ⟨az, cz, rfl⟩ := ho9.reads
          clear ho9 hb9
          go_wp2_with fail
          go_ret
          exact ⟨_, rfl, by rw [HE.out]; exact HL.out, HB8.out.alloc HB8.out.size _⟩
        · have Q0 : (q != 0) = true := by rw [bne_iff_ne]; exact h0
          have HE : Hid (carryL xs us vs = [plainL D]) := hid (by rw [HCL2.out, if_neg h0])
          clear h0
          go_wp2_with fail
          refine HPA.out.mono ?_
          rintro e w6 ⟨rfl, hb6⟩
          have HB6 := hid (HBW.out.trans (hb6.mono HBW.out.size))
          have HO6 := hid (HO.out.keep HO.out.lt hb6)
          clear hb6
          go_wp2_with fail
          refine (HPD.out _ HO6.out.rd).mono ?_
          rintro e w7 ⟨u, rfl, ho7, hb7⟩
          have HB7 := hid (HB6.out.trans (hb7.mono HB6.out.size))
          have HL := hid (ownM_lit1 (ho7.down (B := w.heap.size) HB6.out.size) HB7.out.size)
          obtain ⟨ay, cy, rfl⟩ := ho7.reads
          clear ho7 hb7
          go_wp2_with fail
          go_ret
          exact ⟨_, rfl, by rw [HE.out]; exact HL.out, HB7.out.alloc HB7.out.size _⟩

end Go.Proofs.Ytjabklpnohfjpab
