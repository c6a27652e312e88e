/-
  Proves: for every code: what is solved up to a power is solved up to the one below, and up to a high power of 2 or 3 only where the symbol of two cores is 1.
  Conditions: none beyond the given statement's own.
-/
import Derived.Test.YtdidmblkknnglaaImpC
import Derived.Test.YtdidmblkknnglaaPlacesG
import Derived.Test.YtdidmblkknnglaaImp3A
import Derived.Test.YtdidmblkknnglaaVals3
import Derived.Test.YtdidmblkknnglaaRows
import Derived.Test.YtdidmblkknnglaaSymLaw
import Derived.Test.YtdidmblkknnglaaLaw4
import Derived.Test.YtdidmblkknnglaaCore2
import Derived.Test.YtdidmblkknnglaaSym7
import Derived.Test.YtdidmblkknnglaaDraws4
import Derived.Test.YtdidmblkknnglaaRowWord
import Derived.ProofKit
import Derived.OpenShut
import Derived.ShutString
import Derived.ChangeOld
set_option linter.unusedVariables false
namespace Go.Proofs.Ytdidmblkknnglaa
open Go.RowKit Go.Shelf
attribute [local go_sem] Oper.semAt_some

def plcs (l : List Nat) : List Int := [0, 2] ++ (natsI l).filter (fun x => decide (2 < x))
theorem plcs_yes {l : List Nat} {x : Nat} (h : 2 < x) : plcs (l ++ [x]) = plcs l ++ [(x : Int)] := by
  unfold plcs
  rw [natsI_snoc, List.filter_append, List.filter_cons, if_pos (by rw [decide_eq_true_eq]; omega), List.append_assoc]
  rfl
theorem plcs_no {l : List Nat} {x : Nat} (h : ¬ 2 < x) : plcs (l ++ [x]) = plcs l := by
  unfold plcs
  rw [natsI_snoc, List.filter_append, List.filter_cons, if_neg (by rw [decide_eq_true_eq]; omega), List.filter_nil, List.append_nil]
theorem plcs_len (l : List Nat) : (plcs l).length ≤ l.length + 2 := by
  unfold plcs
  have h3 := List.length_filter_le (fun x : Int => decide (2 < x)) (natsI l)
  rw [natsI_len] at h3
  rw [List.length_append]
  simp only [List.length_cons, List.length_nil]
  omega
theorem fsts_len (l : List PP) : (fsts l).length = l.length := by unfold fsts; rw [List.length_map]

set_option maxRecDepth 100000 in
set_option maxHeartbeats 2000000 in
theorem placesOf_any (n : Int) (h0 : n ≠ 0) (a1 : -5000 ≤ n) (a2 : n ≤ 5000) (w : World) :
    Calls Try.prog 64 #[.int .i64 n] w fun e w' => ∃ v, e = .returned v ∧ Owns w' w.heap.size v (placesOf n) ∧ Below w.heap.size w w' := by
  obtain ⟨i0, hi, hz0, hz1, hz2⟩ := info_parts infoInt
  have HPL : Hid (placesOf n = plcs ((ppow n.natAbs).map (·.1))) := hid (by unfold plcs placesOf; rw [plist_eq])
  obtain ⟨v0, hv0⟩ : ∃ v0 : Value, v0 = .slice (some ⟨w.heap.size, 0, none⟩) 2 2 := ⟨_, rfl⟩
  have hr0 : (w.alloc (.cells #[.int .i64 0, .int .i64 2] 3)).ownsRow w.heap.size 3 1 v0 2 [.int .i64 0, .int .i64 2] := by
    rw [hv0]; exact World.ownsRow_lit w #[.int .i64 0, .int .i64 2] 2 (Nat.le_refl _) (by unfold maxLen; omega) rfl
  have hB0 : Below w.heap.size w (((w.alloc (.cells #[.int .i64 0, .int .i64 2] 3)).alloc (.cells #[v0] 28)).alloc (.cells #[.int .i64 n] 53)) := (((Below.refl _ _).alloc (Nat.le_refl _) _).alloc (by simp) _).alloc (by simp; omega) _
  have bO := (Boxed.new (w.alloc (.cells #[.int .i64 0, .int .i64 2] 3)) 28 v0).alloc (.cells #[.int .i64 n] 53)
  have bN := Boxed.new ((w.alloc (.cells #[.int .i64 0, .int .i64 2] 3)).alloc (.cells #[v0] 28)) 53 (.int .i64 n)
  simp only [World.size_alloc] at bN bO
  have hrN := (hr0.alloc (.cells #[v0] 28)).alloc (.cells #[.int .i64 n] 53)
  have H0 := hid h0
  subst hv0
  clear h0 hr0
  refine (callsIn_wide (n := 5)).1 ?_
  refine callsIn_of_wp_marks Try.func64 rfl trivial ?_ rfl
  simp only [Try.ntmps64, List.size_toArray, List.length_cons, List.length_nil, Nat.reduceAdd, Nat.reduceSub, Array.replicate_succ, Array.replicate_zero, List.push_toArray, List.append_toArray, List.nil_append, List.cons_append]
  gi_wp2_with (refine ⟨trivial, ?_⟩; gi_at_call 78; refine (callsIn_wide.2 (pp_make _ _)).mono ?_; rintro e w' ⟨rfl, rfl⟩)
  refine wpIn_rangeFunc_ownG rfl (by omega) (gf := 99) (lb := #[.pointer (some ⟨w.heap.size + 1 + 1, 0, none⟩)]) rfl trivial (enters_of Try.func99 (by kernel_rfl) rfl)
    (pp_stops _ (w.heap.size + 1 + 1) n H0.out (by omega) (by omega) _ (by simp) bN.cell) walksK_t walksK_b (Below.refl _ _) (fun _ => rfl)
    (fun pre W => (∃ v, Boxed W (w.heap.size + 1) 28 v ∧ W.ownsRow w.heap.size 3 1 v (plcs (fsts pre)).length ((plcs (fsts pre)).map (Value.int .i64)) ∧ True) ∧ Below w.heap.size w W)
    (fun _ _ _ => False)
    (OwnFrom.and (Own.from (holdsRow_own w.heap.size (w.heap.size + 1) 28 3 1 (fun pre => (plcs (fsts pre)).length) (fun pre => (plcs (fsts pre)).map (Value.int .i64)) (fun _ _ => True)) _) (ownFrom_below (Nat.le_refl _) (by simp; omega)))
    (fun _ _ _ _ _ hs _ _ => hs)
    ⟨⟨_, bO, hrN, trivial⟩, hB0⟩ ?a1 ?assign ?body ?done ?stop
  case assign =>
    intro l x W K hK
    gi_wp2
    exact hK
  case body =>
    rintro l pre x W ⟨⟨v, hv, hrow, _⟩, hB⟩ hlt
    have hc := hv.cell
    have hpl := ppow_len n.natAbs
    have hll := plcs_len (fsts pre)
    rw [fsts_len] at hll
    by_cases hx : 2 < x.1.1
    · have hxi : (2 : Int) < (x.1.1 : Int) := by omega
      have HX := hid hx
      clear hx
      gi_wp2_with (gi_at_builtin; refine wpListIn_append_own _ rfl _ _ 28 rfl w.heap.size 3 i0 (.int .i64 0) 1 8 Try.underlying28 hi hz0 hz1 hz2 rfl (by decide) _ _ _ rfl (hrow.alloc _) ⟨W.heap.size, 0, none⟩ 1 1 [.int .i64 x.1.1] rfl rfl (cell_one_new _ _ _) (by simp [Value.oneCell']) (by unfold maxLen; omega) (by omega) (by have := hB.size; simp; omega) ?_; intro v' w1 hown' hgrow _; obtain ⟨g', cap', rfl⟩ := ownsRow_succ hown'; obtain ⟨hv1, hv2, hr2, hk2, hb2⟩ := hv.appended (by decide) hrow hB.size (by omega) hown' hgrow; have hc1 := hv1.cell; have hf1 := hv1.frozen)
      exact ⟨hk2.from _, hk2.walks, ⟨_, hv2, by rw [fsts_snoc, plcs_yes HX.out]; simpa using hr2, trivial⟩, hB.trans hb2⟩
    · have hxi : ¬ (2 : Int) < (x.1.1 : Int) := by omega
      have HX := hid hx
      clear hx
      gi_wp2
      exact ⟨KeepsFrom.refl _ _, KeepsWalks.refl _, ⟨v, hv, by rw [fsts_snoc, plcs_no HX.out]; exact hrow⟩, hB⟩
  case done =>
    rintro D ys W hD hS ⟨⟨v, hv, hrow, _⟩, hB⟩ hK
    have hc := hv.cell
    rw [fsts_all hS] at hrow
    have HP2 := HPL
    gi_wp2
    refine ⟨by simp, .inl ⟨_, _, rfl, run_takeDeferred hK, ?_⟩⟩
    refine ⟨_, results_tmp rfl _ _ _, ?_⟩
    exact ⟨v, rfl, by unfold Owns; rw [HPL.out]; exact ownsRow_putObj hrow _ hK rfl, hB.trans (belowK_b (w := w) (Nat.le_refl _) W D _ _ (by simp at hD; omega) hK rfl rfl)⟩
  case stop =>
    rintro D c pre W _ _ h _
    exact h.elim

end Go.Proofs.Ytdidmblkknnglaa

set_option linter.unusedVariables false
namespace Go.Proofs.Ytdidmblkknnglaa
open Go.RowKit Go.Shelf
attribute [local go_sem] Oper.semAt_some

def ppowG (n : Nat) : List (Nat × Nat) := ppGo (n + 1) 2 n
theorem plistG_eq (n : Nat) : plistG n = (ppowG n).map (·.1) := plGo_eq _ _ _
theorem ppowG_len (n : Nat) : (ppowG n).length ≤ n + 1 := ppGo_len _ _ _
theorem sq_le5 {p n : Nat} (h : p * p ≤ n) (hn : n ≤ 25000000) : p ≤ 5000 := by
  by_cases hp : p ≤ 5000
  · exact hp
  · have := Nat.mul_le_mul (show 5001 ≤ p by omega) (show 5001 ≤ p by omega)
    omega

set_option maxRecDepth 100000 in
set_option maxHeartbeats 2000000 in
theorem ppG_in (n l Bn : Nat) (a : Int) (h0 : a ≠ 0) (ha1 : -25000000 ≤ a) (ha2 : a ≤ 25000000) (J Jx : List (Nat × Nat) → World → Prop)
    (hY : ∀ pre x W, J pre W → x.1 ≤ 25000000 → x.2 ≤ 25000000 → pre.length < (ppowG a.natAbs).length → YieldAt Fence.wide (n - 1) Try.prog l (encPP x) W fun e W' =>
      (e = .returned (.bool true) ∧ J (pre ++ [x]) W' ∧ KeepsWalks W W') ∨ (e = .returned (.bool false) ∧ Jx (pre ++ [x]) W'))
    (W : World) (hBn : W.cell? ⟨Bn, 0, none⟩ = some (.int .i64 a)) (hJ0 : J [] W) :
    CallsIn Fence.wide n Try.prog 99 #[.func (.yield l) #[] #[], .pointer (some ⟨Bn, 0, none⟩)] W fun e W' => (∃ v, e = .returned v) ∧
      ((∃ ys, ys = ppowG a.natAbs ∧ J ys W') ∨ (∃ pre, pre <+: ppowG a.natAbs ∧ Jx pre W')) := by
  obtain ⟨N, hN⟩ : ∃ N, N = a.natAbs := ⟨_, rfl⟩
  rw [← hN] at hY ⊢
  have hN1 : 1 ≤ N := by omega
  have hN2 : N ≤ 25000000 := by omega
  have HN := hid hN
  clear hN
  refine callsIn_of_wp Try.func99 rfl trivial ?_ rfl
  simp only [Try.ntmps99, List.size_toArray, List.length_cons, List.length_nil, Nat.reduceAdd, Nat.reduceSub, Array.replicate_succ, Array.replicate_zero, List.push_toArray, List.append_toArray, List.nil_append, List.cons_append]
  gi_wp2_with (refine ⟨trivial, wide_depth n, ?_⟩; gi_at_call 100; refine (callsIn_wide.2 (size_any _ (by omega) (by omega) _)).mono ?_; rw [← HN.out]; rintro e w' ⟨rfl, rfl⟩)
  gi_loopw [3, 4] (fun sl sp wr => ∃ (pre : List (Nat × Nat)) (L p f : Nat), sl = .int .i64 L ∧ sp = .int .i64 p ∧ 1 ≤ L ∧ L ≤ N ∧ 2 ≤ p ∧ p ≤ 5001 ∧ p ≤ N + 2 ∧ p + f = N + 3 ∧ Hid (ppowG N = pre ++ ppGo f p L) ∧ J pre wr)
    (fun _ sp _ => (5001 - intOf sp).toNat)
  case atStart =>
    exact ⟨[], N, 2, N + 1, rfl, rfl, hN1, Nat.le_refl _, by omega, by omega, by omega, by omega, hid rfl, hJ0⟩
  case round =>
    obtain ⟨pre, L, p, f, rfl, rfl, hL1, hLN, hp2, hp7, hpN, hf, HP, hJs⟩ := hrel
    have hL2 : L ≤ 25000000 := by omega
    have hKK := mul_bd (show p ≤ 5001 by omega) (show p ≤ 5001 by omega)
    obtain ⟨g, rfl⟩ : ∃ g, f = g + 1 := ⟨f - 1, by omega⟩
    by_cases hle : (p : Int) * p ≤ L
    · have hle' : p * p ≤ L := by exact_mod_cast hle
      have hp70 := sq_le5 hle' hL2
      have hpL : p ≤ L := Nat.le_trans (Nat.le_mul_of_pos_left p (by omega)) hle'
      obtain ⟨K, hK⟩ : ∃ K, K = val L p := ⟨_, rfl⟩
      have HK := hid hK
      have HD := hid (val_dvd p hp2 L L (Nat.le_refl _) (by omega))
      have hKb : K ≤ 25000000 := by
        rw [hK]; exact Nat.le_trans (val_le p hp2 L L (Nat.le_refl _)) hL2
      clear hK
      by_cases hd : L % p = 0
      · have hKp : 0 < K := by rw [HK.out, val_step hp2 (by omega) hd]; omega
        have HE : Hid (ppGo (g + 1) p L = (p, K) :: ppGo g (p + 1) (L / p ^ K)) := by show _ = _; rw [HK.out]; conv => lhs; unfold ppGo
                                                                                      rw [if_pos hle', if_pos hd]
        have hq1 : 1 ≤ L / p ^ K := Nat.div_pos (Nat.le_of_dvd (by omega) (by rw [HK.out]; exact HD.out)) (Nat.pow_pos (by omega))
        have hq2 : L / p ^ K ≤ N := Nat.le_trans (Nat.div_le_self _ _) hLN
        have hlen : pre.length < (ppowG N).length := by rw [HP.out, HE.out]; simp
        clear hd hle'
        obtain ⟨fn, tmps, assign, body, hy, hR⟩ := hY pre (p, K) wr hJs (show p ≤ 25000000 by omega) (show K ≤ 25000000 by omega) hlen
        dsimp only [encPP] at hy
        gi_wp2_with (refine ⟨trivial, wide_depth n, ?_⟩; gi_at_call 101; refine (callsIn_wide.2 (valuation2_any _ _ (by omega) (by omega) (by omega) (by omega) (by omega) _)).mono ?_; rw [show val (Int.natAbs (L : Int)) (Int.toNat (p : Int)) = K from HK.out.symm]; rintro e w' ⟨rfl, rfl⟩)
        gi_loop [3, 19] (fun sl si => ∃ j M : Nat, sl = .int .i64 M ∧ si = .int .i64 j ∧ j ≤ K ∧ M ≤ N ∧ Hid (M = L / p ^ j)) (fun _ si => K - (intOf si).toNat)
        case atStart => exact ⟨0, L, rfl, rfl, by omega, hLN, hid (by simp)⟩
        case round =>
          obtain ⟨j, M, rfl, rfl, hj, hM, HM⟩ := hrel
          have hdd := ediv_bdG (b := p) (show M ≤ 1000000000000 by omega)
          have hd0 := hdd.1
          have hd1 := hdd.2
          clear hdd
          by_cases hlt : j < K
          · gi_wp2
            go_round
            case rel => exact ⟨j + 1, M / p, vI (by push_cast; rfl), by go_num, by omega, Nat.le_trans (Nat.div_le_self _ _) hM, hid (by rw [HM.out, Nat.div_div_eq_div_mul, Nat.pow_succ])⟩
            case measure => simp only [intOf]; omega
          · obtain rfl : j = K := by omega
            gi_wp2
            refine ⟨wide_depth n, hR.mono ?_⟩
            rintro e W' (⟨rfl, hJ', _⟩ | ⟨rfl, hJx'⟩)
            · gi_wp2
              go_roundw
              case rel => exact ⟨pre ++ [(p, j)], M, p + 1, g, rfl, by go_num, by rw [HM.out]; exact hq1, hM, by omega, by omega, by omega, by omega, hid (by rw [HP.out, HE.out, HM.out]; simp), hJ'⟩
              case measure => simp only [intOf]; omega
            · gi_wp2
              refine bodyPost_ret (results_none rfl _ _ _) rfl ?_
              exact ⟨⟨_, rfl⟩, .inr ⟨pre ++ [(p, j)], ⟨ppGo g (p + 1) (L / p ^ j), by rw [HP.out, HE.out]; simp⟩, hJx'⟩⟩
      · have hK0 : K = 0 := by rw [HK.out, val_stop hd]
        have HE : Hid (ppGo (g + 1) p L = ppGo g (p + 1) L) := by show _ = _; conv => lhs; unfold ppGo
                                                                  rw [if_pos hle', if_neg hd]
        have HK0 : Hid (val (Int.natAbs (L : Int)) (Int.toNat (p : Int)) = 0) := hid (by rw [← hK0]; exact HK.out.symm)
        clear hd hle' hK0
        gi_wp2_with (refine ⟨trivial, wide_depth n, ?_⟩; gi_at_call 101; refine (callsIn_wide.2 (valuation2_any _ _ (by omega) (by omega) (by omega) (by omega) (by omega) _)).mono ?_; rw [HK0.out]; rintro e w' ⟨rfl, rfl⟩)
        gi_loop [3, 19] (fun sl si => sl = .int .i64 L ∧ si = .int .i64 0) (fun _ si => 0)
        case atStart => exact ⟨rfl, rfl⟩
        case round =>
          obtain ⟨rfl, rfl⟩ := hrel
          gi_wp2
          refine ⟨fun _ h => (by cases h), ?_⟩
          gi_wp2
          go_roundw
          case rel => exact ⟨pre, L, p + 1, g, rfl, by go_num, hL1, hLN, by omega, by omega, by omega, by omega, hid (by rw [HP.out, HE.out]), hJs⟩
          case measure => simp only [intOf]; omega
    · have hle' : ¬ p * p ≤ L := fun h => hle (by exact_mod_cast h)
      by_cases hL : 1 < L
      · have HE : Hid (ppGo (g + 1) p L = [(L, 1)]) := by show _ = _; unfold ppGo; rw [if_neg hle', if_pos hL]
        have hlen : pre.length < (ppowG N).length := by rw [HP.out, HE.out]; simp
        clear hle'
        obtain ⟨fn, tmps, assign, body, hy, hR⟩ := hY pre (L, 1) wr hJs (show L ≤ 25000000 by omega) (show 1 ≤ 25000000 by omega) hlen
        dsimp only [encPP] at hy
        rw [show ((1 : Nat) : Int) = 1 from rfl] at hy
        gi_wp2
        refine ⟨wide_depth n, hR.mono ?_⟩
        rintro e W' (⟨rfl, hJ', _⟩ | ⟨rfl, hJx'⟩)
        · gi_wp2
          go_end0
          have HF : J (ppowG N) W' := by rw [HP.out, HE.out]; exact hJ'
          first | exact ⟨⟨_, rfl⟩, .inl ⟨_, rfl, HF⟩⟩ | exact ⟨⟨_, rfl⟩, .inl HF⟩
        · gi_wp2
          go_end0
          exact ⟨⟨_, rfl⟩, .inr ⟨_, ⟨[], by rw [HP.out, HE.out]; simp⟩, hJx'⟩⟩
      · have HE : Hid (ppGo (g + 1) p L = []) := by show _ = _; unfold ppGo; rw [if_neg hle', if_neg hL]
        clear hle'
        gi_wp2
        go_end0
        have HF : J (ppowG N) wr := by rw [HP.out, HE.out, List.append_nil]; exact hJs
        first | exact ⟨⟨_, rfl⟩, .inl ⟨_, rfl, HF⟩⟩ | exact ⟨⟨_, rfl⟩, .inl HF⟩

/-- what a round is handed: bounded numbers -/
abbrev PPG := { x : Nat × Nat // x.1 ≤ 25000000 ∧ x.2 ≤ 25000000 }
abbrev encG (x : PPG) : Array Value := #[.int .i64 x.1.1, .int .i64 x.1.2]

theorem ppG_stops (n Bn : Nat) (a : Int) (h0 : a ≠ 0) (ha1 : -25000000 ≤ a) (ha2 : a ≤ 25000000) (w : World) (hBn : Bn < w.heap.size) (hc : w.cell? ⟨Bn, 0, none⟩ = some (.int .i64 a)) :
    SeqStopsK Fence.wide n Try.prog 99 #[.pointer (some ⟨Bn, 0, none⟩)] encG KeepsWalks (fun ys => ys.map (·.1) = ppowG a.natAbs) (fun pre => pre.map (·.1) <+: ppowG a.natAbs) (ppowG a.natAbs).length w := fun l J Jx W hW _ _ hY hJ0 => by
  refine (ppG_in n l Bn a h0 ha1 ha2 (fun pre W => ∃ q : List PPG, q.map (·.1) = pre ∧ J q W) (fun pre W => ∃ q : List PPG, q.map (·.1) = pre ∧ Jx q W) ?_ W ((hW.cell (p := ⟨Bn, 0, none⟩) hBn).trans hc) ⟨[], rfl, hJ0⟩).mono ?_
  · rintro pre x W1 ⟨q, rfl, hq⟩ h1 h2 hl
    obtain ⟨fn, tmps, assign, body, hy, hR⟩ := hY q ⟨x, h1, h2⟩ W1 hq (by simpa using hl)
    refine ⟨fn, tmps, assign, body, hy, hR.mono ?_⟩
    rintro e w' (⟨he, hj, hk⟩ | ⟨he, hj⟩)
    · exact .inl ⟨he, ⟨_, by simp, hj⟩, hk⟩
    · exact .inr ⟨he, ⟨_, by simp, hj⟩⟩
  · rintro e W' ⟨hv, ⟨ys, hys, q, hq, hj⟩ | ⟨pre, hpre, q, hq, hj⟩⟩
    · exact ⟨hv, .inl ⟨q, hq.trans hys, hj⟩⟩
    · exact ⟨hv, .inr ⟨q, by rw [← hq] at hpre; exact hpre, hj⟩⟩


def fstsG (l : List PPG) : List Nat := l.map (fun x => x.1.1)
theorem fstsG_snoc (l : List PPG) (x : PPG) : fstsG (l ++ [x]) = fstsG l ++ [x.1.1] := by simp [fstsG]
theorem fstsG_len (l : List PPG) : (fstsG l).length = l.length := by unfold fstsG; rw [List.length_map]
theorem fstsG_all {ys : List PPG} {l : List (Nat × Nat)} (h : ys.map (·.1) = l) : fstsG ys = l.map (·.1) := by rw [← h]; simp [fstsG]

set_option maxRecDepth 100000 in
set_option maxHeartbeats 2000000 in
theorem placesOfG_any (n : Int) (h0 : n ≠ 0) (a1 : -25000000 ≤ n) (a2 : n ≤ 25000000) (w : World) :
    Calls Try.prog 64 #[.int .i64 n] w fun e w' => ∃ v, e = .returned v ∧ Owns w' w.heap.size v (placesG n) ∧ Below w.heap.size w w' := by
  obtain ⟨i0, hi, hz0, hz1, hz2⟩ := info_parts infoInt
  have HPL : Hid (placesG n = plcs ((ppowG n.natAbs).map (·.1))) := hid (by unfold plcs placesG; rw [plistG_eq])
  obtain ⟨v0, hv0⟩ : ∃ v0 : Value, v0 = .slice (some ⟨w.heap.size, 0, none⟩) 2 2 := ⟨_, rfl⟩
  have hr0 : (w.alloc (.cells #[.int .i64 0, .int .i64 2] 3)).ownsRow w.heap.size 3 1 v0 2 [.int .i64 0, .int .i64 2] := by
    rw [hv0]; exact World.ownsRow_lit w #[.int .i64 0, .int .i64 2] 2 (Nat.le_refl _) (by unfold maxLen; omega) rfl
  have hB0 : Below w.heap.size w (((w.alloc (.cells #[.int .i64 0, .int .i64 2] 3)).alloc (.cells #[v0] 28)).alloc (.cells #[.int .i64 n] 53)) := (((Below.refl _ _).alloc (Nat.le_refl _) _).alloc (by simp) _).alloc (by simp; omega) _
  have bO := (Boxed.new (w.alloc (.cells #[.int .i64 0, .int .i64 2] 3)) 28 v0).alloc (.cells #[.int .i64 n] 53)
  have bN := Boxed.new ((w.alloc (.cells #[.int .i64 0, .int .i64 2] 3)).alloc (.cells #[v0] 28)) 53 (.int .i64 n)
  simp only [World.size_alloc] at bN bO
  have hrN := (hr0.alloc (.cells #[v0] 28)).alloc (.cells #[.int .i64 n] 53)
  have H0 := hid h0
  subst hv0
  clear h0 hr0
  refine (callsIn_wide (n := 5)).1 ?_
  refine callsIn_of_wp_marks Try.func64 rfl trivial ?_ rfl
  simp only [Try.ntmps64, List.size_toArray, List.length_cons, List.length_nil, Nat.reduceAdd, Nat.reduceSub, Array.replicate_succ, Array.replicate_zero, List.push_toArray, List.append_toArray, List.nil_append, List.cons_append]
  gi_wp2_with (refine ⟨trivial, ?_⟩; gi_at_call 78; refine (callsIn_wide.2 (pp_make _ _)).mono ?_; rintro e w' ⟨rfl, rfl⟩)
  refine wpIn_rangeFunc_ownG rfl (by omega) (gf := 99) (lb := #[.pointer (some ⟨w.heap.size + 1 + 1, 0, none⟩)]) rfl trivial (enters_of Try.func99 (by kernel_rfl) rfl)
    (ppG_stops _ (w.heap.size + 1 + 1) n H0.out (by omega) (by omega) _ (by simp) bN.cell) walksK_t walksK_b (Below.refl _ _) (fun _ => rfl)
    (fun pre W => (∃ v, Boxed W (w.heap.size + 1) 28 v ∧ W.ownsRow w.heap.size 3 1 v (plcs (fstsG pre)).length ((plcs (fstsG pre)).map (Value.int .i64)) ∧ True) ∧ Below w.heap.size w W)
    (fun _ _ _ => False)
    (OwnFrom.and (Own.from (holdsRow_own w.heap.size (w.heap.size + 1) 28 3 1 (fun pre => (plcs (fstsG pre)).length) (fun pre => (plcs (fstsG pre)).map (Value.int .i64)) (fun _ _ => True)) _) (ownFrom_below (Nat.le_refl _) (by simp; omega)))
    (fun _ _ _ _ _ hs _ _ => hs)
    ⟨⟨_, bO, hrN, trivial⟩, hB0⟩ ?a1 ?assign ?body ?done ?stop
  case assign =>
    intro l x W K hK
    gi_wp2
    exact hK
  case body =>
    rintro l pre x W ⟨⟨v, hv, hrow, _⟩, hB⟩ hlt
    have hc := hv.cell
    have hpl := ppowG_len n.natAbs
    have hll := plcs_len (fstsG pre)
    rw [fstsG_len] at hll
    by_cases hx : 2 < x.1.1
    · have hxi : (2 : Int) < (x.1.1 : Int) := by omega
      have HX := hid hx
      clear hx
      gi_wp2_with (gi_at_builtin; refine wpListIn_append_own _ rfl _ _ 28 rfl w.heap.size 3 i0 (.int .i64 0) 1 8 Try.underlying28 hi hz0 hz1 hz2 rfl (by decide) _ _ _ rfl (hrow.alloc _) ⟨W.heap.size, 0, none⟩ 1 1 [.int .i64 x.1.1] rfl rfl (cell_one_new _ _ _) (by simp [Value.oneCell']) (by unfold maxLen; omega) (by omega) (by have := hB.size; simp; omega) ?_; intro v' w1 hown' hgrow _; obtain ⟨g', cap', rfl⟩ := ownsRow_succ hown'; obtain ⟨hv1, hv2, hr2, hk2, hb2⟩ := hv.appended (by decide) hrow hB.size (by omega) hown' hgrow; have hc1 := hv1.cell; have hf1 := hv1.frozen)
      exact ⟨hk2.from _, hk2.walks, ⟨_, hv2, by rw [fstsG_snoc, plcs_yes HX.out]; simpa using hr2, trivial⟩, hB.trans hb2⟩
    · have hxi : ¬ (2 : Int) < (x.1.1 : Int) := by omega
      have HX := hid hx
      clear hx
      gi_wp2
      exact ⟨KeepsFrom.refl _ _, KeepsWalks.refl _, ⟨v, hv, by rw [fstsG_snoc, plcs_no HX.out]; exact hrow⟩, hB⟩
  case done =>
    rintro D ys W hD hS ⟨⟨v, hv, hrow, _⟩, hB⟩ hK
    have hc := hv.cell
    rw [fstsG_all hS] at hrow
    have HP2 := HPL
    gi_wp2
    refine ⟨by simp, .inl ⟨_, _, rfl, run_takeDeferred hK, ?_⟩⟩
    refine ⟨_, results_tmp rfl _ _ _, ?_⟩
    exact ⟨v, rfl, by unfold Owns; rw [HPL.out]; exact ownsRow_putObj hrow _ hK rfl, hB.trans (belowK_b (w := w) (Nat.le_refl _) W D _ _ (by simp at hD; omega) hK rfl rfl)⟩
  case stop =>
    rintro D c pre W _ _ h _
    exact h.elim

end Go.Proofs.Ytdidmblkknnglaa

set_option linter.unusedVariables false
namespace Go.Proofs.Ytdidmblkknnglaa
open Go.RowKit

theorem okAB_parts {a b : Int} (h : okAB a b = true) : factB a = true ∧ factB b = true := by
  unfold okAB at h
  rw [Bool.and_eq_true] at h
  exact h

set_option maxHeartbeats 1000000 in
theorem symbolOf_any (a b q : Int) (w : World) : Calls Try.prog 16 #[.int .i64 a, .int .i64 b, .int .i64 q] w fun e w' => e = .returned (.int .i64 (symOfV a b q)) ∧ Below w.heap.size w w' := by
  cases hA : factB a with
  | false =>
    have HA := hid hA
    have H : Hid (symOfV a b q = 0) := hid (by unfold symOfV okAB; rw [hA]; rfl)
    clear hA
    go_enter Try.func16, Try.ntmps16
    go_wp2_with (go_at_call 55; refine (factored_any _ _).mono ?_; rw [HA.out]; rintro e w' ⟨rfl, rfl⟩)
    go_ret
    exact ⟨retI H.out.symm, Below.refl _ _⟩
  | true =>
    cases hB : factB b with
    | false =>
      have HA := hid hA
      have HB := hid hB
      have H : Hid (symOfV a b q = 0) := hid (by unfold symOfV okAB; rw [hA, hB]; rfl)
      clear hA hB
      go_enter Try.func16, Try.ntmps16
      go_wp2_with (go_at_call 55; refine (factored_any _ _).mono ?_; (first | rw [HA.out] | rw [HB.out]); rintro e w' ⟨rfl, rfl⟩)
      go_ret
      exact ⟨retI H.out.symm, Below.refl _ _⟩
    | true =>
      cases hQ : plI q with
      | false =>
        have HA := hid hA
        have HB := hid hB
        have HQ := hid hQ
        have H : Hid (symOfV a b q = 0) := hid (by unfold symOfV okAB; rw [hA, hB, hQ]; rfl)
        clear hA hB hQ
        go_enter Try.func16, Try.ntmps16
        go_wp2_with (first | (go_at_call 55; refine (factored_any _ _).mono ?_; (first | rw [HA.out] | rw [HB.out]); rintro e w' ⟨rfl, rfl⟩) | (go_at_call 56; refine (plValid_any _ _).mono ?_; rw [HQ.out]; rintro e w1 ⟨rfl, hb1⟩))
        go_ret
        exact ⟨retI H.out.symm, hb1⟩
      | true =>
        obtain ⟨a0, a1, a2⟩ := factB_bd hA
        obtain ⟨b0, b1, b2⟩ := factB_bd hB
        have A0 := hid a0
        have B0 := hid b0
        have HA := hid hA
        have HB := hid hB
        have HQ := hid hQ
        have H : Hid (symOfV a b q = symV a b q) := hid (by unfold symOfV okAB; rw [hA, hB, hQ]; rfl)
        clear hA hB hQ a0 b0
        go_enter Try.func16, Try.ntmps16
        go_wp2_with (first | (go_at_call 55; refine (factored_any _ _).mono ?_; (first | rw [HA.out] | rw [HB.out]); rintro e w' ⟨rfl, rfl⟩) | (go_at_call 56; refine (plValid_any _ _).mono ?_; rw [HQ.out]; rintro e w1 ⟨rfl, hb1⟩))
        refine (symbolAt_any q HQ.out _).mono ?_
        rintro e w2 ⟨fv, rfl, hs, hb2⟩
        rcases hs with ⟨rfl, rfl⟩ | ⟨rfl, rfl⟩ | ⟨P, C, rfl, hP, h3, rfl, hC1, hC2, hC3⟩
        · go_wp2_with (go_at_call 86; refine (symZero_any _ _ A0.out B0.out _).mono ?_; rw [← H.out]; rintro e w' ⟨rfl, rfl⟩)
          go_ret
          exact ⟨rfl, hb1.trans (hb2.mono hb1.size)⟩
        · go_wp2_with (go_at_call 88; refine (symbolAtTwo_any _ _ A0.out B0.out (by omega) (by omega) (by omega) (by omega) _).mono ?_; rw [← H.out]; rintro e w' ⟨rfl, rfl⟩)
          go_ret
          exact ⟨rfl, hb1.trans (hb2.mono hb1.size)⟩
        · go_wp2_with (go_at_call 89; refine (symP_any _ _ P C hP h3 A0.out B0.out (by omega) (by omega) (by omega) (by omega) _ hC3).mono ?_; rw [← H.out]; rintro e w' ⟨rfl, rfl⟩)
          go_ret
          exact ⟨rfl, hb1.trans (hb2.mono hb1.size)⟩

end Go.Proofs.Ytdidmblkknnglaa

set_option linter.unusedVariables false
namespace Go.Proofs.Ytdidmblkknnglaa
open Go.RowKit Go.Shelf
attribute [local go_sem] Oper.semAt_some

/-- the triples, one after the other -/
def tzL (a b : Int) (P m x y : Nat) : Nat → List (Nat × Nat × Nat)
  | 0 => []
  | Z + 1 => tzL a b P m x y Z ++ (if hitB a b P m x y Z then [(x, y, Z)] else [])
def tyL (a b : Int) (P m x : Nat) : Nat → List (Nat × Nat × Nat)
  | 0 => []
  | Y + 1 => tyL a b P m x Y ++ tzL a b P m x Y m
def txL (a b : Int) (P m : Nat) : Nat → List (Nat × Nat × Nat)
  | 0 => []
  | X + 1 => txL a b P m X ++ tyL a b P m X m
def tripL (a b : Int) (P m : Nat) : List (Nat × Nat × Nat) := txL a b P m m
theorem tz_mono (a b : Int) (P m x y k : Nat) : ∀ n, k ≤ n → tzL a b P m x y k <+: tzL a b P m x y n
  | 0, h => by rw [show k = 0 by omega]; exact List.prefix_refl _
  | n + 1, h => by
    by_cases e : k = n + 1
    · rw [e]; exact List.prefix_refl _
    · exact (tz_mono a b P m x y k n (by omega)).trans (List.prefix_append _ _)
theorem ty_mono (a b : Int) (P m x k : Nat) : ∀ n, k ≤ n → tyL a b P m x k <+: tyL a b P m x n
  | 0, h => by rw [show k = 0 by omega]; exact List.prefix_refl _
  | n + 1, h => by
    by_cases e : k = n + 1
    · rw [e]; exact List.prefix_refl _
    · exact (ty_mono a b P m x k n (by omega)).trans (List.prefix_append _ _)
theorem tx_mono (a b : Int) (P m k : Nat) : ∀ n, k ≤ n → txL a b P m k <+: txL a b P m n
  | 0, h => by rw [show k = 0 by omega]; exact List.prefix_refl _
  | n + 1, h => by
    by_cases e : k = n + 1
    · rw [e]; exact List.prefix_refl _
    · exact (tx_mono a b P m k n (by omega)).trans (List.prefix_append _ _)
theorem trip_pre {a b : Int} {P m X Y Z : Nat} (hX : X < m) (hY : Y < m) (hZ : Z < m) (h : hitB a b P m X Y Z = true) : (txL a b P m X ++ tyL a b P m X Y ++ tzL a b P m X Y Z) ++ [(X, Y, Z)] <+: tripL a b P m := by
  have e1 : tzL a b P m X Y Z ++ [(X, Y, Z)] = tzL a b P m X Y (Z + 1) := by
    show _ = tzL a b P m X Y Z ++ (if hitB a b P m X Y Z then [(X, Y, Z)] else [])
    rw [h, if_pos rfl]
  have p1 := tz_mono a b P m X Y (Z + 1) m (by omega)
  have p2 := ty_mono a b P m X (Y + 1) m (by omega)
  have p3 := tx_mono a b P m (X + 1) m (by omega)
  rw [List.append_assoc, e1]
  have q1 : txL a b P m X ++ tyL a b P m X Y ++ tzL a b P m X Y (Z + 1) <+: txL a b P m X ++ tyL a b P m X (Y + 1) := by
    rw [List.append_assoc]
    exact (List.prefix_append_right_inj _).2 ((List.prefix_append_right_inj _).2 p1)
  have q2 : txL a b P m X ++ tyL a b P m X (Y + 1) <+: txL a b P m (X + 1) := (List.prefix_append_right_inj _).2 p2
  exact q1.trans (q2.trans p3)
theorem tz_len (a b : Int) (P m x y : Nat) : ∀ n, (tzL a b P m x y n).length ≤ n
  | 0 => Nat.le_refl _
  | n + 1 => by
    have := tz_len a b P m x y n
    unfold tzL
    rw [List.length_append]
    split <;> simp <;> omega
theorem ty_len (a b : Int) (P m x : Nat) : ∀ n, (tyL a b P m x n).length ≤ n * m
  | 0 => Nat.zero_le _
  | n + 1 => by
    have h1 := ty_len a b P m x n
    have h2 := tz_len a b P m x n m
    unfold tyL
    rw [List.length_append, Nat.succ_mul]
    omega
theorem tx_len (a b : Int) (P m : Nat) : ∀ n, (txL a b P m n).length ≤ n * (m * m)
  | 0 => Nat.zero_le _
  | n + 1 => by
    have h1 := tx_len a b P m n
    have h2 := ty_len a b P m n m
    unfold txL
    rw [List.length_append, Nat.succ_mul]
    omega
theorem trip_len {a b : Int} {P m : Nat} (hm : m ≤ 32) : (tripL a b P m).length ≤ 32768 := by
  have h := tx_len a b P m m
  have h2 := Nat.mul_le_mul hm (Nat.mul_le_mul hm hm)
  unfold tripL
  omega

theorem solve_eqz {V z : Int} {m : Nat} (hm : 0 < m) : ((z - V).tmod (m : Int) == 0) = ((V - z) % (m : Int) == 0) := by
  rw [Bool.eq_iff_iff, beq_iff_eq, beq_iff_eq]
  constructor
  · intro h
    have h1 := Int.dvd_of_tmod_eq_zero h
    have h2 : (m : Int) ∣ V - z := by
      have := Int.dvd_neg.2 h1
      rwa [Int.neg_sub] at this
    exact Int.emod_eq_zero_of_dvd h2
  · intro h
    have h1 := Int.dvd_of_emod_eq_zero h
    have h2 : (m : Int) ∣ z - V := by
      have := Int.dvd_neg.2 h1
      rwa [Int.neg_sub] at this
    exact Int.tmod_eq_zero_of_dvd h2
theorem modz {x P : Nat} : ((x : Int) % (P : Int) == 0) = (x % P == 0) := by
  rw [Bool.eq_iff_iff, beq_iff_eq, beq_iff_eq]
  omega

/-- what a round must keep: the four captured variables -/
def KpC (B : Nat) (W W' : World) : Prop := ∀ k, B ≤ k → k < B + 4 → W'.heap[k]? = W.heap[k]?
theorem KpC.refl (B : Nat) (W : World) : KpC B W W := fun _ _ _ => rfl
theorem KpC.trans {B : Nat} {W1 W2 W3 : World} (h : KpC B W1 W2) (k : KpC B W2 W3) : KpC B W1 W3 := fun j h1 h2 => (k j h1 h2).trans (h j h1 h2)
abbrev T3 := { t : Nat × Nat × Nat // t.1 ≤ 32 ∧ t.2.1 ≤ 32 ∧ t.2.2 ≤ 32 }
abbrev enc3 (t : Nat × Nat × Nat) : Array Value := #[.agg #[.int .i64 t.1, .int .i64 t.2.1, .int .i64 t.2.2]]
/-- the captured variables -/
def Capt (B : Nat) (a b : Int) (P m : Nat) (W : World) : Prop := Boxed W B 3 (.int .i64 a) ∧ Boxed W (B + 1) 3 (.int .i64 b) ∧ Boxed W (B + 2) 3 (.int .i64 P) ∧ Boxed W (B + 3) 3 (.int .i64 m)
theorem Capt.keep {B : Nat} {a b : Int} {P m : Nat} {W W' : World} (h : Capt B a b P m W) (hk : KpC B W W') : Capt B a b P m W' :=
  ⟨(hk B (Nat.le_refl _) (by omega)).trans h.1, (hk (B + 1) (by omega) (by omega)).trans h.2.1, (hk (B + 2) (by omega) (by omega)).trans h.2.2.1, (hk (B + 3) (by omega) (by omega)).trans h.2.2.2⟩

theorem solved_make (a b : Int) (P m : Nat) (w : World) :
    Calls Try.prog 74 #[.int .i64 a, .int .i64 b, .int .i64 P, .int .i64 m] w fun e w' => e = .returned (.func (.func 98) #[] #[.pointer (some ⟨w.heap.size + 3, 0, none⟩), .pointer (some ⟨w.heap.size, 0, none⟩), .pointer (some ⟨w.heap.size + 1, 0, none⟩), .pointer (some ⟨w.heap.size + 2, 0, none⟩)]) ∧
      w' = (((w.alloc (.cells #[.int .i64 a] 3)).alloc (.cells #[.int .i64 b] 3)).alloc (.cells #[.int .i64 P] 3)).alloc (.cells #[.int .i64 m] 3) := by
  go_enter Try.func74, Try.ntmps74
  go_wp2
  go_ret
  exact ⟨rfl, rfl⟩

set_option maxRecDepth 100000 in
set_option maxHeartbeats 8000000 in
theorem trip_in (n l B : Nat) (a b : Int) (P m : Nat) (a1 : -5000 ≤ a) (a2 : a ≤ 5000) (b1 : -5000 ≤ b) (b2 : b ≤ 5000) (hP1 : 2 ≤ P) (hP2 : P ≤ 5000) (hm1 : 1 ≤ m) (hm2 : m ≤ 32) (J Jx : List (Nat × Nat × Nat) → World → Prop)
    (hY : ∀ pre x W, J pre W → x.1 ≤ 32 → x.2.1 ≤ 32 → x.2.2 ≤ 32 → pre.length < (tripL a b P m).length → YieldAt Fence.wide (n - 1) Try.prog l (enc3 x) W fun e W' =>
      (e = .returned (.bool true) ∧ J (pre ++ [x]) W' ∧ KpC B W W') ∨ (e = .returned (.bool false) ∧ Jx (pre ++ [x]) W'))
    (W : World) (hC : Capt B a b P m W) (hJ0 : J [] W) :
    CallsIn Fence.wide n Try.prog 98 #[.func (.yield l) #[] #[], .pointer (some ⟨B + 3, 0, none⟩), .pointer (some ⟨B, 0, none⟩), .pointer (some ⟨B + 1, 0, none⟩), .pointer (some ⟨B + 2, 0, none⟩)] W fun e W' => (∃ v, e = .returned v) ∧
      ((∃ ys, ys = tripL a b P m ∧ J ys W') ∨ (∃ pre, pre <+: tripL a b P m ∧ Jx pre W')) := by
  have HC0 := hid hC
  have HJ0 := hid hJ0
  have HYY := hid hY
  have cm0 := hC.2.2.2.cell
  clear hC hJ0 hY
  refine callsIn_of_wp Try.func98 rfl trivial ?_ rfl
  simp only [Try.ntmps98, List.size_toArray, List.length_cons, List.length_nil, Nat.reduceAdd, Nat.reduceSub, Array.replicate_succ, Array.replicate_zero, List.push_toArray, List.append_toArray, List.nil_append, List.cons_append]
  gi_wp2
  gi_loopw [12] (fun sx wr => ∃ X : Nat, sx = .int .i64 X ∧ X ≤ m ∧ Hid (J (txL a b P m X) wr) ∧ Hid (Capt B a b P m wr)) (fun sx _ => m - (intOf sx).toNat)
  case atStart => exact ⟨0, rfl, by omega, HJ0, HC0⟩
  case round =>
    obtain ⟨X, rfl, hX, HJX, HCX⟩ := hrel
    rename World => wX
    by_cases hXm : X < m
    · have hXi : (X : Int) < (m : Int) := by omega
      have cm1 := HCX.out.2.2.2.cell
      have hx1 := tri_bd a1 a2 (show X ≤ m by omega) hm2
      have hx2 := hx1.1
      have hx3 := hx1.2.1
      have hx4 := hx1.2.2.1
      have hx5 := hx1.2.2.2
      clear hx1
      gi_wp2
      gi_loopw [16] (fun sy wr => ∃ Y : Nat, sy = .int .i64 Y ∧ Y ≤ m ∧ Hid (J (txL a b P m X ++ tyL a b P m X Y) wr) ∧ Hid (Capt B a b P m wr)) (fun sy _ => m - (intOf sy).toNat)
      case atStart => exact ⟨0, rfl, by omega, hid (by show J (txL a b P m X ++ []) wX; rw [List.append_nil]; exact HJX.out), HCX⟩
      case round =>
        obtain ⟨Y, rfl, hYm0, HJY, HCY⟩ := hrel
        rename World => wY
        by_cases hYm : Y < m
        · have hYi : (Y : Int) < (m : Int) := by omega
          have ca2 := HCY.out.1.cell
          have cb2 := HCY.out.2.1.cell
          have cp2 := HCY.out.2.2.1.cell
          have cm2 := HCY.out.2.2.2.cell
          have hy1 := tri_bd b1 b2 (show Y ≤ m by omega) hm2
          have hy2 := hy1.1
          have hy3 := hy1.2.1
          have hy4 := hy1.2.2.1
          have hy5 := hy1.2.2.2
          clear hy1
          have hbx := modz (x := X) (P := P)
          have hby := modz (x := Y) (P := P)
          cases hdx : (X % P == 0) with
          | false =>
            rw [hdx] at hbx
            clear hby
            gi_wp2
            gi_loopw [41] (fun sz wr => ∃ Z : Nat, sz = .int .i64 Z ∧ Z ≤ m ∧ Hid (J (txL a b P m X ++ tyL a b P m X Y ++ tzL a b P m X Y Z) wr) ∧ Hid (Capt B a b P m wr)) (fun sz _ => m - (intOf sz).toNat)
            case atStart => exact ⟨0, rfl, by omega, hid (by show J (txL a b P m X ++ tyL a b P m X Y ++ []) wY; rw [List.append_nil]; exact HJY.out), HCY⟩
            case round =>
              obtain ⟨Z, rfl, hZm0, HJZ, HCZ⟩ := hrel
              rename World => wZ
              by_cases hZm : Z < m
              · have hZi : (Z : Int) < (m : Int) := by omega
                have cp3 := HCZ.out.2.2.1.cell
                have cm3 := HCZ.out.2.2.2.cell
                have hzz := mul_bd (show Z ≤ 32 by omega) (show Z ≤ 32 by omega)
                have hsol := solve_eqz (V := a * (X : Int) * (X : Int) + b * (Y : Int) * (Y : Int)) (z := (Z : Int) * (Z : Int)) (m := m) (by omega)
                have hbz := modz (x := Z) (P := P)
                cases hs : ((a * (X : Int) * (X : Int) + b * (Y : Int) * (Y : Int) - (Z : Int) * (Z : Int)) % (m : Int) == 0) with
                | false =>
                  have T : (((Z : Int) * (Z : Int) - (a * (X : Int) * (X : Int) + b * (Y : Int) * (Y : Int))).tmod (m : Int) != 0) = true := by show (!(_ == (0 : Int))) = true; rw [hsol, hs]; rfl
                  clear hbz hsol
                  have HE : Hid (tzL a b P m X Y (Z + 1) = tzL a b P m X Y Z) := hid (by
                    show tzL a b P m X Y Z ++ (if hitB a b P m X Y Z then [(X, Y, Z)] else []) = _
                    rw [show hitB a b P m X Y Z = false from by unfold hitB; rw [hs, Bool.and_false], if_neg (by decide), List.append_nil])
                  clear hs
                  gi_wp2
                  go_roundw
                  case rel => exact ⟨Z + 1, by go_num, by omega, hid (by rw [HE.out]; exact HJZ.out), HCZ⟩
                  case measure => simp only [intOf]; omega
                | true =>
                  have T : (((Z : Int) * (Z : Int) - (a * (X : Int) * (X : Int) + b * (Y : Int) * (Y : Int))).tmod (m : Int) != 0) = false := by show (!(_ == (0 : Int))) = false; rw [hsol, hs]; rfl
                  clear hsol
                  clear hbz
                  have hh : hitB a b P m X Y Z = true := by unfold hitB; rw [hs, show (X % P != 0) = true from by show (!(X % P == 0)) = true; rw [hdx]; rfl]; rfl
                  have HP := hid (trip_pre hXm hYm hZm hh)
                  have HE : Hid (tzL a b P m X Y (Z + 1) = tzL a b P m X Y Z ++ [(X, Y, Z)]) := hid (by
                    show tzL a b P m X Y Z ++ (if hitB a b P m X Y Z then [(X, Y, Z)] else []) = _
                    rw [hh, if_pos rfl])
                  have hlen := HP.out.length_le
                  rw [List.length_append, List.length_singleton] at hlen
                  obtain ⟨fn, tmps, assign, body, hy, hR⟩ := HYY.out (txL a b P m X ++ tyL a b P m X Y ++ tzL a b P m X Y Z) (X, Y, Z) wZ HJZ.out (show X ≤ 32 by omega) (show Y ≤ 32 by omega) (show Z ≤ 32 by omega) (by omega)
                  dsimp only [enc3] at hy
                  clear hlen hh hs
                  gi_wp2
                  refine ⟨wide_depth n, hR.mono ?_⟩
                  rintro e W' (⟨rfl, hJ', hK⟩ | ⟨rfl, hJx'⟩)
                  · gi_wp2
                    go_roundw
                    case rel => exact ⟨Z + 1, by go_num, by omega, hid (by rw [HE.out, ← List.append_assoc]; exact hJ'), hid (HCZ.out.keep hK)⟩
                    case measure => simp only [intOf]; omega
                  · gi_wp2
                    refine bodyPost_ret (results_none rfl _ _ _) rfl ?_
                    exact ⟨⟨_, rfl⟩, .inr ⟨_, HP.out, hJx'⟩⟩
              · have e : Z = m := by omega
                have HJm : Hid (J (txL a b P m X ++ tyL a b P m X (Y + 1)) wZ) := hid (by
                  have h := HJZ.out
                  rw [e, List.append_assoc] at h
                  exact h)
                clear e
                gi_wp2
                go_roundw
                case rel => exact ⟨Y + 1, by go_num, by omega, HJm, HCZ⟩
                case measure => simp only [intOf]; omega
          | true =>
            rw [hdx] at hbx
            cases hdy : (Y % P == 0) with
            | false =>
              rw [hdy] at hby
              gi_wp2
              gi_loopw [41] (fun sz wr => ∃ Z : Nat, sz = .int .i64 Z ∧ Z ≤ m ∧ Hid (J (txL a b P m X ++ tyL a b P m X Y ++ tzL a b P m X Y Z) wr) ∧ Hid (Capt B a b P m wr)) (fun sz _ => m - (intOf sz).toNat)
              case atStart => exact ⟨0, rfl, by omega, hid (by show J (txL a b P m X ++ tyL a b P m X Y ++ []) wY; rw [List.append_nil]; exact HJY.out), HCY⟩
              case round =>
                obtain ⟨Z, rfl, hZm0, HJZ, HCZ⟩ := hrel
                rename World => wZ
                by_cases hZm : Z < m
                · have hZi : (Z : Int) < (m : Int) := by omega
                  have cp3 := HCZ.out.2.2.1.cell
                  have cm3 := HCZ.out.2.2.2.cell
                  have hzz := mul_bd (show Z ≤ 32 by omega) (show Z ≤ 32 by omega)
                  have hsol := solve_eqz (V := a * (X : Int) * (X : Int) + b * (Y : Int) * (Y : Int)) (z := (Z : Int) * (Z : Int)) (m := m) (by omega)
                  have hbz := modz (x := Z) (P := P)
                  cases hs : ((a * (X : Int) * (X : Int) + b * (Y : Int) * (Y : Int) - (Z : Int) * (Z : Int)) % (m : Int) == 0) with
                  | false =>
                    have T : (((Z : Int) * (Z : Int) - (a * (X : Int) * (X : Int) + b * (Y : Int) * (Y : Int))).tmod (m : Int) != 0) = true := by show (!(_ == (0 : Int))) = true; rw [hsol, hs]; rfl
                    clear hbz hsol
                    have HE : Hid (tzL a b P m X Y (Z + 1) = tzL a b P m X Y Z) := hid (by
                      show tzL a b P m X Y Z ++ (if hitB a b P m X Y Z then [(X, Y, Z)] else []) = _
                      rw [show hitB a b P m X Y Z = false from by unfold hitB; rw [hs, Bool.and_false], if_neg (by decide), List.append_nil])
                    clear hs
                    gi_wp2
                    go_roundw
                    case rel => exact ⟨Z + 1, by go_num, by omega, hid (by rw [HE.out]; exact HJZ.out), HCZ⟩
                    case measure => simp only [intOf]; omega
                  | true =>
                    have T : (((Z : Int) * (Z : Int) - (a * (X : Int) * (X : Int) + b * (Y : Int) * (Y : Int))).tmod (m : Int) != 0) = false := by show (!(_ == (0 : Int))) = false; rw [hsol, hs]; rfl
                    clear hsol
                    clear hbz
                    have hh : hitB a b P m X Y Z = true := by unfold hitB; rw [hs, show (Y % P != 0) = true from by show (!(Y % P == 0)) = true; rw [hdy]; rfl, Bool.true_or, Bool.or_true]; rfl
                    have HP := hid (trip_pre hXm hYm hZm hh)
                    have HE : Hid (tzL a b P m X Y (Z + 1) = tzL a b P m X Y Z ++ [(X, Y, Z)]) := hid (by
                      show tzL a b P m X Y Z ++ (if hitB a b P m X Y Z then [(X, Y, Z)] else []) = _
                      rw [hh, if_pos rfl])
                    have hlen := HP.out.length_le
                    rw [List.length_append, List.length_singleton] at hlen
                    obtain ⟨fn, tmps, assign, body, hy, hR⟩ := HYY.out (txL a b P m X ++ tyL a b P m X Y ++ tzL a b P m X Y Z) (X, Y, Z) wZ HJZ.out (show X ≤ 32 by omega) (show Y ≤ 32 by omega) (show Z ≤ 32 by omega) (by omega)
                    dsimp only [enc3] at hy
                    clear hlen hh hs
                    gi_wp2
                    refine ⟨wide_depth n, hR.mono ?_⟩
                    rintro e W' (⟨rfl, hJ', hK⟩ | ⟨rfl, hJx'⟩)
                    · gi_wp2
                      go_roundw
                      case rel => exact ⟨Z + 1, by go_num, by omega, hid (by rw [HE.out, ← List.append_assoc]; exact hJ'), hid (HCZ.out.keep hK)⟩
                      case measure => simp only [intOf]; omega
                    · gi_wp2
                      refine bodyPost_ret (results_none rfl _ _ _) rfl ?_
                      exact ⟨⟨_, rfl⟩, .inr ⟨_, HP.out, hJx'⟩⟩
                · have e : Z = m := by omega
                  have HJm : Hid (J (txL a b P m X ++ tyL a b P m X (Y + 1)) wZ) := hid (by
                    have h := HJZ.out
                    rw [e, List.append_assoc] at h
                    exact h)
                  clear e
                  gi_wp2
                  go_roundw
                  case rel => exact ⟨Y + 1, by go_num, by omega, HJm, HCZ⟩
                  case measure => simp only [intOf]; omega
            | true =>
              rw [hdy] at hby
              gi_wp2
              gi_loopw [41] (fun sz wr => ∃ Z : Nat, sz = .int .i64 Z ∧ Z ≤ m ∧ Hid (J (txL a b P m X ++ tyL a b P m X Y ++ tzL a b P m X Y Z) wr) ∧ Hid (Capt B a b P m wr)) (fun sz _ => m - (intOf sz).toNat)
              case atStart => exact ⟨0, rfl, by omega, hid (by show J (txL a b P m X ++ tyL a b P m X Y ++ []) wY; rw [List.append_nil]; exact HJY.out), HCY⟩
              case round =>
                obtain ⟨Z, rfl, hZm0, HJZ, HCZ⟩ := hrel
                rename World => wZ
                by_cases hZm : Z < m
                · have hZi : (Z : Int) < (m : Int) := by omega
                  have cp3 := HCZ.out.2.2.1.cell
                  have cm3 := HCZ.out.2.2.2.cell
                  have hzz := mul_bd (show Z ≤ 32 by omega) (show Z ≤ 32 by omega)
                  have hsol := solve_eqz (V := a * (X : Int) * (X : Int) + b * (Y : Int) * (Y : Int)) (z := (Z : Int) * (Z : Int)) (m := m) (by omega)
                  have hbz := modz (x := Z) (P := P)
                  cases hs : ((a * (X : Int) * (X : Int) + b * (Y : Int) * (Y : Int) - (Z : Int) * (Z : Int)) % (m : Int) == 0) with
                  | false =>
                    have T : (((Z : Int) * (Z : Int) - (a * (X : Int) * (X : Int) + b * (Y : Int) * (Y : Int))).tmod (m : Int) != 0) = true := by show (!(_ == (0 : Int))) = true; rw [hsol, hs]; rfl
                    clear hbz hsol
                    have HE : Hid (tzL a b P m X Y (Z + 1) = tzL a b P m X Y Z) := hid (by
                      show tzL a b P m X Y Z ++ (if hitB a b P m X Y Z then [(X, Y, Z)] else []) = _
                      rw [show hitB a b P m X Y Z = false from by unfold hitB; rw [hs, Bool.and_false], if_neg (by decide), List.append_nil])
                    clear hs
                    gi_wp2
                    go_roundw
                    case rel => exact ⟨Z + 1, by go_num, by omega, hid (by rw [HE.out]; exact HJZ.out), HCZ⟩
                    case measure => simp only [intOf]; omega
                  | true =>
                    have T : (((Z : Int) * (Z : Int) - (a * (X : Int) * (X : Int) + b * (Y : Int) * (Y : Int))).tmod (m : Int) != 0) = false := by show (!(_ == (0 : Int))) = false; rw [hsol, hs]; rfl
                    clear hsol
                    cases hdz : (Z % P == 0) with
                    | false =>
                      rw [hdz] at hbz
                      have hh : hitB a b P m X Y Z = true := by unfold hitB; rw [hs, show (Z % P != 0) = true from by show (!(Z % P == 0)) = true; rw [hdz]; rfl, Bool.or_true, Bool.or_true]; rfl
                      have HP := hid (trip_pre hXm hYm hZm hh)
                      have HE : Hid (tzL a b P m X Y (Z + 1) = tzL a b P m X Y Z ++ [(X, Y, Z)]) := hid (by
                        show tzL a b P m X Y Z ++ (if hitB a b P m X Y Z then [(X, Y, Z)] else []) = _
                        rw [hh, if_pos rfl])
                      have hlen := HP.out.length_le
                      rw [List.length_append, List.length_singleton] at hlen
                      obtain ⟨fn, tmps, assign, body, hy, hR⟩ := HYY.out (txL a b P m X ++ tyL a b P m X Y ++ tzL a b P m X Y Z) (X, Y, Z) wZ HJZ.out (show X ≤ 32 by omega) (show Y ≤ 32 by omega) (show Z ≤ 32 by omega) (by omega)
                      dsimp only [enc3] at hy
                      clear hlen hh hs hdz
                      gi_wp2
                      refine ⟨wide_depth n, hR.mono ?_⟩
                      rintro e W' (⟨rfl, hJ', hK⟩ | ⟨rfl, hJx'⟩)
                      · gi_wp2
                        go_roundw
                        case rel => exact ⟨Z + 1, by go_num, by omega, hid (by rw [HE.out, ← List.append_assoc]; exact hJ'), hid (HCZ.out.keep hK)⟩
                        case measure => simp only [intOf]; omega
                      · gi_wp2
                        refine bodyPost_ret (results_none rfl _ _ _) rfl ?_
                        exact ⟨⟨_, rfl⟩, .inr ⟨_, HP.out, hJx'⟩⟩
                    | true =>
                      rw [hdz] at hbz
                      have HE : Hid (tzL a b P m X Y (Z + 1) = tzL a b P m X Y Z) := hid (by
                        show tzL a b P m X Y Z ++ (if hitB a b P m X Y Z then [(X, Y, Z)] else []) = _
                        rw [show hitB a b P m X Y Z = false from by unfold hitB; rw [show (X % P != 0) = false from by show (!(X % P == 0)) = false; rw [hdx]; rfl, show (Y % P != 0) = false from by show (!(Y % P == 0)) = false; rw [hdy]; rfl, show (Z % P != 0) = false from by show (!(Z % P == 0)) = false; rw [hdz]; rfl]; rfl, if_neg (by decide), List.append_nil])
                      clear hs hdz
                      gi_wp2
                      go_roundw
                      case rel => exact ⟨Z + 1, by go_num, by omega, hid (by rw [HE.out]; exact HJZ.out), HCZ⟩
                      case measure => simp only [intOf]; omega
                · have e : Z = m := by omega
                  have HJm : Hid (J (txL a b P m X ++ tyL a b P m X (Y + 1)) wZ) := hid (by
                    have h := HJZ.out
                    rw [e, List.append_assoc] at h
                    exact h)
                  clear e
                  gi_wp2
                  go_roundw
                  case rel => exact ⟨Y + 1, by go_num, by omega, HJm, HCZ⟩
                  case measure => simp only [intOf]; omega
        · have e : Y = m := by omega
          have HJm : Hid (J (txL a b P m (X + 1)) wY) := hid (by
            have h := HJY.out
            rw [e] at h
            exact h)
          clear e
          gi_wp2
          go_roundw
          case rel => exact ⟨X + 1, by go_num, by omega, HJm, HCY⟩
          case measure => simp only [intOf]; omega
    · have e : X = m := by omega
      have HF : J (tripL a b P m) wX := by
        have h := HJX.out
        rw [e] at h
        exact h
      clear e
      gi_wp2
      go_end0
      first | exact ⟨⟨_, rfl⟩, .inl ⟨_, rfl, HF⟩⟩ | exact ⟨⟨_, rfl⟩, .inl HF⟩

theorem trip_stops (n B : Nat) (a b : Int) (P m : Nat) (a1 : -5000 ≤ a) (a2 : a ≤ 5000) (b1 : -5000 ≤ b) (b2 : b ≤ 5000) (hP1 : 2 ≤ P) (hP2 : P ≤ 5000) (hm1 : 1 ≤ m) (hm2 : m ≤ 32) (w : World) (hBn : B + 3 < w.heap.size) (hc : Capt B a b P m w) :
    SeqStopsK Fence.wide n Try.prog 98 #[.pointer (some ⟨B + 3, 0, none⟩), .pointer (some ⟨B, 0, none⟩), .pointer (some ⟨B + 1, 0, none⟩), .pointer (some ⟨B + 2, 0, none⟩)] (fun (x : T3) => enc3 x.1) (KpC B) (fun ys => ys.map (·.1) = tripL a b P m) (fun pre => pre.map (·.1) <+: tripL a b P m) (tripL a b P m).length w := fun l J Jx W hW _ _ hY hJ0 => by
  refine (trip_in n l B a b P m a1 a2 b1 b2 hP1 hP2 hm1 hm2 (fun pre W => ∃ q : List T3, q.map (·.1) = pre ∧ J q W) (fun pre W => ∃ q : List T3, q.map (·.1) = pre ∧ Jx q W) ?_ W (hc.keep (fun k h1 h2 => hW.block k (by omega))) ⟨[], rfl, hJ0⟩).mono ?_
  · rintro pre x W1 ⟨q, rfl, hq⟩ h1 h2 h3 hl
    obtain ⟨fn, tmps, assign, body, hy, hR⟩ := hY q ⟨x, h1, h2, h3⟩ W1 hq (by simpa using hl)
    refine ⟨fn, tmps, assign, body, hy, hR.mono ?_⟩
    rintro e w' (⟨he, hj, hk⟩ | ⟨he, hj⟩)
    · exact .inl ⟨he, ⟨_, by simp, hj⟩, hk⟩
    · exact .inr ⟨he, ⟨_, by simp, hj⟩⟩
  · rintro e W' ⟨hv, ⟨ys, hys, q, hq, hj⟩ | ⟨pre, hpre, q, hq, hj⟩⟩
    · exact ⟨hv, .inl ⟨q, hq.trans hys, hj⟩⟩
    · exact ⟨hv, .inr ⟨q, by rw [← hq] at hpre; exact hpre, hj⟩⟩

end Go.Proofs.Ytdidmblkknnglaa

set_option linter.unusedVariables false
namespace Go.Proofs.Ytdidmblkknnglaa
open Go.RowKit Go.Shelf
attribute [local go_sem] Oper.semAt_some

def pw32 (P : Nat) (k : Int) : Bool := decide (1 ≤ k) && decide (P ^ k.toNat ≤ 32)
theorem pow6 {P i : Nat} (hP : 2 ≤ P) (h : P ^ i ≤ 32) : i ≤ 6 := by
  rcases Nat.lt_or_ge 6 i with hi | hi
  · have h1 : 2 ^ 7 ≤ P ^ 7 := Nat.pow_le_pow_left hP 7
    have h2 : P ^ 7 ≤ P ^ i := Nat.pow_le_pow_right (by omega) hi
    omega
  · exact hi
theorem powerWithin32_any (P : Nat) (k : Int) (hP : 2 ≤ P) (hP5 : P ≤ 5000) (w : World) :
    Calls Try.prog 73 #[.int .i64 P, .int .i64 k, .int .i64 32] w fun e w' => (∃ x : Int, e = .returned (.tuple #[.int .i64 x, .bool (pw32 P k)]) ∧ (pw32 P k = true → x = ((P ^ k.toNat : Nat) : Int))) ∧ w = w' := by
  by_cases hk : 1 ≤ k
  · obtain ⟨K, rfl⟩ := Int.eq_ofNat_of_zero_le (show 0 ≤ k by omega)
    have HO : Hid (pw32 P (K : Int) = decide (P ^ K ≤ 32)) := hid (by unfold pw32; rw [decide_eq_true hk, Int.toNat_natCast, Bool.true_and])
    go_enter Try.func73, Try.ntmps73
    go_wp2_with fail
    go_loop [8, 10] (fun sp si => ∃ i A : Nat, si = .int .i64 i ∧ sp = .int .i64 A ∧ A ≤ 32 ∧ i ≤ 6 ∧ i ≤ K ∧ Hid (A = P ^ i)) (fun _ si => 7 - (intOf si).toNat)
    case atStart => exact ⟨0, 1, rfl, rfl, by omega, by omega, by omega, hid rfl⟩
    case round =>
      obtain ⟨i, A, rfl, rfl, hA, hi12, hiK, HA⟩ := hrel
      by_cases hlt : i < K
      · have hi0 : (i : Int) < (K : Int) := by omega
        have hAP := Nat.mul_le_mul hA hP5
        have eAP : (A : Int) * (P : Int) = ((A * P : Nat) : Int) := by push_cast; rfl
        have ap1 : 0 ≤ (A : Int) * (P : Int) := by rw [eAP]; omega
        have ap2 : (A : Int) * (P : Int) ≤ 25000000 := by rw [eAP]; omega
        have HS : Hid (A * P = P ^ (i + 1)) := hid (by rw [HA.out, Nat.pow_succ])
        have HE := hid eAP
        by_cases hle : A * P ≤ 32
        · have h12 := pow6 (i := i + 1) hP (by rw [← HS.out]; exact hle)
          have hng : ¬ (32 : Int) < (A : Int) * (P : Int) := by rw [eAP]; omega
          clear eAP
          go_wp2_with fail
          go_round
          case measure => simp only [intOf]; omega
          case rel => exact ⟨i + 1, A * P, by go_num, vI HE.out, hle, by omega, by omega, HS⟩
        · have hg : (32 : Int) < (A : Int) * (P : Int) := by rw [eAP]; omega
          have HN : Hid (pw32 P (K : Int) = false) := hid (by
            rw [HO.out]
            refine decide_eq_false fun h => hle ?_
            rw [HS.out]
            exact Nat.le_trans (Nat.pow_le_pow_right (by omega) hlt) h)
          clear eAP
          go_wp2_with fail
          go_ret2
          rw [HN.out]
          exact ⟨⟨0, rfl, fun h => by cases h⟩, rfl⟩
      · obtain rfl : i = K := by omega
        have HY : Hid (pw32 P (i : Int) = true) := hid (by rw [HO.out, ← HA.out]; exact decide_eq_true hA)
        clear hlt
        go_wp2_with fail
        go_ret2
        rw [HY.out]
        exact ⟨⟨A, rfl, fun _ => by rw [HA.out]; simp⟩, rfl⟩
  · have HN : Hid (pw32 P k = false) := hid (by unfold pw32; rw [decide_eq_false hk, Bool.false_and])
    have hk0 : ¬ (0 : Int) < k := by omega
    go_enter Try.func73, Try.ntmps73
    go_wp2_with fail
    go_loop [8, 10] (fun sp si => sp = .int .i64 1 ∧ si = .int .i64 0) (fun _ _ => 0)
    case atStart => exact ⟨rfl, rfl⟩
    case round =>
      obtain ⟨rfl, rfl⟩ := hrel
      go_wp2_with fail
      go_ret2
      rw [HN.out]
      refine ⟨⟨1, ?_, fun h => by cases h⟩, rfl⟩
      show Ending.returned (.tuple #[.int .i64 1, .bool (decide (1 ≤ k))]) = _
      rw [decide_eq_false (show ¬ 1 ≤ k by omega)]

theorem pw32_ok {a b : Int} {P : Nat} {k : Int} (O : okAB a b = true) (hP : primeN P = true) : smodV a b (P : Int) k = (pw32 P k && anyHit a b P (P ^ k.toNat)) := by
  have hp := primeN_bd hP
  have hm : modOk a b (P : Int) k = (decide (P ≤ 31) && inR k 1 5) := by
    unfold modOk
    rw [O, show primeI (P : Int) = true from hP, Bool.true_and, Bool.true_and]
    congr 1
    rw [Bool.eq_iff_iff, decide_eq_true_eq, decide_eq_true_eq]
    omega
  unfold smodV
  rw [hm, Int.toNat_natCast]
  cases h : pw32 P k with
  | true =>
    unfold pw32 at h
    rw [Bool.and_eq_true, decide_eq_true_eq, decide_eq_true_eq] at h
    obtain ⟨h1, h2⟩ := h
    have h3 : P ^ 1 ≤ P ^ k.toNat := Nat.pow_le_pow_right (by omega) (by omega)
    rw [Nat.pow_one] at h3
    have h4 : P ≠ 32 := by rintro rfl; revert hP; decide
    have h5 : k ≤ 5 := by
      refine Classical.byContradiction fun hc => ?_
      have g1 : 2 ^ 6 ≤ P ^ 6 := Nat.pow_le_pow_left hp.1 6
      have g2 : P ^ 6 ≤ P ^ k.toNat := Nat.pow_le_pow_right (by omega) (by omega)
      omega
    rw [decide_eq_true (show P ≤ 31 by omega), show inR k 1 5 = true from by unfold inR; rw [decide_eq_true h1, decide_eq_true h5]; rfl, decide_eq_true h2]
    rfl
  | false =>
    rw [Bool.false_and]
    unfold pw32 at h
    by_cases h1 : 1 ≤ k
    · rw [decide_eq_true h1, Bool.true_and] at h
      rw [h, Bool.false_and, Bool.and_false]
    · have : inR k 1 5 = false := by unfold inR; rw [decide_eq_false h1, Bool.false_and]
      rw [this, Bool.and_false, Bool.false_and]
theorem trip_hit {a b : Int} {P m : Nat} : (∃ x, x ∈ tripL a b P m) → anyHit a b P m = true := by
  rintro ⟨x, hx⟩
  have hz : ∀ X Y n, x ∈ tzL a b P m X Y n → X < m → Y < m → n ≤ m → anyHit a b P m = true := by
    intro X Y n
    induction n with
    | zero => intro h; cases h
    | succ n ih =>
      intro h hX hY hn
      unfold tzL at h
      rcases List.mem_append.1 h with h | h
      · exact ih h hX hY (by omega)
      · by_cases hh : hitB a b P m X Y n = true
        · exact anyHit_yes hX hY (by omega) hh
        · rw [if_neg hh] at h; cases h
  have hy : ∀ X n, x ∈ tyL a b P m X n → X < m → n ≤ m → anyHit a b P m = true := by
    intro X n
    induction n with
    | zero => intro h; cases h
    | succ n ih =>
      intro h hX hn
      unfold tyL at h
      rcases List.mem_append.1 h with h | h
      · exact ih h hX (by omega)
      · exact hz X n m h hX (by omega) (Nat.le_refl _)
  have hx2 : ∀ n, x ∈ txL a b P m n → n ≤ m → anyHit a b P m = true := by
    intro n
    induction n with
    | zero => intro h; cases h
    | succ n ih =>
      intro h hn
      unfold txL at h
      rcases List.mem_append.1 h with h | h
      · exact ih h (by omega)
      · exact hy n m h (by omega) (Nat.le_refl _)
  exact hx2 m hx (Nat.le_refl _)
theorem trip_none {a b : Int} {P m : Nat} (h : tripL a b P m = []) : anyHit a b P m = false := by
  cases hh : anyHit a b P m with
  | false => rfl
  | true =>
    obtain ⟨x, hx, h1⟩ := List.any_eq_true.1 hh
    obtain ⟨y, hy, h2⟩ := List.any_eq_true.1 h1
    obtain ⟨z, hz, h3⟩ := List.any_eq_true.1 h2
    have := (trip_pre (List.mem_range.1 hx) (List.mem_range.1 hy) (List.mem_range.1 hz) h3).length_le
    rw [h, List.length_append] at this
    simp at this
theorem kpC_b {B : Nat} {w : World} (hn : B + 4 ≤ w.heap.size) (W : World) (l : Nat) (o o' : Obj) (hl : w.heap.size ≤ l) (h : W.heap[l]? = some o) (h1 : o.isCells = false) (h2 : o.isWalk = false) : KpC B W (W.putObj l o') :=
  fun k _ hk => (belowK_b (n₀ := B + 4) hn W l o o' hl h h1 h2).block k hk
theorem boxed_low {W W' : World} {B : Nat} {t : TypeId} {v : Value} (h : Boxed W B t v) (hb : Below W.heap.size W W') : Boxed W' B t v := (hb.block B h.lt).trans h
theorem boxed_putObj {W : World} {B D : Nat} {t : TypeId} {v : Value} {o : Obj} (h : Boxed W B t v) (hD : D ≠ B) : Boxed (W.putObj D o) B t v := by
  unfold Boxed at *
  rw [← h]
  simp [World.putObj, hD]
theorem capt_new (a b : Int) (P m : Nat) (w : World) : Capt w.heap.size a b P m ((((w.alloc (.cells #[.int .i64 a] 3)).alloc (.cells #[.int .i64 b] 3)).alloc (.cells #[.int .i64 P] 3)).alloc (.cells #[.int .i64 m] 3)) := by
  have c1 := (((Boxed.new w 3 (.int .i64 a)).alloc (.cells #[.int .i64 b] 3)).alloc (.cells #[.int .i64 P] 3)).alloc (.cells #[.int .i64 m] 3)
  have c2 := ((Boxed.new (w.alloc (.cells #[.int .i64 a] 3)) 3 (.int .i64 b)).alloc (.cells #[.int .i64 P] 3)).alloc (.cells #[.int .i64 m] 3)
  have c3 := (Boxed.new ((w.alloc (.cells #[.int .i64 a] 3)).alloc (.cells #[.int .i64 b] 3)) 3 (.int .i64 P)).alloc (.cells #[.int .i64 m] 3)
  have c4 := Boxed.new (((w.alloc (.cells #[.int .i64 a] 3)).alloc (.cells #[.int .i64 b] 3)).alloc (.cells #[.int .i64 P] 3)) 3 (.int .i64 m)
  simp only [World.size_alloc] at c2 c3 c4
  exact ⟨c1, c2, c3, c4⟩
theorem below_four {n : Nat} {w0 w : World} (h : Below n w0 w) (hn : n ≤ w.heap.size) (o1 o2 o3 o4 : Obj) : Below n w0 ((((w.alloc o1).alloc o2).alloc o3).alloc o4) :=
  (((h.alloc hn _).alloc (by simp; omega) _).alloc (by simp; omega) _).alloc (by simp; omega) _
theorem boxed_four {w : World} {B : Nat} {t : TypeId} {v : Value} (h : Boxed w B t v) (o1 o2 o3 o4 : Obj) : Boxed ((((w.alloc o1).alloc o2).alloc o3).alloc o4) B t v := (((h.alloc o1).alloc o2).alloc o3).alloc o4

set_option maxRecDepth 100000 in
set_option maxHeartbeats 2000000 in
theorem symbolModulo_main (a b : Int) (P m : Nat) (k : Int) (hA : factB a = true) (hBB : factB b = true) (hP : primeN P = true) (hW : pw32 P k = true) (hm : m = P ^ k.toNat) (w : World) :
    Calls Try.prog 35 #[.int .i64 a, .int .i64 b, .int .i64 P, .int .i64 k] w fun e w' => e = .returned (.bool (anyHit a b P m)) ∧ Below w.heap.size w w' := by
  obtain ⟨a0, a1, a2⟩ := factB_bd hA
  obtain ⟨b0, b1, b2⟩ := factB_bd hBB
  have hp2 := (primeN_bd hP).1
  have hp5 := (primeN_bd hP).2.1
  have hm32 : m ≤ 32 := by
    unfold pw32 at hW
    rw [Bool.and_eq_true, decide_eq_true_eq, decide_eq_true_eq] at hW
    rw [hm]; exact hW.2
  have hm1 : 1 ≤ m := by rw [hm]; exact Nat.pow_pos (by omega)
  have HA := hid hA
  have HBB := hid hBB
  have HPR : Hid (primeI (P : Int) = true) := hid hP
  have HPW := hid hW
  have HM := hid hm
  have bR := Boxed.new w 4 (.bool false)
  have cR := bR.cell
  have HB1 := hid ((Below.refl w.heap.size w).alloc (Nat.le_refl _) (.cells #[.bool false] 4))
  clear a0 b0 hA hBB hP hW hm
  refine (callsIn_wide (n := 5)).1 ?_
  refine callsIn_of_wp_marks Try.func35 rfl trivial ?_ rfl
  simp only [Try.ntmps35, List.size_toArray, List.length_cons, List.length_nil, Nat.reduceAdd, Nat.reduceSub, Array.replicate_succ, Array.replicate_zero, List.push_toArray, List.append_toArray, List.nil_append, List.cons_append]
  gi_wp2_with (first | (refine ⟨trivial, ?_⟩; gi_at_call 55; refine (callsIn_wide.2 (factored_any _ _)).mono ?_; (first | rw [HA.out] | rw [HBB.out]); rintro e w' ⟨rfl, rfl⟩) | (refine ⟨trivial, ?_⟩; gi_at_call 72; refine (callsIn_wide.2 (prime_any _ _)).mono ?_; rw [HPR.out]; rintro e w2 ⟨rfl, hb2⟩))
  refine ⟨trivial, ?_⟩
  gi_at_call 73
  refine (callsIn_wide.2 (powerWithin32_any P k hp2 hp5 _)).mono ?_
  rw [HPW.out]
  rintro e w' ⟨⟨xw, rfl, hxw⟩, rfl⟩
  have hxm : xw = (m : Int) := by rw [hxw rfl, HM.out]
  subst hxm
  clear hxw
  gi_wp2_with fail
  refine ⟨trivial, ?_⟩
  gi_at_call 74
  refine (callsIn_wide.2 (solved_make a b P m _)).mono ?_
  rintro e w' ⟨rfl, rfl⟩
  have hs2 := hb2.size
  rw [World.size_alloc] at hs2
  have HB2 := hid (HB1.out.trans (hb2.mono (by simp)))
  have bR2 := boxed_four (boxed_low bR hb2) (.cells #[.int .i64 a] 3) (.cells #[.int .i64 b] 3) (.cells #[.int .i64 P] 3) (.cells #[.int .i64 m] 3)
  have HC := capt_new a b P m w2
  have HB4 := below_four HB2.out (by omega) (.cells #[.int .i64 a] 3) (.cells #[.int .i64 b] 3) (.cells #[.int .i64 P] 3) (.cells #[.int .i64 m] 3)
  clear hb2 bR cR
  gi_wp2_with fail
  refine wpIn_rangeFunc_ownF rfl (by omega) (gf := 98) (lb := #[.pointer (some ⟨w2.heap.size + 3, 0, none⟩), .pointer (some ⟨w2.heap.size, 0, none⟩), .pointer (some ⟨w2.heap.size + 1, 0, none⟩), .pointer (some ⟨w2.heap.size + 2, 0, none⟩)]) rfl trivial (enters_of Try.func98 (by kernel_rfl) rfl)
    (trip_stops _ w2.heap.size a b P m a1 a2 b1 b2 hp2 hp5 hm1 hm32 _ (by simp) HC) KpC.trans (kpC_b (by simp)) (Below.refl _ _) (fun _ => rfl)
    (fun pre W => (pre = [] ∧ Boxed W w.heap.size 4 (.bool false)) ∧ Below w.heap.size w W)
    (fun c pre W => (c = .ret ∧ ∃ x : T3, pre = [x] ∧ Boxed W w.heap.size 4 (.bool true)) ∧ Below w.heap.size w W)
    (OwnFrom.and (OwnFrom.and (ownFrom_pure _ _) (Own.from (boxed_own _ _ (fun _ => .bool false)) _)) (ownFrom_below (Nat.le_refl _) (by simp; omega)))
    (fun c => OwnFrom.and (fun s A B row hs hg hr => by obtain ⟨hc, x, hx, hb⟩ := hs; exact ⟨hc, x, hx, (Own.from (boxed_own _ _ (fun _ : Unit => Value.bool true)) _) () A B row hb hg hr⟩) (ownFrom_below (Nat.le_refl _) (by simp; omega)))
    ⟨⟨rfl, bR2⟩, HB4⟩ ?a1 ?assign ?body ?done ?stop
  case assign =>
    intro l x W K hK
    gi_wp2
    exact hK
  case body =>
    rintro l pre x W ⟨⟨rfl, hb⟩, hB⟩ _
    have hc := hb.cell
    have hf := hb.frozen
    gi_wp2
    exact ⟨KeepsOthers.setCell _ _ _, ⟨rfl, x, rfl, hb.set _⟩, hB.setCell (p := ⟨w.heap.size, 0, none⟩) (Nat.le_refl _) _⟩
  case done =>
    rintro D ys W hD hS ⟨⟨h, hb⟩, hB⟩ hK
    have hc := hb.cell
    have hf := hb.frozen
    have hn := hid (trip_none (a := a) (b := b) (P := P) (m := m) (by rw [h] at hS; exact hS.symm))
    have hset := hb.set (.bool false)
    have hB2 := hB.setCell (p := ⟨w.heap.size, 0, none⟩) (Nat.le_refl _) (.bool false)
    gi_wp2
    have hD2 : D ≠ w.heap.size := by simp at hD; omega
    have hK2 := (KeepsOthers.setCell W ⟨w.heap.size, 0, none⟩ (.bool false)).same D _ hK rfl
    refine ⟨by simp, .inl ⟨_, _, rfl, run_takeDeferred hK2, ?_⟩⟩
    have hfc : ∀ o, ((W.setCell ⟨w.heap.size, 0, none⟩ (.bool false)).putObj D o).cell? ⟨w.heap.size, 0, none⟩ = some (.bool false) := fun o => (boxed_putObj hset hD2).cell
    refine ⟨.bool false, by simp [results, Try.results35, go_sem, hfc] <;> go_simp, ?_⟩
    exact ⟨retB hn.out.symm, hB2.trans (belowK_b (w := w) (Nat.le_refl _) _ D _ _ (by simp at hD; omega) hK2 rfl rfl)⟩
  case stop =>
    rintro D c pre W hD hSp ⟨⟨rfl, x, rfl, hb⟩, hB⟩ hK
    have hc := hb.cell
    have hn : Hid (anyHit a b P m = true) := hid (trip_hit ⟨x.1, by have := hSp.subset (List.mem_cons_self ..); exact this⟩)
    gi_wp2
    have hD2 : D ≠ w.heap.size := by simp at hD; omega
    refine ⟨by simp, .inl ⟨_, _, rfl, run_takeDeferred hK, ?_⟩⟩
    have hfc : ∀ o, (W.putObj D o).cell? ⟨w.heap.size, 0, none⟩ = some (.bool true) := fun o => (boxed_putObj hb hD2).cell
    refine ⟨.bool true, by simp [results, Try.results35, go_sem, hfc] <;> go_simp, ?_⟩
    exact ⟨retB hn.out.symm, hB.trans (belowK_b (w := w) (Nat.le_refl _) W D _ _ (by simp at hD; omega) hK rfl rfl)⟩

set_option maxRecDepth 100000 in
set_option maxHeartbeats 1000000 in
theorem symbolModulo_any (a b p k : Int) (w : World) :
    Calls Try.prog 35 #[.int .i64 a, .int .i64 b, .int .i64 p, .int .i64 k] w fun e w' => e = .returned (.bool (smodV a b p k)) ∧ Below w.heap.size w w' := by
  have bR := Boxed.new w 4 (.bool false)
  have cR := bR.cell
  have fR := bR.frozen
  have HB1 := hid ((Below.refl w.heap.size w).alloc (Nat.le_refl _) (.cells #[.bool false] 4))
  cases hA : factB a with
  | false =>
    have HP := hid (smodV_no (p := p) (k := k) (show modOk a b p k = false by unfold modOk okAB; rw [hA]; rfl))
    have HA := hid hA
    clear hA
    go_enter Try.func35, Try.ntmps35
    go_wp2_with (go_at_call 55; refine (factored_any _ _).mono ?_; rw [HA.out]; rintro e w' ⟨rfl, rfl⟩)
    have cS := (bR.set (.bool false)).cell
    refine bodyPost_ret (v := .bool false) (by simp [results, Try.results35, go_sem] <;> go_simp) rfl ?_
    exact ⟨retB HP.out.symm, by first | exact HB1.out | exact HB1.out.setCell (p := ⟨w.heap.size, 0, none⟩) (Nat.le_refl _) _⟩
  | true =>
    cases hBB : factB b with
    | false =>
      have HP := hid (smodV_no (p := p) (k := k) (show modOk a b p k = false by unfold modOk okAB; rw [hA, hBB]; rfl))
      have HA := hid hA
      have HBB := hid hBB
      clear hA hBB
      go_enter Try.func35, Try.ntmps35
      go_wp2_with (go_at_call 55; refine (factored_any _ _).mono ?_; (first | rw [HA.out] | rw [HBB.out]); rintro e w' ⟨rfl, rfl⟩)
      have cS := (bR.set (.bool false)).cell
      refine bodyPost_ret (v := .bool false) (by simp [results, Try.results35, go_sem] <;> go_simp) rfl ?_
      exact ⟨retB HP.out.symm, by first | exact HB1.out | exact HB1.out.setCell (p := ⟨w.heap.size, 0, none⟩) (Nat.le_refl _) _⟩
    | true =>
      have O : okAB a b = true := by unfold okAB; rw [hA, hBB]; rfl
      cases hPR : primeI p with
      | false =>
        have HP := hid (smodV_no (p := p) (k := k) (show modOk a b p k = false by unfold modOk; rw [hPR, Bool.false_and, Bool.and_false]))
        have HA := hid hA
        have HBB := hid hBB
        have HPR := hid hPR
        clear hA hBB hPR O
        go_enter Try.func35, Try.ntmps35
        go_wp2_with (first | (go_at_call 55; refine (factored_any _ _).mono ?_; (first | rw [HA.out] | rw [HBB.out]); rintro e w' ⟨rfl, rfl⟩) | (go_at_call 72; refine (prime_any _ _).mono ?_; rw [HPR.out]; rintro e w2 ⟨rfl, hb2⟩; have bR2 := boxed_low bR hb2; have cR2 := bR2.cell; have fR2 := bR2.frozen))
        have cS := (bR2.set (.bool false)).cell
        refine bodyPost_ret (v := .bool false) (by simp [results, Try.results35, go_sem] <;> go_simp) rfl ?_
        exact ⟨retB HP.out.symm, by first | exact (HB1.out.trans (hb2.mono (by simp))) | exact (HB1.out.trans (hb2.mono (by simp))).setCell (p := ⟨w.heap.size, 0, none⟩) (Nat.le_refl _) _⟩
      | true =>
        have hp2 := (primeI_bd hPR).1
        obtain ⟨P, rfl⟩ := Int.eq_ofNat_of_zero_le (show 0 ≤ p by omega)
        have hP : primeN P = true := hPR
        have hpp2 := (primeN_bd hP).1
        have hpp5 := (primeN_bd hP).2.1
        cases hW : pw32 P k with
        | true =>
          refine (symbolModulo_main a b P _ k hA hBB hP hW rfl w).mono ?_
          rintro e w' ⟨rfl, hb⟩
          exact ⟨retB (by rw [pw32_ok O hP, hW, Bool.true_and]), hb⟩
        | false =>
          have HP : Hid (smodV a b (P : Int) k = false) := hid (by rw [pw32_ok O hP, hW, Bool.false_and])
          have HA := hid hA
          have HBB := hid hBB
          have HPR := hid hPR
          have HW := hid hW
          clear hA hBB hPR O hP hW
          go_enter Try.func35, Try.ntmps35
          go_wp2_with (first | (go_at_call 55; refine (factored_any _ _).mono ?_; (first | rw [HA.out] | rw [HBB.out]); rintro e w' ⟨rfl, rfl⟩) | (go_at_call 72; refine (prime_any _ _).mono ?_; rw [HPR.out]; rintro e w2 ⟨rfl, hb2⟩; have bR2 := boxed_low bR hb2; have cR2 := bR2.cell; have fR2 := bR2.frozen) | (go_at_call 73; refine (powerWithin32_any P k hpp2 hpp5 _).mono ?_; rw [HW.out]; rintro e w' ⟨⟨xw, rfl, hxw⟩, rfl⟩))
          have cS := (bR2.set (.bool false)).cell
          refine bodyPost_ret (v := .bool false) (by simp [results, Try.results35, go_sem] <;> go_simp) rfl ?_
          exact ⟨retB HP.out.symm, by first | exact (HB1.out.trans (hb2.mono (by simp))) | exact (HB1.out.trans (hb2.mono (by simp))).setCell (p := ⟨w.heap.size, 0, none⟩) (Nat.le_refl _) _⟩

end Go.Proofs.Ytdidmblkknnglaa

namespace Go.Proofs.Ytdidmblkknnglaa.fnModulo
open Go.ChangeShapes Go.WideShapes Go.ChangeAt Go.RowKit
open Go.ChangeMaps (open_string shut_string)
set_option linter.unusedVariables false
theorem core_yes {a : Int} (h : factB a = true) : ∃ c r : Int, coreV a = .tuple #[.int .i64 c, .int .i64 r, .bool true] ∧ (r = 1 → a % 4 ≠ 0 ∧ a % 9 ≠ 0) ∧ 1 ≤ r := by
  rcases factB_cases a with ⟨h1, h2, h0, _, _⟩ | ⟨_, e⟩ | ⟨_, _, e⟩
  · obtain ⟨_, _, r1⟩ := rootW_eq (N := a.natAbs) (by omega) (by omega)
    exact ⟨_, _, coreV_yes h, fun e => rootSq h0 (by omega), by omega⟩
  · rw [h] at e; cases e
  · rw [h] at e; cases e
theorem high_one {a b : Int} (O : okAB a b = true) {p : Int} {ra rb : Int} (h3 : p = 3 → a % 9 ≠ 0 → b % 9 ≠ 0 → symV a b 3 = 1) (h2 : p = 2 → a % 4 ≠ 0 → b % 4 ≠ 0 → symV a b 2 = 1)
    (ha : ra = 1 → a % 4 ≠ 0 ∧ a % 9 ≠ 0) (hb : rb = 1 → b % 4 ≠ 0 ∧ b % 9 ≠ 0) (e1 : ra = 1) (e2 : rb = 1) (hp : p = 3 ∨ p = 2) : symOfV a b p = 1 := by
  rcases hp with rfl | rfl
  · rw [symOf_yes O (by decide)]; exact h3 rfl (ha e1).2 (hb e2).2
  · rw [symOf_yes O (by decide)]; exact h2 rfl (ha e1).1 (hb e2).1

set_option maxRecDepth 100000 in
set_option maxHeartbeats 8000000 in
theorem walk  (a0 : Option Addr) (len0 cap0 : Nat) (z0 : List Int) (w : World) (w0 : IsRow .u8 w a0 len0 cap0 z0) :
    Calls Try.prog 8 #[.slice a0 len0 cap0] w fun e w' => e = .returned (.bool true) ∧ Below w.heap.size w w' := by
  have HC := hid (codeIn_of w0)
  clear w0
  by_cases hl : (1048576 : Int) < (len0 : Int)
  · go_enter Try.func8, Try.ntmps8
    go_wp2
    go_ret
    exact ⟨rfl, Below.refl _ _⟩
  · go_enter Try.func8, Try.ntmps8
    go_wp2_with fail
    refine (drawSymbolModulo_any _ len0 _ HC.out).mono ?_
    rintro e w1 ⟨a, b, p, k, rfl, ⟨_, _, hp, hk⟩, hb⟩
    unfold smallI at hp hk
    have k1 := hk.1
    have k2 := hk.2
    clear hp hk
    cases hV : smodV a b p k with
    | false =>
      have P := hid hV
      clear hV
      go_wp2_with fail
      refine (symbolModulo_any a b p k _).mono ?_
      rw [P.out]
      rintro e w' ⟨rfl, hb1⟩
      have hB1 := hb.trans (hb1.mono hb.size)
      go_wp2_with fail
      refine (symbolModuloS_any a b p k _).mono ?_
      rw [P.out]
      rintro e w' ⟨rfl, rfl⟩
      go_wp2
      go_ret
      exact ⟨rfl, hB1⟩
    | true =>
      have P := hid hV
      have hh := smod_hit hV
      have O := hh.1
      have hfab : factB a = true ∧ factB b = true := by unfold okAB at O; rw [Bool.and_eq_true] at O; exact O
      obtain ⟨ca, ra, ea, qa, ra1⟩ := core_yes hfab.1
      obtain ⟨cb, rb, eb, qb, rb1⟩ := core_yes hfab.2
      have CA := hid ea
      have CB := hid eb
      have HDN := hid (smod_down hV)
      have H3 : Hid (p = 3 → k = 3 → ra = 1 → rb = 1 → symOfV a b 3 = 1) := hid (fun e1 e2 x y => by
        subst e1; subst e2
        exact high_one O (fun _ h1 h2 => high3 h1 h2 hh.2) (fun h => absurd h (by decide)) qa qb x y (.inl rfl))
      have H2 : Hid (p = 2 → k = 5 → ra = 1 → rb = 1 → symOfV a b 2 = 1) := hid (fun e1 e2 x y => by
        subst e1; subst e2
        exact high_one O (fun h => absurd h (by decide)) (fun _ h1 h2 => high2 h1 h2 hh.2) qa qb x y (.inr rfl))
      clear hV hh O hfab ea eb qa qb
      by_cases hk1 : k = 1
      · subst hk1
        by_cases hp3 : p = 3
        · subst hp3
          go_wp2_with fail
          refine (symbolModulo_any a b 3 1 _).mono ?_
          rw [P.out]
          rintro e w' ⟨rfl, hb1⟩
          have hB1 := hb.trans (hb1.mono hb.size)
          go_wp2_with fail
          refine (symbolModuloS_any a b 3 1 _).mono ?_
          rw [P.out]
          rintro e w' ⟨rfl, rfl⟩
          go_wp2_with fail
          refine (coreOf_any a _).mono ?_
          rw [CA.out]
          rintro e w' ⟨rfl, hb2⟩
          have hB2 := hB1.trans (hb2.mono hB1.size)
          go_wp2_with fail
          refine (coreOf_any b _).mono ?_
          rw [CB.out]
          rintro e w' ⟨rfl, hb3⟩
          have hB3 := hB2.trans (hb3.mono hB2.size)
          go_wp2
          go_ret
          exact ⟨rfl, hB3⟩
        · have T3 : (p == 3) = false := by rw [beq_eq_false_iff_ne]; exact hp3
          by_cases hp2 : p = 2
          · subst hp2
            go_wp2_with fail
            refine (symbolModulo_any a b 2 1 _).mono ?_
            rw [P.out]
            rintro e w' ⟨rfl, hb1⟩
            have hB1 := hb.trans (hb1.mono hb.size)
            go_wp2_with fail
            refine (symbolModuloS_any a b 2 1 _).mono ?_
            rw [P.out]
            rintro e w' ⟨rfl, rfl⟩
            go_wp2_with fail
            refine (coreOf_any a _).mono ?_
            rw [CA.out]
            rintro e w' ⟨rfl, hb2⟩
            have hB2 := hB1.trans (hb2.mono hB1.size)
            go_wp2_with fail
            refine (coreOf_any b _).mono ?_
            rw [CB.out]
            rintro e w' ⟨rfl, hb3⟩
            have hB3 := hB2.trans (hb3.mono hB2.size)
            go_wp2
            go_ret
            exact ⟨rfl, hB3⟩
          · have T2 : (p == 2) = false := by rw [beq_eq_false_iff_ne]; exact hp2
            go_wp2_with fail
            refine (symbolModulo_any a b p 1 _).mono ?_
            rw [P.out]
            rintro e w' ⟨rfl, hb1⟩
            have hB1 := hb.trans (hb1.mono hb.size)
            go_wp2_with fail
            refine (symbolModuloS_any a b p 1 _).mono ?_
            rw [P.out]
            rintro e w' ⟨rfl, rfl⟩
            go_wp2_with fail
            refine (coreOf_any a _).mono ?_
            rw [CA.out]
            rintro e w' ⟨rfl, hb2⟩
            have hB2 := hB1.trans (hb2.mono hB1.size)
            go_wp2_with fail
            refine (coreOf_any b _).mono ?_
            rw [CB.out]
            rintro e w' ⟨rfl, hb3⟩
            have hB3 := hB2.trans (hb3.mono hB2.size)
            go_wp2
            go_ret
            exact ⟨rfl, hB3⟩
      · have TK : (k == 1) = false := by rw [beq_eq_false_iff_ne]; exact hk1
        by_cases hp3 : p = 3
        · subst hp3
          by_cases hk3 : k = 3
          · subst hk3
            have D : Hid (smodV a b 3 2 = true) := hid (by rcases HDN.out with h | h; (· exact absurd h (by decide)); (· simpa using h))
            by_cases hra : 1 < ra
            · skip
              go_wp2_with fail
              refine (symbolModulo_any a b 3 3 _).mono ?_
              rw [P.out]
              rintro e w' ⟨rfl, hb1⟩
              have hB1 := hb.trans (hb1.mono hb.size)
              go_wp2_with fail
              refine (symbolModuloS_any a b 3 3 _).mono ?_
              rw [P.out]
              rintro e w' ⟨rfl, rfl⟩
              go_wp2_with fail
              refine (coreOf_any a _).mono ?_
              rw [CA.out]
              rintro e w' ⟨rfl, hb2⟩
              have hB2 := hB1.trans (hb2.mono hB1.size)
              go_wp2_with fail
              refine (coreOf_any b _).mono ?_
              rw [CB.out]
              rintro e w' ⟨rfl, hb3⟩
              have hB3 := hB2.trans (hb3.mono hB2.size)
              go_wp2_with fail
              refine (symbolModulo_any a b 3 _ _).mono ?_
              rw [D.out]
              rintro e w' ⟨rfl, hb4⟩
              have hB4 := hB3.trans (hb4.mono hB3.size)
              go_wp2
              go_ret
              exact ⟨rfl, hB4⟩
            · by_cases hrb : 1 < rb
              · skip
                go_wp2_with fail
                refine (symbolModulo_any a b 3 3 _).mono ?_
                rw [P.out]
                rintro e w' ⟨rfl, hb1⟩
                have hB1 := hb.trans (hb1.mono hb.size)
                go_wp2_with fail
                refine (symbolModuloS_any a b 3 3 _).mono ?_
                rw [P.out]
                rintro e w' ⟨rfl, rfl⟩
                go_wp2_with fail
                refine (coreOf_any a _).mono ?_
                rw [CA.out]
                rintro e w' ⟨rfl, hb2⟩
                have hB2 := hB1.trans (hb2.mono hB1.size)
                go_wp2_with fail
                refine (coreOf_any b _).mono ?_
                rw [CB.out]
                rintro e w' ⟨rfl, hb3⟩
                have hB3 := hB2.trans (hb3.mono hB2.size)
                go_wp2_with fail
                refine (symbolModulo_any a b 3 _ _).mono ?_
                rw [D.out]
                rintro e w' ⟨rfl, hb4⟩
                have hB4 := hB3.trans (hb4.mono hB3.size)
                go_wp2
                go_ret
                exact ⟨rfl, hB4⟩
              · have S := hid (H3.out rfl rfl (by omega) (by omega))
                go_wp2_with fail
                refine (symbolModulo_any a b 3 3 _).mono ?_
                rw [P.out]
                rintro e w' ⟨rfl, hb1⟩
                have hB1 := hb.trans (hb1.mono hb.size)
                go_wp2_with fail
                refine (symbolModuloS_any a b 3 3 _).mono ?_
                rw [P.out]
                rintro e w' ⟨rfl, rfl⟩
                go_wp2_with fail
                refine (coreOf_any a _).mono ?_
                rw [CA.out]
                rintro e w' ⟨rfl, hb2⟩
                have hB2 := hB1.trans (hb2.mono hB1.size)
                go_wp2_with fail
                refine (coreOf_any b _).mono ?_
                rw [CB.out]
                rintro e w' ⟨rfl, hb3⟩
                have hB3 := hB2.trans (hb3.mono hB2.size)
                go_wp2_with fail
                refine (symbolModulo_any a b 3 _ _).mono ?_
                rw [D.out]
                rintro e w' ⟨rfl, hb4⟩
                have hB4 := hB3.trans (hb4.mono hB3.size)
                go_wp2_with fail
                refine (symbolOf_any a b 3 _).mono ?_
                rw [S.out]
                rintro e w' ⟨rfl, hb5⟩
                have hB5 := hB4.trans (hb5.mono hB4.size)
                go_wp2
                go_ret
                exact ⟨rfl, hB5⟩
          · have TK3 : (k == 3) = false := by rw [beq_eq_false_iff_ne]; exact hk3
            have D : Hid (smodV a b 3 (k - 1) = true) := hid (by rcases HDN.out with h | h; (· exact absurd h hk1); (· exact h))
            go_wp2_with fail
            refine (symbolModulo_any a b 3 k _).mono ?_
            rw [P.out]
            rintro e w' ⟨rfl, hb1⟩
            have hB1 := hb.trans (hb1.mono hb.size)
            go_wp2_with fail
            refine (symbolModuloS_any a b 3 k _).mono ?_
            rw [P.out]
            rintro e w' ⟨rfl, rfl⟩
            go_wp2_with fail
            refine (coreOf_any a _).mono ?_
            rw [CA.out]
            rintro e w' ⟨rfl, hb2⟩
            have hB2 := hB1.trans (hb2.mono hB1.size)
            go_wp2_with fail
            refine (coreOf_any b _).mono ?_
            rw [CB.out]
            rintro e w' ⟨rfl, hb3⟩
            have hB3 := hB2.trans (hb3.mono hB2.size)
            go_wp2_with fail
            refine (symbolModulo_any a b 3 _ _).mono ?_
            rw [D.out]
            rintro e w' ⟨rfl, hb4⟩
            have hB4 := hB3.trans (hb4.mono hB3.size)
            go_wp2
            go_ret
            exact ⟨rfl, hB4⟩
        · have T3 : (p == 3) = false := by rw [beq_eq_false_iff_ne]; exact hp3
          by_cases hp2 : p = 2
          · subst hp2
            by_cases hk5 : k = 5
            · subst hk5
              have D : Hid (smodV a b 2 4 = true) := hid (by rcases HDN.out with h | h; (· exact absurd h (by decide)); (· simpa using h))
              by_cases hra : 1 < ra
              · skip
                go_wp2_with fail
                refine (symbolModulo_any a b 2 5 _).mono ?_
                rw [P.out]
                rintro e w' ⟨rfl, hb1⟩
                have hB1 := hb.trans (hb1.mono hb.size)
                go_wp2_with fail
                refine (symbolModuloS_any a b 2 5 _).mono ?_
                rw [P.out]
                rintro e w' ⟨rfl, rfl⟩
                go_wp2_with fail
                refine (coreOf_any a _).mono ?_
                rw [CA.out]
                rintro e w' ⟨rfl, hb2⟩
                have hB2 := hB1.trans (hb2.mono hB1.size)
                go_wp2_with fail
                refine (coreOf_any b _).mono ?_
                rw [CB.out]
                rintro e w' ⟨rfl, hb3⟩
                have hB3 := hB2.trans (hb3.mono hB2.size)
                go_wp2_with fail
                refine (symbolModulo_any a b 2 _ _).mono ?_
                rw [D.out]
                rintro e w' ⟨rfl, hb4⟩
                have hB4 := hB3.trans (hb4.mono hB3.size)
                go_wp2
                go_ret
                exact ⟨rfl, hB4⟩
              · by_cases hrb : 1 < rb
                · skip
                  go_wp2_with fail
                  refine (symbolModulo_any a b 2 5 _).mono ?_
                  rw [P.out]
                  rintro e w' ⟨rfl, hb1⟩
                  have hB1 := hb.trans (hb1.mono hb.size)
                  go_wp2_with fail
                  refine (symbolModuloS_any a b 2 5 _).mono ?_
                  rw [P.out]
                  rintro e w' ⟨rfl, rfl⟩
                  go_wp2_with fail
                  refine (coreOf_any a _).mono ?_
                  rw [CA.out]
                  rintro e w' ⟨rfl, hb2⟩
                  have hB2 := hB1.trans (hb2.mono hB1.size)
                  go_wp2_with fail
                  refine (coreOf_any b _).mono ?_
                  rw [CB.out]
                  rintro e w' ⟨rfl, hb3⟩
                  have hB3 := hB2.trans (hb3.mono hB2.size)
                  go_wp2_with fail
                  refine (symbolModulo_any a b 2 _ _).mono ?_
                  rw [D.out]
                  rintro e w' ⟨rfl, hb4⟩
                  have hB4 := hB3.trans (hb4.mono hB3.size)
                  go_wp2
                  go_ret
                  exact ⟨rfl, hB4⟩
                · have S := hid (H2.out rfl rfl (by omega) (by omega))
                  go_wp2_with fail
                  refine (symbolModulo_any a b 2 5 _).mono ?_
                  rw [P.out]
                  rintro e w' ⟨rfl, hb1⟩
                  have hB1 := hb.trans (hb1.mono hb.size)
                  go_wp2_with fail
                  refine (symbolModuloS_any a b 2 5 _).mono ?_
                  rw [P.out]
                  rintro e w' ⟨rfl, rfl⟩
                  go_wp2_with fail
                  refine (coreOf_any a _).mono ?_
                  rw [CA.out]
                  rintro e w' ⟨rfl, hb2⟩
                  have hB2 := hB1.trans (hb2.mono hB1.size)
                  go_wp2_with fail
                  refine (coreOf_any b _).mono ?_
                  rw [CB.out]
                  rintro e w' ⟨rfl, hb3⟩
                  have hB3 := hB2.trans (hb3.mono hB2.size)
                  go_wp2_with fail
                  refine (symbolModulo_any a b 2 _ _).mono ?_
                  rw [D.out]
                  rintro e w' ⟨rfl, hb4⟩
                  have hB4 := hB3.trans (hb4.mono hB3.size)
                  go_wp2_with fail
                  refine (symbolOf_any a b 2 _).mono ?_
                  rw [S.out]
                  rintro e w' ⟨rfl, hb5⟩
                  have hB5 := hB4.trans (hb5.mono hB4.size)
                  go_wp2
                  go_ret
                  exact ⟨rfl, hB5⟩
            · have TK5 : (k == 5) = false := by rw [beq_eq_false_iff_ne]; exact hk5
              have D : Hid (smodV a b 2 (k - 1) = true) := hid (by rcases HDN.out with h | h; (· exact absurd h hk1); (· exact h))
              go_wp2_with fail
              refine (symbolModulo_any a b 2 k _).mono ?_
              rw [P.out]
              rintro e w' ⟨rfl, hb1⟩
              have hB1 := hb.trans (hb1.mono hb.size)
              go_wp2_with fail
              refine (symbolModuloS_any a b 2 k _).mono ?_
              rw [P.out]
              rintro e w' ⟨rfl, rfl⟩
              go_wp2_with fail
              refine (coreOf_any a _).mono ?_
              rw [CA.out]
              rintro e w' ⟨rfl, hb2⟩
              have hB2 := hB1.trans (hb2.mono hB1.size)
              go_wp2_with fail
              refine (coreOf_any b _).mono ?_
              rw [CB.out]
              rintro e w' ⟨rfl, hb3⟩
              have hB3 := hB2.trans (hb3.mono hB2.size)
              go_wp2_with fail
              refine (symbolModulo_any a b 2 _ _).mono ?_
              rw [D.out]
              rintro e w' ⟨rfl, hb4⟩
              have hB4 := hB3.trans (hb4.mono hB3.size)
              go_wp2
              go_ret
              exact ⟨rfl, hB4⟩
          · have T2 : (p == 2) = false := by rw [beq_eq_false_iff_ne]; exact hp2
            have D : Hid (smodV a b p (k - 1) = true) := hid (by rcases HDN.out with h | h; (· exact absurd h hk1); (· exact h))
            go_wp2_with fail
            refine (symbolModulo_any a b p k _).mono ?_
            rw [P.out]
            rintro e w' ⟨rfl, hb1⟩
            have hB1 := hb.trans (hb1.mono hb.size)
            go_wp2_with fail
            refine (symbolModuloS_any a b p k _).mono ?_
            rw [P.out]
            rintro e w' ⟨rfl, rfl⟩
            go_wp2_with fail
            refine (coreOf_any a _).mono ?_
            rw [CA.out]
            rintro e w' ⟨rfl, hb2⟩
            have hB2 := hB1.trans (hb2.mono hB1.size)
            go_wp2_with fail
            refine (coreOf_any b _).mono ?_
            rw [CB.out]
            rintro e w' ⟨rfl, hb3⟩
            have hB3 := hB2.trans (hb3.mono hB2.size)
            go_wp2_with fail
            refine (symbolModulo_any a b p _ _).mono ?_
            rw [D.out]
            rintro e w' ⟨rfl, hb4⟩
            have hB4 := hB3.trans (hb4.mono hB3.size)
            go_wp2
            go_ret
            exact ⟨rfl, hB4⟩
theorem own : ownKnob Try.prog.godebug = none := by kernel_rfl
theorem laidOut : laidOutB Try.prog = true := by kernel_rfl
set_option maxRecDepth 100000 in
theorem lifted (os : Os) (started : os.Started) (H : Type) (enc : TypeId × Value → H) :
    ReturnsInHanded {} Try.checked os 8 .any (Rows.fnModuloSpec.pre6 enc Try.prog Try.f8 Rows.fnModuloRow.domain false) (Rows.fnModuloSpec.post enc Try.prog Try.f8 false true false false) := by
  refine returnsInHanded_of_change (C := Try.checked) own started (by kernel_rfl) Try.func8
    (ChangeSpec.witness6 (enc := enc) (C := Try.checked) false ⟨#[], #[.slice none 0 0], []⟩ 8 (by kernel_rfl) (by kernel_rfl) (by kernel_rfl) (by kernel_rfl)) ?_
  intro W base args ds gs before hval0 hW hcnd _
  have hval : ∀ (j : Nat) t v, Try.f8.params[j]? = some t → args[j]? = some v → Value.okWide Try.prog W .any base t v := hval0
  have hW' := hW
  obtain ⟨p, q, hA0, hV, rfl, hfz, hnd⟩ := hW
  have hA : DataW.TrodAll enc Try.prog W 0 (fun _ => true) true Try.f8.params.toList args.toList ds p := hA0
  rw [Try.params8] at hA hval
  obtain ⟨v0, vs0, d0, ds0, p0, q0, hargs, rfl, rfl, h0, r0⟩ := trodAll_cons hA
  obtain ⟨rfl, rfl, rfl⟩ := trodAll_nil r0
  obtain rfl : args = #[v0] := by cases args; simp_all
  obtain ⟨rfl, rfl⟩ := trodVars_none hV
  obtain ⟨a0, len0, cap0, rfl⟩ := okWide_slice Try.underlying22 (hval 0 22 v0 rfl rfl)
  have k0 := h0
  have lt0 : ∀ x ∈ p0, x.block < W.heap.size := by obtain ⟨m, hm⟩ := k0; exact DataW.trod_lt m _ _ _ hm
  obtain ⟨z0, w0⟩ : ∃ zs, IsRow .u8 W a0 len0 cap0 zs := by
    obtain ⟨fuel, hf⟩ := h0
    rcases open_ints Try.underlying22 Try.underlying5 (by kernel_rfl) hf with ⟨hcs, _⟩ | ⟨x, l, c, zs, hcs, _, hl, hm, hz, _, hcell, hwz⟩
    · simp [Value.cells] at hcs
      obtain ⟨rfl, rfl, rfl⟩ := hcs
      exact ⟨[], .inl ⟨rfl, rfl, rfl, rfl⟩⟩
    · simp [Value.cells] at hcs
      obtain ⟨rfl, rfl, rfl⟩ := hcs
      exact ⟨zs, .inr ⟨_, rfl, hl, hm, by simpa using hz, hcell, hwz⟩⟩
  clear hA0 hval0
  refine (walk a0 len0 cap0 z0 W w0).mono fun e W' ⟨he, bel⟩ => ?_
  subst he
  exact ⟨_, rfl, _, _, _, [], _, [], hW', trodAll_mk1 (shut_bool Try.underlying4 _), (trodAll_cons_mk (Below.trod laidOut (by kernel_rfl) (of_decide_eq_true (by kernel_rfl)) k0 bel lt0) trodAll_mk0), rfl, bel.frame _, fun h => by cases h⟩
theorem over : Rows.fnModuloRow.holds Try.pinned (OpenSpec.ofChange Rows.fnModuloSpec) :=
  OpenClaim.holds_of_wide 8 Try.f8 rfl rfl rfl rfl rfl rfl rfl ⟨rfl, rfl, rfl, rfl, rfl⟩ rfl rfl rfl rfl rfl (by kernel_rfl) Try.func8 (by kernel_rfl)
    (of_decide_eq_true (by kernel_rfl)) (by unfold Func.isWrapper; first | (rw [if_pos (by decide +kernel)]; kernel_rfl) | (rw [if_neg (by decide +kernel)]; exact ⟨rfl, rfl⟩))
    (fun os started H enc _ => lifted os started H enc)
theorem proved : Rows.FnModuloSaid := over
end Go.Proofs.Ytdidmblkknnglaa.fnModulo
