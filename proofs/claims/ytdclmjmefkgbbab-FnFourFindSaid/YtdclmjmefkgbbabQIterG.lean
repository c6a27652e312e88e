/-
  The iterator over the prime powers of a number up to 25000000; the places of such a number.
-/
import Derived.Test.YtdclmjmefkgbbabQImpD
import Derived.Test.YtdclmjmefkgbbabQBun8
set_option linter.unusedVariables false
namespace Go.Proofs.Ytdclmjmefkgbbab
open Go.RowKit Go.Shelf
attribute [local go_sem] Oper.semAt_some

def ppowG (n : Nat) : List (Nat × Nat) := ppGo (n + 1) 2 n
theorem plistG_eq (n : Nat) : plistG n = (ppowG n).map (·.1) := plGo_eq _ _ _
theorem ppowG_len (n : Nat) : (ppowG n).length ≤ n + 1 := ppGo_len _ _ _
theorem sq_le5 {p n : Nat} (h : p * p ≤ n) (hn : n ≤ 25000000) : p ≤ 5000 := by
  by_cases hp : p ≤ 5000
  · exact hp
  · have := Nat.mul_le_mul (show 5001 ≤ p by omega) (show 5001 ≤ p by omega)
    omega

set_option maxRecDepth 100000 in
set_option maxHeartbeats 2000000 in
theorem ppG_in (n l Bn : Nat) (a : Int) (h0 : a ≠ 0) (ha1 : -25000000 ≤ a) (ha2 : a ≤ 25000000) (J Jx : List (Nat × Nat) → World → Prop)
    (hY : ∀ pre x W, J pre W → x.1 ≤ 25000000 → x.2 ≤ 25000000 → pre.length < (ppowG a.natAbs).length → YieldAt Fence.wide (n - 1) Try.prog l (encPP x) W fun e W' =>
      (e = .returned (.bool true) ∧ J (pre ++ [x]) W' ∧ KeepsWalks W W') ∨ (e = .returned (.bool false) ∧ Jx (pre ++ [x]) W'))
    (W : World) (hBn : W.cell? ⟨Bn, 0, none⟩ = some (.int .i64 a)) (hJ0 : J [] W) :
    CallsIn Fence.wide n Try.prog 90 #[.func (.yield l) #[] #[], .pointer (some ⟨Bn, 0, none⟩)] W fun e W' => (∃ v, e = .returned v) ∧
      ((∃ ys, ys = ppowG a.natAbs ∧ J ys W') ∨ (∃ pre, pre <+: ppowG a.natAbs ∧ Jx pre W')) := by
  obtain ⟨N, hN⟩ : ∃ N, N = a.natAbs := ⟨_, rfl⟩
  rw [← hN] at hY ⊢
  have hN1 : 1 ≤ N := by omega
  have hN2 : N ≤ 25000000 := by omega
  have HN := hid hN
  clear hN
  refine callsIn_of_wp Try.func90 rfl trivial ?_ rfl
  simp only [Try.ntmps90, List.size_toArray, List.length_cons, List.length_nil, Nat.reduceAdd, Nat.reduceSub, Array.replicate_succ, Array.replicate_zero, List.push_toArray, List.append_toArray, List.nil_append, List.cons_append]
  gi_wp2_with (refine ⟨trivial, wide_depth n, ?_⟩; gi_at_call 91; refine (callsIn_wide.2 (size_any _ (by omega) (by omega) _)).mono ?_; rw [← HN.out]; rintro e w' ⟨rfl, rfl⟩)
  gi_loopw [3, 4] (fun sl sp wr => ∃ (pre : List (Nat × Nat)) (L p f : Nat), sl = .int .i64 L ∧ sp = .int .i64 p ∧ 1 ≤ L ∧ L ≤ N ∧ 2 ≤ p ∧ p ≤ 5001 ∧ p ≤ N + 2 ∧ p + f = N + 3 ∧ Hid (ppowG N = pre ++ ppGo f p L) ∧ J pre wr)
    (fun _ sp _ => (5001 - intOf sp).toNat)
  case atStart =>
    exact ⟨[], N, 2, N + 1, rfl, rfl, hN1, Nat.le_refl _, by omega, by omega, by omega, by omega, hid rfl, hJ0⟩
  case round =>
    obtain ⟨pre, L, p, f, rfl, rfl, hL1, hLN, hp2, hp7, hpN, hf, HP, hJs⟩ := hrel
    have hL2 : L ≤ 25000000 := by omega
    have hKK := mul_bd (show p ≤ 5001 by omega) (show p ≤ 5001 by omega)
    obtain ⟨g, rfl⟩ : ∃ g, f = g + 1 := ⟨f - 1, by omega⟩
    by_cases hle : (p : Int) * p ≤ L
    · have hle' : p * p ≤ L := by exact_mod_cast hle
      have hp70 := sq_le5 hle' hL2
      have hpL : p ≤ L := Nat.le_trans (Nat.le_mul_of_pos_left p (by omega)) hle'
      obtain ⟨K, hK⟩ : ∃ K, K = val L p := ⟨_, rfl⟩
      have HK := hid hK
      have HD := hid (val_dvd p hp2 L L (Nat.le_refl _) (by omega))
      have hKb : K ≤ 25000000 := by
        rw [hK]; exact Nat.le_trans (val_le p hp2 L L (Nat.le_refl _)) hL2
      clear hK
      by_cases hd : L % p = 0
      · have hKp : 0 < K := by rw [HK.out, val_step hp2 (by omega) hd]; omega
        have HE : Hid (ppGo (g + 1) p L = (p, K) :: ppGo g (p + 1) (L / p ^ K)) := by show _ = _; rw [HK.out]; conv => lhs; unfold ppGo
                                                                                      rw [if_pos hle', if_pos hd]
        have hq1 : 1 ≤ L / p ^ K := Nat.div_pos (Nat.le_of_dvd (by omega) (by rw [HK.out]; exact HD.out)) (Nat.pow_pos (by omega))
        have hq2 : L / p ^ K ≤ N := Nat.le_trans (Nat.div_le_self _ _) hLN
        have hlen : pre.length < (ppowG N).length := by rw [HP.out, HE.out]; simp
        clear hd hle'
        obtain ⟨fn, tmps, assign, body, hy, hR⟩ := hY pre (p, K) wr hJs (show p ≤ 25000000 by omega) (show K ≤ 25000000 by omega) hlen
        dsimp only [encPP] at hy
        gi_wp2_with (refine ⟨trivial, wide_depth n, ?_⟩; gi_at_call 92; refine (callsIn_wide.2 (valuation2_any _ _ (by omega) (by omega) (by omega) (by omega) (by omega) _)).mono ?_; rw [show val (Int.natAbs (L : Int)) (Int.toNat (p : Int)) = K from HK.out.symm]; rintro e w' ⟨rfl, rfl⟩)
        gi_loop [3, 19] (fun sl si => ∃ j M : Nat, sl = .int .i64 M ∧ si = .int .i64 j ∧ j ≤ K ∧ M ≤ N ∧ Hid (M = L / p ^ j)) (fun _ si => K - (intOf si).toNat)
        case atStart => exact ⟨0, L, rfl, rfl, by omega, hLN, hid (by simp)⟩
        case round =>
          obtain ⟨j, M, rfl, rfl, hj, hM, HM⟩ := hrel
          have hdd := ediv_bdG (b := p) (show M ≤ 1000000000000 by omega)
          have hd0 := hdd.1
          have hd1 := hdd.2
          clear hdd
          by_cases hlt : j < K
          · gi_wp2
            go_round
            case rel => exact ⟨j + 1, M / p, vI (by push_cast; rfl), by go_num, by omega, Nat.le_trans (Nat.div_le_self _ _) hM, hid (by rw [HM.out, Nat.div_div_eq_div_mul, Nat.pow_succ])⟩
            case measure => simp only [intOf]; omega
          · obtain rfl : j = K := by omega
            gi_wp2
            refine ⟨wide_depth n, hR.mono ?_⟩
            rintro e W' (⟨rfl, hJ', _⟩ | ⟨rfl, hJx'⟩)
            · gi_wp2
              go_roundw
              case rel => exact ⟨pre ++ [(p, j)], M, p + 1, g, rfl, by go_num, by rw [HM.out]; exact hq1, hM, by omega, by omega, by omega, by omega, hid (by rw [HP.out, HE.out, HM.out]; simp), hJ'⟩
              case measure => simp only [intOf]; omega
            · gi_wp2
              refine bodyPost_ret (results_none rfl _ _ _) rfl ?_
              exact ⟨⟨_, rfl⟩, .inr ⟨pre ++ [(p, j)], ⟨ppGo g (p + 1) (L / p ^ j), by rw [HP.out, HE.out]; simp⟩, hJx'⟩⟩
      · have hK0 : K = 0 := by rw [HK.out, val_stop hd]
        have HE : Hid (ppGo (g + 1) p L = ppGo g (p + 1) L) := by show _ = _; conv => lhs; unfold ppGo
                                                                  rw [if_pos hle', if_neg hd]
        have HK0 : Hid (val (Int.natAbs (L : Int)) (Int.toNat (p : Int)) = 0) := hid (by rw [← hK0]; exact HK.out.symm)
        clear hd hle' hK0
        gi_wp2_with (refine ⟨trivial, wide_depth n, ?_⟩; gi_at_call 92; refine (callsIn_wide.2 (valuation2_any _ _ (by omega) (by omega) (by omega) (by omega) (by omega) _)).mono ?_; rw [HK0.out]; rintro e w' ⟨rfl, rfl⟩)
        gi_loop [3, 19] (fun sl si => sl = .int .i64 L ∧ si = .int .i64 0) (fun _ si => 0)
        case atStart => exact ⟨rfl, rfl⟩
        case round =>
          obtain ⟨rfl, rfl⟩ := hrel
          gi_wp2
          refine ⟨fun _ h => (by cases h), ?_⟩
          gi_wp2
          go_roundw
          case rel => exact ⟨pre, L, p + 1, g, rfl, by go_num, hL1, hLN, by omega, by omega, by omega, by omega, hid (by rw [HP.out, HE.out]), hJs⟩
          case measure => simp only [intOf]; omega
    · have hle' : ¬ p * p ≤ L := fun h => hle (by exact_mod_cast h)
      by_cases hL : 1 < L
      · have HE : Hid (ppGo (g + 1) p L = [(L, 1)]) := by show _ = _; unfold ppGo; rw [if_neg hle', if_pos hL]
        have hlen : pre.length < (ppowG N).length := by rw [HP.out, HE.out]; simp
        clear hle'
        obtain ⟨fn, tmps, assign, body, hy, hR⟩ := hY pre (L, 1) wr hJs (show L ≤ 25000000 by omega) (show 1 ≤ 25000000 by omega) hlen
        dsimp only [encPP] at hy
        rw [show ((1 : Nat) : Int) = 1 from rfl] at hy
        gi_wp2
        refine ⟨wide_depth n, hR.mono ?_⟩
        rintro e W' (⟨rfl, hJ', _⟩ | ⟨rfl, hJx'⟩)
        · gi_wp2
          go_end0
          have HF : J (ppowG N) W' := by rw [HP.out, HE.out]; exact hJ'
          first | exact ⟨⟨_, rfl⟩, .inl ⟨_, rfl, HF⟩⟩ | exact ⟨⟨_, rfl⟩, .inl HF⟩
        · gi_wp2
          go_end0
          exact ⟨⟨_, rfl⟩, .inr ⟨_, ⟨[], by rw [HP.out, HE.out]; simp⟩, hJx'⟩⟩
      · have HE : Hid (ppGo (g + 1) p L = []) := by show _ = _; unfold ppGo; rw [if_neg hle', if_neg hL]
        clear hle'
        gi_wp2
        go_end0
        have HF : J (ppowG N) wr := by rw [HP.out, HE.out, List.append_nil]; exact hJs
        first | exact ⟨⟨_, rfl⟩, .inl ⟨_, rfl, HF⟩⟩ | exact ⟨⟨_, rfl⟩, .inl HF⟩

/-- what a round is handed: bounded numbers -/
abbrev PPG := { x : Nat × Nat // x.1 ≤ 25000000 ∧ x.2 ≤ 25000000 }
abbrev encG (x : PPG) : Array Value := #[.int .i64 x.1.1, .int .i64 x.1.2]

theorem ppG_stops (n Bn : Nat) (a : Int) (h0 : a ≠ 0) (ha1 : -25000000 ≤ a) (ha2 : a ≤ 25000000) (w : World) (hBn : Bn < w.heap.size) (hc : w.cell? ⟨Bn, 0, none⟩ = some (.int .i64 a)) :
    SeqStopsK Fence.wide n Try.prog 90 #[.pointer (some ⟨Bn, 0, none⟩)] encG KeepsWalks (fun ys => ys.map (·.1) = ppowG a.natAbs) (fun pre => pre.map (·.1) <+: ppowG a.natAbs) (ppowG a.natAbs).length w := fun l J Jx W hW _ _ hY hJ0 => by
  refine (ppG_in n l Bn a h0 ha1 ha2 (fun pre W => ∃ q : List PPG, q.map (·.1) = pre ∧ J q W) (fun pre W => ∃ q : List PPG, q.map (·.1) = pre ∧ Jx q W) ?_ W ((hW.cell (p := ⟨Bn, 0, none⟩) hBn).trans hc) ⟨[], rfl, hJ0⟩).mono ?_
  · rintro pre x W1 ⟨q, rfl, hq⟩ h1 h2 hl
    obtain ⟨fn, tmps, assign, body, hy, hR⟩ := hY q ⟨x, h1, h2⟩ W1 hq (by simpa using hl)
    refine ⟨fn, tmps, assign, body, hy, hR.mono ?_⟩
    rintro e w' (⟨he, hj, hk⟩ | ⟨he, hj⟩)
    · exact .inl ⟨he, ⟨_, by simp, hj⟩, hk⟩
    · exact .inr ⟨he, ⟨_, by simp, hj⟩⟩
  · rintro e W' ⟨hv, ⟨ys, hys, q, hq, hj⟩ | ⟨pre, hpre, q, hq, hj⟩⟩
    · exact ⟨hv, .inl ⟨q, hq.trans hys, hj⟩⟩
    · exact ⟨hv, .inr ⟨q, by rw [← hq] at hpre; exact hpre, hj⟩⟩


def fstsG (l : List PPG) : List Nat := l.map (fun x => x.1.1)
theorem fstsG_snoc (l : List PPG) (x : PPG) : fstsG (l ++ [x]) = fstsG l ++ [x.1.1] := by simp [fstsG]
theorem fstsG_len (l : List PPG) : (fstsG l).length = l.length := by unfold fstsG; rw [List.length_map]
theorem fstsG_all {ys : List PPG} {l : List (Nat × Nat)} (h : ys.map (·.1) = l) : fstsG ys = l.map (·.1) := by rw [← h]; simp [fstsG]

set_option maxRecDepth 100000 in
set_option maxHeartbeats 2000000 in
theorem placesOfG_any (n : Int) (h0 : n ≠ 0) (a1 : -25000000 ≤ n) (a2 : n ≤ 25000000) (w : World) :
    Calls Try.prog 71 #[.int .i64 n] w fun e w' => ∃ v, e = .returned v ∧ Owns w' w.heap.size v (placesG n) ∧ Below w.heap.size w w' := by
  obtain ⟨i0, hi, hz0, hz1, hz2⟩ := info_parts infoInt
  have HPL : Hid (placesG n = plcs ((ppowG n.natAbs).map (·.1))) := hid (by unfold plcs placesG; rw [plistG_eq])
  obtain ⟨v0, hv0⟩ : ∃ v0 : Value, v0 = .slice (some ⟨w.heap.size, 0, none⟩) 2 2 := ⟨_, rfl⟩
  have hr0 : (w.alloc (.cells #[.int .i64 0, .int .i64 2] 3)).ownsRow w.heap.size 3 1 v0 2 [.int .i64 0, .int .i64 2] := by
    rw [hv0]; exact World.ownsRow_lit w #[.int .i64 0, .int .i64 2] 2 (Nat.le_refl _) (by unfold maxLen; omega) rfl
  have hB0 : Below w.heap.size w (((w.alloc (.cells #[.int .i64 0, .int .i64 2] 3)).alloc (.cells #[v0] 27)).alloc (.cells #[.int .i64 n] 48)) := (((Below.refl _ _).alloc (Nat.le_refl _) _).alloc (by simp) _).alloc (by simp; omega) _
  have bO := (Boxed.new (w.alloc (.cells #[.int .i64 0, .int .i64 2] 3)) 27 v0).alloc (.cells #[.int .i64 n] 48)
  have bN := Boxed.new ((w.alloc (.cells #[.int .i64 0, .int .i64 2] 3)).alloc (.cells #[v0] 27)) 48 (.int .i64 n)
  simp only [World.size_alloc] at bN bO
  have hrN := (hr0.alloc (.cells #[v0] 27)).alloc (.cells #[.int .i64 n] 48)
  have H0 := hid h0
  subst hv0
  clear h0 hr0
  refine (callsIn_wide (n := 5)).1 ?_
  refine callsIn_of_wp_marks Try.func71 rfl trivial ?_ rfl
  simp only [Try.ntmps71, List.size_toArray, List.length_cons, List.length_nil, Nat.reduceAdd, Nat.reduceSub, Array.replicate_succ, Array.replicate_zero, List.push_toArray, List.append_toArray, List.nil_append, List.cons_append]
  gi_wp2_with (refine ⟨trivial, ?_⟩; gi_at_call 61; refine (callsIn_wide.2 (pp_make _ _)).mono ?_; rintro e w' ⟨rfl, rfl⟩)
  refine wpIn_rangeFunc_ownG rfl (by omega) (gf := 90) (lb := #[.pointer (some ⟨w.heap.size + 1 + 1, 0, none⟩)]) rfl trivial (enters_of Try.func90 (by kernel_rfl) rfl)
    (ppG_stops _ (w.heap.size + 1 + 1) n H0.out (by omega) (by omega) _ (by simp) bN.cell) walksK_t walksK_b (Below.refl _ _) (fun _ => rfl)
    (fun pre W => (∃ v, Boxed W (w.heap.size + 1) 27 v ∧ W.ownsRow w.heap.size 3 1 v (plcs (fstsG pre)).length ((plcs (fstsG pre)).map (Value.int .i64)) ∧ True) ∧ Below w.heap.size w W)
    (fun _ _ _ => False)
    (OwnFrom.and (Own.from (holdsRow_own w.heap.size (w.heap.size + 1) 27 3 1 (fun pre => (plcs (fstsG pre)).length) (fun pre => (plcs (fstsG pre)).map (Value.int .i64)) (fun _ _ => True)) _) (ownFrom_below (Nat.le_refl _) (by simp; omega)))
    (fun _ _ _ _ _ hs _ _ => hs)
    ⟨⟨_, bO, hrN, trivial⟩, hB0⟩ ?a1 ?assign ?body ?done ?stop
  case assign =>
    intro l x W K hK
    gi_wp2
    exact hK
  case body =>
    rintro l pre x W ⟨⟨v, hv, hrow, _⟩, hB⟩ hlt
    have hc := hv.cell
    have hpl := ppowG_len n.natAbs
    have hll := plcs_len (fstsG pre)
    rw [fstsG_len] at hll
    by_cases hx : 2 < x.1.1
    · have hxi : (2 : Int) < (x.1.1 : Int) := by omega
      have HX := hid hx
      clear hx
      gi_wp2_with (gi_at_builtin; refine wpListIn_append_own _ rfl _ _ 27 rfl w.heap.size 3 i0 (.int .i64 0) 1 8 Try.underlying27 hi hz0 hz1 hz2 rfl (by decide) _ _ _ rfl (hrow.alloc _) ⟨W.heap.size, 0, none⟩ 1 1 [.int .i64 x.1.1] rfl rfl (cell_one_new _ _ _) (by simp [Value.oneCell']) (by unfold maxLen; omega) (by omega) (by have := hB.size; simp; omega) ?_; intro v' w1 hown' hgrow _; obtain ⟨g', cap', rfl⟩ := ownsRow_succ hown'; obtain ⟨hv1, hv2, hr2, hk2, hb2⟩ := hv.appended (by decide) hrow hB.size (by omega) hown' hgrow; have hc1 := hv1.cell; have hf1 := hv1.frozen)
      exact ⟨hk2.from _, hk2.walks, ⟨_, hv2, by rw [fstsG_snoc, plcs_yes HX.out]; simpa using hr2, trivial⟩, hB.trans hb2⟩
    · have hxi : ¬ (2 : Int) < (x.1.1 : Int) := by omega
      have HX := hid hx
      clear hx
      gi_wp2
      exact ⟨KeepsFrom.refl _ _, KeepsWalks.refl _, ⟨v, hv, by rw [fstsG_snoc, plcs_no HX.out]; exact hrow⟩, hB⟩
  case done =>
    rintro D ys W hD hS ⟨⟨v, hv, hrow, _⟩, hB⟩ hK
    have hc := hv.cell
    rw [fstsG_all hS] at hrow
    have HP2 := HPL
    gi_wp2
    refine ⟨by simp, .inl ⟨_, _, rfl, run_takeDeferred hK, ?_⟩⟩
    refine ⟨_, results_tmp rfl _ _ _, ?_⟩
    exact ⟨v, rfl, by unfold Owns; rw [HPL.out]; exact ownsRow_putObj hrow _ hK rfl, hB.trans (belowK_b (w := w) (Nat.le_refl _) W D _ _ (by simp at hD; omega) hK rfl rfl)⟩
  case stop =>
    rintro D c pre W _ _ h _
    exact h.elim

end Go.Proofs.Ytdclmjmefkgbbab
