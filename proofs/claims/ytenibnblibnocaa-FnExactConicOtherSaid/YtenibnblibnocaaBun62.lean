/-
  Some texts in one file: Vecs2 RangeW Marks Marks2 ToInt ToRow Lift Lift2 ImpE.
-/
import Derived.Test.YtenibnblibnocaaBun60
import Derived.Test.YtenibnblibnocaaVals5b
import Derived.Test.YtenibnblibnocaaZvec2
import Derived.Test.YtenibnblibnocaaBun8
import Derived.BigQuiet
import Derived.Maps.AppendAt
import Derived.RangeFuncBox
import Derived.Test.YtenibnblibnocaaBun10
import Derived.Deep.OwnRows
import Derived.Test.YtenibnblibnocaaBun0
import Derived.Test.YtenibnblibnocaaBun11
import Derived.Test.YtenibnblibnocaaImpC
import Derived.Deep.LoopGhost
import Derived.WalkSmall
/-! Vecs2 -/
set_option linter.unusedVariables false
namespace Go.Proofs.Ytenibnblibnocaa
open Go.RowKit

theorem vecAt_cons {lo : Int} {b c d K : Nat} (hb : 1 ≤ b) (hd : d < b) (hK : K < b ^ c) : vecAt lo b (c + 1) (d * b ^ c + K) = (lo + ((d : Nat) : Int)) :: vecAt lo b c K := by
  refine List.ext_getElem (by rw [vecAt_len, List.length_cons, vecAt_len]) fun j h1 h2 => ?_
  rw [vecAt_get h1]
  have h3 := h1
  rw [vecAt_len] at h3
  match j with
  | 0 =>
    rw [List.getElem_cons_zero]
    congr 2
    unfold dig
    rw [show c + 1 - 1 - 0 = c by omega, Nat.mul_comm, Nat.mul_add_div (Nat.pow_pos (by omega)), Nat.div_eq_of_lt hK, Nat.add_zero, Nat.mod_eq_of_lt hd]
  | j + 1 =>
    rw [List.getElem_cons_succ, vecAt_get]
    congr 2
    unfold dig
    have e : b ^ c = b ^ (c - 1 - j) * (b * b ^ j) := by rw [← Nat.pow_succ', ← Nat.pow_add]; congr 1; omega
    rw [show c + 1 - 1 - (j + 1) = c - 1 - j by omega, e, Nat.mul_left_comm, Nat.mul_add_div (Nat.pow_pos (by omega)), Nat.mul_left_comm d, Nat.mul_add_mod]
theorem range_mul (N : Nat) : ∀ b, List.range (b * N) = (List.range b).flatMap (fun d => (List.range N).map (fun k => d * N + k))
  | 0 => by rw [Nat.zero_mul]; rfl
  | b + 1 => by
    rw [Nat.succ_mul, List.range_add, range_mul N b, List.range_succ, List.flatMap_append]
    simp
theorem vecsL_succ {lo : Int} {b c : Nat} (hb : 1 ≤ b) : vecsL lo b (c + 1) = (List.range b).flatMap (fun d => (vecsL lo b c).map (fun v => (lo + ((d : Nat) : Int)) :: v)) := by
  unfold vecsL
  rw [Nat.pow_succ', range_mul, List.map_flatMap]
  have h : ∀ l : List Nat, (∀ d ∈ l, d < b) → l.flatMap (fun d => ((List.range (b ^ c)).map (fun k => d * b ^ c + k)).map (vecAt lo b (c + 1))) = l.flatMap (fun d => ((List.range (b ^ c)).map (vecAt lo b c)).map (fun v => (lo + ((d : Nat) : Int)) :: v)) := by
    intro l
    induction l with
    | nil => intro _; rfl
    | cons d l ih =>
      intro hl
      rw [List.flatMap_cons, List.flatMap_cons, ih fun x hx => hl x (List.mem_cons_of_mem _ hx)]
      congr 1
      rw [List.map_map, List.map_map]
      refine List.map_congr_left fun k hk => ?_
      exact vecAt_cons hb (hl d (List.mem_cons_self ..)) (List.mem_range.1 hk)
  exact h _ fun d hd => List.mem_range.1 hd
theorem vecsL_zero (lo : Int) (b : Nat) : vecsL lo b 0 = [[]] := by unfold vecsL; rw [Nat.pow_zero]; rfl
theorem mem_vecs {lo : Int} {b : Nat} (hb : 1 ≤ b) : ∀ {us : List Int}, (∀ u ∈ us, lo ≤ u ∧ u < lo + b) → us ∈ vecsL lo b us.length
  | [], _ => by rw [List.length_nil, vecsL_zero]; exact List.mem_singleton.2 rfl
  | u :: us, h => by
    have h1 := h u (List.mem_cons_self ..)
    rw [List.length_cons, vecsL_succ hb]
    refine List.mem_flatMap.2 ⟨(u - lo).toNat, List.mem_range.2 (by omega), List.mem_map.2 ⟨us, mem_vecs hb fun x hx => h x (List.mem_cons_of_mem _ hx), ?_⟩⟩
    rw [show lo + (((u - lo).toNat : Nat) : Int) = u by omega]
theorem vecs_mem {lo : Int} {b c : Nat} (hb : 1 ≤ b) {v : List Int} (h : v ∈ vecsL lo b c) : v.length = c ∧ ∀ u ∈ v, lo ≤ u ∧ u < lo + b := by
  obtain ⟨K, _, rfl⟩ := List.mem_map.1 h
  exact ⟨vecAt_len .., vecAt_bd hb⟩
theorem mod_vecs (xs : List Int) (P m c : Nat) (hm : 1 ≤ m) : modR xs P m c [] = (vecsL 0 m c).any (modHit xs P m) := by
  rw [Bool.eq_iff_iff, modR_iff, List.any_eq_true]
  constructor
  · rintro ⟨us, rfl, hu, hh⟩
    exact ⟨us, mem_vecs hm fun u h => by have := hu u h; omega, hh⟩
  · rintro ⟨v, hv, hh⟩
    obtain ⟨h1, h2⟩ := vecs_mem hm hv
    exact ⟨v, h1, fun u h => by have := h2 u h; omega, hh⟩
theorem many_vecs (xs : List Int) (n : Int) (h0 : 0 ≤ n) : ∀ (c : Nat) (vs : List Int), manyR xs n c vs = (((vecsL (-n) (2 * n + 1).toNat c).countP (fun us => goodB xs (vs ++ us)) : Nat) : Int)
  | 0, vs => by
    rw [vecsL_zero]
    unfold manyR
    simp only [List.countP_cons, List.countP_nil, List.append_nil]
    cases goodB xs vs <;> rfl
  | c + 1, vs => by
    have hs : ∀ k, sumZ (fun x => manyR xs n c (vs ++ [x])) (-n) k = ((((List.range k).flatMap (fun d => (vecsL (-n) (2 * n + 1).toNat c).map (fun v => (-n + ((d : Nat) : Int)) :: v))).countP (fun us => goodB xs (vs ++ us)) : Nat) : Int) := by
      intro k
      induction k with
      | zero => rfl
      | succ k ih =>
        rw [sumZ_succ, ih, List.range_succ, List.flatMap_append, List.countP_append, many_vecs xs n h0 c]
        simp only [List.flatMap_cons, List.flatMap_nil, List.append_nil, List.countP_map]
        push_cast
        congr 3
        funext us
        simp [Function.comp]
    rw [vecsL_succ (by omega)]
    exact hs _

end Go.Proofs.Ytenibnblibnocaa

/-! RangeW -/
set_option linter.unusedVariables false
namespace Go.Proofs.Ytenibnblibnocaa
open Go.RowKit

/-- the iterator's contract: at each yield, H says what the element is -/
def RoundsW {α : Type} (F : Fence) (n : Nat) (P : Program) (g : Nat) (lb : Array Value) (encs : α → Array Value) (H : Nat → α → World → Prop) (B0 B1 : Nat) (S Sp : List α → Prop) (N : Nat) (w : World) : Prop :=
  ∀ (l : Nat) (J Jx : List α → World → Prop) (W : World), Below w.heap.size w W → Turns W.heap.size J →
    (∀ pre x V, J pre V → H W.heap.size x V → pre.length < N → YieldAt F (n - 1) P l (encs x) V fun e V' =>
      (e = .returned (.bool true) ∧ J (pre ++ [x]) V' ∧ Stay W.heap.size V V' ∧ Hold B0 B1 V V') ∨ (e = .returned (.bool false) ∧ Jx (pre ++ [x]) V')) →
    J [] W →
    CallsIn F n P g (#[.func (.yield l) #[] #[]] ++ lb) W fun e V => (∃ v, e = .returned v) ∧ ((∃ xs, S xs ∧ J xs V) ∨ (∃ pre, Sp pre ∧ Jx pre V))

variable {F : Fence} {n : Nat} {P : Program}

/-- one round: what is asked at its end, out of how its body is left -/
theorem roundPost_w {α : Type} {D : Nat} {rec : LoopState → Option Code → Loop} (hrec : ∀ st pe st' pe', { rec st pe with state := st', pending := pe' } = rec st' pe') {I : List α → World → Prop} {Ix : Code → List α → World → Prop} (hI : Turns D I) {xs : List α} (hIx : ∀ c W' o, Ix c xs W' → Ix c xs (W'.putObj (D + 1) o)) {V W : World} (hb : Book D (rec .busy none) W) (hV : V.heap.size ≤ W.heap.size) (hVW : Stay (D + 2) V W) (hD : D + 2 ≤ V.heap.size) {C : Nat} (hC : D + 2 ≤ C) {B0 B1 : Nat} (hB0 : B0 ≤ D) (hB1 : B1 ≤ D) (hH : Hold B0 B1 V W) :
    ∀ (e : Exit) (a : Act) (W' : World), endsV B0 I Ix xs W e a W' → roundPost P (D + 1) (fun e V' => (e = .returned (.bool true) ∧ (I xs V' ∧ Book D (rec .ready none) V') ∧ Stay C V V' ∧ Hold B0 B1 V V') ∨ (e = .returned (.bool false) ∧ ∃ c, Ix c xs V' ∧ Book D (rec .done (some c)) V')) e a W' := by
  have fin : ∀ (jump : Option Code) (W' : World), Stay D W W' → (Instr.endRound (D + 1) jump).run P W' = .ok (.bool jump.isNone) (W'.putObj (D + 1) (.loop (rec (if jump.isNone then .ready else .done) jump))) ∧ Book D (rec (if jump.isNone then .ready else .done) jump) (W'.putObj (D + 1) (.loop (rec (if jump.isNone then .ready else .done) jump))) := fun jump W' hs => by
    have hb' := hb.stay hs
    have hr := run_endRound (P := P) jump hb'.2
    rw [hrec] at hr
    exact ⟨hr, hb'.put _⟩
  intro e a W' h
  cases e with
  | normal =>
    obtain ⟨hr, hb'⟩ := fin none W' (h.1.mono hB0)
    refine ⟨_, _, hr, .inl ⟨rfl, ⟨hI.put _ h.2 (by omega), hb'⟩, ?_, hH.trans ((h.1.hold (by omega)).trans (Hold.put (by omega) _ _))⟩⟩
    refine (hVW.trans (h.1.mono (by omega))).mono hC |>.trans ⟨by simp, fun k hk _ => World.putObj_heap_other (by omega)⟩
  | ret =>
    obtain ⟨hr, hb'⟩ := fin (some .ret) W' (h.1.mono hB0)
    exact ⟨_, _, hr, .inr ⟨rfl, .ret, hIx _ _ _ h.2, hb'⟩⟩
  | exit id =>
    obtain ⟨hr, hb'⟩ := fin (some (.exit id)) W' (h.1.mono hB0)
    exact ⟨_, _, hr, .inr ⟨rfl, .exit id, hIx _ _ _ h.2, hb'⟩⟩
  | goto t =>
    obtain ⟨hr, hb'⟩ := fin (some (.goto t)) W' (h.1.mono hB0)
    exact ⟨_, _, hr, .inr ⟨rfl, .goto t, hIx _ _ _ h.2, hb'⟩⟩
  | panic ch => exact h.elim
  | outgrown => exact h.elim

/-- a loop over such an iterator -/
theorem wpIn_rangeW {α : Type} {g : Operand} {ps : Array Tmp} {assign body : Code} {Q : Exit → Act → World → Prop} {a : Act} {w : World}
    (hro : F.round = none) (h1 : 1 ≤ n) {gf : Nat} {lb : Array Value} (hg : a.eval g = .func (.func gf) #[] lb) (hFg : F.fn gf) (eg : ∀ args W, (callFunc gf args).run P W = .ok (.enter gf args) W)
    {encs : α → Array Value} {H : Nat → α → World → Prop} {B0 B1 : Nat} (hB0 : B0 ≤ w.heap.size) (hB1 : B1 ≤ w.heap.size) {S Sp : List α → Prop} {N : Nat} {w0 : World} (hseq : RoundsW F (n - 1) P gf lb encs H B0 B1 S Sp N w0) (hb0 : Below w0.heap.size w0 w) (hps : ∀ x, (encs x).size = ps.size)
    (hH : ∀ x W k r o, H (w.heap.size + 2) x W → W.heap[k]? = some (.loop r) → H (w.heap.size + 2) x (W.putObj k o))
    (I : List α → World → Prop) (Ix : Code → List α → World → Prop) (hI : Turns w.heap.size I) (hIx : ∀ c pre W o, Ix c pre W → Ix c pre (W.putObj (w.heap.size + 1) o)) (h0 : I [] w) (a₁ : α → Act)
    (hassign : ∀ (l : Nat) (x : α) (W : World) (K : Act → World → Prop), K (a₁ x) W →
      assign.wpIn (F.inRound l) (n - 1 - 1) P (Exit.then K (fun _ _ _ => False)) { tmps := (ps.zip (encs x)).foldl (fun t (p, v) => t.setIfInBounds p v) a.tmps, defers := [] } W)
    (hbody : ∀ (l : Nat) (pre : List α) (x : α) (W : World), I pre W → H (w.heap.size + 2) x W → w.heap.size + 2 ≤ W.heap.size → pre.length < N → body.wpIn (F.inRound l) (n - 1 - 1) P (endsV B0 I Ix (pre ++ [x]) W) (a₁ x) W)
    (hdone : ∀ (xs : List α) (W : World), S xs → I xs W → W.heap[w.heap.size]? = some (.deferred (some [])) → Q .normal { a with defers := { target := .collected w.heap.size, args := #[] } :: a.defers } W)
    (hstop : ∀ (c : Code) (pre : List α) (W : World), Sp pre → Ix c pre W → W.heap[w.heap.size]? = some (.deferred (some [])) → c.wpIn F n P Q { a with defers := { target := .collected w.heap.size, args := #[] } :: a.defers } W) :
    (Code.rangeFunc g ps assign body).wpIn F n P Q a w := by
  refine wpIn_rangeFunc fun fn hfn => ?_
  rw [hro]
  obtain ⟨rec, hrec⟩ : ∃ rec : LoopState → Option Code → Loop, rec = fun st pe => { state := st, pending := pe, fn, tmps := a.tmps, params := ps, assign, body, defers := w.heap.size } := ⟨_, rfl⟩
  have hrr : ∀ st pe st' pe', { rec st pe with state := st', pending := pe' } = rec st' pe' := fun st pe st' pe' => by rw [hrec]
  have hbk := Book.new w (rec .ready none)
  have hI1 := hI.lay (.loop (rec .ready none)) (hI.lay (.deferred (some [])) h0)
  have hbl := hb0.trans ((((Below.refl _ w).alloc (Nat.le_refl _) (.deferred (some []))).alloc (by simp) (.loop (rec .ready none))).mono hb0.size)
  have hen := run_enterLoop_outer (P := P) (w := w) fn a.tmps ps assign body
  have hsz : ((w.alloc (.deferred (some []))).alloc (.loop (rec .ready none))).heap.size = w.heap.size + 2 := by simp
  have hrd : ((w.alloc (.deferred (some []))).alloc (.loop { state := .ready, pending := none, fn, tmps := a.tmps, params := ps, assign, body, defers := w.heap.size })) = ((w.alloc (.deferred (some []))).alloc (.loop (rec .ready none))) := by rw [hrec]
  rw [hrd] at hen
  obtain ⟨W1, hW1⟩ : ∃ W1, W1 = (w.alloc (.deferred (some []))).alloc (.loop (rec .ready none)) := ⟨_, rfl⟩
  rw [← hW1] at hbk hI1 hbl hen hsz
  refine ⟨w.heap.size + 1, [{ target := .collected w.heap.size, args := #[] }], W1, { target := .fn (.func gf) lb, args := #[.func (.yield (w.heap.size + 1)) #[] #[]] }, W1, gf, #[.func (.yield (w.heap.size + 1)) #[] #[]] ++ lb, W1, hen, ?_, ?_, ?_, fun _ => h1, ?_⟩
  · simp only [resolve, hg]
    simp [go_sem]
  · intro f' hf'
    simp [Target.leads] at hf'
    subst hf'
    exact hFg
  · simp [invoke, go_sem, eg]
  · refine (hseq (w.heap.size + 1) (fun pre W => I pre W ∧ Book w.heap.size (rec .ready none) W) (fun pre W => ∃ c, Ix c pre W ∧ Book w.heap.size (rec .done (some c)) W) W1 hbl ?_ ?_ ⟨hI1, hbk⟩).mono ?_
    · exact Turns.and (fun s A B row hs hgr hr => hI s A B row hs hgr (fun r e => by have := hr r e; omega)) (Book.turns (by omega) fun _ => _)
    · rintro pre x V ⟨hi, hb⟩ hx hlen
      have hlt := (Array.getElem?_eq_some_iff.1 hb.2).1
      have hy := run_yield (P := P) (args := encs x) hb.2 (by rw [hrec]; exact hps x)
      have hbr := run_beginRound (P := P) hb.2 (by rw [hrec])
      rw [show ({ rec .ready none with state := .busy } : Loop) = rec .busy none by rw [hrec]] at hbr
      have hb2 := hb.put (rec .busy none)
      have hx2 := hH x V _ _ (.loop (rec .busy none)) (by rw [← hsz]; exact hx) hb.2
      have hi2 := hI.put (.loop (rec .busy none)) hi (show w.heap.size ≤ w.heap.size + 1 by omega)
      have hst : Stay (w.heap.size + 2) V (V.putObj (w.heap.size + 1) (.loop (rec .busy none))) := ⟨by simp, fun k hk _ => World.putObj_heap_other (by omega)⟩
      rw [hrec] at hy
      refine ⟨fn, _, assign, body, hy, roundIn_of_wpIn hfn (hassign _ x V _ ⟨_, hbr, ?_⟩)⟩
      exact wpIn_mono (hbody _ pre x _ hi2 hx2 (by simp; omega) hlen) (roundPost_w hrr hI (fun c W' o h => hIx c _ W' o h) hb2 (by simp) hst (by omega) (by omega) hB0 hB1 (Hold.put (by omega) _ _))
    · rintro e W2 ⟨⟨v, rfl⟩, ⟨xs, hS, hi, hb⟩ | ⟨pre, hSp, c, hi, hb⟩⟩
      · have he := run_endLoop (P := P) hb.2 (by rw [hrec]; simp)
        refine ⟨_, _, he, ?_⟩
        rw [hrec] at *
        exact hdone xs _ hS (hI.put _ hi (by omega)) ((World.putObj_heap_other (by omega)).trans hb.1)
      · have he := run_endLoop (P := P) hb.2 (by rw [hrec]; simp)
        refine ⟨_, _, he, ?_⟩
        rw [hrec] at *
        exact hstop c pre _ hSp (hIx c _ _ _ hi) ((World.putObj_heap_other (by omega)).trans hb.1)


theorem vec_roundsW (n B0 : Nat) (lo : Int) (b c : Nat) (hl1 : -32 ≤ lo) (hl2 : lo ≤ 32) (hb1 : 1 ≤ b) (hb2 : b ≤ 64) (hc1 : 1 ≤ c) (hc4 : c ≤ 4) (w : World) (hB : B0 + 3 ≤ w.heap.size) (hc : CaptV B0 lo b c w) :
    RoundsW Fence.wide n Try.prog 81 #[.pointer (some ⟨B0 + 1, 0, none⟩), .pointer (some ⟨B0, 0, none⟩), .pointer (some ⟨B0 + 2, 0, none⟩)] encV (YieldsV lo b c) B0 (B0 + 3) (fun xs => xs.map (·.2) = vecsL lo b c) (fun pre => pre.map (·.2) <+: vecsL lo b c) (b ^ c) w :=
  fun l J Jx W hW hJ hY hJ0 => vec_in n l B0 lo b c hl1 hl2 hb1 hb2 hc1 hc4 J Jx W hJ hY (hc.below hW hB) (Nat.le_trans hB hW.size) hJ0

end Go.Proofs.Ytenibnblibnocaa

/-! Marks -/
set_option linter.unusedVariables false
namespace Go.Proofs.Ytenibnblibnocaa
open Go.RowKit

theorem all_eq_of {xs ys : List Int} (hl : xs.length = ys.length) (h : ∀ j, j < xs.length → xs.getD j 0 = ys.getD j 0) : xs = ys := by
  refine List.ext_getElem hl fun j h1 h2 => ?_
  have := h j h1
  simpa [List.getD, List.getElem?_eq_getElem h1, List.getElem?_eq_getElem h2] using this

theorem eqs_len {a b : Int} (h : a ≠ b) : (a != b) = true := by rw [bne_iff_ne]; exact h
theorem eqs_same {a b : Int} (h : a = b) : (a != b) = false := by rw [h]; simp

set_option maxHeartbeats 1000000 in
theorem eqIntS_any (v u : Value) (xs ys : List Int) (w : World) (hx : Rd w v xs) (hy : Rd w u ys) :
    Calls Try.prog 17 #[v, u] w fun e w' => e = .returned (.bool (decide (xs = ys))) ∧ ∃ k, w' = w.drewN k := by
  have form : ∀ {z : Value} {zs : List Int}, Rd w z zs → ∃ a cap, z = .slice a zs.length cap ∧ zs.length ≤ maxLen := by
    rintro z zs (⟨a, cap, rfl, rfl⟩ | ⟨b, o, cap, rfl, _, hm, _⟩)
    · exact ⟨a, cap, rfl, by simp⟩
    · exact ⟨_, _, rfl, hm⟩
  by_cases hl : xs.length = ys.length
  · rcases hx with ⟨a, cap, rfl, rfl⟩ | ⟨b, o, cap, rfl, hp, hm, hcx⟩
    · obtain ⟨a', cap', rfl, _⟩ := form hy
      have e : ys = [] := List.length_eq_zero_iff.1 hl.symm
      have HD : Hid (decide (([] : List Int) = ys) = true) := by show _ = _; rw [e]; rfl
      have HL : ys.length = 0 := hl.symm
      rw [HL]
      clear e hl HL hy
      go_enter Try.func17, Try.ntmps17
      go_wp2
      go_loop [5] (fun i => i = .int .i64 0) (fun _ => 0)
      case atStart => rfl
      case round =>
        obtain rfl := hrel
        go_wp2
        go_ret
        exact ⟨retB (by first | exact HD.out.symm | (rw [eq_comm]; exact HD.out.symm) | (have h := HD.out; simp at h; simp [← h])), 0, rfl⟩
    · rcases hy with ⟨a', cap', rfl, rfl⟩ | ⟨b', o', cap', rfl, _, _, hcy⟩
      · exact absurd hl (by simp; intro e; rw [e] at hp; simp at hp)
      · have T : ((xs.length : Int) != ys.length) = false := eqs_same (by omega)
        unfold maxLen at hm
        have HX := hid hcx
        have HY := hid hcy
        have HL := hid hl
        clear hcx hcy
        go_enter Try.func17, Try.ntmps17
        rw [← hl] at T ⊢
        clear hl
        go_wp2
        go_loopw [5] (fun i wr => ∃ K k : Nat, i = .int .i64 K ∧ K ≤ xs.length ∧ Hid (∀ j, j < K → xs.getD j 0 = ys.getD j 0) ∧ wr = w.drewN k) (fun i _ => xs.length - (intOf i).toNat)
        case atStart => exact ⟨0, 0, rfl, by omega, hid (by omega), rfl⟩
        case round =>
          obtain ⟨K, k, rfl, hK, HE, rfl⟩ := hrel
          by_cases hlt : K < xs.length
          · obtain ⟨x, hx⟩ : ∃ x, x = xs.getD K 0 := ⟨_, rfl⟩
            obtain ⟨y, hy⟩ : ∃ y, y = ys.getD K 0 := ⟨_, rfl⟩
            have c1 := HX.out K hlt
            have c2 := HY.out K (by have := HL.out; omega)
            rw [← hx] at c1
            rw [← hy] at c2
            have Hx := hid hx
            have Hy := hid hy
            clear hx hy
            have hi : (K : Int) < (xs.length : Int) := by omega
            by_cases hxy : x = y
            · have T2 : (x != y) = false := eqs_same hxy
              have HXY := hid hxy
              clear hxy
              go_wp2
              go_quiet (fail)
              go_wp2
              go_roundw
              case rel =>
                exact ⟨K + 1, _, by go_num, by omega, hid (by intro j hj; by_cases e : j = K; (· rw [e, ← Hx.out, ← Hy.out, HXY.out]); (· exact HE.out j (by omega))), by first | rfl | exact World.drewN_drewN ..⟩
              case measure => simp only [intOf]; omega
            · have T2 : (x != y) = true := eqs_len hxy
              have HXY := hid hxy
              clear hxy
              go_wp2
              go_quiet (fail)
              go_wp2
              go_ret
              refine ⟨retB (decide_eq_false fun e => HXY.out ?_).symm, _, by first | rfl | exact World.drewN_drewN ..⟩
              rw [Hx.out, Hy.out, e]
          · go_wp2
            go_ret
            refine ⟨retB (decide_eq_true (all_eq_of HL.out fun j hj => HE.out j (by omega))).symm, _, rfl⟩
  · obtain ⟨a, cap, rfl, m1⟩ := form hx
    obtain ⟨a', cap', rfl, m2⟩ := form hy
    have T : ((xs.length : Int) != ys.length) = true := eqs_len (by omega)
    have HD : Hid (decide (xs = ys) = false) := hid (decide_eq_false fun e => hl (by rw [e]))
    clear hl hx hy
    go_enter Try.func17, Try.ntmps17
    go_wp2
    go_ret
    exact ⟨retB HD.out.symm, 0, rfl⟩

/-- k, k + 1, .. -/
def marksL (k : Int) (n : Nat) : List Int := (List.range n).map (fun (i : Nat) => k + (i : Int))
theorem marksL_len (k : Int) (n : Nat) : (marksL k n).length = n := by simp [marksL]
theorem marksL_get (k : Int) (n i : Nat) (h : i < n) : (marksL k n).getD i 0 = k + i := by simp [marksL, List.getD, h]

set_option maxHeartbeats 1000000 in
theorem heldIntS_any (v : Value) (n : Nat) (k : Int) (hk : 0 ≤ k) (hk2 : k ≤ 1000000) (hn : n ≤ 1000000) (w : World) (hx : Rd w v (marksL k n)) :
    Calls Try.prog 21 #[v, .int .i64 k] w fun e w' => e = .returned (.int .i64 (k + n)) ∧ w = w' := by
  rcases hx with ⟨a, cap, rfl, h0⟩ | ⟨b, o, cap, rfl, hp, hm, hc⟩
  · obtain rfl : n = 0 := by have := marksL_len k n; rw [h0] at this; simpa using this.symm
    clear h0
    go_enter Try.func21, Try.ntmps21
    go_wp2
    go_loop [1, 5] (fun k' i => k' = .int .i64 k ∧ i = .int .i64 0) (fun _ _ => 0)
    case atStart => exact ⟨rfl, rfl⟩
    case round =>
      obtain ⟨rfl, rfl⟩ := hrel
      go_wp2
      go_ret
      exact ⟨retI (by simp), rfl⟩
  · rw [marksL_len] at *
    have HC := hid hc
    clear hc
    go_enter Try.func21, Try.ntmps21
    go_wp2
    go_loop [1, 5] (fun k' i => ∃ K : Nat, k' = .int .i64 (k + K) ∧ i = .int .i64 K ∧ K ≤ n) (fun _ i => n - (intOf i).toNat)
    case atStart => exact ⟨0, by simp, rfl, by omega⟩
    case round =>
      obtain ⟨K, rfl, rfl, hK⟩ := hrel
      by_cases hlt : K < n
      · have c1 := HC.out K (by omega)
        rw [marksL_get k n K hlt] at c1
        have T : ((k + (K : Int)) != k + K) = false := by simp
        have hi : (K : Int) < (n : Int) := by omega
        go_wp2
        go_round
        case rel => exact ⟨K + 1, vI (by push_cast; omega), by go_num, by omega⟩
        case measure => simp only [intOf]; omega
      · obtain rfl : K = n := by omega
        go_wp2
        go_ret
        exact ⟨rfl, rfl⟩

/-- the first i numbers are marked -/
def halfL (k : Int) (i : Nat) (xs : List Int) : List Int := marksL k i ++ xs.drop i
theorem halfL_len (k : Int) (i : Nat) (xs : List Int) (h : i ≤ xs.length) : (halfL k i xs).length = xs.length := by simp [halfL, marksL_len]; omega
theorem halfL_step (k : Int) (i : Nat) (xs : List Int) (h : i < xs.length) : (halfL k i xs).set i (k + i) = halfL k (i + 1) xs := by
  unfold halfL
  rw [List.set_append_right _ _ (by simp [marksL_len]), marksL_len, Nat.sub_self, List.drop_eq_getElem_cons h, List.set_cons_zero]
  simp [marksL, List.range_succ]
theorem halfL_end (k : Int) (xs : List Int) : halfL k xs.length xs = marksL k xs.length := by simp [halfL]

set_option maxHeartbeats 1000000 in
theorem markIntS_any (v : Value) (xs : List Int) (B : Nat) (k : Int) (hk : 0 ≤ k) (hk2 : k ≤ 1000000) (hn : xs.length ≤ 1000000) (w : World) (hx : Owns w B v xs) :
    Calls Try.prog 20 #[v, .int .i64 k] w fun e w' => e = .returned (.int .i64 (k + xs.length)) ∧ Owns w' B v (marksL k xs.length) ∧ Below B w w' := by
  by_cases h0 : xs.length = 0
  · have hx0 : xs = [] := List.length_eq_zero_iff.1 h0
    subst hx0
    have hf : ∃ a cap, v = .slice a 0 cap := by
      rcases hx.2 with ⟨rfl, _⟩ | ⟨g, cap, _, rfl, _⟩
      · exact ⟨_, _, rfl⟩
      · exact ⟨_, _, rfl⟩
    obtain ⟨a, cap, rfl⟩ := hf
    have HX := hid hx
    clear hx h0
    go_enter Try.func20, Try.ntmps20
    go_wp2
    go_loop [1, 5] (fun k' i => k' = .int .i64 k ∧ i = .int .i64 0) (fun _ _ => 0)
    case atStart => exact ⟨rfl, rfl⟩
    case round =>
      obtain ⟨rfl, rfl⟩ := hrel
      go_wp2
      go_ret
      exact ⟨retI (by simp), HX.out, Below.refl _ _⟩
  · have hf : ∃ g cap, v = .slice (some ⟨g, 0, none⟩) xs.length cap ∧ B ≤ g := by
      rcases hx.2 with ⟨_, h⟩ | ⟨g, cap, _, rfl, hg, _⟩
      · omega
      · exact ⟨g, cap, rfl, hg⟩
    obtain ⟨g, cap, rfl, hg⟩ := hf
    obtain ⟨n, hnx⟩ : ∃ n, n = xs.length := ⟨_, rfl⟩
    have HN := hid hnx
    rw [← hnx] at h0 hn ⊢
    have HX : Hid (Owns w B (.slice (some ⟨g, 0, none⟩) n cap) xs) := by rw [hnx]; exact hx
    clear hx hnx
    go_enter Try.func20, Try.ntmps20
    go_wp2
    go_loopw [1, 5] (fun k' i wr => ∃ K : Nat, k' = .int .i64 (k + K) ∧ i = .int .i64 K ∧ K ≤ n ∧ Hid (wr.ownsRow B 3 1 (.slice (some ⟨g, 0, none⟩) n cap) n ((halfL k K xs).map (Value.int .i64))) ∧ Below B w wr) (fun _ i _ => n - (intOf i).toNat)
    case atStart =>
      refine ⟨0, by simp, rfl, by omega, hid ?_, Below.refl _ _⟩
      have := HX.out
      unfold Owns at this
      rw [← HN.out] at this
      simpa [halfL, marksL] using this
    case round =>
      obtain ⟨K, rfl, rfl, hK, HO, hB⟩ := hrel
      by_cases hlt : K < n
      · have hl := halfL_len k K xs (by have := HN.out; omega)
        have c1 : wr.cell? ⟨g, K, none⟩ = some (.int .i64 ((halfL k K xs).getD K 0)) := by
          have hK2 : K < (halfL k K xs).length := by rw [hl, ← HN.out]; exact hlt
          rw [World.ownsRow.cellAt HO.out K (by omega), List.getElem?_map, List.getElem?_eq_getElem hK2]
          simp [List.getD, List.getElem?_eq_getElem hK2]
        obtain ⟨z, hz⟩ : ∃ z, z = (halfL k K xs).getD K 0 := ⟨_, rfl⟩
        rw [← hz] at c1
        have f1 := World.ownsRow.frozenAt HO.out K
        have hi : (K : Int) < (n : Int) := by omega
        have HS := hid (World.ownsRow.stored HO.out K (.int .i64 (k + K)))
        have HT := hid (halfL_step k K xs (by have := HN.out; omega))
        clear hz hl
        go_wp2
        go_roundw
        case rel =>
          refine ⟨K + 1, vI (by push_cast; omega), by go_num, by omega, hid ?_, hB.setCell (p := ⟨g, K, none⟩) hg _⟩
          have := HS.out.1
          rw [← HT.out, List.map_set]
          exact this
        case measure => simp only [intOf]; omega
      · obtain rfl : K = n := by omega
        go_wp2
        go_ret
        refine ⟨rfl, ?_, hB⟩
        have := HO.out
        unfold Owns
        rw [marksL_len]
        have e : halfL k K xs = marksL k K := by
          have h := halfL_end k xs
          rw [← HN.out] at h
          exact h
        rw [e] at this
        exact this

end Go.Proofs.Ytenibnblibnocaa

/-! Marks2 -/
set_option linter.unusedVariables false
namespace Go.Proofs.Ytenibnblibnocaa
open Go.RowKit

theorem grownBy_rf (w : World) (r : Option Nat) : w.grownBy w r := ⟨rfl, rfl, rfl, Nat.le_refl _, fun _ _ _ => rfl⟩
theorem grownBy_set (W : World) (b o : Nat) (v : Value) : W.grownBy (W.setCell ⟨b, o, none⟩ v) (some b) :=
  ⟨rfl, rfl, rfl, (KeepsWalks.setCell W _ v).size, fun k _ hk => Below.heap_setCell _ _ _ k (fun e => hk (by rw [e]))⟩
theorem Owns.kept {W W' : World} {B : Nat} {v : Value} {xs : List Int} {r : Option Nat} (h : Owns W B v xs) (hg : W.grownBy W' r) (hne : v.ownBlock = none ∨ v.ownBlock ≠ r) : Owns W' B v xs := World.ownsRow.kept h hg hne
/-- the elder of two lists of the call's own, and the younger one, lie apart -/
theorem elder_apart {x y : Value} {W : World} {C : Nat} {ys : List Int} (hlt : ∀ g, x.ownBlock = some g → g < C) (hy : Owns W C y ys) : y.ownBlock = none ∨ y.ownBlock ≠ x.ownBlock := by
  cases hb : y.ownBlock with
  | none => exact .inl rfl
  | some b =>
    right
    intro e
    have h1 := hlt b e.symm
    have h2 := hy.ge b hb
    omega
theorem younger_apart {x y : Value} {W : World} {C : Nat} {xs : List Int} (hlt : ∀ g, y.ownBlock = some g → g < C) (hx : Owns W C x xs) : y.ownBlock = none ∨ y.ownBlock ≠ x.ownBlock := by
  cases hb : y.ownBlock with
  | none => exact .inl rfl
  | some b =>
    right
    intro e
    have h1 := hlt b hb
    have h2 := hx.ge b e.symm
    omega

set_option maxHeartbeats 1000000 in
theorem markIntS2_any (v : Value) (xs : List Int) (B : Nat) (k : Int) (hk : 0 ≤ k) (hk2 : k ≤ 3000000) (hn : xs.length ≤ 3000000) (w : World) (hx : Owns w B v xs) :
    Calls Try.prog 20 #[v, .int .i64 k] w fun e w' => e = .returned (.int .i64 (k + xs.length)) ∧ Owns w' B v (marksL k xs.length) ∧ Below B w w' ∧ w.grownBy w' v.ownBlock := by
  by_cases h0 : xs.length = 0
  · have hx0 : xs = [] := List.length_eq_zero_iff.1 h0
    subst hx0
    have hf : ∃ a cap, v = .slice a 0 cap := by
      rcases hx.2 with ⟨rfl, _⟩ | ⟨g, cap, _, rfl, _⟩
      · exact ⟨_, _, rfl⟩
      · exact ⟨_, _, rfl⟩
    obtain ⟨a, cap, rfl⟩ := hf
    have HX := hid hx
    clear hx h0
    go_enter Try.func20, Try.ntmps20
    go_wp2
    go_loop [1, 5] (fun k' i => k' = .int .i64 k ∧ i = .int .i64 0) (fun _ _ => 0)
    case atStart => exact ⟨rfl, rfl⟩
    case round =>
      obtain ⟨rfl, rfl⟩ := hrel
      go_wp2
      go_ret
      exact ⟨retI (by simp), HX.out, Below.refl _ _, grownBy_rf _ _⟩
  · have hf : ∃ g cap, v = .slice (some ⟨g, 0, none⟩) xs.length cap ∧ B ≤ g := by
      rcases hx.2 with ⟨_, h⟩ | ⟨g, cap, _, rfl, hg, _⟩
      · omega
      · exact ⟨g, cap, rfl, hg⟩
    obtain ⟨g, cap, rfl, hg⟩ := hf
    obtain ⟨n, hnx⟩ : ∃ n, n = xs.length := ⟨_, rfl⟩
    have HN := hid hnx
    rw [← hnx] at h0 hn ⊢
    have HX : Hid (Owns w B (.slice (some ⟨g, 0, none⟩) n cap) xs) := by rw [hnx]; exact hx
    clear hx hnx
    go_enter Try.func20, Try.ntmps20
    go_wp2
    go_loopw [1, 5] (fun k' i wr => ∃ K : Nat, k' = .int .i64 (k + K) ∧ i = .int .i64 K ∧ K ≤ n ∧ Hid (wr.ownsRow B 3 1 (.slice (some ⟨g, 0, none⟩) n cap) n ((halfL k K xs).map (Value.int .i64))) ∧ Below B w wr ∧ Hid (w.grownBy wr (some g))) (fun _ i _ => n - (intOf i).toNat)
    case atStart =>
      refine ⟨0, by simp, rfl, by omega, hid ?_, Below.refl _ _, hid (grownBy_rf _ _)⟩
      have := HX.out
      unfold Owns at this
      rw [← HN.out] at this
      simpa [halfL, marksL] using this
    case round =>
      obtain ⟨K, rfl, rfl, hK, HO, hB, HG⟩ := hrel
      by_cases hlt : K < n
      · have hl := halfL_len k K xs (by have := HN.out; omega)
        have c1 : wr.cell? ⟨g, K, none⟩ = some (.int .i64 ((halfL k K xs).getD K 0)) := by
          have hK2 : K < (halfL k K xs).length := by rw [hl, ← HN.out]; exact hlt
          rw [World.ownsRow.cellAt HO.out K (by omega), List.getElem?_map, List.getElem?_eq_getElem hK2]
          simp [List.getD, List.getElem?_eq_getElem hK2]
        obtain ⟨z, hz⟩ : ∃ z, z = (halfL k K xs).getD K 0 := ⟨_, rfl⟩
        rw [← hz] at c1
        have f1 := World.ownsRow.frozenAt HO.out K
        have hi : (K : Int) < (n : Int) := by omega
        have HS := hid (World.ownsRow.stored HO.out K (.int .i64 (k + K)))
        have HT := hid (halfL_step k K xs (by have := HN.out; omega))
        clear hz hl
        go_wp2
        go_roundw
        case rel =>
          refine ⟨K + 1, vI (by push_cast; omega), by go_num, by omega, hid ?_, hB.setCell (p := ⟨g, K, none⟩) hg _, hid (HG.out.trans (grownBy_set _ g K _))⟩
          have := HS.out.1
          rw [← HT.out, List.map_set]
          exact this
        case measure => simp only [intOf]; omega
      · obtain rfl : K = n := by omega
        go_wp2
        go_ret
        refine ⟨rfl, ?_, hB, HG.out⟩
        have := HO.out
        unfold Owns
        rw [marksL_len]
        have e : halfL k K xs = marksL k K := by
          have h := halfL_end k xs
          rw [← HN.out] at h
          exact h
        rw [e] at this
        exact this

end Go.Proofs.Ytenibnblibnocaa

/-! ToInt -/
set_option linter.unusedVariables false
namespace Go.Proofs.Ytenibnblibnocaa
open Go.RowKit

theorem Rd.keep2 {w w' : World} {v : Value} {xs : List Int} (h : Rd w v xs) (hb : Below w.heap.size w w') : Rd w' v xs := by
  rcases h with h | ⟨b, o, cap, hv, h0, hm, hc⟩
  · exact .inl h
  · refine .inr ⟨b, o, cap, hv, h0, hm, fun i hi => ?_⟩
    have hci := hc i hi
    obtain ⟨ob, ho, _⟩ := cells_of_cell hci
    have hlt : b < w.heap.size := (Array.getElem?_eq_some_iff.1 ho).1
    rw [hb.cell (p := ⟨b, o + i, none⟩) hlt]
    exact hci
theorem rowIs_owns {w : World} {b n B : Nat} {f : Nat → Value} {xs : List Int} (h : w.rowIs b 3 n f) (hn : n = xs.length) (hf : ∀ i, i < n → f i = .int .i64 (xs.getD i 0)) (hB : B ≤ b) (hm : n ≤ maxLen) : Owns w B (.slice (some ⟨b, 0, none⟩) n n) xs := by
  subst hn
  obtain ⟨c, hb, hs, hc⟩ := h
  refine ⟨by simp, .inr ⟨b, xs.length, c, rfl, hB, hb, Nat.le_refl _, hm, by rw [hs, Nat.mul_one], ?_⟩⟩
  rw [Nat.mul_one, List.take_of_length_le (by rw [Array.length_toList, hs]; exact Nat.le_refl _)]
  refine List.ext_getElem? fun i => ?_
  rw [Array.getElem?_toList]
  by_cases hi : i < xs.length
  · rw [hc i hi, hf i hi, List.getElem?_map, List.getElem?_eq_getElem hi, getD_at _ _ hi]; rfl
  · rw [List.getElem?_eq_none (by rw [List.length_map]; omega), Array.getElem?_eq_none (by omega)]

set_option maxRecDepth 100000 in
set_option maxHeartbeats 1000000 in
theorem toIntS_any (v : Value) (xs : List Int) (w : World) (h : Rd w v xs) (hl : xs.length ≤ 1048576) :
    Calls Try.prog 15 #[v] w fun e w' => ∃ u, e = .returned u ∧ Owns w' w.heap.size u xs ∧ Below w.heap.size w w' ∧ (∃ ad n c, u = .slice (some ad) n c) := by
  obtain ⟨i0, hi, hz0, hz1, hz2⟩ := info_parts infoInt
  have HH := hid h
  obtain ⟨a, cap, rfl, _⟩ := h.form
  obtain ⟨m, hm⟩ : ∃ m, m = xs.length := ⟨_, rfl⟩
  have HM := hid hm
  rw [← hm] at hl HH ⊢
  have HB0 := hid ((Below.refl w.heap.size w).alloc (Nat.le_refl _) (.cells (madeCells #[.int .i64 0] m) 3))
  have HR0 := hid (World.rowIs_made w (.int .i64 0) m 3)
  clear h hm
  go_enter Try.func15, Try.ntmps15
  go_wp2_with (at_make; refine wpList_make_row _ rfl _ _ 22 rfl 3 i0 (.int .i64 0) Try.underlying22 hi hz0 hz1 rfl .i64 .i64 m rfl rfl (by rw [hz2]; omega) (by omega) ?_)
  go_loopw [4] (fun si wr => ∃ K : Nat, si = .int .i64 K ∧ K ≤ m ∧ Hid (wr.rowIs w.heap.size 3 m (fun j => if j < K then .int .i64 (xs.getD j 0) else .int .i64 0)) ∧ Hid (Below w.heap.size w wr)) (fun si _ => m - (intOf si).toNat)
  case atStart => exact ⟨0, rfl, by omega, hid (HR0.out.congr (fun i hi => by simp)), HB0⟩
  case round =>
    obtain ⟨K, rfl, hK, HR, HB⟩ := hrel
    rename World => wr
    by_cases hlt : K < m
    · obtain ⟨a2, cap2, e2, hform⟩ := (HH.out.keep2 HB.out).form
      rw [← HM.out] at e2 hform
      cases e2
      obtain ⟨bb, o, rfl, hml, hc⟩ := hform (by omega)
      have c1 := hc K hlt
      have c2 := HR.out.cell hlt
      have f2 := HR.out.frozen K
      have hi0 : (K : Int) < (m : Int) := by omega
      obtain ⟨x, hx⟩ : ∃ x, x = xs.getD K 0 := ⟨_, rfl⟩
      rw [← hx] at c1
      have HS := hid ((HR.out.set K (.int .i64 x)).congr (g := fun j => if j < K + 1 then .int .i64 (xs.getD j 0) else .int .i64 0) (fun i hi => by
        by_cases e : i = K
        · rw [if_pos e, if_pos (by omega), e, hx]
        · rw [if_neg e]
          by_cases h : i < K
          · rw [if_pos h, if_pos (by omega)]
          · rw [if_neg h, if_neg (by omega)]))
      have HBs := hid (HB.out.setCell (p := ⟨w.heap.size, K, none⟩) (Nat.le_refl _) (.int .i64 x))
      have HLT := hid hlt
      rw [if_neg (by omega)] at c2
      unfold maxLen at hml
      clear hform hc hx hlt
      go_wp2_with fail
      go_roundw
      case measure => simp only [intOf]; have := HLT.out; omega
      case rel => exact ⟨K + 1, by go_num, by have := HLT.out; omega, HS, HBs⟩
    · obtain rfl : K = m := by omega
      have HO := hid (rowIs_owns (B := w.heap.size) HR.out HM.out (fun i hi => by rw [if_pos hi]) (Nat.le_refl _) (by unfold maxLen; omega))
      clear hlt
      go_wp2_with fail
      go_ret
      exact ⟨_, rfl, HO.out, HB.out, _, _, _, rfl⟩

end Go.Proofs.Ytenibnblibnocaa

/-! ToRow -/
set_option linter.unusedVariables false
namespace Go.Proofs.Ytenibnblibnocaa
open Go.RowKit

theorem rd_row {w : World} {a : Option Addr} {len cap : Nat} {zs : List Int} (h : IsRow .i64 w a len cap zs) : ∃ xs : List Int, xs.length = len ∧ Rd w (.slice a len cap) xs := by
  rcases h with ⟨rfl, rfl, rfl, rfl⟩ | ⟨x, rfl, hl, hm, hz, hcell, hwz⟩
  · exact ⟨[], rfl, .inl ⟨_, _, rfl, rfl⟩⟩
  · refine ⟨zs.take len, by rw [List.length_take]; omega, ?_⟩
    by_cases h0 : len = 0
    · subst h0
      exact .inl ⟨_, _, rfl, by simp⟩
    · obtain ⟨b, off, spot⟩ := x
      have hspot : spot = none := by simpa [Addr.add] using World.cell?_spot (hcell 0 (by omega))
      subst hspot
      have hlen : (zs.take len).length = len := by rw [List.length_take]; omega
      refine .inr ⟨b, off, cap, by rw [hlen], by omega, by rw [hlen]; omega, fun i hi => ?_⟩
      rw [hlen] at hi
      have hc := hcell i (by omega)
      have hg : (zs.take len).getD i 0 = zs.getD i 0 := by
        rw [getD_at _ _ (by rw [hlen]; exact hi), getD_at _ _ (by omega), List.getElem_take]
      rw [hg]
      by_cases hi0 : i = 0
      · subst hi0; simpa [Addr.add] using hc
      · simpa [Addr.add, hi0] using hc
theorem fvalF (xs vs : List Int) : ∃ (x : Int) (c : Bool), fvalV xs vs = .tuple #[.int .i64 x, .bool c] := by
  unfold fvalV
  split
  · exact ⟨_, _, rfl⟩
  · exact ⟨_, _, rfl⟩
theorem signsF (xs : List Int) : ∃ (x : Int) (c : Bool), signsV xs = .tuple #[.int .i64 x, .bool c] := by
  unfold signsV
  split
  · exact ⟨_, _, rfl⟩
  · exact ⟨_, _, rfl⟩

end Go.Proofs.Ytenibnblibnocaa

/-! Lift -/
set_option linter.unusedVariables false
namespace Go.Proofs.Ytenibnblibnocaa
open Go.RowKit

def liftF (n : Int) (M : Nat) (x : Int) : Bool := (x * x - n) % (M : Int) == 0
def liftBlk (n : Int) (P m : Nat) (R : List Int) (d : Nat) : List Int := (R.map (fun r => r + (d : Int) * (m : Int))).filter (liftF n (m * P))
def liftPre (n : Int) (P m : Nat) (R : List Int) (d : Nat) : List Int := (List.range d).flatMap (liftBlk n P m R)
def liftL (n : Int) (P : Nat) : Nat → List Int
  | 0 => [0]
  | i + 1 => liftPre n P (P ^ i) (liftL n P i) P

theorem liftPre_succ (n : Int) (P m : Nat) (R : List Int) (d : Nat) : liftPre n P m R (d + 1) = liftPre n P m R d ++ liftBlk n P m R d := by
  unfold liftPre
  rw [List.range_succ, List.flatMap_append]
  simp
theorem liftPre_zero (n : Int) (P m : Nat) (R : List Int) : liftPre n P m R 0 = [] := rfl
theorem liftBlk_len (n : Int) (P m : Nat) (R : List Int) (d : Nat) : (liftBlk n P m R d).length ≤ R.length := by
  unfold liftBlk
  exact Nat.le_trans (List.length_filter_le _ _) (by rw [List.length_map]; exact Nat.le_refl _)
theorem liftPre_len (n : Int) (P m : Nat) (R : List Int) : ∀ d, (liftPre n P m R d).length ≤ d * R.length
  | 0 => by rw [liftPre_zero]; simp
  | d + 1 => by
    rw [liftPre_succ, List.length_append, Nat.succ_mul]
    have := liftPre_len n P m R d
    have := liftBlk_len n P m R d
    omega
theorem lift_len (n : Int) (P : Nat) : ∀ i, (liftL n P i).length ≤ P ^ i
  | 0 => by simp [liftL]
  | i + 1 => by
    have h1 := liftPre_len n P (P ^ i) (liftL n P i) P
    have h2 := Nat.mul_le_mul_left P (lift_len n P i)
    show (liftPre n P (P ^ i) (liftL n P i) P).length ≤ P ^ (i + 1)
    rw [Nat.pow_succ, Nat.mul_comm (P ^ i)]
    exact Nat.le_trans h1 h2
theorem mem_blk {n : Int} {P m : Nat} {R : List Int} {d : Nat} {x : Int} : x ∈ liftBlk n P m R d ↔ ∃ r ∈ R, x = r + (d : Int) * (m : Int) ∧ (x * x - n) % ((m * P : Nat) : Int) = 0 := by
  unfold liftBlk liftF
  rw [List.mem_filter, List.mem_map]
  constructor
  · rintro ⟨⟨r, hr, rfl⟩, h⟩
    exact ⟨r, hr, rfl, by simpa using h⟩
  · rintro ⟨r, hr, rfl, h⟩
    exact ⟨⟨r, hr, rfl⟩, by simpa using h⟩
theorem mem_pre {n : Int} {P m : Nat} {R : List Int} {d : Nat} {x : Int} : x ∈ liftPre n P m R d ↔ ∃ c, c < d ∧ x ∈ liftBlk n P m R c := by
  unfold liftPre
  rw [List.mem_flatMap]
  simp only [List.mem_range]

theorem mem_lift {n : Int} {P : Nat} (hP : 1 ≤ P) : ∀ i x, x ∈ liftL n P i ↔ 0 ≤ x ∧ x < ((P ^ i : Nat) : Int) ∧ (x * x - n) % ((P ^ i : Nat) : Int) = 0
  | 0, x => by
    simp only [liftL, List.mem_singleton, Nat.pow_zero]
    constructor
    · rintro rfl
      exact ⟨by omega, by simp, by simp⟩
    · rintro ⟨h1, h2, _⟩
      have : ((1 : Nat) : Int) = 1 := rfl
      omega
  | i + 1, x => by
    have hm : 1 ≤ P ^ i := Nat.pow_pos (by omega)
    show x ∈ liftPre n P (P ^ i) (liftL n P i) P ↔ _
    rw [mem_pre]
    obtain ⟨m, hme⟩ : ∃ m, m = P ^ i := ⟨_, rfl⟩
    have e1 : P ^ (i + 1) = m * P := by rw [Nat.pow_succ, hme]
    rw [← hme] at hm
    rw [e1, ← hme]
    have ih := mem_lift (n := n) hP i
    rw [← hme] at ih
    constructor
    · rintro ⟨c, hc, hx⟩
      obtain ⟨r, hr, rfl, h⟩ := mem_blk.1 hx
      obtain ⟨r1, r2, _⟩ := (ih r).1 hr
      have hcm : (0 : Int) ≤ (c : Int) * (m : Int) := Int.mul_nonneg (by omega) (by omega)
      have hup : (c : Int) * (m : Int) + (m : Int) ≤ ((m * P : Nat) : Int) := by
        have := Nat.mul_le_mul_right m (show c + 1 ≤ P by omega)
        rw [Nat.succ_mul, Nat.mul_comm P m] at this
        have e2 : (c : Int) * (m : Int) = ((c * m : Nat) : Int) := by push_cast; rfl
        rw [e2]
        omega
      exact ⟨by omega, by omega, h⟩
    · rintro ⟨h1, h2, h3⟩
      obtain ⟨X, rfl⟩ := Int.eq_ofNat_of_zero_le h1
      have hX : X < m * P := by omega
      refine ⟨X / m, (Nat.div_lt_iff_lt_mul (by omega)).2 (by rw [Nat.mul_comm]; exact hX), mem_blk.2 ⟨((X % m : Nat) : Int), (ih _).2 ⟨by omega, by have := Nat.mod_lt X (show 0 < m by omega); omega, ?_⟩, ?_, h3⟩⟩
      · have hd : (m : Int) ∣ (X : Int) * X - n := by
          refine Int.dvd_trans ?_ (Int.dvd_of_emod_eq_zero h3)
          exact ⟨(P : Int), by push_cast; rfl⟩
        have e3 : ((X % m : Nat) : Int) * ((X % m : Nat) : Int) - n = ((X : Int) * X - n) - (m : Int) * ((X / m : Nat) : Int) * ((X : Int) + ((X % m : Nat) : Int)) := by
          have e4 : (X : Int) = (m : Int) * ((X / m : Nat) : Int) + ((X % m : Nat) : Int) := by
            have := Nat.div_add_mod X m
            exact_mod_cast this.symm
          obtain ⟨a, ha⟩ : ∃ a, a = (m : Int) * ((X / m : Nat) : Int) := ⟨_, rfl⟩
          obtain ⟨b, hb⟩ : ∃ b, b = ((X % m : Nat) : Int) := ⟨_, rfl⟩
          rw [← ha, ← hb] at e4
          rw [← ha, ← hb, e4]
          simp only [Int.mul_add, Int.add_mul, Int.mul_comm b a]
          omega
        rw [e3]
        exact Int.emod_eq_zero_of_dvd (Int.dvd_sub hd (Int.dvd_mul_of_dvd_left (Int.dvd_mul_right _ _)))
      · have := Nat.div_add_mod X m
        rw [Nat.mul_comm] at this
        have : (((X / m * m + X % m : Nat)) : Int) = (X : Int) := by rw [this]
        push_cast at this ⊢
        omega

theorem root_rest {n : Int} {M : Nat} (hM : 1 ≤ M) {x : Nat} : ((x : Int) * x - n) % (M : Int) = 0 ↔ x * x % M = (n % (M : Int)).toNat := by
  have h1 := Int.emod_nonneg n (show (M : Int) ≠ 0 by omega)
  have h2 : ((n % (M : Int)).toNat : Int) = n % (M : Int) := Int.toNat_of_nonneg h1
  have e : ((x * x % M : Nat) : Int) = (x : Int) * x % (M : Int) := by push_cast; rfl
  rw [← Int.emod_eq_emod_iff_emod_sub_eq_zero, ← e, ← h2]
  exact Int.ofNat_inj

/-- the least of the lifted roots is the least root by trial -/
theorem lift_root {n : Int} {P k : Nat} (hP : 1 ≤ P) {x : Int} (hx : x ∈ liftL n P k) (hmin : ∀ y ∈ liftL n P k, x ≤ y) : rootF (n % ((P ^ k : Nat) : Int)).toNat (P ^ k) = some x.toNat ∧ 0 ≤ x ∧ x < ((P ^ k : Nat) : Int) := by
  have hm : 1 ≤ P ^ k := Nat.pow_pos (by omega)
  obtain ⟨h1, h2, h3⟩ := (mem_lift hP k x).1 hx
  obtain ⟨X, rfl⟩ := Int.eq_ofNat_of_zero_le h1
  refine ⟨?_, h1, h2⟩
  rw [Int.toNat_natCast]
  refine find_at (by omega) (by rw [beq_iff_eq]; exact (root_rest hm).1 h3) fun j hj => ?_
  rw [beq_eq_false_iff_ne]
  intro e
  have := hmin (j : Int) ((mem_lift hP k _).2 ⟨by omega, by omega, (root_rest hm).2 e⟩)
  omega
theorem lift_none {n : Int} {P k : Nat} (hP : 1 ≤ P) (h : liftL n P k = []) : rootF (n % ((P ^ k : Nat) : Int)).toNat (P ^ k) = none := by
  have hm : 1 ≤ P ^ k := Nat.pow_pos (by omega)
  refine find_none fun j hj => ?_
  rw [beq_eq_false_iff_ne]
  intro e
  have := (mem_lift (n := n) hP k (j : Int)).2 ⟨by omega, by omega, (root_rest hm).2 e⟩
  rw [h] at this
  cases this

end Go.Proofs.Ytenibnblibnocaa

/-! Lift2 -/
set_option linter.unusedVariables false
namespace Go.Proofs.Ytenibnblibnocaa
open Go.RowKit

/-- what stands on the stack, cell by cell -/
def encS (S : List (Nat × Nat)) : List Value := S.flatMap (fun e => [.int .i64 (e.1 : Int), .int .i64 (e.2 : Int)])
theorem encS_len : ∀ S : List (Nat × Nat), (encS S).length = S.length * 2
  | [] => rfl
  | e :: S => by
    have := encS_len S
    unfold encS at this ⊢
    rw [List.flatMap_cons, List.length_append, this, List.length_cons]
    simp only [List.length_cons, List.length_nil]
    omega
theorem encS_snoc (S : List (Nat × Nat)) (e : Nat × Nat) : encS (S ++ [e]) = encS S ++ [.int .i64 (e.1 : Int), .int .i64 (e.2 : Int)] := by
  unfold encS
  rw [List.flatMap_append]
  simp
theorem encS_fst (S : List (Nat × Nat)) (e : Nat × Nat) : (encS (S ++ [e]))[S.length * 2]? = some (.int .i64 (e.1 : Int)) := by
  rw [encS_snoc, List.getElem?_append_right (by rw [encS_len]; omega), encS_len, Nat.sub_self]; rfl
theorem encS_snd (S : List (Nat × Nat)) (e : Nat × Nat) : (encS (S ++ [e]))[S.length * 2 + 1]? = some (.int .i64 (e.2 : Int)) := by
  rw [encS_snoc, List.getElem?_append_right (by rw [encS_len]; omega), encS_len, Nat.add_sub_cancel_left]; rfl

/-- how many rounds an element is worth -/
def wt1 (M m : Nat) : Nat := 2 * (M / m) - 1
def wtS (M : Nat) (S : List (Nat × Nat)) : Nat := (S.map (fun e => wt1 M e.2)).sum
theorem wtS_app (M : Nat) (S T : List (Nat × Nat)) : wtS M (S ++ T) = wtS M S + wtS M T := by
  unfold wtS
  rw [List.map_append, List.sum_append]
theorem wtS_one (M x m : Nat) : wtS M [(x, m)] = wt1 M m := by unfold wtS; simp
theorem wtS_nil (M : Nat) : wtS M [] = 0 := rfl
def RootAt (n : Int) (M x : Nat) : Prop := x < M ∧ ((x : Int) * x - n) % (M : Int) = 0
def OkE (n : Int) (P k : Nat) (e : Nat × Nat) : Prop := ∃ j, j ≤ k ∧ e.2 = P ^ j ∧ RootAt n e.2 e.1
structure StackOk (n : Int) (P k : Nat) (S : List (Nat × Nat)) (f : Bool) (L : Nat) : Prop where
  each : ∀ e ∈ S, OkE n P k e
  least : f = true → RootAt n (P ^ k) L
  none : f = false → L = 0
  cover : ∀ r, RootAt n (P ^ k) r → (f = true ∧ L ≤ r) ∨ ∃ e ∈ S, r % e.2 = e.1
theorem OkE.wt {n : Int} {P k : Nat} {e : Nat × Nat} (hP : 2 ≤ P) (h : OkE n P k e) : 1 ≤ wt1 (P ^ k) e.2 := by
  obtain ⟨j, hj, e2, _⟩ := h
  unfold wt1
  have h1 : 0 < P ^ j := Nat.pow_pos (by omega)
  have := Nat.div_pos (Nat.pow_le_pow_right (by omega) hj : P ^ j ≤ P ^ k) h1
  rw [e2]
  omega
theorem stack_len {n : Int} {P k : Nat} (hP : 2 ≤ P) : ∀ S : List (Nat × Nat), (∀ e ∈ S, OkE n P k e) → S.length ≤ wtS (P ^ k) S
  | [], _ => by simp
  | e :: S, h => by
    have h1 := (h e (List.mem_cons_self ..)).wt hP
    have h2 := stack_len hP S (fun x hx => h x (List.mem_cons_of_mem _ hx))
    unfold wtS at h2 ⊢
    rw [List.map_cons, List.sum_cons, List.length_cons]
    omega
theorem stack_start (n : Int) (P k : Nat) (hP : 2 ≤ P) : StackOk n P k [(0, 1)] false 0 where
  each := fun e he => by
    rw [List.mem_singleton] at he
    subst he
    exact ⟨0, by omega, by simp, by show 0 < 1; omega, by show ((0 : Nat) * (0 : Nat) - n : Int) % ((1 : Nat) : Int) = 0; exact Int.emod_one _⟩
  least := fun h => by cases h
  none := fun _ => rfl
  cover := fun r hr => .inr ⟨(0, 1), by simp, Nat.mod_one _⟩
theorem stack_at {n : Int} {P k : Nat} {S : List (Nat × Nat)} {f : Bool} {L x : Nat} (h : StackOk n P k (S ++ [(x, P ^ k)]) f L) :
    StackOk n P k S true (if f = true ∧ L ≤ x then L else x) := by
  obtain ⟨j, _, e2, hx⟩ := h.each (x, P ^ k) (by simp)
  simp only at hx
  refine ⟨fun e he => h.each e (List.mem_append_left _ he), fun _ => ?_, fun hf => (by cases hf), fun r hr => ?_⟩
  · by_cases c : f = true ∧ L ≤ x
    · rw [if_pos c]; exact h.least c.1
    · rw [if_neg c]; exact hx
  · rcases h.cover r hr with ⟨hf, hl⟩ | ⟨e, he, hm⟩
    · left
      refine ⟨rfl, ?_⟩
      by_cases c : f = true ∧ L ≤ x
      · rw [if_pos c]; exact hl
      · rw [if_neg c]
        have : ¬ L ≤ x := fun h2 => c ⟨hf, h2⟩
        omega
    · rcases List.mem_append.1 he with he | he
      · exact .inr ⟨e, he, hm⟩
      · rw [List.mem_singleton] at he
        subst he
        left
        refine ⟨rfl, ?_⟩
        simp only [Nat.mod_eq_of_lt hr.1] at hm
        by_cases c : f = true ∧ L ≤ x
        · rw [if_pos c]; omega
        · rw [if_neg c]; omega

def rootB (n : Int) (M x : Nat) : Bool := ((x : Int) * x - n) % (M : Int) == 0
/-- what a round lays behind the stack -/
def pushL (n : Int) (P m x : Nat) (d : Nat) : List (Nat × Nat) := ((List.range d).filter (fun i => rootB n (m * P) (x + i * m))).map (fun i => (x + i * m, m * P))
theorem pushL_yes {n : Int} {P m x d : Nat} (h : rootB n (m * P) (x + d * m) = true) : pushL n P m x (d + 1) = pushL n P m x d ++ [(x + d * m, m * P)] := by
  unfold pushL
  rw [List.range_succ, List.filter_append, List.map_append, List.filter_cons, if_pos h]
  rfl
theorem pushL_no {n : Int} {P m x d : Nat} (h : rootB n (m * P) (x + d * m) = false) : pushL n P m x (d + 1) = pushL n P m x d := by
  unfold pushL
  rw [List.range_succ, List.filter_append, List.map_append, List.filter_cons, if_neg (by rw [h]; decide)]
  simp
theorem pushL_len (n : Int) (P m x d : Nat) : (pushL n P m x d).length ≤ d := by
  unfold pushL
  rw [List.length_map]
  exact Nat.le_trans (List.length_filter_le _ _) (by rw [List.length_range]; omega)
theorem mem_push {n : Int} {P m x d : Nat} {e : Nat × Nat} : e ∈ pushL n P m x d ↔ ∃ i, i < d ∧ rootB n (m * P) (x + i * m) = true ∧ e = (x + i * m, m * P) := by
  unfold pushL
  rw [List.mem_map]
  constructor
  · rintro ⟨i, hi, rfl⟩
    obtain ⟨h1, h2⟩ := List.mem_filter.1 hi
    exact ⟨i, List.mem_range.1 h1, h2, rfl⟩
  · rintro ⟨i, h1, h2, rfl⟩
    exact ⟨i, List.mem_filter.2 ⟨List.mem_range.2 h1, h2⟩, rfl⟩
theorem push_wt (n : Int) (P m x : Nat) (M : Nat) : ∀ d, wtS M (pushL n P m x d) ≤ d * wt1 M (m * P)
  | 0 => by unfold pushL; simp [wtS]
  | d + 1 => by
    have ih := push_wt n P m x M d
    rw [Nat.succ_mul]
    cases h : rootB n (m * P) (x + d * m)
    · rw [pushL_no h]; omega
    · rw [pushL_yes h, wtS_app, wtS_one]; omega
theorem step_wt {P k j : Nat} (hP : 2 ≤ P) (hj : j < k) : P * wt1 (P ^ k) (P ^ j * P) + 1 ≤ wt1 (P ^ k) (P ^ j) := by
  unfold wt1
  have e1 : P ^ j * P = P ^ (j + 1) := (Nat.pow_succ ..).symm
  have e2 : P ^ k / P ^ (j + 1) = P ^ (k - (j + 1)) := Nat.pow_div (by omega) (by omega)
  have e3 : P ^ k / P ^ j = P ^ (k - j) := Nat.pow_div (by omega) (by omega)
  rw [e1, e2, e3, show k - j = (k - (j + 1)) + 1 by omega, Nat.pow_succ]
  have h1 : 0 < P ^ (k - (j + 1)) := Nat.pow_pos (by omega)
  obtain ⟨t, ht⟩ : ∃ t, t = P ^ (k - (j + 1)) := ⟨_, rfl⟩
  rw [← ht] at h1 ⊢
  rw [Nat.mul_sub, Nat.mul_one, ← Nat.mul_assoc, Nat.mul_comm P 2, Nat.mul_assoc, Nat.mul_comm P t]
  have : P ≤ t * P := Nat.le_mul_of_pos_left P h1
  omega
theorem root_lower {n : Int} {M m r : Nat} (hm : 0 < m) (hd : m ∣ M) (h : RootAt n M r) : RootAt n m (r % m) := by
  refine ⟨Nat.mod_lt _ hm, ?_⟩
  have h1 : (m : Int) ∣ (r : Int) * r - n := Int.dvd_trans (Int.ofNat_dvd.2 hd) (Int.dvd_of_emod_eq_zero h.2)
  have e3 : ((r % m : Nat) : Int) * ((r % m : Nat) : Int) - n = ((r : Int) * r - n) - (m : Int) * ((r / m : Nat) : Int) * ((r : Int) + ((r % m : Nat) : Int)) := by
    have e4 : (r : Int) = (m : Int) * ((r / m : Nat) : Int) + ((r % m : Nat) : Int) := by
      have := Nat.div_add_mod r m
      exact_mod_cast this.symm
    obtain ⟨a, ha⟩ : ∃ a, a = (m : Int) * ((r / m : Nat) : Int) := ⟨_, rfl⟩
    obtain ⟨b, hb⟩ : ∃ b, b = ((r % m : Nat) : Int) := ⟨_, rfl⟩
    rw [← ha, ← hb] at e4
    rw [← ha, ← hb, e4]
    simp only [Int.mul_add, Int.add_mul, Int.mul_comm b a]
    omega
  rw [e3]
  exact Int.emod_eq_zero_of_dvd (Int.dvd_sub h1 (Int.dvd_mul_of_dvd_left (Int.dvd_mul_right _ _)))
theorem stack_step {n : Int} {P k j : Nat} (hP : 2 ≤ P) (hj : j < k) {S : List (Nat × Nat)} {f : Bool} {L x : Nat} (h : StackOk n P k (S ++ [(x, P ^ j)]) f L) :
    StackOk n P k (S ++ pushL n P (P ^ j) x P) f L := by
  have hm0 : 0 < P ^ j := Nat.pow_pos (by omega)
  obtain ⟨i0, _, _, hx⟩ := h.each (x, P ^ j) (by simp)
  simp only at hx
  have eS : P ^ j * P = P ^ (j + 1) := (Nat.pow_succ ..).symm
  refine ⟨fun e he => ?_, h.least, h.none, fun r hr => ?_⟩
  · rcases List.mem_append.1 he with he | he
    · exact h.each e (List.mem_append_left _ he)
    · obtain ⟨i, hi, hb, rfl⟩ := mem_push.1 he
      refine ⟨j + 1, by omega, eS, ?_, ?_⟩
      · have h1 := Nat.mul_le_mul_right (P ^ j) (show i + 1 ≤ P by omega)
        rw [Nat.succ_mul, Nat.mul_comm P] at h1
        have := hx.1
        show x + i * P ^ j < P ^ j * P
        omega
      · unfold rootB at hb
        rw [beq_iff_eq] at hb
        exact hb
  · rcases h.cover r hr with h1 | ⟨e, he, hm⟩
    · exact .inl h1
    · rcases List.mem_append.1 he with he | he
      · exact .inr ⟨e, List.mem_append_left _ he, hm⟩
      · rw [List.mem_singleton] at he
        subst he
        right
        simp only at hm
        obtain ⟨m, hme⟩ : ∃ m, m = P ^ j := ⟨_, rfl⟩
        rw [← hme] at hm hm0 eS ⊢
        have hlo := root_lower (m := m * P) (Nat.mul_pos hm0 (by omega)) (by rw [eS]; exact Nat.pow_dvd_pow _ (by omega)) hr
        have hmm : r % (m * P) % m = r % m := Nat.mod_mul_right_mod r m P
        have hdm := Nat.div_add_mod (r % (m * P)) m
        rw [hmm, hm, Nat.mul_comm m] at hdm
        have hlt : r % (m * P) / m < P := (Nat.div_lt_iff_lt_mul hm0).2 (by rw [Nat.mul_comm P]; exact hlo.1)
        refine ⟨(x + r % (m * P) / m * m, m * P), List.mem_append_right _ (mem_push.2 ⟨_, hlt, ?_, rfl⟩), ?_⟩
        · unfold rootB
          rw [beq_iff_eq, show x + r % (m * P) / m * m = r % (m * P) by omega]
          exact hlo.2
        · show r % (m * P) = x + r % (m * P) / m * m
          omega
theorem stack_end {n : Int} {P k : Nat} (hP : 2 ≤ P) {f : Bool} {L : Nat} (h : StackOk n P k [] f L) :
    rootT (rootF (n % ((P ^ k : Nat) : Int)).toNat (P ^ k)) = .tuple #[.int .i64 (L : Int), .bool f] := by
  have hm : 1 ≤ P ^ k := Nat.pow_pos (by omega)
  cases f with
  | true =>
    have hl := h.least rfl
    have e : rootF (n % ((P ^ k : Nat) : Int)).toNat (P ^ k) = some L := by
      refine find_at hl.1 (by rw [beq_iff_eq]; exact (root_rest hm).1 hl.2) fun i hi => ?_
      rw [beq_eq_false_iff_ne]
      intro e
      rcases h.cover i ⟨by have := hl.1; omega, (root_rest hm).2 e⟩ with ⟨_, h2⟩ | ⟨_, h2, _⟩
      · omega
      · cases h2
    rw [e]
    rfl
  | false =>
    have e : rootF (n % ((P ^ k : Nat) : Int)).toNat (P ^ k) = none := by
      refine find_none fun i hi => ?_
      rw [beq_eq_false_iff_ne]
      intro e
      rcases h.cover i ⟨hi, (root_rest hm).2 e⟩ with ⟨h1, _⟩ | ⟨_, h2, _⟩
      · cases h1
      · cases h2
    rw [e, h.none rfl]
    rfl

end Go.Proofs.Ytenibnblibnocaa

/-! ImpE -/
set_option linter.unusedVariables false
namespace Go.Proofs.Ytenibnblibnocaa
open Go.RowKit

def pwOk (P : Nat) (k : Int) : Bool := decide (1 ≤ k) && decide (P ^ k.toNat ≤ 5000)
theorem pow12 {P i : Nat} (hP : 2 ≤ P) (h : P ^ i ≤ 5000) : i ≤ 12 := by
  rcases Nat.lt_or_ge 12 i with hi | hi
  · have h1 : 2 ^ 13 ≤ P ^ 13 := Nat.pow_le_pow_left hP 13
    have h2 : P ^ 13 ≤ P ^ i := Nat.pow_le_pow_right (by omega) hi
    omega
  · exact hi

theorem cell_row {w : World} {b : Nat} {x y : Value} {t : TypeId} (h : w.heap[b]? = some (.cells #[x, y] t (0, 0))) : w.cell? ⟨b, 0, none⟩ = some x ∧ w.cell? ⟨b, 1, none⟩ = some y := by
  constructor <;> simp [World.cell?, h]

theorem wt_top {M : Nat} (h : 1 ≤ M) : wt1 M M = 1 := by unfold wt1; rw [Nat.div_self (by omega)]

theorem lrootOk_pw {n p k : Int} (hO : okN n = true) (hp : primeI p = true) : lrootOk n p k = pwOk p.toNat k := by
  unfold lrootOk pwOk
  rw [hO, hp, Bool.true_and, Bool.true_and, Bool.eq_iff_iff, Bool.and_eq_true, Bool.and_eq_true, decide_eq_true_eq, decide_eq_true_eq]
  have hb := primeI_bd hp
  constructor
  · rintro ⟨h1, h2⟩
    unfold inR at h1
    simp only [Bool.and_eq_true, decide_eq_true_eq] at h1
    exact ⟨by omega, h2⟩
  · rintro ⟨h1, h2⟩
    refine ⟨?_, h2⟩
    have := pow12 (P := p.toNat) (by omega) h2
    unfold inR
    simp only [Bool.and_eq_true, decide_eq_true_eq]
    omega

end Go.Proofs.Ytenibnblibnocaa
