/-
  A region that draws its order, by an invariant over what has been done.
-/
import Derived.Test.YtenibnblibnocabBun0
import Derived.RegionTactic
import Derived.Orders
set_option linter.unusedVariables false
namespace Go.Proofs.Ytenibnblibnocab
open Go.RowKit

section
variable {P : Program} {ops : Array Oper} {Q : Exit → Act → World → Prop} {md : Region.Mode}
/-- has operation i been done? -/
def dn (L : Array Bool) (i : Nat) : Prop := L[i]? = some true
theorem dn_set {L : Array Bool} {i j : Nat} (h : dn (L.setIfInBounds i true) j) : j = i ∨ dn L j := by
  unfold dn at h ⊢
  by_cases e : i = j
  · exact .inl e.symm
  · right
    rwa [Array.getElem?_setIfInBounds_ne e] at h
theorem dn_old {L : Array Bool} {i j : Nat} (h : dn (L.setIfInBounds i true) j) (hne : j ≠ i) : dn L j := (dn_set h).resolve_left hne
/-- what has been done stays done -/
theorem dn_keep {L : Array Bool} {i j : Nat} (h : dn L j) : dn (L.setIfInBounds i true) j := by
  unfold dn at h ⊢
  by_cases e : i = j
  · subst e
    have hl : i < L.size := by
      rcases Nat.lt_or_ge i L.size with hl | hl
      · exact hl
      · rw [Array.getElem?_eq_none hl] at h; cases h
    rw [Array.getElem?_setIfInBounds_self_of_lt hl]
  · rw [Array.getElem?_setIfInBounds_ne e]; exact h
theorem ready_mem {L : Array Bool} {i : Nat} (h : i ∈ Region.ready md ops L) : i < ops.size ∧ L[i]? = some false ∧ ∀ o, ops[i]? = some o → ∀ e ∈ o.after, Region.binds md e = true → dn L e.on := by
  unfold Region.ready at h
  rw [List.mem_filter, List.mem_range, Bool.and_eq_true] at h
  obtain ⟨h1, h2, h3⟩ := h
  refine ⟨h1, ?_, fun o ho e he hb => ?_⟩
  · rcases Nat.lt_or_ge i L.size with hl | hl
    · rw [Array.getElem?_eq_getElem hl]
      simp [Array.getD, hl] at h2
      rw [h2]
    · simp [Array.getD, Nat.not_lt.2 hl] at h2
  · rw [ho] at h3
    simp only [Option.map_some, Option.getD_some, Array.all_eq_true_iff_forall_mem] at h3
    have := h3 e he
    rw [hb, Bool.not_true, Bool.false_or] at this
    unfold dn
    rcases Nat.lt_or_ge e.on L.size with hl | hl
    · rw [Array.getElem?_eq_getElem hl]
      simp [Array.getD, hl] at this
      rw [this]
    · simp [Array.getD, Nat.not_lt.2 hl] at this
def openN (L : Array Bool) : Nat := L.toList.countP (fun b => !b)
theorem open_set {L : Array Bool} {i : Nat} (h : L[i]? = some false) : openN (L.setIfInBounds i true) + 1 = openN L := by
  unfold openN
  rw [Array.toList_setIfInBounds]
  rw [← Array.getElem?_toList] at h
  generalize L.toList = l at h
  induction l generalizing i with
  | nil => simp at h
  | cons b l ih =>
    cases i with
    | zero =>
      simp at h
      subst h
      simp
    | succ i =>
      simp only [List.getElem?_cons_succ] at h
      simp only [List.set_cons_succ, List.countP_cons]
      have := ih h
      omega
theorem open_ready {L : Array Bool} (h : openN L = 0) : Region.ready md ops L = [] := by
  cases hr : Region.ready md ops L with
  | nil => rfl
  | cons i t =>
    have hi := (ready_mem (md := md) (ops := ops) (L := L) (i := i) (by rw [hr]; exact List.mem_cons_self ..)).2.1
    have := open_set hi
    omega
theorem any_inv {I : Array Bool → Act → World → Prop} (hend : ∀ L a w, I L a w → Region.ready md ops L = [] → Q .normal a w)
    (hstep : ∀ L a w i, I L a w → i ∈ Region.ready md ops L → wpOp P ops Q i (I (L.setIfInBounds i true)) a w) :
    ∀ (fuel : Nat) (L : Array Bool) (a : Act) (w : World), openN L ≤ fuel → I L a w → wpAny P md ops Q fuel L a w := by
  intro fuel
  induction fuel with
  | zero => intro L a w hf h; exact ⟨open_ready (by omega), hend L a w h (open_ready (by omega))⟩
  | succ fuel ih =>
    intro L a w hf h
    refine ⟨hend L a w h, fun i hi => ?_⟩
    have ho := open_set (ready_mem hi).2.1
    exact wpOp_mono (fun a w hI => ih _ a w (by omega) hI) (hstep L a w i h hi)
theorem open_new (n : Nat) : openN (Array.replicate n false) = n := by
  unfold openN
  rw [Array.toList_replicate, List.countP_replicate]
  simp
/-- a region that draws its order: what holds at its beginning and is kept by each operation that may come up holds at its end -/
theorem region_inv {id : Nat} {a : Act} {w : World} (hm : P.follows .mixedOrders = true) (I : Array Bool → Act → World → Prop)
    (h0 : I (Array.replicate ops.size false) a w.drew) (hend : ∀ L a w, I L a w → Region.ready .any ops L = [] → Q .normal a w)
    (hstep : ∀ L a w i, I L a w → i ∈ Region.ready .any ops L → wpOp P ops Q i (I (L.setIfInBounds i true)) a w) : (Code.region id ops true).wp P Q a w :=
  wp_region_any hm (any_inv hend hstep _ _ _ _ (by rw [open_new]; exact Nat.le_refl _) h0)
/-- all is done where nothing may come up, if each waits for earlier ones alone -/
theorem all_done {L : Array Bool} (hs : L.size = ops.size) (hb : ∀ (i : Nat) (o : Oper), ops[i]? = some o → ∀ e ∈ o.after, Region.binds md e = true → e.on < i) (hr : Region.ready md ops L = []) : ∀ i, i < ops.size → dn L i := by
  intro i
  induction i using Nat.strongRecOn with
  | _ i ih =>
    intro hi
    refine Classical.byContradiction fun hn => ?_
    have hl : i < L.size := by omega
    have hf : L[i]? = some false := by
      unfold dn at hn
      rw [Array.getElem?_eq_getElem hl] at hn ⊢
      cases hv : L[i] with
      | false => rfl
      | true => rw [hv] at hn; exact absurd rfl hn
    have : i ∈ Region.ready md ops L := by
      unfold Region.ready
      rw [List.mem_filter, List.mem_range, Bool.and_eq_true]
      refine ⟨hi, ?_, ?_⟩
      · rw [Array.getElem?_eq_getElem hl] at hf
        simp only [Option.some.injEq] at hf
        simp [Array.getD, hl, hf]
      · rw [Array.getElem?_eq_getElem hi]
        simp only [Option.map_some, Option.getD_some, Array.all_eq_true_iff_forall_mem]
        intro e he
        cases hbb : Region.binds md e with
        | false => rfl
        | true =>
          have hlt := hb i _ (Array.getElem?_eq_getElem hi) e he hbb
          have hd := ih e.on hlt (by omega)
          unfold dn at hd
          have hl2 : e.on < L.size := by omega
          rw [Array.getElem?_eq_getElem hl2] at hd
          simp only [Option.some.injEq] at hd
          simp [Array.getD, hl2, hd]
    rw [hr] at this
    cases this
theorem dn_new {n k : Nat} (h : dn (Array.replicate n false) k) : False := by
  unfold dn at h
  rw [Array.getElem?_replicate] at h
  split at h <;> simp at h
theorem dn_not {L : Array Bool} {i : Nat} (h : L[i]? = some false) : ¬ dn L i := fun h2 => by
  unfold dn at h2
  rw [h] at h2
  cases h2
/-- each operation waits for earlier ones alone -/
def depB (ops : Array Oper) : Bool := (List.range ops.size).all fun i => match ops[i]? with
  | some o => o.after.all fun e => decide (e.on < i)
  | none => true
theorem all_done2 {L : Array Bool} (hs : L.size = ops.size) (hb : depB ops = true) (hr : Region.ready md ops L = []) : ∀ i, i < ops.size → dn L i :=
  all_done hs (fun i o ho e he _ => by
    have hi : i < ops.size := by
      rcases Nat.lt_or_ge i ops.size with h | h
      · exact h
      · rw [Array.getElem?_eq_none h] at ho; cases ho
    unfold depB at hb
    rw [List.all_eq_true] at hb
    have := hb i (List.mem_range.2 hi)
    rw [ho] at this
    simp only [Array.all_eq_true_iff_forall_mem] at this
    have h2 := this e he
    rwa [decide_eq_true_eq] at h2) hr
/-- each operation waits for earlier ones alone, among those whose order binds in every mode -/
def depM (ops : Array Oper) : Bool := (List.range ops.size).all fun i => match ops[i]? with
  | some o => o.after.all fun e => !Region.binds .any e || decide (e.on < i)
  | none => true
theorem all_done3 {L : Array Bool} (hs : L.size = ops.size) (hb : depM ops = true) (hr : Region.ready .any ops L = []) : ∀ i, i < ops.size → dn L i :=
  all_done hs (fun i o ho e he hbd => by
    have hi : i < ops.size := by
      rcases Nat.lt_or_ge i ops.size with h | h
      · exact h
      · rw [Array.getElem?_eq_none h] at ho; cases ho
    unfold depM at hb
    rw [List.all_eq_true] at hb
    have := hb i (List.mem_range.2 hi)
    rw [ho] at this
    simp only [Array.all_eq_true_iff_forall_mem] at this
    have h2 := this e he
    rw [hbd, Bool.not_true, Bool.false_or] at h2
    rwa [decide_eq_true_eq] at h2) hr
end

end Go.Proofs.Ytenibnblibnocab
