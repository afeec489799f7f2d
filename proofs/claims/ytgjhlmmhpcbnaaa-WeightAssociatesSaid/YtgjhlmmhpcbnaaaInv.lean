/-
  A region that draws its order, shown by what holds whatever has come up so far: the bare method, and the slots.
-/
import Derived.Test.YtgjhlmmhpcbnaaaRow
namespace Go.Proofs.Ytgjhlmmhpcbnaaa
open Go.RowKit

section
variable {P : Program} {ops : Array Oper} {md : Region.Mode} {Q : Exit → Act → World → Prop}
/-- How many of the first n operations have not come up. -/
def unl (done : Array Bool) : Nat → Nat
  | 0 => 0
  | n + 1 => unl done n + (if done.getD n true = true then 0 else 1)
theorem getD_set_at {done : Array Bool} {j : Nat} : (done.setIfInBounds j true).getD j true = true := by
  by_cases h : j < done.size
  · simp [h]
  · simp [h]
theorem unl_set (done : Array Bool) (j : Nat) (hu : done.getD j true = false) : ∀ n, unl (done.setIfInBounds j true) n + (if j < n then 1 else 0) = unl done n
  | 0 => by simp [unl]
  | n + 1 => by
    have ih := unl_set done j hu n
    rw [unl, unl]
    by_cases e : j = n
    · subst e
      rw [getD_set_at, hu, if_pos rfl, if_neg Bool.false_ne_true, if_pos (by omega)]
      rw [if_neg (by omega)] at ih
      omega
    · rw [getD_set_ne true e]
      by_cases h : j < n
      · have e1 : (if j < n then 1 else 0) = 1 := if_pos h
        have e2 : (if j < n + 1 then 1 else 0) = 1 := if_pos (by omega)
        rw [e1] at ih; rw [e2]; omega
      · have e1 : (if j < n then 1 else 0) = 0 := if_neg h
        have e2 : (if j < n + 1 then 1 else 0) = 0 := if_neg (by omega)
        rw [e1] at ih; rw [e2]; omega
theorem unl_zero {done : Array Bool} : ∀ {n : Nat}, unl done n = 0 → ∀ j, j < n → done.getD j true = true
  | n + 1, h, j, hj => by
    rw [unl] at h
    by_cases e : j = n
    · subst e; split at h
      · assumption
      · omega
    · exact unl_zero (done := done) (n := n) (by omega) j (by omega)
theorem wpAny_inv (Inv : Array Bool → Act → World → Prop) (step : ∀ done a w j, Inv done a w → j ∈ Region.ready md ops done → wpOp P ops Q j (Inv (done.setIfInBounds j true)) a w)
    (fin : ∀ done a w, Inv done a w → Region.ready md ops done = [] → Q .normal a w) : ∀ (f : Nat) (done : Array Bool) (a : Act) (w : World), unl done ops.size ≤ f → Inv done a w → wpAny P md ops Q f done a w
  | 0, done, a, w, hf, hI => by
    have hr : Region.ready md ops done = [] := List.eq_nil_iff_forall_not_mem.2 fun j hj => by
      obtain ⟨hu, o, ho, _⟩ := mem_ready.1 hj
      have := unl_zero (done := done) (n := ops.size) (by omega) j (Array.getElem?_eq_some_iff.1 ho).1
      rw [hu] at this; cases this
    exact ⟨hr, fin _ _ _ hI hr⟩
  | f + 1, done, a, w, hf, hI => by
    refine ⟨fun h0 => fin _ _ _ hI h0, fun i hi => ?_⟩
    obtain ⟨hu, o, ho, _⟩ := mem_ready.1 hi
    have hlt := (Array.getElem?_eq_some_iff.1 ho).1
    have hc := unl_set done i hu ops.size
    rw [if_pos hlt] at hc
    exact wpOp_mono (fun a' w' h' => wpAny_inv Inv step fin f _ a' w' (by omega) h') (step done a w i hI hi)
theorem unl_all (n m : Nat) : unl (Array.replicate n false) m ≤ m := by
  induction m with
  | zero => exact Nat.le_refl _
  | succ m ih => rw [unl]; split <;> omega
end
theorem wp_region_inv {P : Program} {id : Nat} {Q : Exit → Act → World → Prop} {a : Act} {w : World} {l : List Oper} (hm : P.follows .mixedOrders = true) (Inv : Array Bool → Act → World → Prop)
    (start : Inv (Array.replicate l.length false) a w.drew)
    (step : ∀ done a w j, Inv done a w → j ∈ Region.ready .any l.toArray done → wpOp P l.toArray Q j (Inv (done.setIfInBounds j true)) a w)
    (fin : ∀ done a w, Inv done a w → Region.ready .any l.toArray done = [] → Q .normal a w) : (Code.region id l.toArray true).wp P Q a w := by
  refine wp_region_any hm ?_
  exact wpAny_inv Inv step fin _ _ _ _ (unl_all _ _) (by simpa using start)

/-! ### The slots -/
def tm (a : Act) (s : Nat) : Value := a.tmps.getD s undef
theorem tm_put (a : Act) (d s : Nat) (v : Value) (h : d < a.tmps.size) : tm (a.put (some d) v) s = if s = d then v else tm a s := by
  unfold tm Act.put
  simp only [Array.getD_eq_getD_getElem?, Array.getElem?_setIfInBounds]
  by_cases e : s = d
  · subst e; simp [h]
  · rw [if_neg (fun e' => e e'.symm), if_neg e]
theorem size_put (a : Act) (d : Option Nat) (v : Value) : (a.put d v).tmps.size = a.tmps.size := by cases d <;> simp [Act.put]
theorem defers_put (a : Act) (d : Option Nat) (v : Value) : (a.put d v).defers = a.defers := by cases d <;> rfl
theorem act_ext {a b : Act} (h1 : a.defers = b.defers) (h2 : a.tmps.size = b.tmps.size) (h3 : ∀ s, tm a s = tm b s) : a = b := by
  obtain ⟨x, dx⟩ := a
  obtain ⟨y, dy⟩ := b
  simp only at h1 h2
  subst h1
  congr 1
  apply Array.ext h2
  intro i hi hi'
  have := h3 i
  unfold tm at this
  simpa [Array.getD_eq_getD_getElem?, hi, hi'] using this
/-- Every operation that has come up has left its value in its slot; the other slots are as they were. -/
def Slots (a0 : Act) (dst : Nat → Option Nat) (m : Nat) (V : Nat → Value) (done : Array Bool) (a : Act) : Prop :=
  a.defers = a0.defers ∧ a.tmps.size = a0.tmps.size ∧ (∀ j, j < m → done.getD j false = true → ∀ d, dst j = some d → tm a d = V j) ∧ ∀ s, (∀ j, j < m → done.getD j false = true → dst j ≠ some s) → tm a s = tm a0 s
theorem done_set {done : Array Bool} {j k : Nat} (hj : j < done.size) : (done.setIfInBounds j true).getD k false = (decide (k = j) || done.getD k false) := by
  by_cases e : k = j
  · subst e; simp [hj]
  · rw [getD_set_ne false (fun e' => e e'.symm)]; simp [e]
theorem Slots.put {a0 a : Act} {dst : Nat → Option Nat} {m : Nat} {V : Nat → Value} {done : Array Bool} (h : Slots a0 dst m V done a) {j : Nat} (hj : j < m) (hs : done.size = m) (hu : done.getD j false = false)
    (hinj : ∀ i k d, i < m → k < m → dst i = some d → dst k = some d → i = k) (hin : ∀ i d, i < m → dst i = some d → d < a0.tmps.size) : Slots a0 dst m V (done.setIfInBounds j true) (a.put (dst j) (V j)) := by
  obtain ⟨h1, h2, h3, h4⟩ := h
  cases hd : dst j with
  | none =>
    refine ⟨h1, h2, fun i hi hdone d hdi => ?_, fun s hsn => h4 s fun i hi hdone => hsn i hi (by rw [done_set (by omega), hdone]; simp)⟩
    rw [done_set (by omega)] at hdone
    by_cases e : i = j
    · subst e; rw [hd] at hdi; cases hdi
    · rw [decide_eq_false e, Bool.false_or] at hdone; exact h3 i hi hdone d hdi
  | some d0 =>
    have hlt : d0 < a.tmps.size := by rw [h2]; exact hin j d0 hj hd
    refine ⟨by rw [defers_put]; exact h1, by rw [size_put]; exact h2, fun i hi hdone d hdi => ?_, fun s hsn => ?_⟩
    · rw [tm_put _ _ _ _ hlt]
      rw [done_set (by omega)] at hdone
      by_cases e : i = j
      · subst e; rw [hd] at hdi; cases hdi; rw [if_pos rfl]
      · rw [decide_eq_false e, Bool.false_or] at hdone
        rw [if_neg (fun ed => e (hinj i j d hi hj hdi (by rw [hd, ed]))), h3 i hi hdone d hdi]
    · have hne : s ≠ d0 := fun e => hsn j hj (by rw [done_set (by omega)]; simp) (by rw [hd, e])
      rw [tm_put _ _ _ _ hlt, if_neg hne]
      exact h4 s fun i hi hdone => hsn i hi (by rw [done_set (by omega), hdone]; simp)
theorem Slots.congr {a0 a : Act} {dst : Nat → Option Nat} {m : Nat} {V V' : Nat → Value} {done : Array Bool} (h : Slots a0 dst m V done a) (e : ∀ j, j < m → done.getD j false = true → V j = V' j) : Slots a0 dst m V' done a :=
  ⟨h.1, h.2.1, fun j hj hd d hdj => by rw [h.2.2.1 j hj hd d hdj, e j hj hd], h.2.2.2⟩
theorem getD_replicate_false' (m j : Nat) : (Array.replicate m false).getD j false = false := by
  rcases Nat.lt_or_ge j m with h | h
  · simp [h]
  · simp [h]
theorem Slots.start (a0 : Act) (dst : Nat → Option Nat) (m : Nat) (V : Nat → Value) : Slots a0 dst m V (Array.replicate m false) a0 :=
  ⟨rfl, rfl, fun j _ hd => (by rw [getD_replicate_false'] at hd; cases hd), fun _ _ => rfl⟩
end Go.Proofs.Ytgjhlmmhpcbnaaa
