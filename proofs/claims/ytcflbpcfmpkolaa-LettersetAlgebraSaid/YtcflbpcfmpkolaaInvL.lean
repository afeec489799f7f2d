/-
  Regions that make new variables for sets of letters, in whatever order: what holds whatever has come up so far.
-/
import Derived.Test.YtcflbpcfmpkolaaInv
namespace Go.Proofs.Ytcflbpcfmpkolaa
open Go.RowKit

/-- The binding edges lead back: then, where nothing is ready, all has come up. -/
def backB (md : Region.Mode) (ops : Array Oper) : Bool := (List.range ops.size).all fun j => match ops[j]? with | some o => o.after.all fun e => !Region.binds md e || decide (e.on < j) | none => true
theorem all_done {md : Region.Mode} {ops : Array Oper} (hB : backB md ops = true) {done : Array Bool} (hr : Region.ready md ops done = []) (hs : done.size = ops.size) : ∀ j, j < ops.size → done.getD j false = true := by
  intro j
  induction j using Nat.strongRecOn with
  | _ j ih =>
    intro hj
    cases hd : done.getD j false with
    | true => rfl
    | false =>
      exfalso
      have hB' := List.all_eq_true.1 hB j (List.mem_range.2 hj)
      have ho : ops[j]? = some ops[j] := by simp [hj]
      rw [ho] at hB'
      have hmem : j ∈ Region.ready md ops done := mem_ready.2 ⟨by
        have hj' : j < done.size := by omega
        simp [hj'] at hd ⊢; exact hd, ops[j], ho, fun e he hb => by
        have h1 := (Array.all_eq_true_iff_forall_mem.1 hB') e he
        rw [hb] at h1
        have h2 : e.on < j := by simpa using h1
        exact ih e.on h2 (by omega)⟩
      rw [hr] at hmem; cases hmem

def VV (al k : Nat) (Vq : Nat → Value) (G : Nat → Nat) : Nat → Value := fun j => if al ≤ j ∧ j < al + k then .pointer (some ⟨G (j - al), 0, none⟩) else Vq j
/-- The world: k new variables; those that have been made lie apart; those that have been stored hold their set. -/
def WI (w0 : World) (al st k : Nat) (R : Nat → Nat → Nat) (done : Array Bool) (G : Nat → Nat) (w : World) : Prop :=
  Below w0.heap.size w0 w ∧ (∀ i, i < k → done.getD (st + i) false = true → done.getD (al + i) false = true) ∧
  (∀ i, i < k → done.getD (al + i) false = true → w0.heap.size ≤ G i ∧ Row w (G i) 24 (if done.getD (st + i) false = true then lc (R i) else lc fun _ => 0)) ∧
  ∀ i i', i < k → i' < k → i ≠ i' → done.getD (al + i) false = true → done.getD (al + i') false = true → G i ≠ G i'
/-- The region's plan: the frame ahead of it, each operation's slot, how many operations, each quiet one's value, the world ahead of it, where the k new variables and the k stores begin, the sets that are stored. -/
def Plan : Type := Act × (Nat → Option Nat) × Nat × (Nat → Value) × World × Nat × Nat × Nat × (Nat → Nat → Nat)
def Plan.a0 (p : Plan) : Act := p.1
def Plan.dst (p : Plan) : Nat → Option Nat := p.2.1
def Plan.m (p : Plan) : Nat := p.2.2.1
def Plan.Vq (p : Plan) : Nat → Value := p.2.2.2.1
def Plan.w0 (p : Plan) : World := p.2.2.2.2.1
def Plan.al (p : Plan) : Nat := p.2.2.2.2.2.1
def Plan.st (p : Plan) : Nat := p.2.2.2.2.2.2.1
def Plan.k (p : Plan) : Nat := p.2.2.2.2.2.2.2.1
def Plan.R (p : Plan) : Nat → Nat → Nat := p.2.2.2.2.2.2.2.2
def Plan.ok (p : Plan) : Prop := (∀ i j d, i < p.m → j < p.m → p.dst i = some d → p.dst j = some d → i = j) ∧ (∀ i d, i < p.m → p.dst i = some d → d < p.a0.tmps.size) ∧ p.al + p.k ≤ p.st ∧ p.st + p.k ≤ p.m ∧ ∀ i, i < p.k → p.dst (p.st + i) = none
def Plan.Inv (p : Plan) (done : Array Bool) (a : Act) (w : World) : Prop :=
  done.size = p.m ∧ ∃ G : Nat → Nat, Slots p.a0 p.dst p.m (VV p.al p.k p.Vq G) done a ∧ WI p.w0 p.al p.st p.k p.R done G w

section
variable {p : Plan} {done : Array Bool} {a : Act} {w : World}
theorem Plan.start (p : Plan) (w : World) (h : Below p.w0.heap.size p.w0 w) : p.Inv (Array.replicate p.m false) p.a0 w := by
  have n : ∀ j, ¬ (Array.replicate p.m false).getD j false = true := fun j => by rw [getD_replicate_false']; exact Bool.false_ne_true
  exact ⟨by simp, fun _ => 0, Slots.start _ _ _ _, h, fun i _ h => absurd h (n _), fun i _ h => absurd h (n _), fun _ _ _ _ _ h => absurd h (n _)⟩
theorem Plan.Inv.below (h : p.Inv done a w) : Below p.w0.heap.size p.w0 w := by obtain ⟨_, G, _, h, _⟩ := h; exact h
theorem Plan.Inv.slot (h : p.Inv done a w) {j d : Nat} (hj : j < p.m) (hd : done.getD j false = true) (hdst : p.dst j = some d) (hq : j < p.al ∨ p.al + p.k ≤ j) : tm a d = p.Vq j := by
  obtain ⟨_, G, h, _⟩ := h
  rw [h.2.2.1 j hj hd d hdst]; unfold VV; rw [if_neg (by omega)]
theorem Plan.Inv.old (h : p.Inv done a w) {s : Nat} (hs : ∀ j, j < p.m → p.dst j ≠ some s) : tm a s = tm p.a0 s := by
  obtain ⟨_, G, h, _⟩ := h
  exact h.2.2.2 s fun j hj _ => hs j hj
theorem Plan.Inv.quiet (ok : p.ok) (h : p.Inv done a w) {j : Nat} (hj : j < p.m) (hu : done.getD j false = false) (hq : (j < p.al ∨ p.al + p.k ≤ j) ∧ (j < p.st ∨ p.st + p.k ≤ j)) {w' : World} (hb : Below w.heap.size w w') :
    p.Inv (done.setIfInBounds j true) (a.put (p.dst j) (p.Vq j)) w' := by
  obtain ⟨hs, G, h1, h2, h3, h4, h5⟩ := h
  have e : ∀ i, (i ≠ j) → (done.setIfInBounds j true).getD i false = done.getD i false := fun i hi => by rw [done_set (by omega), decide_eq_false hi, Bool.false_or]
  have hv : VV p.al p.k p.Vq G j = p.Vq j := if_neg (by omega)
  refine ⟨by simpa using hs, G, by rw [← hv]; exact h1.put hj hs hu ok.1 ok.2.1, h2.trans (hb.mono h2.size), fun i hi hd => ?_, fun i hi hd => ?_, fun i i' hi hi' hne hd hd' => ?_⟩
  · rw [e _ (by omega)] at hd ⊢; exact h3 i hi hd
  · rw [e _ (by omega)] at hd
    rw [e (p.st + i) (by omega)]
    exact ⟨(h4 i hi hd).1, (h4 i hi hd).2.below' hb⟩
  · rw [e _ (by omega)] at hd hd'
    exact h5 i i' hi hi' hne hd hd'
theorem Plan.Inv.alloc (ok : p.ok) (h : p.Inv done a w) {i : Nat} (hi : i < p.k) (hu : done.getD (p.al + i) false = false) :
    p.Inv (done.setIfInBounds (p.al + i) true) (a.put (p.dst (p.al + i)) (.pointer (some ⟨w.heap.size, 0, none⟩))) (w.alloc (.cells (lc fun _ => 0) 24)) := by
  obtain ⟨hs, G, h1, h2, h3, h4, h5⟩ := h
  have o1 := ok.2.2.1
  have o2 := ok.2.2.2.1
  have hlt : p.al + i < done.size := by omega
  have e : ∀ x, (x ≠ p.al + i) → (done.setIfInBounds (p.al + i) true).getD x false = done.getD x false := fun x hx => by rw [done_set hlt, decide_eq_false hx, Bool.false_or]
  have hst : done.getD (p.st + i) false = false := by
    cases hd : done.getD (p.st + i) false with
    | false => rfl
    | true => have := h3 i hi hd; rw [hu] at this; cases this
  let G' : Nat → Nat := fun x => if x = i then w.heap.size else G x
  have hG : ∀ x, x ≠ i → G' x = G x := fun x hx => if_neg hx
  have hGi : G' i = w.heap.size := if_pos rfl
  have hv : VV p.al p.k p.Vq G' (p.al + i) = .pointer (some ⟨w.heap.size, 0, none⟩) := by unfold VV; rw [if_pos (by omega), show p.al + i - p.al = i by omega, hGi]
  have hc : Slots p.a0 p.dst p.m (VV p.al p.k p.Vq G') done a := h1.congr fun x hx hd => by
    unfold VV
    by_cases c : p.al ≤ x ∧ x < p.al + p.k
    · rw [if_pos c, if_pos c, hG _ (fun e => by rw [show p.al + i = x by omega, hd] at hu; cases hu)]
    · rw [if_neg c, if_neg c]
  have lt : ∀ x, x < p.k → done.getD (p.al + x) false = true → G x < w.heap.size := fun x hx hd => (h4 x hx hd).2.lt
  refine ⟨by simpa using hs, G', by rw [← hv]; exact hc.put (by omega) hs hu ok.1 ok.2.1, h2.alloc h2.size _, fun x hx hd => ?_, fun x hx hd => ?_, fun x x' hx hx' hne hd hd' => ?_⟩
  · rw [e _ (by omega)] at hd
    by_cases c : x = i
    · subst c; rw [hst] at hd; cases hd
    · rw [e _ (by omega)]; exact h3 x hx hd
  · rw [e (p.st + x) (by omega)]
    by_cases c : x = i
    · subst c
      rw [hGi, hst]
      exact ⟨h2.size, Row.new w _ _⟩
    · rw [e _ (by omega)] at hd
      rw [hG _ c]
      exact ⟨(h4 x hx hd).1, (h4 x hx hd).2.alloc _⟩
  · by_cases c : x = i
    · rw [e (p.al + x') (by omega)] at hd'
      rw [c, hGi, hG x' (by omega)]
      have := lt x' hx' hd'; omega
    · rw [e (p.al + x) (by omega)] at hd
      by_cases c' : x' = i
      · rw [c', hGi, hG x c]
        have := lt x hx hd; omega
      · rw [e (p.al + x') (by omega)] at hd'
        rw [hG x c, hG x' c']
        exact h5 x x' hx hx' hne hd hd'
theorem Plan.Inv.store (ok : p.ok) (h : p.Inv done a w) {i d : Nat} (hi : i < p.k) (hu : done.getD (p.st + i) false = false) (hd : done.getD (p.al + i) false = true) (hdst : p.dst (p.al + i) = some d) :
    ∃ g, tm a d = .pointer (some ⟨g, 0, none⟩) ∧ Row w g 24 (lc fun _ => 0) ∧ p.Inv (done.setIfInBounds (p.st + i) true) (a.put none undef) (w.setRow g (lc (p.R i))) := by
  obtain ⟨hs, G, h1, h2, h3, h4, h5⟩ := h
  have o1 := ok.2.2.1
  have o2 := ok.2.2.2.1
  have hlt : p.st + i < done.size := by omega
  have e : ∀ x, (x ≠ p.st + i) → (done.setIfInBounds (p.st + i) true).getD x false = done.getD x false := fun x hx => by rw [done_set hlt, decide_eq_false hx, Bool.false_or]
  have r := h4 i hi hd
  rw [hu, if_neg Bool.false_ne_true] at r
  have hput := h1.put (j := p.st + i) (by omega) hs hu ok.1 ok.2.1
  rw [ok.2.2.2.2 i hi] at hput
  refine ⟨G i, by rw [h1.2.2.1 _ (by omega) hd d hdst]; unfold VV; rw [if_pos (by omega), show p.al + i - p.al = i by omega], r.2, by simpa using hs, G, hput, below_setRow h2 r.1 _, fun x hx hdx => ?_, fun x hx hdx => ?_, fun x x' hx hx' hne hdx hdx' => ?_⟩
  · rw [e (p.al + x) (by omega)]
    by_cases c : x = i
    · rw [c]; exact hd
    · rw [e _ (by omega)] at hdx; exact h3 x hx hdx
  · rw [e _ (by omega)] at hdx
    have rx := h4 x hx hdx
    by_cases c : x = i
    · subst c
      rw [done_set hlt, decide_eq_true rfl, Bool.true_or, if_pos rfl]
      exact ⟨rx.1, rx.2.setRow _⟩
    · rw [e (p.st + x) (by omega)]
      exact ⟨rx.1, rx.2.setRow_far (h5 x i hx hi c hdx hd) _⟩
  · rw [e _ (by omega)] at hdx hdx'
    exact h5 x x' hx hx' hne hdx hdx'
/-- At the end: the frame, and the new variables' sets. -/
theorem Plan.Inv.fin (ok : p.ok) (h : p.Inv done a w) (hall : ∀ j, j < p.m → done.getD j false = true) (F : (Nat → Nat) → Act)
    (hF : ∀ G, (F G).defers = p.a0.defers ∧ (F G).tmps.size = p.a0.tmps.size ∧ (∀ j, j < p.m → ∀ d, p.dst j = some d → tm (F G) d = VV p.al p.k p.Vq G j) ∧ ∀ s, (∀ j, j < p.m → p.dst j ≠ some s) → tm (F G) s = tm p.a0 s) :
    ∃ G : Nat → Nat, a = F G ∧ Below p.w0.heap.size p.w0 w ∧ ∀ i, i < p.k → Row w (G i) 24 (lc (p.R i)) := by
  obtain ⟨hs, G, h1, h2, h3, h4, h5⟩ := h
  have o1 := ok.2.2.1
  have o2 := ok.2.2.2.1
  refine ⟨G, ?_, h2, fun i hi => ?_⟩
  · refine act_ext (h1.1.trans (hF G).1.symm) (h1.2.1.trans (hF G).2.1.symm) fun s => ?_
    by_cases c : ∃ j, j < p.m ∧ p.dst j = some s
    · obtain ⟨j, hj, hjs⟩ := c
      rw [h1.2.2.1 j hj (hall j hj) s hjs, (hF G).2.2.1 j hj s hjs]
    · rw [h1.2.2.2 s (fun j hj _ hjs => c ⟨j, hj, hjs⟩), (hF G).2.2.2 s (fun j hj hjs => c ⟨j, hj, hjs⟩)]
  · have r := h4 i hi (hall _ (by omega))
    rw [hall (p.st + i) (by omega), if_pos rfl] at r
    exact r.2
end
end Go.Proofs.Ytcflbpcfmpkolaa
