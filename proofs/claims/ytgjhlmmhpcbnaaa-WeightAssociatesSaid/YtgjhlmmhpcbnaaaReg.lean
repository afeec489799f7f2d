/-
  A region that draws its order, shown operation by operation: each operation's value is told by a predicate (it may lie at a new address); k new variables may be made and stored into; operations may be guarded.
-/
import Derived.Test.YtgjhlmmhpcbnaaaInv
namespace Go.Proofs.Ytgjhlmmhpcbnaaa
open Go.RowKit

/-- The binding edges lead back: then, where nothing is ready, all has come up. -/
def backB (md : Region.Mode) (ops : Array Oper) : Bool := (List.range ops.size).all fun j => match ops[j]? with | some o => o.after.all fun e => !Region.binds md e || decide (e.on < j) | none => true
theorem all_done {md : Region.Mode} {ops : Array Oper} (hB : backB md ops = true) {done : Array Bool} (hr : Region.ready md ops done = []) (hs : done.size = ops.size) : ∀ j, j < ops.size → done.getD j false = true := by
  intro j
  induction j using Nat.strongRecOn with
  | _ j ih =>
    intro hj
    cases hd : done.getD j false with
    | true => rfl
    | false =>
      exfalso
      have hB' := List.all_eq_true.1 hB j (List.mem_range.2 hj)
      have ho : ops[j]? = some ops[j] := by simp [hj]
      rw [ho] at hB'
      have hmem : j ∈ Region.ready md ops done := mem_ready.2 ⟨by
        have hj' : j < done.size := by omega
        simp [hj'] at hd ⊢; exact hd, ops[j], ho, fun e he hb => by
        have h1 := (Array.all_eq_true_iff_forall_mem.1 hB') e he
        rw [hb] at h1
        have h2 : e.on < j := by simpa using h1
        exact ih e.on h2 (by omega)⟩
      rw [hr] at hmem; cases hmem

def dstB (l : List Oper) (j : Nat) : Option Nat := l[j]?.bind fun o => o.dst
/-- Operation j waits for operation i. -/
def edgeB (l : List Oper) (j i : Nat) : Bool := match l[j]? with | some o => o.after.any fun e => Region.binds .any e && e.on == i | none => false
/-- No operation writes slot s. -/
def oldB (l : List Oper) (s : Nat) : Bool := l.all fun o => o.dst != some s
def regB (l : List Oper) (n al st k : Nat) : Bool :=
  backB .any l.toArray && ((List.range l.length).all fun i => (List.range i).all fun j => (dstB l i).isNone || dstB l i != dstB l j) && (l.all fun o => match o.dst with | some d => decide (d < n) | none => true) &&
  decide (al + k ≤ st) && decide (st + k ≤ l.length) && ((List.range k).all fun i => (dstB l (st + i)).isNone && edgeB l (st + i) (al + i))
theorem dst_inj {l : List Oper} (h : ((List.range l.length).all fun i => (List.range i).all fun j => (dstB l i).isNone || dstB l i != dstB l j) = true) :
    ∀ i k d, i < l.length → k < l.length → dstB l i = some d → dstB l k = some d → i = k := by
  have key : ∀ i j d, i < l.length → j < i → dstB l i = some d → dstB l j = some d → False := fun i j d hi hj e1 e2 => by
    have h1 := List.all_eq_true.1 (List.all_eq_true.1 h i (List.mem_range.2 hi)) j (List.mem_range.2 hj)
    rw [e1, e2] at h1
    simp at h1
  intro i k d hi hk e1 e2
  rcases Nat.lt_trichotomy i k with c | c | c
  · exact (key k i d hk c e2 e1).elim
  · exact c
  · exact (key i k d hi c e1 e2).elim

structure RegP where
  a0 : Act
  w0 : World
  l : List Oper
  PV : Nat → Value → World → Prop
  al : Nat
  st : Nat
  k : Nat
  T : Nat → TypeId
  Z : Nat → Array Value
  C : Nat → Array Value
/-- Neither an operation that makes a variable nor one that stores into it. -/
def RegP.norm (p : RegP) (j : Nat) : Prop := (j < p.al ∨ p.al + p.k ≤ j) ∧ (j < p.st ∨ p.st + p.k ≤ j)
def RegP.Inv (p : RegP) (done : Array Bool) (a : Act) (w : World) : Prop :=
  done.size = p.l.length ∧ Below p.w0.heap.size p.w0 w ∧ ∃ (V : Nat → Value) (G : Nat → Nat), Slots p.a0 (dstB p.l) p.l.length V done a ∧
    (∀ j, j < p.l.length → p.norm j → done.getD j false = true → p.PV j (V j) w) ∧
    (∀ i, i < p.k → done.getD (p.al + i) false = true → V (p.al + i) = .pointer (some ⟨G i, 0, none⟩)) ∧
    (∀ i, i < p.k → done.getD (p.st + i) false = true → done.getD (p.al + i) false = true) ∧
    (∀ i, i < p.k → done.getD (p.al + i) false = true → p.w0.heap.size ≤ G i ∧ Row w (G i) (p.T i) (if done.getD (p.st + i) false = true then p.C i else p.Z i)) ∧
    ∀ i i', i < p.k → i' < p.k → i ≠ i' → done.getD (p.al + i) false = true → done.getD (p.al + i') false = true → G i ≠ G i'
/-- What an operation finds: the slots that the region does not write, and the values of those that it waits for. -/
def RegP.Here (p : RegP) (j : Nat) (a : Act) (w : World) : Prop :=
  Below p.w0.heap.size p.w0 w ∧ (∀ s, oldB p.l s = true → tm a s = tm p.a0 s) ∧ ∀ i d, p.norm i → edgeB p.l j i = true → dstB p.l i = some d → p.PV i (tm a d) w
structure RegP.Ok (p : RegP) : Prop where
  back : backB .any p.l.toArray = true
  inj : ∀ i k d, i < p.l.length → k < p.l.length → dstB p.l i = some d → dstB p.l k = some d → i = k
  lt : ∀ i d, i < p.l.length → dstB p.l i = some d → d < p.a0.tmps.size
  al : p.al + p.k ≤ p.st
  st : p.st + p.k ≤ p.l.length
  none : ∀ i, i < p.k → dstB p.l (p.st + i) = none
  edge : ∀ i, i < p.k → edgeB p.l (p.st + i) (p.al + i) = true
theorem RegP.ok_of (p : RegP) (h : regB p.l p.a0.tmps.size p.al p.st p.k = true) : p.Ok := by
  unfold regB at h
  simp only [Bool.and_eq_true, decide_eq_true_eq] at h
  obtain ⟨⟨⟨⟨⟨h1, h2⟩, h3⟩, h4⟩, h5⟩, h6⟩ := h
  refine ⟨h1, dst_inj h2, fun i d hi e => ?_, h4, h5, fun i hi => ?_, fun i hi => ?_⟩
  · have ho : p.l[i]? = some p.l[i] := by simp [hi]
    unfold dstB at e
    rw [ho] at e
    have := List.all_eq_true.1 h3 p.l[i] (List.getElem_mem hi)
    rw [show p.l[i].dst = some d from e] at this
    simpa using this
  · have := List.all_eq_true.1 h6 i (List.mem_range.2 hi)
    simp only [Bool.and_eq_true, Option.isNone_iff_eq_none] at this
    exact this.1
  · have := List.all_eq_true.1 h6 i (List.mem_range.2 hi)
    simp only [Bool.and_eq_true] at this
    exact this.2

section
variable {p : RegP} {done : Array Bool} {a : Act} {w : World}
theorem ready_facts {l : List Oper} {done : Array Bool} {j : Nat} (h : j ∈ Region.ready .any l.toArray done) (hs : done.size = l.length) :
    j < l.length ∧ done.getD j false = false ∧ ∀ i, edgeB l j i = true → done.getD i false = true := by
  obtain ⟨hu, o, ho, hall⟩ := mem_ready.1 h
  have ho' : l[j]? = some o := by simpa using ho
  have hj : j < l.length := (List.getElem?_eq_some_iff.1 ho').1
  refine ⟨hj, ?_, fun i hi => ?_⟩
  · have : j < done.size := by omega
    simp [this] at hu ⊢; exact hu
  · unfold edgeB at hi
    rw [ho'] at hi
    obtain ⟨e, he, hb⟩ := Array.any_eq_true'.1 hi
    simp only [Bool.and_eq_true, beq_iff_eq] at hb
    have := hall e he hb.1
    rwa [hb.2] at this
theorem RegP.Inv.here (h : p.Inv done a w) {j : Nat} (hr : j ∈ Region.ready .any p.l.toArray done) : p.Here j a w := by
  obtain ⟨hs, hb, V, G, h1, h2, _⟩ := h
  obtain ⟨hj, hu, he⟩ := ready_facts hr hs
  refine ⟨hb, fun s ho => h1.2.2.2 s fun i hi _ e => ?_, fun i d hn hi hd => ?_⟩
  · have hm := List.all_eq_true.1 ho p.l[i] (List.getElem_mem hi)
    unfold dstB at e
    rw [show p.l[i]? = some p.l[i] by simp [hi]] at e
    rw [show p.l[i].dst = some s from e] at hm
    simp at hm
  · have hdone := he i hi
    have hlt : i < p.l.length := by
      unfold dstB at hd
      cases e : p.l[i]? with
      | none => rw [e] at hd; cases hd
      | some o => exact (List.getElem?_eq_some_iff.1 e).1
    rw [h1.2.2.1 i hlt hdone d hd]
    exact h2 i hlt hn hdone
/-- An operation that is neither: its value is told by its predicate. -/
theorem RegP.Inv.step (ok : p.Ok) (mono : ∀ j v w w', Below w.heap.size w w' → p.PV j v w → p.PV j v w') (h : p.Inv done a w) {j : Nat} (hr : j ∈ Region.ready .any p.l.toArray done) (hn : p.norm j) {v : Value} {w' : World} (hb : Below w.heap.size w w') (hv : p.PV j v w') :
    p.Inv (done.setIfInBounds j true) (a.put (dstB p.l j) v) w' := by
  obtain ⟨hs, hB, V, G, h1, h2, h3, h4, h5, h6⟩ := h
  obtain ⟨hj, hu, _⟩ := ready_facts hr hs
  have e : ∀ x, x ≠ j → (done.setIfInBounds j true).getD x false = done.getD x false := fun x hx => by rw [done_set (by omega), decide_eq_false hx, Bool.false_or]
  have hal := ok.al
  have hst := ok.st
  have n1 : ∀ i, i < p.k → p.al + i ≠ j := fun i hi => by have := hn.1; omega
  have n2 : ∀ i, i < p.k → p.st + i ≠ j := fun i hi => by have := hn.2; omega
  let V' : Nat → Value := fun x => if x = j then v else V x
  have hV : ∀ x, x ≠ j → V' x = V x := fun x hx => if_neg hx
  have hVj : V' j = v := if_pos rfl
  have hc : Slots p.a0 (dstB p.l) p.l.length V' done a := h1.congr fun x hx hd => (hV x (fun ex => by rw [ex, hu] at hd; cases hd)).symm
  refine ⟨by simpa using hs, hB.trans (hb.mono hB.size), V', G, by have := hc.put hj hs hu ok.inj ok.lt; rwa [hVj] at this, fun x hx hnx hd => ?_, fun i hi hd => ?_, fun i hi hd => ?_, fun i hi hd => ?_, fun i i' hi hi' hne hd hd' => ?_⟩
  · by_cases ex : x = j
    · subst ex; rw [hVj]; exact hv
    · rw [e x ex] at hd; rw [hV x ex]; exact mono _ _ _ _ hb (h2 x hx hnx hd)
  · rw [e _ (n1 i hi)] at hd; rw [hV _ (n1 i hi)]; exact h3 i hi hd
  · rw [e _ (n2 i hi)] at hd; rw [e _ (n1 i hi)]; exact h4 i hi hd
  · rw [e _ (n1 i hi)] at hd; rw [e _ (n2 i hi)]; exact ⟨(h5 i hi hd).1, (h5 i hi hd).2.below' hb⟩
  · rw [e _ (n1 i hi)] at hd; rw [e _ (n1 i' hi')] at hd'; exact h6 i i' hi hi' hne hd hd'
theorem RegP.Inv.alloc (ok : p.Ok) (mono : ∀ j v w w', Below w.heap.size w w' → p.PV j v w → p.PV j v w') (h : p.Inv done a w) {i : Nat} (hi : i < p.k) (hr : p.al + i ∈ Region.ready .any p.l.toArray done) :
    p.Inv (done.setIfInBounds (p.al + i) true) (a.put (dstB p.l (p.al + i)) (.pointer (some ⟨w.heap.size, 0, none⟩))) (w.alloc (.cells (p.Z i) (p.T i))) := by
  obtain ⟨hs, hB, V, G, h1, h2, h3, h4, h5, h6⟩ := h
  obtain ⟨hj, hu, _⟩ := ready_facts hr hs
  have hal := ok.al
  have hst' := ok.st
  have hb : Below w.heap.size w (w.alloc (.cells (p.Z i) (p.T i))) := (Below.refl _ _).alloc (Nat.le_refl _) _
  have e : ∀ x, x ≠ p.al + i → (done.setIfInBounds (p.al + i) true).getD x false = done.getD x false := fun x hx => by rw [done_set (by omega), decide_eq_false hx, Bool.false_or]
  have hst : done.getD (p.st + i) false = false := by
    cases hd : done.getD (p.st + i) false with
    | false => rfl
    | true => have := h4 i hi hd; rw [hu] at this; cases this
  let G' : Nat → Nat := fun x => if x = i then w.heap.size else G x
  have hG : ∀ x, x ≠ i → G' x = G x := fun x hx => if_neg hx
  have hGi : G' i = w.heap.size := if_pos rfl
  let V' : Nat → Value := fun x => if x = p.al + i then .pointer (some ⟨w.heap.size, 0, none⟩) else V x
  have hV : ∀ x, x ≠ p.al + i → V' x = V x := fun x hx => if_neg hx
  have hVj : V' (p.al + i) = .pointer (some ⟨w.heap.size, 0, none⟩) := if_pos rfl
  have hc : Slots p.a0 (dstB p.l) p.l.length V' done a := h1.congr fun x hx hd => (hV x (fun ex => by rw [ex, hu] at hd; cases hd)).symm
  refine ⟨by simpa using hs, hB.trans (hb.mono hB.size), V', G', by have := hc.put hj hs hu ok.inj ok.lt; rwa [hVj] at this, fun x hx hnx hd => ?_, fun x hx hd => ?_, fun x hx hd => ?_, fun x hx hd => ?_, fun x x' hx hx' hne hd hd' => ?_⟩
  · have ex : x ≠ p.al + i := by have := hnx.1; omega
    rw [e x ex] at hd; rw [hV x ex]; exact mono _ _ _ _ hb (h2 x hx hnx hd)
  · by_cases c : x = i
    · subst c; rw [hVj, hGi]
    · rw [e _ (by omega)] at hd; rw [hV _ (by omega), hG x c]; exact h3 x hx hd
  · rw [e _ (by omega)] at hd
    by_cases c : x = i
    · subst c; rw [hst] at hd; cases hd
    · rw [e _ (by omega)]; exact h4 x hx hd
  · rw [e (p.st + x) (by omega)]
    by_cases c : x = i
    · subst c; rw [hGi, hst]; exact ⟨hB.size, Row.new w _ _⟩
    · rw [e _ (by omega)] at hd; rw [hG _ c]; exact ⟨(h5 x hx hd).1, (h5 x hx hd).2.alloc _⟩
  · by_cases c : x = i
    · rw [e (p.al + x') (by omega)] at hd'
      rw [c, hGi, hG x' (by omega)]
      have := (h5 x' hx' hd').2.lt; omega
    · rw [e (p.al + x) (by omega)] at hd
      by_cases c' : x' = i
      · rw [c', hGi, hG x c]
        have := (h5 x hx hd).2.lt; omega
      · rw [e (p.al + x') (by omega)] at hd'
        rw [hG x c, hG x' c']; exact h6 x x' hx hx' hne hd hd'
theorem RegP.Inv.store (ok : p.Ok) (mono2 : ∀ j v w g i, i < p.k → Row w g (p.T i) (p.Z i) → p.PV j v w → p.PV j v (w.setRow g (p.C i))) (h : p.Inv done a w) {i d : Nat} (hi : i < p.k) (hr : p.st + i ∈ Region.ready .any p.l.toArray done) (hd : dstB p.l (p.al + i) = some d) :
    ∃ g, tm a d = .pointer (some ⟨g, 0, none⟩) ∧ Row w g (p.T i) (p.Z i) ∧ p.Inv (done.setIfInBounds (p.st + i) true) (a.put (dstB p.l (p.st + i)) undef) (w.setRow g (p.C i)) := by
  obtain ⟨hs, hB, V, G, h1, h2, h3, h4, h5, h6⟩ := h
  obtain ⟨hj, hu, he⟩ := ready_facts hr hs
  have hal := ok.al
  have hst := ok.st
  have hda := he _ (ok.edge i hi)
  have e : ∀ x, x ≠ p.st + i → (done.setIfInBounds (p.st + i) true).getD x false = done.getD x false := fun x hx => by rw [done_set (by omega), decide_eq_false hx, Bool.false_or]
  have r := h5 i hi hda
  rw [hu, if_neg Bool.false_ne_true] at r
  have ei : (done.setIfInBounds (p.st + i) true).getD (p.st + i) false = true := by rw [done_set (by omega)]; simp
  have hput := h1.put hj hs hu ok.inj ok.lt
  rw [ok.none i hi] at hput ⊢
  refine ⟨G i, by rw [h1.2.2.1 _ (by omega) hda d hd, h3 i hi hda], r.2, by simpa using hs, below_setRow hB r.1 _, V, G, hput, fun x hx hnx hdx => ?_, fun x hx hdx => ?_, fun x hx hdx => ?_, fun x hx hdx => ?_, fun x x' hx hx' hne hdx hdx' => ?_⟩
  · have ex : x ≠ p.st + i := by have := hnx.2; omega
    rw [e x ex] at hdx; exact mono2 _ _ _ _ i hi r.2 (h2 x hx hnx hdx)
  · rw [e _ (by omega)] at hdx; exact h3 x hx hdx
  · rw [e (p.al + x) (by omega)]
    by_cases c : x = i
    · subst c; exact hda
    · rw [e _ (by omega)] at hdx; exact h4 x hx hdx
  · rw [e _ (by omega)] at hdx
    by_cases c : x = i
    · subst c; rw [ei, if_pos rfl]; exact ⟨r.1, r.2.setRow _⟩
    · rw [e _ (by omega)]; exact ⟨(h5 x hx hdx).1, (h5 x hx hdx).2.setRow_far (h6 x i hx hi c hdx hda) _⟩
  · rw [e _ (by omega)] at hdx hdx'; exact h6 x x' hx hx' hne hdx hdx'
end

/-- All operations' values, laid into their slots. -/
def puts : List (Option Nat) → (Nat → Value) → Nat → Act → Act
  | [], _, _, a => a
  | d :: ds, V, i, a => puts ds V (i + 1) (a.put d (V i))
theorem puts_size : ∀ (ds : List (Option Nat)) (V : Nat → Value) (i : Nat) (a : Act), (puts ds V i a).tmps.size = a.tmps.size
  | [], _, _, _ => rfl
  | _ :: ds, V, i, a => by rw [puts, puts_size ds V, size_put]
theorem puts_defers : ∀ (ds : List (Option Nat)) (V : Nat → Value) (i : Nat) (a : Act), (puts ds V i a).defers = a.defers
  | [], _, _, _ => rfl
  | _ :: ds, V, i, a => by rw [puts, puts_defers ds V, defers_put]
theorem puts_old : ∀ (ds : List (Option Nat)) (V : Nat → Value) (i : Nat) (a : Act) (s : Nat), (∀ d, some d ∈ ds → d < a.tmps.size) → some s ∉ ds → tm (puts ds V i a) s = tm a s
  | [], _, _, _, _, _, _ => rfl
  | d :: ds, V, i, a, s, hlt, hs => by
    rw [puts, puts_old ds V (i + 1) _ s (fun d' hd => by rw [size_put]; exact hlt d' (List.mem_cons_of_mem _ hd)) (fun h => hs (List.mem_cons_of_mem _ h))]
    cases d with
    | none => rfl
    | some d => rw [tm_put _ _ _ _ (hlt d List.mem_cons_self), if_neg (fun e => hs (by rw [e]; exact List.mem_cons_self))]
theorem puts_at : ∀ (ds : List (Option Nat)) (V : Nat → Value) (i : Nat) (a : Act) (j d : Nat), (∀ d, some d ∈ ds → d < a.tmps.size) → (∀ (x y d : Nat), ds[x]? = some (some d) → ds[y]? = some (some d) → x = y) → ds[j]? = some (some d) → tm (puts ds V i a) d = V (i + j)
  | [], _, _, _, _, _, _, _, h => by simp at h
  | x :: ds, V, i, a, j, d, hlt, hinj, h => by
    rw [puts]
    have hlt' : ∀ d, some d ∈ ds → d < (a.put x (V i)).tmps.size := fun d' hd => by rw [size_put]; exact hlt d' (List.mem_cons_of_mem _ hd)
    cases j with
    | zero =>
      have hx : x = some d := by simpa using h
      subst hx
      rw [puts_old ds V (i + 1) _ d hlt' (fun hm => by
        obtain ⟨y, hy⟩ := List.mem_iff_getElem?.1 hm
        have := hinj 0 (y + 1) d (by simp) (by simpa using hy)
        omega), tm_put _ _ _ _ (hlt d List.mem_cons_self), if_pos rfl, Nat.add_zero]
    | succ j =>
      rw [puts_at ds V (i + 1) _ j d hlt' (fun x y d h1 h2 => by have := hinj (x + 1) (y + 1) d (by simpa using h1) (by simpa using h2); omega) (by simpa using h), show i + 1 + j = i + (j + 1) by omega]

theorem wp_region_pv {P : Program} {id : Nat} {Q : Exit → Act → World → Prop} {a : Act} {w : World} {l : List Oper} (hm : P.follows .mixedOrders = true) (PV : Nat → Value → World → Prop) (al st k : Nat) (T : Nat → TypeId) (Z C : Nat → Array Value)
    (hB : regB l a.tmps.size al st k = true)
    (mono : ∀ j v w w', Below w.heap.size w w' → PV j v w → PV j v w')
    (mono2 : ∀ j v w g i, i < k → Row w g (T i) (Z i) → PV j v w → PV j v (w.setRow g (C i)))
    (step : ∀ (p : RegP), p = ⟨a, w, l, PV, al, st, k, T, Z, C⟩ → ∀ j, j < l.length → p.norm j → ∀ a' w', p.Here j a' w' → ∀ K : Act → World → Prop, (∀ v w'', Below w'.heap.size w' w'' → PV j v w'' → K (a'.put (dstB l j) v) w'') → wpOp P l.toArray Q j K a' w')
    (alloc : ∀ i, i < k → ∀ a' w' (K : Act → World → Prop), K (a'.put (dstB l (al + i)) (.pointer (some ⟨w'.heap.size, 0, none⟩))) (w'.alloc (.cells (Z i) (T i))) → wpOp P l.toArray Q (al + i) K a' w')
    (store : ∀ (p : RegP), p = ⟨a, w, l, PV, al, st, k, T, Z, C⟩ → ∀ i, i < k → ∀ a' w' g d, p.Here (st + i) a' w' → dstB l (al + i) = some d → tm a' d = .pointer (some ⟨g, 0, none⟩) → Row w' g (T i) (Z i) → ∀ K : Act → World → Prop, K (a'.put (dstB l (st + i)) undef) (w'.setRow g (C i)) → wpOp P l.toArray Q (st + i) K a' w')
    (hd : ∀ i, i < k → (dstB l (al + i)).isSome = true)
    (fin : ∀ (V : Nat → Value) (G : Nat → Nat) w', Below w.heap.size w w' → (∀ (p : RegP), p = ⟨a, w, l, PV, al, st, k, T, Z, C⟩ → ∀ j, j < l.length → p.norm j → PV j (V j) w') → (∀ i, i < k → V (al + i) = .pointer (some ⟨G i, 0, none⟩) ∧ Row w' (G i) (T i) (C i)) → (∀ i, i < k → w.heap.size ≤ G i) → Q .normal (puts (l.map (·.dst)) V 0 a) w') : (Code.region id l.toArray true).wp P Q a w := by
  have ok : (RegP.mk a w l PV al st k T Z C).Ok := RegP.ok_of _ hB
  obtain ⟨p, hp⟩ : ∃ p : RegP, p = ⟨a, w, l, PV, al, st, k, T, Z, C⟩ := ⟨_, rfl⟩
  have step' := step p hp
  have store' := store p hp
  have fin' := fun V G w' h1 h2 => fin V G w' h1 fun p' hp' => by rw [hp', ← hp]; exact h2
  rw [← hp] at ok
  have nf : ∀ j, ¬ (Array.replicate l.length false).getD j false = true := fun j => by rw [getD_replicate_false']; exact Bool.false_ne_true
  have start : p.Inv (Array.replicate l.length false) a w.drew := by
    rw [hp]
    exact ⟨by simp, (Below.refl w.heap.size w).drew, fun _ => undef, fun _ => 0, Slots.start _ _ _ _, fun j _ _ h => absurd h (nf _), fun i _ h => absurd h (nf _), fun i _ h => absurd h (nf _), fun i _ h => absurd h (nf _), fun _ _ _ _ _ h => absurd h (nf _)⟩
  refine wp_region_inv hm p.Inv start (fun done a' w' j hI hr => ?_) (fun done a' w' hI hr => ?_)
  · have hr' : j ∈ Region.ready .any p.l.toArray done := by rw [hp]; exact hr
    have hj : j < l.length := by have := (ready_facts hr' hI.1).1; rw [hp] at this; exact this
    by_cases c1 : al ≤ j ∧ j < al + k
    · obtain ⟨i, rfl⟩ : ∃ i, j = al + i := ⟨j - al, by omega⟩
      refine alloc i (by omega) a' w' _ ?_
      have := hI.alloc ok (by rw [hp]; exact mono) (i := i) (by rw [hp]; show i < k; omega) (by rw [hp] at hr' ⊢; exact hr')
      rw [hp] at this ⊢; exact this
    · by_cases c2 : st ≤ j ∧ j < st + k
      · obtain ⟨i, rfl⟩ : ∃ i, j = st + i := ⟨j - st, by omega⟩
        obtain ⟨d, hdd⟩ := Option.isSome_iff_exists.1 (hd i (by omega))
        obtain ⟨g, hg, hrow, hI'⟩ := hI.store ok (by rw [hp]; exact mono2) (i := i) (d := d) (by rw [hp]; show i < k; omega) (by rw [hp] at hr' ⊢; exact hr') (by rw [hp]; exact hdd)
        refine store' i (by omega) a' w' g d (hI.here hr') hdd hg (by rw [hp] at hrow; exact hrow) _ ?_
        rw [hp] at hI' ⊢; exact hI'
      · have hn : p.norm j := by rw [hp]; exact ⟨by show j < al ∨ al + k ≤ j; omega, by show j < st ∨ st + k ≤ j; omega⟩
        refine step' j hj hn a' w' (hI.here hr') _ fun v w'' hb hv => ?_
        have := hI.step ok (by rw [hp]; exact mono) hr' hn hb (by rw [hp]; exact hv)
        rw [hp] at this ⊢; exact this
  · have hback := ok.back
    rw [hp] at hback
    have hs : done.size = l.length := by have := hI.1; rw [hp] at this; exact this
    have hall := all_done hback hr (by simpa using hs)
    have hok := ok
    obtain ⟨_, hb, V, G, h1, h2, h3, h4, h5, h6⟩ := hI
    have hal := ok.al
    have hst := ok.st
    have hsz : l.toArray.size = l.length := by simp
    rw [hp] at hb h1 h3 h5 hal hst hok
    have hlast := hok.st
    have key : a' = puts (l.map (·.dst)) V 0 a := by
      have mem : ∀ d, some d ∈ l.map (·.dst) → ∃ j, j < l.length ∧ dstB l j = some d := fun d hd => by
        obtain ⟨j, hj⟩ := List.mem_iff_getElem?.1 hd
        rw [List.getElem?_map] at hj
        cases ho : l[j]? with
        | none => rw [ho] at hj; cases hj
        | some o =>
          rw [ho] at hj
          exact ⟨j, (List.getElem?_eq_some_iff.1 ho).1, by unfold dstB; rw [ho]; simpa using hj⟩
      have at' : ∀ j d, (l.map (·.dst))[j]? = some (some d) → j < l.length ∧ dstB l j = some d := fun j d hj => by
        rw [List.getElem?_map] at hj
        cases ho : l[j]? with
        | none => rw [ho] at hj; cases hj
        | some o =>
          rw [ho] at hj
          exact ⟨(List.getElem?_eq_some_iff.1 ho).1, by unfold dstB; rw [ho]; simpa using hj⟩
      have hlt : ∀ d, some d ∈ l.map (·.dst) → d < a.tmps.size := fun d hd => by
        obtain ⟨j, hj, hjd⟩ := mem d hd
        exact hok.lt j d hj hjd
      refine act_ext (h1.1.trans (puts_defers _ _ _ _).symm) (h1.2.1.trans (puts_size _ _ _ _).symm) fun s => ?_
      by_cases c : some s ∈ l.map (·.dst)
      · obtain ⟨j, hj, hjs⟩ := mem s c
        have hg : (l.map (·.dst))[j]? = some (some s) := by
          rw [List.getElem?_map]
          unfold dstB at hjs
          cases ho : l[j]? with
          | none => rw [ho] at hjs; cases hjs
          | some o => rw [ho] at hjs; simpa using hjs
        rw [puts_at _ V 0 a j s hlt (fun x y d hx hy => hok.inj x y d (at' x d hx).1 (at' y d hy).1 (at' x d hx).2 (at' y d hy).2) hg, Nat.zero_add]
        exact h1.2.2.1 j hj (hall j (by omega)) s hjs
      · rw [puts_old _ V 0 a s hlt c]
        refine h1.2.2.2 s fun j hj _ e => c ?_
        unfold dstB at e
        cases ho : l[j]? with
        | none => rw [ho] at e; cases e
        | some o =>
          rw [ho] at e
          exact List.mem_map.2 ⟨o, List.mem_of_getElem? ho, by simpa using e⟩
    rw [key]
    refine fin' V G w' hb (fun j hj hn => ?_) (fun i hi => ?_) fun i hi => ?_
    · have := h2 j (by rw [hp]; exact hj) hn (hall j (by omega))
      rw [hp] at this; exact this
    · have hi' : al + i < l.toArray.size := by show _ < _; simp only [] at hal hst; rw [hsz]; omega
      have hs' : st + i < l.toArray.size := by simp only [] at hst; rw [hsz]; omega
      have r := h5 i hi (hall _ hi')
      have hd3 := hall (st + i) hs'
      refine ⟨h3 i hi (hall _ hi'), ?_⟩
      have r2 := r.2
      simp only [] at r2
      rw [hd3, if_pos rfl] at r2
      exact r2
    · have hi' : al + i < l.toArray.size := by show _ < _; simp only [] at hal hst; rw [hsz]; omega
      exact (h5 i hi (hall _ hi')).1

/-! ### The same, in the form for use -/
def Mono (P : Value → World → Prop) : Prop := ∀ v w w', Below w.heap.size w w' → P v w → P v w'
def AllMono : List (Value → World → Prop) → Prop
  | [] => True
  | P :: L => Mono P ∧ AllMono L
def Keep (P : Value → World → Prop) : Prop := ∀ v w g c, P v w → P v (w.setRow g c)
def AllKeep : List (Value → World → Prop) → Prop
  | [] => True
  | P :: L => Keep P ∧ AllKeep L
theorem keep_det (x : Value) : Keep (fun v _ => v = x) := fun _ _ _ _ h => h
theorem keep_top : Keep (fun _ _ => True) := fun _ _ _ _ h => h
theorem all_keep : ∀ {L : List (Value → World → Prop)}, AllKeep L → ∀ j, Keep (L.getD j (fun _ _ => True))
  | [], _, j => by simpa using keep_top
  | P :: L, h, 0 => h.1
  | P :: L, h, j + 1 => by simpa using all_keep h.2 j
theorem mono_det (x : Value) : Mono (fun v _ => v = x) := fun _ _ _ _ h => h
theorem mono_top : Mono (fun _ _ => True) := fun _ _ _ _ h => h
theorem all_mono : ∀ {L : List (Value → World → Prop)}, AllMono L → ∀ j, Mono (L.getD j (fun _ _ => True))
  | [], _, j => by simpa using mono_top
  | P :: L, h, 0 => h.1
  | P :: L, h, j + 1 => by simpa using all_mono h.2 j
def normB (al st k j : Nat) : Bool := (decide (j < al) || decide (al + k ≤ j)) && (decide (j < st) || decide (st + k ≤ j))
def depB (l : List Oper) (al st k j i d : Nat) : Bool := normB al st k i && edgeB l j i && (dstB l i == some d)
theorem normB_iff {al st k j : Nat} : normB al st k j = true ↔ (j < al ∨ al + k ≤ j) ∧ (j < st ∨ st + k ≤ j) := by unfold normB; simp
theorem RegP.Here.dep {p : RegP} {j : Nat} {a : Act} {w : World} (h : p.Here j a w) (i d : Nat) (hB : depB p.l p.al p.st p.k j i d = true) : p.PV i (tm a d) w := by
  unfold depB at hB
  simp only [Bool.and_eq_true, beq_iff_eq] at hB
  exact h.2.2 i d (normB_iff.1 hB.1.1) hB.1.2 hB.2
/-- Values that are known beforehand. -/
def det (L : List Value) : Nat → Value → World → Prop := fun j v _ => v = L.getD j undef
theorem tm_simp {a : Act} {s : Nat} {v : Value} (h : tm a s = v) : a.tmps[s]?.getD undef = v := by rw [← h, tm]; simp
theorem eval_of {a : Act} {s : Nat} {v : Value} (h : tm a s = v) : a.eval (.tmp s) = v := h
theorem wpOp_of {P : Program} {ops : Array Oper} {Q : Exit → Act → World → Prop} {K : Act → World → Prop} {a : Act} {w : World} {j : Nat} {o : Oper} (ho : ops[j]? = some o) (hg : o.guard = none) (h : o.wp P a w K Q) : wpOp P ops Q j K a w := by
  unfold wpOp; rw [ho]; dsimp only
  rw [if_pos (by unfold Region.wanted; rw [hg])]; exact .inl h
/-- An operation whose guard has come out as it wants it. -/
theorem wpOp_on {P : Program} {ops : Array Oper} {Q : Exit → Act → World → Prop} {K : Act → World → Prop} {a : Act} {w : World} {j : Nat} {o : Oper} (g : Nat) (b : Bool) (d : Nat) (ho : ops[j]? = some o) (hg : o.guard = some (g, b)) (hd : (ops[g]?.bind fun x => x.dst) = some d) (hb : tm a d = .bool b) (h : o.wp P a w K Q) : wpOp P ops Q j K a w := by
  have hy : yielded ops a.tmps g = some b := by
    unfold yielded
    rw [hd]
    have h1 := tm_simp hb
    cases e : a.tmps[d]? with
    | none => rw [e] at h1; cases h1
    | some v =>
      rw [e] at h1
      have h2 : v = .bool b := h1
      subst h2
      simp [e]
  unfold wpOp; rw [ho]; dsimp only
  rw [if_pos (by unfold Region.wanted; rw [hg]; simp [hy])]; exact .inl h
/-- An operation whose guard has come out otherwise: it is not done. -/
theorem wpOp_off {P : Program} {ops : Array Oper} {Q : Exit → Act → World → Prop} {K : Act → World → Prop} {a : Act} {w : World} {j : Nat} {o : Oper} (g : Nat) (b : Bool) (d : Nat) (ho : ops[j]? = some o) (hg : o.guard = some (g, !b)) (hd : (ops[g]?.bind fun x => x.dst) = some d) (hb : tm a d = .bool b) (h : K (a.put o.dst undef) w) : wpOp P ops Q j K a w := by
  have hy : yielded ops a.tmps g = some b := by
    unfold yielded
    rw [hd]
    have h1 := tm_simp hb
    cases e : a.tmps[d]? with
    | none => rw [e] at h1; cases h1
    | some v =>
      rw [e] at h1
      have h2 : v = .bool b := h1
      subst h2
      simp [e]
  unfold wpOp; rw [ho]; dsimp only
  rw [if_neg (by unfold Region.wanted; rw [hg]; simp [hy])]; exact h
/-- An operation whose guard was not done itself: it is not done. -/
theorem wpOp_off' {P : Program} {ops : Array Oper} {Q : Exit → Act → World → Prop} {K : Act → World → Prop} {a : Act} {w : World} {j : Nat} {o : Oper} (g : Nat) (b : Bool) (d : Nat) (ho : ops[j]? = some o) (hg : o.guard = some (g, b)) (hd : (ops[g]?.bind fun x => x.dst) = some d) (hb : tm a d = undef) (h : K (a.put o.dst undef) w) : wpOp P ops Q j K a w := by
  have hy : yielded ops a.tmps g = none := by
    unfold yielded
    rw [hd]
    have h1 := tm_simp hb
    cases e : a.tmps[d]? with
    | none => simp [e]
    | some v =>
      rw [e] at h1
      have h2 : v = undef := h1
      subst h2
      simp [e, undef]
  unfold wpOp; rw [ho]; dsimp only
  rw [if_neg (by unfold Region.wanted; rw [hg]; simp [hy])]; exact h
theorem wp_region_named {P : Program} {c : Code} {Q : Exit → Act → World → Prop} {a : Act} {w : World} (h : ∀ fr, fr = a → c.wp P Q fr w) : c.wp P Q a w := h a rfl
theorem wp_region_by {P : Program} {id : Nat} {Q : Exit → Act → World → Prop} {a : Act} {w : World} {l : List Oper} (hm : P.follows .mixedOrders = true) (PV : Nat → Value → World → Prop) (al st k : Nat) (T : Nat → TypeId) (Z C : Nat → Array Value)
    (hB : regB l a.tmps.size al st k = true)
    (mono : ∀ j v w w', Below w.heap.size w w' → PV j v w → PV j v w')
    (mono2 : ∀ j v w g i, i < k → Row w g (T i) (Z i) → PV j v w → PV j v (w.setRow g (C i)))
    (step : ∀ j, j < l.length → normB al st k j = true → ∀ a' w', Below w.heap.size w w' → (∀ s, oldB l s = true → tm a' s = tm a s) → (∀ i d, depB l al st k j i d = true → PV i (tm a' d) w') → ∀ K : Act → World → Prop, (∀ v w'', Below w'.heap.size w' w'' → PV j v w'' → K (a'.put (dstB l j) v) w'') → wpOp P l.toArray Q j K a' w')
    (alloc : ∀ i, i < k → ∀ a' w' (K : Act → World → Prop), K (a'.put (dstB l (al + i)) (.pointer (some ⟨w'.heap.size, 0, none⟩))) (w'.alloc (.cells (Z i) (T i))) → wpOp P l.toArray Q (al + i) K a' w')
    (store : ∀ i, i < k → ∀ a' w' g d, (∀ s, oldB l s = true → tm a' s = tm a s) → (∀ x d, depB l al st k (st + i) x d = true → PV x (tm a' d) w') → dstB l (al + i) = some d → tm a' d = .pointer (some ⟨g, 0, none⟩) → Row w' g (T i) (Z i) → ∀ K : Act → World → Prop, K (a'.put (dstB l (st + i)) undef) (w'.setRow g (C i)) → wpOp P l.toArray Q (st + i) K a' w')
    (hd : ((List.range k).all fun i => (dstB l (al + i)).isSome) = true)
    (fin : ∀ (V : Nat → Value) (G : Nat → Nat) w', Below w.heap.size w w' → (∀ j, (decide (j < l.length) && normB al st k j) = true → PV j (V j) w') → (∀ i, i < k → V (al + i) = .pointer (some ⟨G i, 0, none⟩) ∧ Row w' (G i) (T i) (C i)) → (∀ i, i < k → w.heap.size ≤ G i) → Q .normal (puts (l.map (·.dst)) V 0 a) w') : (Code.region id l.toArray true).wp P Q a w := by
  refine wp_region_pv hm PV al st k T Z C hB mono mono2 (fun p hp j hj hn a' w' hH K hK => ?_) alloc (fun p hp i hi a' w' g d hH h1 h2 h3 K hK => ?_) (fun i hi => List.all_eq_true.1 hd i (List.mem_range.2 hi)) (fun V G w' hb hV hG hge => ?_)
  · subst hp
    exact step j hj (normB_iff.2 hn) a' w' hH.1 hH.2.1 (fun i d h => hH.dep i d h) K hK
  · subst hp
    exact store i hi a' w' g d hH.2.1 (fun x d h => hH.dep x d h) h1 h2 h3 K hK
  · refine fin V G w' hb (fun j hj => ?_) hG hge
    simp only [Bool.and_eq_true, decide_eq_true_eq] at hj
    exact hV _ rfl j hj.1 (normB_iff.1 hj.2)
/-- The same without new variables. -/
theorem wp_region_by0 {P : Program} {id : Nat} {Q : Exit → Act → World → Prop} {a : Act} {w : World} {l : List Oper} (hm : P.follows .mixedOrders = true) (PV : Nat → Value → World → Prop)
    (hB : regB l a.tmps.size 0 0 0 = true)
    (mono : ∀ j v w w', Below w.heap.size w w' → PV j v w → PV j v w')
    (step : ∀ j, j < l.length → ∀ a' w', Below w.heap.size w w' → (∀ s, oldB l s = true → tm a' s = tm a s) → (∀ i d, depB l 0 0 0 j i d = true → PV i (tm a' d) w') → ∀ K : Act → World → Prop, (∀ v w'', Below w'.heap.size w' w'' → PV j v w'' → K (a'.put (dstB l j) v) w'') → wpOp P l.toArray Q j K a' w')
    (fin : ∀ (V : Nat → Value) w', Below w.heap.size w w' → (∀ j, j < l.length → PV j (V j) w') → Q .normal (puts (l.map (·.dst)) V 0 a) w') : (Code.region id l.toArray true).wp P Q a w := by
  refine wp_region_by hm PV 0 0 0 (fun _ => 0) (fun _ => #[]) (fun _ => #[]) hB mono (fun _ _ _ _ _ hi => by omega) (fun j hj _ => step j hj) (fun i hi => by omega) (fun i hi => by omega) rfl (fun V G w' hb hV _ _ => fin V w' hb fun j hj => hV j ?_)
  simp only [Bool.and_eq_true, decide_eq_true_eq]
  exact ⟨hj, normB_iff.2 ⟨.inr (by omega), .inr (by omega)⟩⟩
end Go.Proofs.Ytgjhlmmhpcbnaaa
