/-
  Groundwork for any seat: what a row of cells is, what a store, an allocation and a later world leave of it; the worlds that come later than one; regions whose operations load and call in whatever order.
-/
import Derived.Test.YtgjhlmmhpcbnaaaRows
import Derived.WalkKit
import Derived.WalkSpells
import Derived.WalkLawsBesides
import Derived.Laws.BitsAllLaws
import Derived.Lib.Hide
import Derived.Below
import Derived.Deep.WholeRow
import Derived.Laws.StructEq
import Derived.BigQuiet
namespace Go.Proofs.Ytgjhlmmhpcbnaaa
open Go.RowKit
set_option linter.unusedVariables false

/-- Block g of the world is the row c of cells of type t. -/
def Row (w : World) (g : Nat) (t : TypeId) (c : Array Value) : Prop := w.heap[g]? = some (.cells c t (0, 0))
section
variable {w w' : World} {g : Nat} {t : TypeId} {c : Array Value}
theorem Row.lt (h : Row w g t c) : g < w.heap.size := by
  by_cases e : g < w.heap.size
  · exact e
  · unfold Row at h; rw [Array.getElem?_eq_none (by omega)] at h; cases h
theorem Row.cell (h : Row w g t c) (i : Nat) : w.cell? ⟨g, i, none⟩ = c[i]? := cell_of_row w g i c t (0, 0) h
theorem Row.frozen (h : Row w g t c) (i : Nat) : w.frozen? ⟨g, i, none⟩ = false := frozen_of_row w g i c t h
theorem Row.new (w : World) (t : TypeId) (c : Array Value) : Row (w.alloc (.cells c t)) w.heap.size t c := Go.heap_alloc_new w _
theorem Row.drew (h : Row w g t c) : Row w.drew g t c := h
theorem Row.alloc (h : Row w g t c) (o : Obj) : Row (w.alloc o) g t c := (Below.heap_alloc w o g h.lt).trans h
theorem Row.set (h : Row w g t c) (i : Nat) (v : Value) : Row (w.setCell ⟨g, i, none⟩ v) g t (c.setIfInBounds i v) := heap_setCell_same w g i c t v h
theorem Row.far (h : Row w g t c) {p : Addr} (hp : g ≠ p.block) (v : Value) : Row (w.setCell p v) g t c := (heap_setCell_other w p g v hp).trans h
theorem Row.below {B : Nat} (h : Row w g t c) (hb : Below B w w') (hg : g < B) : Row w' g t c := (hb.block g hg).trans h
theorem Row.below' (h : Row w g t c) (hb : Below w.heap.size w w') : Row w' g t c := h.below hb h.lt
theorem Row.congr {c' : Array Value} (h : Row w g t c) (e : c = c') : Row w g t c' := e ▸ h
theorem Row.ne {g' : Nat} {t' : TypeId} {c' : Array Value} (h : Row w g t c) (h' : Row w g' t' c') (e : t ≠ t') : g ≠ g' := by
  rintro rfl
  unfold Row at h h'
  rw [h] at h'
  injection h' with h'
  injection h' with _ ht
  exact e ht
theorem Row.setRow (h : Row w g t c) (c' : Array Value) : Row (w.setRow g c') g t c' := setRow_heap w g c c' t _ h
theorem Row.setRow_far (h : Row w g t c) {g' : Nat} (hp : g ≠ g') (c' : Array Value) : Row (w.setRow g' c') g t c := (setRow_other w g' g c' hp).trans h
end
theorem below_setRow {B : Nat} {a w : World} (h : Below B a w) {g : Nat} (hB : B ≤ g) (c : Array Value) : Below B a (w.setRow g c) :=
  ⟨h.os, h.tape, h.output, by rw [size_setRow]; exact h.size, fun k hk => (setRow_other w g k c (by omega)).trans (h.block k hk)⟩

/-! ### Regions whose operations load and call, in whatever order: the worlds that come later than w -/
noncomputable def later (w u : World) : World := @ite _ (Below w.heap.size w u) (Classical.propDecidable _) u w
theorem below_later (w u : World) : Below w.heap.size w (later w u) := by
  unfold later
  by_cases h : Below w.heap.size w u
  · rw [if_pos h]; exact h
  · rw [if_neg h]; exact Below.refl _ _
theorem later_of {w u : World} (h : Below w.heap.size w u) : later w u = u := by unfold later; rw [if_pos h]
theorem Row.later {w : World} {g : Nat} {t : TypeId} {c : Array Value} (h : Row w g t c) (u : World) : Row (later w u) g t c := h.below' (below_later w u)
theorem wp_region_later {P : Program} {id : Nat} {Q : Exit → Act → World → Prop} {a : Act} {w : World} {l : List Oper} (hm : P.follows .mixedOrders = true) (hB : Region.lexB .any l.toArray = true)
    (h : wpQuiet P l.toArray (fun w' => ∃ u, w' = later w u) (fun a' => ∀ w', (∃ u, w' = later w u) → Q .normal a' w') l a) : (Code.region id l.toArray true).wp P Q a w :=
  wp_region_quiet (C := fun w' => ∃ u, w' = later w u) hm hB ⟨_, (later_of ((Below.refl w.heap.size w).drew)).symm⟩ (by simpa using h)
theorem calls_later {P : Program} {f : FuncId} {args : Array Value} {w u : World} {v : Value}
    (h : Calls P f args (later w u) fun e w' => e = .returned v ∧ Below (later w u).heap.size (later w u) w') : Calls P f args (later w u) fun e w'' => e = .returned v ∧ ∃ u, w'' = later w u :=
  h.mono fun e w'' ⟨he, hb⟩ => ⟨he, w'', (later_of ((below_later w u).trans (hb.mono (below_later w u).size))).symm⟩
theorem calls_since {P : Program} {f : FuncId} {args : Array Value} {w a : World} {v : Value} (hb : Below a.heap.size a w)
    (h : Calls P f args w fun e w' => e = .returned v ∧ Below w.heap.size w w') : Calls P f args w fun e w' => e = .returned v ∧ Below a.heap.size a w' :=
  h.mono fun _ _ ⟨he, h⟩ => ⟨he, hb.trans (h.mono hb.size)⟩
/-- A region whose first operation stands ahead of all others, whatever it does; the others load and call. -/
theorem wp_region_first {P : Program} {id : Nat} {Q : Exit → Act → World → Prop} {a : Act} {w : World} {o : Oper} {l : List Oper} (hm : P.follows .mixedOrders = true) (hg : o.guard = none)
    (hr : Region.ready .any (o :: l).toArray (Array.replicate (o :: l).toArray.size false) = [0]) (hs : Region.noSelect (o :: l).toArray = true)
    (hB : Region.lexFrom .any (o :: l).toArray l.length 1 ((Array.replicate (o :: l).toArray.size false).setIfInBounds 0 true) = true)
    (h : ∀ K : Act → World → Prop, (∀ a w1, wpQuiet P (o :: l).toArray (fun w' => ∃ u, w' = later w1 u) (fun a' => ∀ w', (∃ u, w' = later w1 u) → Q .normal a' w') l a → K a w1) → o.wp P a w.drew K Q) :
    (Code.region id (o :: l).toArray true).wp P Q a w := by
  refine wp_region_any hm ?_
  show wpAny P .any (o :: l).toArray Q (l.length + 1) _ a w.drew
  refine ⟨fun e => (by rw [hr] at e; cases e), fun i hi => ?_⟩
  rw [hr] at hi
  obtain rfl : i = 0 := by simpa using hi
  unfold wpOp
  rw [show (o :: l).toArray[0]? = some o from rfl]
  dsimp only
  have hw : Region.wanted o (yielded (o :: l).toArray a.tmps) = true := by unfold Region.wanted; rw [hg]
  rw [if_pos hw]
  refine .inl (h _ fun a1 w1 hq => ?_)
  exact wpAny_of_quiet (C := fun w' => ∃ u, w' = later w1 u) (Q := fun a' => ∀ w', (∃ u, w' = later w1 u) → Q .normal a' w') (fun _ w' hw' h => h w' hw') _ _ _ _ ⟨w1, (later_of (Below.refl _ _)).symm⟩
    (wpAnyQ_lex hs l 1 _ a1 (fun j => by rw [Nat.add_comm]; simp) hB hq)

end Go.Proofs.Ytgjhlmmhpcbnaaa
