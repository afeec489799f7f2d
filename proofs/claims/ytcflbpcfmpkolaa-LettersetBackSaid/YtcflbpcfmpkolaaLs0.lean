/-
  Package letterset, the groundwork: how a set of letters (four words) and the reference's set (256 bools) lie in memory, and what a load, a store and a call leave of them.
-/
import Derived.Test.YtcflbpcfmpkolaaRows
import Derived.WalkKit
import Derived.WalkSpells
import Derived.WalkLawsBesides
import Derived.Laws.BitsAllLaws
import Derived.Lib.Hide
import Derived.Below
import Derived.Deep.WholeRow
import Derived.Laws.StructEq
import Derived.BigQuiet
namespace Go.Proofs.Ytcflbpcfmpkolaa
open Go.RowKit

/-- Block g of the world is the row c of cells of type t. -/
def Row (w : World) (g : Nat) (t : TypeId) (c : Array Value) : Prop := w.heap[g]? = some (.cells c t (0, 0))
section
variable {w w' : World} {g : Nat} {t : TypeId} {c : Array Value}
theorem Row.lt (h : Row w g t c) : g < w.heap.size := by
  by_cases e : g < w.heap.size
  · exact e
  · unfold Row at h; rw [Array.getElem?_eq_none (by omega)] at h; cases h
theorem Row.cell (h : Row w g t c) (i : Nat) : w.cell? ⟨g, i, none⟩ = c[i]? := cell_of_row w g i c t (0, 0) h
theorem Row.frozen (h : Row w g t c) (i : Nat) : w.frozen? ⟨g, i, none⟩ = false := frozen_of_row w g i c t h
theorem Row.new (w : World) (t : TypeId) (c : Array Value) : Row (w.alloc (.cells c t)) w.heap.size t c := Go.heap_alloc_new w _
theorem Row.drew (h : Row w g t c) : Row w.drew g t c := h
theorem Row.alloc (h : Row w g t c) (o : Obj) : Row (w.alloc o) g t c := (Below.heap_alloc w o g h.lt).trans h
theorem Row.set (h : Row w g t c) (i : Nat) (v : Value) : Row (w.setCell ⟨g, i, none⟩ v) g t (c.setIfInBounds i v) := heap_setCell_same w g i c t v h
theorem Row.far (h : Row w g t c) {p : Addr} (hp : g ≠ p.block) (v : Value) : Row (w.setCell p v) g t c := (heap_setCell_other w p g v hp).trans h
theorem Row.below {B : Nat} (h : Row w g t c) (hb : Below B w w') (hg : g < B) : Row w' g t c := (hb.block g hg).trans h
theorem Row.below' (h : Row w g t c) (hb : Below w.heap.size w w') : Row w' g t c := h.below hb h.lt
theorem Row.congr {c' : Array Value} (h : Row w g t c) (e : c = c') : Row w g t c' := e ▸ h
theorem Row.ne {g' : Nat} {t' : TypeId} {c' : Array Value} (h : Row w g t c) (h' : Row w g' t' c') (e : t ≠ t') : g ≠ g' := by
  rintro rfl
  unfold Row at h h'
  rw [h] at h'
  injection h' with h'
  injection h' with _ ht
  exact e ht
theorem Row.setRow (h : Row w g t c) (c' : Array Value) : Row (w.setRow g c') g t c' := setRow_heap w g c c' t _ h
theorem Row.setRow_far (h : Row w g t c) {g' : Nat} (hp : g ≠ g') (c' : Array Value) : Row (w.setRow g' c') g t c := (setRow_other w g' g c' hp).trans h
end
theorem below_setRow {B : Nat} {a w : World} (h : Below B a w) {g : Nat} (hB : B ≤ g) (c : Array Value) : Below B a (w.setRow g c) :=
  ⟨h.os, h.tape, h.output, by rw [size_setRow]; exact h.size, fun k hk => (setRow_other w g k c (by omega)).trans (h.block k hk)⟩

/-! ### The two kinds of sets -/
def lc (s : Nat → Nat) : Array Value := #[.int .u64 (s 0 : Nat), .int .u64 (s 1 : Nat), .int .u64 (s 2 : Nat), .int .u64 (s 3 : Nat)]
def sc (f : Nat → Bool) : Array Value := Array.ofFn (n := 256) fun i => .bool (f i)
def Small (s : Nat → Nat) : Prop := ∀ i, s i < 18446744073709551616
/-- Letter x belongs to the set. -/
def bit (s : Nat → Nat) (x : Nat) : Bool := (s (x / 64)).testBit (x % 64)

theorem lc_at (s : Nat → Nat) {i : Nat} (h : i < 4) : (lc s)[i]? = some (.int .u64 (s i : Nat)) := by
  match i, h with
  | 0, _ => rfl
  | 1, _ => rfl
  | 2, _ => rfl
  | 3, _ => rfl
theorem sc_at (f : Nat → Bool) {i : Nat} (h : i < 256) : (sc f)[i]? = some (.bool (f i)) := by simp [sc, h]
theorem sc_size (f : Nat → Bool) : (sc f).size = 256 := by simp [sc]
theorem lc_size (s : Nat → Nat) : (lc s).size = 4 := rfl
theorem sc_congr {f g : Nat → Bool} (h : ∀ i, i < 256 → f i = g i) : sc f = sc g := by
  unfold sc; congr 1; funext i; rw [h i i.2]
theorem lc_congr {s t : Nat → Nat} (h : ∀ i, i < 4 → s i = t i) : lc s = lc t := by
  unfold lc; rw [h 0 (by omega), h 1 (by omega), h 2 (by omega), h 3 (by omega)]
theorem sc_none : Array.replicate 256 (Value.bool false) = sc fun _ => false := by
  apply Array.ext_getElem?; intro i
  by_cases h : i < 256
  · rw [sc_at _ h]; simp [h]
  · simp [sc, h]
theorem sc_set (f : Nat → Bool) (k : Nat) (b : Bool) : (sc f).setIfInBounds k (.bool b) = sc fun j => if j = k then b else f j := by
  apply Array.ext_getElem?; intro i
  by_cases h : i < 256
  · rw [sc_at _ h, Array.getElem?_setIfInBounds]
    by_cases e : k = i
    · subst e; simp [h, sc]
    · rw [if_neg e, sc_at _ h, if_neg (fun h => e h.symm)]
  · simp [sc, h]
theorem lc_set (s : Nat → Nat) (k v : Nat) : (lc s).setIfInBounds k (.int .u64 v) = lc fun j => if j = k then v else s j := by
  apply Array.ext_getElem?; intro i
  by_cases h : i < 4
  · rw [lc_at _ h, Array.getElem?_setIfInBounds]
    by_cases e : k = i
    · subst e; rw [if_pos rfl, if_pos rfl, if_pos (by rw [lc_size]; exact h)]
    · rw [if_neg e, lc_at _ h, if_neg (fun h => e h.symm)]
  · rw [Array.getElem?_eq_none (by simp [lc_size]; omega), Array.getElem?_eq_none (by simp [lc_size]; omega)]
theorem lc_none : #[Value.int .u64 0, .int .u64 0, .int .u64 0, .int .u64 0] = lc fun _ => 0 := rfl
theorem sc_one (f : Nat → Bool) : (sc f).all (·.oneCell') = true := by
  rw [Array.all_eq_true_iff_forall_mem]; intro v hv
  obtain ⟨i, hi⟩ : ∃ i, (sc f)[i]? = some v := Array.getElem?_of_mem hv
  by_cases h : i < 256
  · rw [sc_at f h] at hi; cases hi; rfl
  · rw [Array.getElem?_eq_none (by rw [sc_size]; omega)] at hi; cases hi
theorem lc_one (s : Nat → Nat) : (lc s).all (·.oneCell') = true := by simp [lc]; exact ⟨rfl, rfl, rfl, rfl⟩

theorem wrap64 (a : Nat) (h : a < 18446744073709551616) : IntKind.u64.wrap (a : Int) = (a : Int) := by
  simp [IntKind.wrap, IntKind.bits, IntKind.signed]; omega

/-! ### The program's two types -/
theorem info_set : (Try.prog.info? 26).map (fun i => (i.zero, i.size)) = some (some (.agg (Array.replicate 256 (.bool false))), 256) := by kernel_rfl
theorem info_let : (Try.prog.info? 24).map (fun i => (i.zero, i.size)) = some (some (.agg #[.int .u64 0, .int .u64 0, .int .u64 0, .int .u64 0]), 4) := by kernel_rfl
theorem zero_set (w : World) : (zeroValue 26).run Try.prog w = .ok (.agg (sc fun _ => false)) w := by rw [← sc_none]; exact (zero_of_info info_set).1 w
theorem zero_let (w : World) : (zeroValue 24).run Try.prog w = .ok (.agg (lc fun _ => 0)) w := (zero_of_info info_let).1 w
theorem load_set {w : World} {g : Nat} {t : TypeId} {f : Nat → Bool} (h : Row w g t (sc f)) : (loadVar 26 ⟨g, 0, none⟩).run Try.prog w = .ok (.agg (sc f)) w :=
  run_loadVar_row w g t _ (sc f) (0, 0) _ h Try.underlying26 rfl (by rw [sc_size]; exact (zero_of_info info_set).2)
theorem load_let {w : World} {g : Nat} {t : TypeId} {s : Nat → Nat} (h : Row w g t (lc s)) : (loadVar 24 ⟨g, 0, none⟩).run Try.prog w = .ok (.agg (lc s)) w :=
  run_loadVar_row w g t _ (lc s) (0, 0) _ h Try.underlying24 rfl (by rw [lc_size]; exact (zero_of_info info_let).2)
theorem store_set {w : World} {g : Nat} {t : TypeId} {f f' : Nat → Bool} (h : Row w g t (sc f)) : (storeVar 26 ⟨g, 0, none⟩ (.agg (sc f'))).run Try.prog w = .ok () (w.setRow g (sc f')) :=
  run_storeVar_row w g t _ (sc f) (sc f') h (by rw [sc_size]; exact (zero_of_info info_set).2) (by rw [sc_size, sc_size]) (sc_one _)
theorem store_let {w : World} {g : Nat} {t : TypeId} {s s' : Nat → Nat} (h : Row w g t (lc s)) : (storeVar 24 ⟨g, 0, none⟩ (.agg (lc s'))).run Try.prog w = .ok () (w.setRow g (lc s')) :=
  run_storeVar_row w g t _ (lc s) (lc s') h (by rw [lc_size]; exact (zero_of_info info_let).2) (by rw [lc_size, lc_size]) (lc_one _)

/-! ### The steps of a walk that move a whole set -/
section
variable {o : Oper} {a : Act} {w : World} {K : Act → World → Prop} {Q : Exit → Act → World → Prop} {g : Nat} {t : TypeId}
theorem wp_load_set {f : Nat → Bool} (hr : Row w g t (sc f)) (x : Operand) (ho : o.op = .load 26 x) (hx : a.eval x = .pointer (some ⟨g, 0, none⟩))
    (h : K (a.put o.dst (.agg (sc f))) w) : o.wp Try.prog a w K Q :=
  wp_load_row _ x ho g hx t (sc f) (0, 0) _ hr Try.underlying26 rfl (by rw [sc_size]; exact (zero_of_info info_set).2) h
theorem wp_load_let {s : Nat → Nat} (hr : Row w g t (lc s)) (x : Operand) (ho : o.op = .load 24 x) (hx : a.eval x = .pointer (some ⟨g, 0, none⟩))
    (h : K (a.put o.dst (.agg (lc s))) w) : o.wp Try.prog a w K Q :=
  wp_load_row _ x ho g hx t (lc s) (0, 0) _ hr Try.underlying24 rfl (by rw [lc_size]; exact (zero_of_info info_let).2) h
theorem wp_store_set {f : Nat → Bool} (hr : Row w g t (sc f)) (x y : Operand) (ho : o.op = .store 26 x y) (hx : a.eval x = .pointer (some ⟨g, 0, none⟩)) {f' : Nat → Bool} (hy : a.eval y = .agg (sc f'))
    (h : K (a.put o.dst undef) (w.setRow g (sc f'))) : o.wp Try.prog a w K Q :=
  wp_store_row _ x y ho g (sc f') hx hy t (sc f) hr (by rw [sc_size]; exact (zero_of_info info_set).2) (by rw [sc_size, sc_size]) (sc_one _) h
theorem wp_store_let {s : Nat → Nat} (hr : Row w g t (lc s)) (x y : Operand) (ho : o.op = .store 24 x y) (hx : a.eval x = .pointer (some ⟨g, 0, none⟩)) {s' : Nat → Nat} (hy : a.eval y = .agg (lc s'))
    (h : K (a.put o.dst undef) (w.setRow g (lc s'))) : o.wp Try.prog a w K Q :=
  wp_store_row _ x y ho g (lc s') hx hy t (lc s) hr (by rw [lc_size]; exact (zero_of_info info_let).2) (by rw [lc_size, lc_size]) (lc_one _) h
end
theorem results_set {fn : Func} {p : Tmp} (h : fn.results = #[.cell p 26]) (tmps : Array Value) {w : World} {g : Nat} {t : TypeId} {f : Nat → Bool} (hr : Row w g t (sc f)) (hp : tmps.getD p undef = .pointer (some ⟨g, 0, none⟩)) :
    (results fn tmps).run Try.prog w = .ok (.agg (sc f)) w :=
  results_cell_row h tmps w g t (sc f) (0, 0) _ hp hr Try.underlying26 rfl (by rw [sc_size]; exact (zero_of_info info_set).2)
theorem results_let {fn : Func} {p : Tmp} (h : fn.results = #[.cell p 24]) (tmps : Array Value) {w : World} {g : Nat} {t : TypeId} {s : Nat → Nat} (hr : Row w g t (lc s)) (hp : tmps.getD p undef = .pointer (some ⟨g, 0, none⟩)) :
    (results fn tmps).run Try.prog w = .ok (.agg (lc s)) w :=
  results_cell_row h tmps w g t (lc s) (0, 0) _ hp hr Try.underlying24 rfl (by rw [lc_size]; exact (zero_of_info info_let).2)

section
variable {ops : Array Oper} {rest : List Oper} {o : Oper} {a : Act} {w : World} {Q : Exit → Act → World → Prop} {g : Nat} {t : TypeId}
theorem wpList_load_set {f : Nat → Bool} (hr : Row w g t (sc f)) (hgd : o.guard = none) (x : Operand) (ho : o.op = .load 26 x) (hx : a.eval x = .pointer (some ⟨g, 0, none⟩))
    (h : wpList Try.prog ops Q rest (a.put o.dst (.agg (sc f))) w) : wpList Try.prog ops Q (o :: rest) a w := wpList_plain hgd fun _ hK => wp_load_set hr x ho hx (hK _ _ h)
theorem wpList_load_let {s : Nat → Nat} (hr : Row w g t (lc s)) (hgd : o.guard = none) (x : Operand) (ho : o.op = .load 24 x) (hx : a.eval x = .pointer (some ⟨g, 0, none⟩))
    (h : wpList Try.prog ops Q rest (a.put o.dst (.agg (lc s))) w) : wpList Try.prog ops Q (o :: rest) a w := wpList_plain hgd fun _ hK => wp_load_let hr x ho hx (hK _ _ h)
theorem wpList_store_set {f : Nat → Bool} (hr : Row w g t (sc f)) (hgd : o.guard = none) (x y : Operand) (ho : o.op = .store 26 x y) (hx : a.eval x = .pointer (some ⟨g, 0, none⟩)) {f' : Nat → Bool} (hy : a.eval y = .agg (sc f'))
    (h : wpList Try.prog ops Q rest (a.put o.dst undef) (w.setRow g (sc f'))) : wpList Try.prog ops Q (o :: rest) a w := wpList_plain hgd fun _ hK => wp_store_set hr x y ho hx hy (hK _ _ h)
theorem wpList_store_let {s : Nat → Nat} (hr : Row w g t (lc s)) (hgd : o.guard = none) (x y : Operand) (ho : o.op = .store 24 x y) (hx : a.eval x = .pointer (some ⟨g, 0, none⟩)) {s' : Nat → Nat} (hy : a.eval y = .agg (lc s'))
    (h : wpList Try.prog ops Q rest (a.put o.dst undef) (w.setRow g (lc s'))) : wpList Try.prog ops Q (o :: rest) a w := wpList_plain hgd fun _ hK => wp_store_let hr x y ho hx hy (hK _ _ h)
end

/-! ### Regions whose operations load and call, in whatever order: the worlds that come later than w -/
noncomputable def later (w u : World) : World := @ite _ (Below w.heap.size w u) (Classical.propDecidable _) u w
theorem below_later (w u : World) : Below w.heap.size w (later w u) := by
  unfold later
  by_cases h : Below w.heap.size w u
  · rw [if_pos h]; exact h
  · rw [if_neg h]; exact Below.refl _ _
theorem later_of {w u : World} (h : Below w.heap.size w u) : later w u = u := by unfold later; rw [if_pos h]
theorem Row.later {w : World} {g : Nat} {t : TypeId} {c : Array Value} (h : Row w g t c) (u : World) : Row (later w u) g t c := h.below' (below_later w u)
theorem wp_region_later {P : Program} {id : Nat} {Q : Exit → Act → World → Prop} {a : Act} {w : World} {l : List Oper} (hm : P.follows .mixedOrders = true) (hB : Region.lexB .any l.toArray = true)
    (h : wpQuiet P l.toArray (fun w' => ∃ u, w' = later w u) (fun a' => ∀ w', (∃ u, w' = later w u) → Q .normal a' w') l a) : (Code.region id l.toArray true).wp P Q a w :=
  wp_region_quiet (C := fun w' => ∃ u, w' = later w u) hm hB ⟨_, (later_of ((Below.refl w.heap.size w).drew)).symm⟩ (by simpa using h)
theorem calls_later {P : Program} {f : FuncId} {args : Array Value} {w u : World} {v : Value}
    (h : Calls P f args (later w u) fun e w' => e = .returned v ∧ Below (later w u).heap.size (later w u) w') : Calls P f args (later w u) fun e w'' => e = .returned v ∧ ∃ u, w'' = later w u :=
  h.mono fun e w'' ⟨he, hb⟩ => ⟨he, w'', (later_of ((below_later w u).trans (hb.mono (below_later w u).size))).symm⟩
theorem calls_since {P : Program} {f : FuncId} {args : Array Value} {w a : World} {v : Value} (hb : Below a.heap.size a w)
    (h : Calls P f args w fun e w' => e = .returned v ∧ Below w.heap.size w w') : Calls P f args w fun e w' => e = .returned v ∧ Below a.heap.size a w' :=
  h.mono fun _ _ ⟨he, h⟩ => ⟨he, hb.trans (h.mono hb.size)⟩
theorem quiet_load_set {o : Oper} {a : Act} {w : World} {K : Act → Prop} {g : Nat} {t : TypeId} {f : Nat → Bool} (hr : Row w g t (sc f)) (x : Operand) (ho : o.op = .load 26 x) (hx : a.eval x = .pointer (some ⟨g, 0, none⟩))
    (h : K (a.put o.dst (.agg (sc f)))) : o.quiet Try.prog a (fun w' => ∃ u, w' = later w u) K := by
  refine ⟨_, ?_, h⟩
  rintro _ ⟨u, rfl⟩
  unfold Oper.quietAt execOp
  simp only [ho, hx, Instr.loadAt, Instr.sureAddr, Sem.run_bind, Sem.run_pure, Result.andThen_ok, load_set (hr.later u)]
  exact ⟨rfl, rfl⟩
theorem quiet_load_let {o : Oper} {a : Act} {w : World} {K : Act → Prop} {g : Nat} {t : TypeId} {s : Nat → Nat} (hr : Row w g t (lc s)) (x : Operand) (ho : o.op = .load 24 x) (hx : a.eval x = .pointer (some ⟨g, 0, none⟩))
    (h : K (a.put o.dst (.agg (lc s)))) : o.quiet Try.prog a (fun w' => ∃ u, w' = later w u) K := by
  refine ⟨_, ?_, h⟩
  rintro _ ⟨u, rfl⟩
  unfold Oper.quietAt execOp
  simp only [ho, hx, Instr.loadAt, Instr.sureAddr, Sem.run_bind, Sem.run_pure, Result.andThen_ok, load_let (hr.later u)]
  exact ⟨rfl, rfl⟩

/-! ### A new variable for a whole set, and the set into it -/
section
variable {ops : Array Oper} {rest : List Oper} {o : Oper} {a : Act} {w : World} {Q : Exit → Act → World → Prop} {t : TypeId}
theorem wpList_new_set (f f' : Nat → Bool) (hgd : o.guard = none) (x y : Operand) (ho : o.op = .store 26 x y) (hx : a.eval x = .pointer (some ⟨w.heap.size, 0, none⟩)) (hy : a.eval y = .agg (sc f'))
    (h : wpList Try.prog ops Q rest (a.put o.dst undef) (w.alloc (.cells (sc f') t))) : wpList Try.prog ops Q (o :: rest) a (w.alloc (.cells (sc f) t)) :=
  wpList_store_set (Row.new w t (sc f)) hgd x y ho hx hy (by rw [World.setRow_alloc_new]; exact h)
theorem wpList_new_let (s s' : Nat → Nat) (hgd : o.guard = none) (x y : Operand) (ho : o.op = .store 24 x y) (hx : a.eval x = .pointer (some ⟨w.heap.size, 0, none⟩)) (hy : a.eval y = .agg (lc s'))
    (h : wpList Try.prog ops Q rest (a.put o.dst undef) (w.alloc (.cells (lc s') t))) : wpList Try.prog ops Q (o :: rest) a (w.alloc (.cells (lc s) t)) :=
  wpList_store_let (Row.new w t (lc s)) hgd x y ho hx hy (by rw [World.setRow_alloc_new]; exact h)
end

/-- A region whose first operation stands ahead of all others, whatever it does; the others load and call. -/
theorem wp_region_first {P : Program} {id : Nat} {Q : Exit → Act → World → Prop} {a : Act} {w : World} {o : Oper} {l : List Oper} (hm : P.follows .mixedOrders = true) (hg : o.guard = none)
    (hr : Region.ready .any (o :: l).toArray (Array.replicate (o :: l).toArray.size false) = [0]) (hs : Region.noSelect (o :: l).toArray = true)
    (hB : Region.lexFrom .any (o :: l).toArray l.length 1 ((Array.replicate (o :: l).toArray.size false).setIfInBounds 0 true) = true)
    (h : ∀ K : Act → World → Prop, (∀ a w1, wpQuiet P (o :: l).toArray (fun w' => ∃ u, w' = later w1 u) (fun a' => ∀ w', (∃ u, w' = later w1 u) → Q .normal a' w') l a → K a w1) → o.wp P a w.drew K Q) :
    (Code.region id (o :: l).toArray true).wp P Q a w := by
  refine wp_region_any hm ?_
  show wpAny P .any (o :: l).toArray Q (l.length + 1) _ a w.drew
  refine ⟨fun e => (by rw [hr] at e; cases e), fun i hi => ?_⟩
  rw [hr] at hi
  obtain rfl : i = 0 := by simpa using hi
  unfold wpOp
  rw [show (o :: l).toArray[0]? = some o from rfl]
  dsimp only
  have hw : Region.wanted o (yielded (o :: l).toArray a.tmps) = true := by unfold Region.wanted; rw [hg]
  rw [if_pos hw]
  refine .inl (h _ fun a1 w1 hq => ?_)
  exact wpAny_of_quiet (C := fun w' => ∃ u, w' = later w1 u) (Q := fun a' => ∀ w', (∃ u, w' = later w1 u) → Q .normal a' w') (fun _ w' hw' h => h w' hw') _ _ _ _ ⟨w1, (later_of (Below.refl _ _)).symm⟩
    (wpAnyQ_lex hs l 1 _ a1 (fun j => by rw [Nat.add_comm]; simp) hB hq)

/-! ### '==' on arrays -/
theorem run_equalIn_arr {P : Program} (w : World) (d : Nat) (t e : TypeId) (n : Nat) (ht : P.underlying t = some (.array n e)) (he : ∀ w, (isAgg e).run P w = .ok false w) (hsz : ∀ w, (sizeOf e).run P w = .ok 1 w)
    (xs ys : Array Value) (p : Nat → Bool) (hp : ∀ i, i < n → ∃ x y, xs[i]? = some x ∧ ys[i]? = some y ∧ (Op.equalIn (d + 1) e x y).run P w = .ok (p i) w) :
    (Op.equalIn (d + 2) t (.agg xs) (.agg ys)).run P w = .ok ((List.range n).all p) w := by
  rw [List.range_eq_range', Op.equalIn]
  simp only [Sem.run_bind, run_underlying ht, Result.andThen_ok, hsz, Std.Legacy.Range.forIn_eq_forIn_range', Std.Legacy.Range.size, Nat.sub_zero, Nat.add_sub_cancel, Nat.div_one]
  have hl : ∀ i ∈ List.range' 0 n 1, i < n := fun i hi => by simpa using (List.mem_range'_1.1 hi).2
  generalize List.range' 0 n 1 = l at hl ⊢
  induction l with
  | nil => simp
  | cons i l ih =>
    obtain ⟨x, y, hx, hy, pe⟩ := hp i (hl i (by simp))
    have px : (part e xs (i * 1)).run P w = .ok x w := by simp [part, Sem.run_bind, he, hx]
    have py : (part e ys (i * 1)).run P w = .ok y w := by simp [part, Sem.run_bind, he, hy]
    simp only [List.forIn_cons, Sem.run_bind, px, py, pe, Result.andThen_ok, List.all_cons]
    cases hb : p i
    · simp
    · simp only [Bool.not_true, Bool.false_eq_true, if_false, Sem.run_pure, Result.andThen_ok, Bool.true_and]
      exact ih fun j hj => hl j (by simp [hj])
theorem agg_bool (w : World) : (isAgg 4).run Try.prog w = .ok false w := by kernel_rfl
theorem agg_word (w : World) : (isAgg 22).run Try.prog w = .ok false w := by kernel_rfl
theorem size_bool (w : World) : (sizeOf 4).run Try.prog w = .ok 1 w := by kernel_rfl
theorem size_word (w : World) : (sizeOf 22).run Try.prog w = .ok 1 w := by kernel_rfl
def sameW (s t : Nat → Nat) : Bool := (List.range 4).all fun i => (s i : Int) == (t i : Int)
def sameB (f g : Nat → Bool) : Bool := (List.range 256).all fun i => f i == g i
theorem equal_sets (f g : Nat → Bool) (w : World) : (Op.equalIn 10000 26 (.agg (sc f)) (.agg (sc g))).run Try.prog w = .ok (sameB f g) w :=
  run_equalIn_arr w 9998 _ 4 256 Try.underlying26 agg_bool size_bool _ _ _ fun i hi => ⟨_, _, sc_at f hi, sc_at g hi, run_equalIn_bool' w 9998 4 _ _ Try.underlying4⟩
theorem equal_lets (s t : Nat → Nat) (w : World) : (Op.equalIn 10000 24 (.agg (lc s)) (.agg (lc t))).run Try.prog w = .ok (sameW s t) w :=
  run_equalIn_arr w 9998 _ 22 4 Try.underlying24 agg_word size_word _ _ _ fun i hi => ⟨_, _, lc_at s hi, lc_at t hi, run_equalIn_int w 9998 22 .u64 .u64 _ _ Try.underlying22⟩
theorem sameB_self (f : Nat → Bool) : sameB f f = true := by simp [sameB]
theorem sameW_self (s : Nat → Nat) : sameW s s = true := by simp [sameW]
theorem equal_set (f : Nat → Bool) (w : World) : (Op.equalIn 10000 26 (.agg (sc f)) (.agg (sc f))).run Try.prog w = .ok true w := by rw [equal_sets, sameB_self]
theorem equal_let (s : Nat → Nat) (w : World) : (Op.equalIn 10000 24 (.agg (lc s)) (.agg (lc s))).run Try.prog w = .ok true w := by rw [equal_lets, sameW_self]
theorem guard_set : Try.prog.eqGuardType Try.prog.depth 26 = false := by kernel_rfl
theorem guard_let : Try.prog.eqGuardType Try.prog.depth 24 = false := by kernel_rfl
end Go.Proofs.Ytcflbpcfmpkolaa
