/-
  Package monoid, the groundwork (as of stage 3): loads and stores of whole structs, rows of values, and the fold of a sequence.
-/
import Derived.Test.YtgjhlmmhpcbnaaaRow
import Derived.Test.YtgjhlmmhpcbnaaaRTail
import Derived.Handy
namespace Go.Proofs.Ytgjhlmmhpcbnaaa
open Go.RowKit

/-- The type is a struct or an array of n cells. -/
def AggT (ty : TypeId) (n : Nat) : Prop := (∃ d, Try.prog.underlying ty = some d ∧ (match d with | .struct _ | .array _ _ => true | _ => false) = true) ∧ (Try.prog.info? ty).map (·.size) = some n
section
variable {ops : Array Oper} {rest : List Oper} {o : Oper} {a : Act} {w : World} {K : Act → World → Prop} {Q : Exit → Act → World → Prop} {g : Nat} {t : TypeId} {c c' : Array Value} {ty : TypeId}
theorem wp_loadR (ht : AggT ty c.size) (hr : Row w g t c) (x : Operand) (ho : o.op = .load ty x) (hx : a.eval x = .pointer (some ⟨g, 0, none⟩)) (h : K (a.put o.dst (.agg c)) w) : o.wp Try.prog a w K Q := by
  obtain ⟨⟨d, hd, hm⟩, hi⟩ := ht
  exact wp_load_row ty x ho g hx t c (0, 0) d hr hd (by cases d <;> first | exact hm | simp_all) hi h
theorem wpList_loadR (ht : AggT ty c.size) (hr : Row w g t c) (hgd : o.guard = none) (x : Operand) (ho : o.op = .load ty x) (hx : a.eval x = .pointer (some ⟨g, 0, none⟩)) (h : wpList Try.prog ops Q rest (a.put o.dst (.agg c)) w) : wpList Try.prog ops Q (o :: rest) a w :=
  wpList_plain hgd fun _ hK => wp_loadR ht hr x ho hx (hK _ _ h)
theorem wp_storeR (ht : AggT ty c'.size) (hr : Row w g t c) (hs : c.size = c'.size) (h1 : c'.all (·.oneCell') = true) (x y : Operand) (ho : o.op = .store ty x y) (hx : a.eval x = .pointer (some ⟨g, 0, none⟩)) (hy : a.eval y = .agg c') (h : K (a.put o.dst undef) (w.setRow g c')) : o.wp Try.prog a w K Q :=
  wp_store_row ty x y ho g c' hx hy t c hr ht.2 hs h1 h
theorem wpList_storeR (ht : AggT ty c'.size) (hr : Row w g t c) (hs : c.size = c'.size) (h1 : c'.all (·.oneCell') = true) (hgd : o.guard = none) (x y : Operand) (ho : o.op = .store ty x y) (hx : a.eval x = .pointer (some ⟨g, 0, none⟩)) (hy : a.eval y = .agg c') (h : wpList Try.prog ops Q rest (a.put o.dst undef) (w.setRow g c')) : wpList Try.prog ops Q (o :: rest) a w :=
  wpList_plain hgd fun _ hK => wp_storeR ht hr hs h1 x y ho hx hy (hK _ _ h)
theorem quiet_loadR (ht : AggT ty c.size) (hr : Row w g t c) {K : Act → Prop} (x : Operand) (ho : o.op = .load ty x) (hx : a.eval x = .pointer (some ⟨g, 0, none⟩)) (h : K (a.put o.dst (.agg c))) : o.quiet Try.prog a (fun w' => ∃ u, w' = later w u) K := by
  obtain ⟨⟨d, hd, hm⟩, hi⟩ := ht
  refine ⟨_, ?_, h⟩
  rintro _ ⟨u, rfl⟩
  have hl : (loadVar ty ⟨g, 0, none⟩).run Try.prog (Go.Proofs.Ytgjhlmmhpcbnaaa.later w u) = .ok (.agg c) (Go.Proofs.Ytgjhlmmhpcbnaaa.later w u) := run_loadVar_row _ g t ty c (0, 0) d (hr.later u) hd (by cases d <;> first | exact hm | simp_all) hi
  unfold Oper.quietAt execOp
  simp only [ho, hx, Instr.loadAt, Instr.sureAddr, Sem.run_bind, Sem.run_pure, Result.andThen_ok, hl]
  exact ⟨rfl, rfl⟩
end
theorem results_cellR {fn : Func} {p : Tmp} {ty : TypeId} {c : Array Value} (ht : AggT ty c.size) (h : fn.results = #[.cell p ty]) (tmps : Array Value) {w : World} {g : Nat} {t : TypeId} (hr : Row w g t c) (hp : tmps.getD p undef = .pointer (some ⟨g, 0, none⟩)) :
    (results fn tmps).run Try.prog w = .ok (.agg c) w := by
  obtain ⟨⟨d, hd, hm⟩, hi⟩ := ht
  exact results_cell_row h tmps w g t c (0, 0) d hp hr hd (by cases d <;> first | exact hm | simp_all) hi

/-- The slice (A, n), in a block below B, reads as z(0) .. z(n - 1). -/
def Rd (B : Nat) (w : World) (A : Option Addr) (n : Nat) (z : Nat → Value) : Prop := n = 0 ∨ ∃ b off, A = some ⟨b, off, none⟩ ∧ b < B ∧ ∀ k, k < n → w.cell? ⟨b, off + k, none⟩ = some (z k)
section
variable {B B' : Nat} {w w' : World} {A : Option Addr} {n : Nat} {z z' : Nat → Value}
theorem Rd.later (h : Rd B w A n z) (hb : Below B w w') : Rd B w' A n z := by
  rcases h with h | ⟨b, off, hA, hlt, hc⟩
  · exact .inl h
  · exact .inr ⟨b, off, hA, hlt, fun k hk => (hb.cell (by show b < B; omega)).trans (hc k hk)⟩
theorem Rd.mono (h : Rd B w A n z) (hB : B ≤ B') : Rd B' w A n z := by
  rcases h with h | ⟨b, off, hA, hlt, hc⟩
  · exact .inl h
  · exact .inr ⟨b, off, hA, by omega, hc⟩
theorem Rd.at' {b off : Nat} {f : Option Nat} (h : Rd B w (some ⟨b, off, f⟩) n z) {k : Nat} (hk : k < n) : w.cell? ⟨b, off + k, none⟩ = some (z k) := by
  rcases h with h | ⟨b', off', hA, _, hc⟩
  · omega
  · cases hA; exact hc k hk
theorem Rd.congr (h : Rd B w A n z) (e : ∀ k, k < n → z k = z' k) : Rd B w A n z' := by
  rcases h with h | ⟨b, off, hA, hlt, hc⟩
  · exact .inl h
  · exact .inr ⟨b, off, hA, hlt, fun k hk => by rw [hc k hk, e k hk]⟩
theorem Rd.some (h : Rd B w A n z) {k : Nat} (hk : k < n) : ∃ b off, A = .some ⟨b, off, none⟩ ∧ b < B ∧ ∀ k, k < n → w.cell? ⟨b, off + k, none⟩ = .some (z k) := by
  rcases h with h | h
  · omega
  · exact h
/-- A part of a slice that reads. -/
theorem Rd.part (h : Rd B w A n z) {cap : Nat} (hc : n ≤ cap) (lo m : Nat) (hm : lo + m ≤ n) : Rd B w (if cap = lo then A else A.map (·.add lo)) m fun k => z (lo + k) := by
  rcases h with h | ⟨b, off, rfl, hlt, hcell⟩
  · exact .inl (by omega)
  · rcases Nat.eq_zero_or_pos m with h0 | h0
    · exact .inl h0
    · refine .inr ⟨b, off + lo, ?_, hlt, fun k hk => ?_⟩
      · rw [if_neg (by omega)]; simp [Addr.add]
      · rw [Nat.add_assoc]; exact hcell _ (by omega)
theorem Rd.part' (h : Rd B w A n z) (lo m : Nat) (hm : lo + m ≤ n) : Rd B w (A.map (fun x => x.add lo)) m fun k => z (lo + k) := by
  rcases h with h | ⟨b, off, rfl, hlt, hcell⟩
  · exact .inl (by omega)
  · refine .inr ⟨b, off + lo, by simp [Addr.add], hlt, fun k hk => ?_⟩
    rw [Nat.add_assoc]; exact hcell _ (by omega)
end
/-- A block's row read as a slice from cell 'off' on. -/
theorem Row.rd {w : World} {g B : Nat} {t : TypeId} {c : Array Value} (h : Row w g t c) (hB : g < B) (off n : Nat) (z : Nat → Value) (hz : ∀ k, k < n → c[off + k]? = some (z k)) : Rd B w (some ⟨g, off, none⟩) n z :=
  .inr ⟨g, off, rfl, hB, fun k hk => by rw [h.cell]; exact hz k hk⟩

/-! ### Between two worlds nothing but block g has changed, of what was there -/
theorem grown_set {w w' : World} {g : Nat} (h : w.grownBy w' (some g)) {p : Addr} (hp : p.block = g) (v : Value) : w.grownBy (w'.setCell p v) (some g) :=
  ⟨h.os, h.tape, h.output, by simpa [World.setCell] using h.size, fun k hk hne => (heap_setCell_other w' p k v (by intro e; exact hne (by rw [e, hp]))).trans (h.block k hk hne)⟩
theorem grown_below {w w' w'' : World} {r : Option Nat} (h : w.grownBy w' r) (hb : Below w'.heap.size w' w'') : w.grownBy w'' r :=
  ⟨hb.os.trans h.os, hb.tape.trans h.tape, hb.output.trans h.output, Nat.le_trans h.size hb.size, fun k hk hne => (hb.block k (Nat.lt_of_lt_of_le hk h.size)).trans (h.block k hk hne)⟩
theorem Row.grown {w w' : World} {g : Nat} {r : Option Nat} {t : TypeId} {c : Array Value} (h : Row w g t c) (hg : w.grownBy w' r) (hne : some g ≠ r) : Row w' g t c := (hg.block g h.lt hne).trans h

/-! ### Arrays of which a part has been written -/
def Upd (c c' : Array Value) (lo hi : Nat) (f : Nat → Value) : Prop := c'.size = c.size ∧ (∀ k, lo ≤ k → k < hi → c'[k]? = some (f k)) ∧ ∀ k, (k < lo ∨ hi ≤ k) → c'[k]? = c[k]?
theorem Upd.none (c : Array Value) (lo hi : Nat) (h : hi ≤ lo) (f : Nat → Value) : Upd c c lo hi f := ⟨rfl, fun k a b => by omega, fun _ _ => rfl⟩
theorem Upd.up {c c' : Array Value} {lo hi : Nat} {f : Nat → Value} (h : Upd c c' lo hi f) (hlo : lo ≤ hi) (hs : hi < c.size) {v : Value} (hv : v = f hi) : Upd c (c'.setIfInBounds hi v) lo (hi + 1) f := by
  refine ⟨by simp [h.1], fun k a b => ?_, fun k a => ?_⟩
  · rw [Array.getElem?_setIfInBounds]
    by_cases e : hi = k
    · subst e; rw [if_pos rfl, if_pos (by rw [h.1]; exact hs), hv]
    · rw [if_neg e]; exact h.2.1 k a (by omega)
  · rw [Array.getElem?_setIfInBounds, if_neg (by omega)]
    exact h.2.2 k (by omega)
theorem Upd.down {c c' : Array Value} {lo hi : Nat} {f : Nat → Value} (h : Upd c c' (lo + 1) hi f) (hlo : lo < hi) (hs : lo < c.size) {v : Value} (hv : v = f lo) : Upd c (c'.setIfInBounds lo v) lo hi f := by
  refine ⟨by simp [h.1], fun k a b => ?_, fun k a => ?_⟩
  · rw [Array.getElem?_setIfInBounds]
    by_cases e : lo = k
    · subst e; rw [if_pos rfl, if_pos (by rw [h.1]; exact hs), hv]
    · rw [if_neg e]; exact h.2.1 k (by omega) b
  · rw [Array.getElem?_setIfInBounds, if_neg (by omega)]
    exact h.2.2 k (by omega)

/-! ### Monoids, and folds in them -/
structure Mo (α : Type) where
  j : α → α → α
  e : α
  sz : α → Nat
  assoc : ∀ a b c, j (j a b) c = j a (j b c)
  sz_j : ∀ a b, sz (j a b) ≤ sz a + sz b
  sz_e : sz e = 0
section
variable {α : Type} (M : Mo α) (z : Nat → α)
/-- The fold from the left of the first n, from the unit on. -/
def fo : Nat → α
  | 0 => M.e
  | k + 1 => M.j (fo k) (z k)
/-- The join of z(i) .. z(i + d), from the left. -/
def gl (i : Nat) : Nat → α
  | 0 => z i
  | d + 1 => M.j (gl i d) (z (i + d + 1))
variable {M z}
theorem fo_congr {z' : Nat → α} : ∀ {n : Nat}, (∀ k, k < n → z k = z' k) → fo M z n = fo M z' n
  | 0, _ => rfl
  | n + 1, h => by rw [fo, fo, h n (by omega), fo_congr fun k hk => h k (by omega)]
theorem gl_join (i d : Nat) : ∀ d', M.j (gl M z i d) (gl M z (i + d + 1) d') = gl M z i (d + d' + 1)
  | 0 => rfl
  | d' + 1 => by
    rw [gl, ← M.assoc, gl_join i d d', show d + (d' + 1) + 1 = (d + d' + 1) + 1 by omega, gl]
    congr 2; omega
theorem gl_left (i d : Nat) : M.j (z i) (gl M z (i + 1) d) = gl M z i (d + 1) := by
  have := gl_join (M := M) (z := z) i 0 d
  rw [show i + 0 + 1 = i + 1 by omega, show 0 + d + 1 = d + 1 by omega] at this
  exact this
theorem gl_shift (i d : Nat) (s : Nat) : gl M (fun k => z (s + k)) i d = gl M z (s + i) d := by
  induction d with
  | zero => rfl
  | succ d ih => rw [gl, gl, ih]; congr 2; omega
theorem fo_gl (n : Nat) (he : ∀ k, k ≤ n → M.j M.e (z k) = z k) : fo M z (n + 1) = gl M z 0 n := by
  induction n with
  | zero => rw [fo, fo, gl, he 0 (Nat.le_refl _)]
  | succ n ih => rw [fo, ih fun k hk => he k (by omega), gl]; congr 2; omega
theorem fo_sz {m : Nat} (hs : ∀ k, M.sz (z k) ≤ m) : ∀ n, M.sz (fo M z n) ≤ m * n
  | 0 => by rw [fo, M.sz_e]; omega
  | n + 1 => by
    have h1 := fo_sz hs n; have h2 := M.sz_j (fo M z n) (z n); have h3 := hs n
    rw [fo, Nat.mul_succ]; omega
theorem gl_sz {m : Nat} (hs : ∀ k, M.sz (z k) ≤ m) (i : Nat) : ∀ d, M.sz (gl M z i d) ≤ m * (d + 1)
  | 0 => by rw [gl]; have := hs i; omega
  | d + 1 => by
    have h1 := gl_sz hs i d; have h2 := M.sz_j (gl M z i d) (z (i + d + 1)); have h3 := hs (i + d + 1)
    rw [gl, Nat.mul_succ]; omega
theorem fo_room {m n : Nat} (hs : ∀ k, M.sz (z k) ≤ m) (hm : m * (n + 1) ≤ 4611686018427387903) {k : Nat} (hk : k < n) (i : Nat) : M.sz (fo M z k) + M.sz (z i) ≤ 9223372036854775807 := by
  have h1 := fo_sz hs k; have h2 := hs i
  have h3 : m * k ≤ m * (n + 1) := Nat.mul_le_mul_left _ (by omega)
  have h4 : m * 1 ≤ m * (n + 1) := Nat.mul_le_mul_left _ (by omega)
  omega
theorem gl_room {m n : Nat} (hs : ∀ k, M.sz (z k) ≤ m) (hm : m * (n + 1) ≤ 4611686018427387903) {d d' : Nat} (hd : d ≤ n) (hd' : d' ≤ n) (i i' : Nat) : M.sz (gl M z i d) + M.sz (gl M z i' d') ≤ 9223372036854775807 := by
  have h1 := gl_sz hs i d; have h2 := gl_sz hs i' d'
  have h3 : m * (d + 1) ≤ m * (n + 1) := Nat.mul_le_mul_left _ (by omega)
  have h4 : m * (d' + 1) ≤ m * (n + 1) := Nat.mul_le_mul_left _ (by omega)
  omega
end
/-- Zero cells of a made row. -/
theorem made_at (z : Value) (n k : Nat) (h : k < n) : (madeCells #[z] n)[k]? = some z := by
  have : (madeCells #[z] n).toList[k]? = some z := by rw [toList_madeCells_one]; simp [h]
  simpa using this

/-! ### The monoids -/
theorem wrap_add_wrap (a b : Int) : wrap64 (wrap64 a + b) = wrap64 (a + b) := by unfold wrap64; omega
theorem wrap_add_wrap' (a b : Int) : wrap64 (a + wrap64 b) = wrap64 (a + b) := by unfold wrap64; omega
def mAdd : Mo Int where
  j a b := wrap64 (a + b)
  e := 0
  sz _ := 0
  assoc a b c := by rw [wrap_add_wrap, wrap_add_wrap', Int.add_assoc]
  sz_j _ _ := Nat.zero_le _
  sz_e := rfl
def mMax : Mo Int where
  j a b := max a b
  e := -9223372036854775808
  sz _ := 0
  assoc a b c := by omega
  sz_j _ _ := Nat.zero_le _
  sz_e := rfl
def mWords : Mo ByteArray where
  j a b := a ++ b
  e := ByteArray.empty
  sz := ByteArray.size
  assoc a b c := ByteArray.append_assoc
  sz_j a b := by rw [ByteArray.size_append]; omega
  sz_e := rfl
theorem ret_i64 {a b : Int} (h : a = b) : Ending.returned (.int .i64 a) = .returned (.int .i64 b) := by rw [h]
end Go.Proofs.Ytgjhlmmhpcbnaaa
