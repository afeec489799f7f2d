/-
  Package monoid: maps: a copy by append.
-/
import Derived.Test.YtbiecpejpkgngaaMoMapE
namespace Go.Proofs.Ytbiecpejpkgngaa
open Go.RowKit
theorem own_below {w w' : World} {base n size : Nat} {e : TypeId} {v : Value} {xs : List Value} (h : w.ownsRow base e size v n xs) (hb : Below w.heap.size w w') : w'.ownsRow base e size v n xs := by
  rcases h with ⟨h0, h1 | ⟨g, cap, cur, hv, hg, hc, h2⟩⟩
  · exact ⟨h0, .inl h1⟩
  · refine ⟨h0, .inr ⟨g, cap, cur, hv, hg, ?_, h2⟩⟩
    have hlt : g < w.heap.size := by
      by_cases h' : g < w.heap.size
      · exact h'
      · rw [Array.getElem?_eq_none (by omega)] at hc; cases hc
    exact (hb.block g hlt).trans hc
theorem wpList_append_zero {ops : Array Oper} {rest : List Oper} {o : Oper} {a : Act} {w : World} {Q : Exit → Act → World → Prop} (hgd : o.guard = none) (s x : Operand) (t : TypeId)
    (ho : o.op = .call { callee := .builtin .append, args := #[s, x], argTypes := #[t, t] }) (e : TypeId) (i : TypeInfo) (ht : Try.prog.underlying t = some (.slice e)) (hi : Try.prog.info? e = some i)
    (g : Addr) (A : Option Addr) (c : Nat) (hs : a.eval s = .slice (some g) 0 0) (hx : a.eval x = .slice A 0 c)
    (h : wpList Try.prog ops Q rest (a.put o.dst (.slice (some g) 0 0)) w) : wpList Try.prog ops Q (o :: rest) a w := by
  refine wpList_plain hgd fun K hK => ?_
  have hr : (Builtin.append_ #[t, t] o.type #[.slice (some g) 0 0, .slice A 0 c]).run Try.prog w = .ok (.slice (some g) 0 0) w := by
    cases A <;> simp [Builtin.append_, run_underlying ht, sizeOf, typeInfo, hi, Builtin.lenOf, Builtin.firstCells, loadCells, loadCellsFrom, storeCells]
  unfold Oper.wp execOp
  simp only [ho, resolve, invoke, builtin, Sem.run_bind, Sem.run_pure, Result.andThen_ok, List.map_toArray, List.map_cons, List.map_nil, hs, hx, hr]
  exact hK _ _ h
/-- 'append([]int{}, f...)': a copy of f. -/
theorem wpList_append_copy {ops : Array Oper} {rest : List Oper} {o : Oper} {a : Act} {wr : World} {Q : Exit → Act → World → Prop} (hgd : o.guard = none) (s x : Operand)
    (ho : o.op = .call { callee := .builtin .append, args := #[s, x], argTypes := #[22, 22] }) (A : Option Addr) (m c : Nat) (Z : Nat → Int)
    (hr : Rd wr.heap.size wr A m fun k => .int .i64 (Z k)) (hm : m * 8 ≤ 140737488355328) (hs : a.eval s = .slice (some ⟨wr.heap.size, 0, none⟩) 0 0) (hx : a.eval x = .slice A m c)
    (h : ∀ g cap w', wr.heap.size ≤ g → g < w'.heap.size → Hid (Below wr.heap.size wr w') → Hid (Rd w'.heap.size w' (some ⟨g, 0, none⟩) m fun k => .int .i64 (Z k)) → wpList Try.prog ops Q rest (a.put o.dst (.slice (some ⟨g, 0, none⟩) m cap)) w') :
    wpList Try.prog ops Q (o :: rest) a (wr.alloc (.cells #[] 3)) := by
  obtain ⟨i0, hi, hz0, hz1, hz2⟩ := info_parts map_info
  have hb : Below wr.heap.size wr (wr.alloc (.cells #[] 3)) := (Below.refl _ _).alloc (Nat.le_refl _) _
  rcases Nat.eq_zero_or_pos m with rfl | hpos
  · exact wpList_append_zero hgd s x 22 ho 3 i0 Try.underlying22 hi _ A c hs hx (h _ _ _ (Nat.le_refl _) (by simp) hb (.inl rfl))
  · obtain ⟨b, o1, rfl, hbB, hc⟩ := hr.some hpos
    have hown : (wr.alloc (.cells #[] 3)).ownsRow wr.heap.size 3 1 (.slice (some ⟨wr.heap.size, 0, none⟩) 0 0) 0 [] :=
      ⟨rfl, .inr ⟨wr.heap.size, 0, #[], rfl, Nat.le_refl _, Row.new _ _ _, Nat.le_refl _, by unfold maxLen; omega, rfl, rfl⟩⟩
    refine wpList_append_lies _ hgd s x 22 ho wr.heap.size 3 i0 (.int .i64 0) 1 8 Try.underlying22 hi hz0 hz1 hz2 rfl (by decide) _ 0 [] hs hown ⟨b, o1, none⟩ m c ((List.range m).map fun k => .int .i64 (Z k)) hx (by simp) ?_ (by intro u hu; simp at hu; obtain ⟨k, _, rfl⟩ := hu; rfl) hpos (by unfold maxLen; omega) (by omega) (by simp) _ rfl ?_
    · intro j u hj
      have hjm : j < m := by have := (List.getElem?_eq_some_iff.1 hj).1; simpa using this
      simp [hjm] at hj
      subst hj
      rw [show (⟨b, o1, none⟩ : Addr).add j = ⟨b, o1 + j, none⟩ by unfold Addr.add; split <;> simp_all]
      exact (hb.cell (p := ⟨b, o1 + j, none⟩) hbB).trans (hc j hjm)
    · intro g cap w' hown' hgrow _ _
      rw [Nat.zero_add] at hown' ⊢
      rw [List.nil_append] at hown'
      exact h g cap w' (by obtain ⟨g', c', e, h1, h2⟩ := hown'.form hpos; cases e; first | exact h1 | exact h2) (by obtain ⟨g', c', e, h1, h2⟩ := hown'.form hpos; cases e; first | exact h1 | exact h2) (Lib.hid (hb.grown hgrow (by simp) (own_base hown))) (Lib.hid (rd_of_own hown' (f := fun k => .int .i64 (Z k)) (fun k hk => by simp [hk])).1)
theorem rd_grown {B : Nat} {w w' : World} {row : Option Nat} {g m : Nat} {f : Nat → Value} (h : Rd B w (some ⟨g, 0, none⟩) m f) (hg : w.grownBy w' row) (hlt : g < w.heap.size) (hne : some g ≠ row) : Rd w'.heap.size w' (some ⟨g, 0, none⟩) m f := by
  refine .inr ⟨g, 0, rfl, Nat.lt_of_lt_of_le hlt hg.size, fun k hk => ?_⟩
  exact (hg.cell_far ⟨g, 0 + k, none⟩ hlt hne).trans (h.at' hk)
/-- The first k slices, copied. -/
def Copies (B : Nat) (w : World) (A' : Option Addr) (c' k : Nat) (S S' : Nat → Option Addr × Nat × Nat) (Z : Nat → Nat → Int) : Prop :=
  w.ownsRow B 50 1 (.slice A' k c') k ((List.range k).map fun x => .slice (S' x).1 (S' x).2.1 (S' x).2.2) ∧
    ∀ x, x < k → (S' x).2.1 = (S x).2.1 ∧ ∃ g, (S' x).1 = some ⟨g, 0, none⟩ ∧ g < w.heap.size ∧ some g ≠ (Value.slice A' k c').ownBlock ∧ Rd w.heap.size w (some ⟨g, 0, none⟩) (S' x).2.1 fun j => .int .i64 (Z x j)
theorem copies_none (B : Nat) (w : World) (S : Nat → Option Addr × Nat × Nat) (Z : Nat → Nat → Int) : Copies B w none 0 0 S S Z := ⟨World.ownsRow_nil _ _ _ _, fun x h => absurd h (Nat.not_lt_zero _)⟩
theorem copies_later {B k c' : Nat} {w w' : World} {A' : Option Addr} {S S' : Nat → Option Addr × Nat × Nat} {Z : Nat → Nat → Int} (h : Copies B w A' c' k S S' Z) (hb : Below w.heap.size w w') : Copies B w' A' c' k S S' Z :=
  ⟨own_below h.1 hb, fun x hx => by
    obtain ⟨e, g, h1, h2, h3, h4⟩ := h.2 x hx
    exact ⟨e, g, h1, Nat.lt_of_lt_of_le h2 hb.size, h3, (h4.later hb).mono hb.size⟩⟩
theorem copies_push {B k c' : Nat} {w w5 : World} {A' : Option Addr} {S S' : Nat → Option Addr × Nat × Nat} {Z : Nat → Nat → Int} (h : Copies B w A' c' k S S' Z) {g1 cap1 g2 cap : Nat}
    (hl1 : g1 < w.heap.size) (hn1 : some g1 ≠ (Value.slice A' k c').ownBlock) (hr1 : Rd w.heap.size w (some ⟨g1, 0, none⟩) (S k).2.1 fun j => .int .i64 (Z k j))
    (hown : w5.ownsRow B 50 1 (.slice (some ⟨g2, 0, none⟩) (k + 1) cap) (k + 1) (((List.range k).map fun x => Value.slice (S' x).1 (S' x).2.1 (S' x).2.2) ++ [.slice (some ⟨g1, 0, none⟩) (S k).2.1 cap1]))
    (hg : w.grownBy w5 (Value.slice A' k c').ownBlock) (hat : (Value.slice A' k c').ownBlock = some g2 ∨ g2 = w.heap.size) :
    Copies B w5 (some ⟨g2, 0, none⟩) cap (k + 1) S (fun x => if x = k then (some ⟨g1, 0, none⟩, (S k).2.1, cap1) else S' x) Z := by
  refine ⟨?_, fun x hx => ?_⟩
  · rw [List.range_succ, List.map_append]
    have e : (List.range k).map (fun x => Value.slice (if x = k then (some ⟨g1, 0, none⟩, (S k).2.1, cap1) else S' x).1 (if x = k then (some ⟨g1, 0, none⟩, (S k).2.1, cap1) else S' x).2.1 (if x = k then (some ⟨g1, 0, none⟩, (S k).2.1, cap1) else S' x).2.2) = (List.range k).map fun x => Value.slice (S' x).1 (S' x).2.1 (S' x).2.2 := by
      refine List.map_congr_left fun x hx => ?_
      have : x ≠ k := by have := List.mem_range.1 hx; omega
      rw [if_neg this]
    rw [e]
    simpa using hown
  · have ne : ∀ g : Nat, g < w.heap.size → some g ≠ (Value.slice A' k c').ownBlock → some g ≠ some g2 := by
      intro g h1 h2 e
      rcases hat with h3 | h3
      · exact h2 (e.trans h3.symm)
      · injection e with e; omega
    by_cases e : x = k
    · subst e
      simp only [if_pos]
      exact ⟨trivial, g1, rfl, Nat.lt_of_lt_of_le hl1 hg.size, ne g1 hl1 hn1, rd_grown hr1 hg hl1 hn1⟩
    · obtain ⟨e1, g, h1, h2, h3, h4⟩ := h.2 x (by omega)
      simp only [if_neg e]
      exact ⟨e1, g, h1, Nat.lt_of_lt_of_le h2 hg.size, ne g h2 h3, rd_grown h4 hg h2 h3⟩
theorem copies_lists {B k c' : Nat} {w : World} {A' : Option Addr} {S S' : Nat → Option Addr × Nat × Nat} {Z : Nat → Nat → Int} (h : Copies B w A' c' k S S' Z) (hm : ∀ x, x < k → (S x).2.1 ≤ 140737488355328) : Lists w A' k S' Z :=
  ⟨(rd_of_own h.1 (f := fun x => .slice (S' x).1 (S' x).2.1 (S' x).2.2) (fun x hx => by simp [hx])).1, fun x hx => by
    obtain ⟨e, g, h1, h2, h3, h4⟩ := h.2 x hx
    exact ⟨by rw [e]; exact hm x hx, by rw [h1]; exact h4⟩⟩
theorem cm_congr {N : Nat} {S S' : Nat → Option Addr × Nat × Nat} {Z : Nat → Nat → Int} {x : Nat} : ∀ {k : Nat}, (∀ i, i < k → (S' i).2.1 = (S i).2.1) → cm N S' Z x k = cm N S Z x k
  | 0, _ => rfl
  | k + 1, h => by rw [cm, cm, cm_congr fun i hi => h i (by omega), h k (by omega)]
end Go.Proofs.Ytbiecpejpkgngaa
