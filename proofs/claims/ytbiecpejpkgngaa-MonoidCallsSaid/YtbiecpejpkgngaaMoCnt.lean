/-
  MonoidCalls: worlds in which nothing but two blocks has changed, and the monoid that counts its joins.
-/
import Derived.Test.YtbiecpejpkgngaaMoWin
import Derived.Test.YtbiecpejpkgngaaMoP
import Derived.Test.YtbiecpejpkgngaaMix
namespace Go.Proofs.Ytbiecpejpkgngaa
open Go.RowKit
/-- Of what was there nothing has changed but blocks g and q. -/
structure G2 (g q : Nat) (w w' : World) : Prop where
  os : w'.os = w.os
  tape : w'.tape = w.tape
  output : w'.output = w.output
  size : w.heap.size ≤ w'.heap.size
  block : ∀ k, k < w.heap.size → k ≠ g → k ≠ q → w'.heap[k]? = w.heap[k]?
section
variable {g q B : Nat} {w u v : World}
theorem G2.refl (g q : Nat) (w : World) : G2 g q w w := ⟨rfl, rfl, rfl, Nat.le_refl _, fun _ _ _ _ => rfl⟩
theorem G2.trans (h : G2 g q w u) (k : G2 g q u v) : G2 g q w v :=
  ⟨k.os.trans h.os, k.tape.trans h.tape, k.output.trans h.output, Nat.le_trans h.size k.size, fun i hi a b => (k.block i (Nat.lt_of_lt_of_le hi h.size) a b).trans (h.block i hi a b)⟩
theorem G2.of_below (h : Below w.heap.size w u) : G2 g q w u := ⟨h.os, h.tape, h.output, h.size, fun k hk _ _ => h.block k hk⟩
theorem G2.wide (h : G2 q q w u) (g : Nat) : G2 g q w u := ⟨h.os, h.tape, h.output, h.size, fun k hk _ b => h.block k hk b b⟩
theorem G2.below (h : G2 g q w u) (hg : B ≤ g) (hq : B ≤ q) (hw : B ≤ w.heap.size) : Below B w u := ⟨h.os, h.tape, h.output, h.size, fun k hk => h.block k (by omega) (by omega) (by omega)⟩
theorem G2.setCell (h : G2 g q w u) {p : Addr} (hp : p.block = g ∨ p.block = q) (x : Value) : G2 g q w (u.setCell p x) :=
  ⟨h.os, h.tape, h.output, by simpa [World.setCell] using h.size, fun k hk a b => (heap_setCell_other u p k x (by omega)).trans (h.block k hk a b)⟩
theorem Row.g2 {k : Nat} {t : TypeId} {c : Array Value} (h : Row w k t c) (hg : G2 g q w u) (h1 : k ≠ g) (h2 : k ≠ q) : Row u k t c := (hg.block k h.lt h1 h2).trans h
noncomputable def gr (g q : Nat) (w u : World) : World := @ite _ (G2 g q w u) (Classical.propDecidable _) u w
theorem g2_gr (g q : Nat) (w u : World) : G2 g q w (gr g q w u) := by
  unfold gr
  by_cases h : G2 g q w u
  · rw [if_pos h]; exact h
  · rw [if_neg h]; exact G2.refl _ _ _
theorem gr_of (h : G2 g q w u) : gr g q w u = u := by unfold gr; rw [if_pos h]
theorem Row.gr {k : Nat} {t : TypeId} {c : Array Value} (h : Row w k t c) (h1 : k ≠ g) (h2 : k ≠ q) (u : World) : Row (gr g q w u) k t c := h.g2 (g2_gr _ _ _ _) h1 h2
theorem quiet_loadG {o : Oper} {a : Act} {t ty : TypeId} {c : Array Value} {s : Nat} (ht : AggT ty c.size) (hr : Row w s t c) (h1 : s ≠ g) (h2 : s ≠ q) {K : Act → Prop} (x : Operand) (ho : o.op = .load ty x) (hx : a.eval x = .pointer (some ⟨s, 0, none⟩)) (h : K (a.put o.dst (.agg c))) :
    o.quiet Try.prog a (fun w' => ∃ u, w' = Go.Proofs.Ytbiecpejpkgngaa.gr g q w u) K := by
  obtain ⟨⟨d, hd, hm⟩, hi⟩ := ht
  refine ⟨_, ?_, h⟩
  rintro _ ⟨u, rfl⟩
  have hl : (loadVar ty ⟨s, 0, none⟩).run Try.prog (Go.Proofs.Ytbiecpejpkgngaa.gr g q w u) = .ok (.agg c) (Go.Proofs.Ytbiecpejpkgngaa.gr g q w u) := run_loadVar_row _ s t ty c (0, 0) d (hr.gr h1 h2 u) hd (by cases d <;> first | exact hm | simp_all) hi
  unfold Oper.quietAt execOp
  simp only [ho, hx, Instr.loadAt, Instr.sureAddr, Sem.run_bind, Sem.run_pure, Result.andThen_ok, hl]
  exact ⟨rfl, rfl⟩
end
theorem wpOp_skip' {P : Program} {Q : Exit → Act → World → Prop} {ops : Array Oper} {i : Nat} {o : Oper} {a : Act} {w w' : World} {K : Act → World → Prop} (hi : ops[i]? = some o) (hd : o.dst = none) (hg : Region.wanted o (yielded ops a.tmps) = true)
    (hrun : (execOp a.eval o).run P w = .ok .skip w') (h : K a w') : wpOp P ops Q i K a w := by
  unfold wpOp
  simp only [hi, hg, if_true]
  refine .inl ?_
  unfold Oper.wp
  rw [hrun]
  unfold Oper.upon
  rw [hd]
  exact h
/-- The counting monoid's value, and its count. -/
def mc (q : Nat) : Array Value := #[.pointer (some ⟨q, 0, none⟩)]
def Cnt (w : World) (q C : Nat) : Prop := Row w q 3 #[.int .i64 (C : Nat)]
def AllI (c : Array Value) : Prop := ∀ k, k < c.size → ∃ x : Int, c[k]? = some (.int .i64 x)
theorem AllI.set {c : Array Value} (h : AllI c) (i : Nat) (x : Int) : AllI (c.setIfInBounds i (.int .i64 x)) := by
  intro k hk
  rw [Array.getElem?_setIfInBounds]
  by_cases e : i = k
  · rw [if_pos e, if_pos (by simpa [e] using hk)]; exact ⟨x, rfl⟩
  · rw [if_neg e]; exact h k (by simpa using hk)
theorem aggCnt : AggT 74 1 := ⟨⟨_, Try.underlying74, rfl⟩, by kernel_rfl⟩
theorem cnt_method (q : Nat) (W : World) : (method 210 74 (.agg (mc q)) "Join").run Try.prog W = .ok (73, .agg (mc q)) W := rfl
def JoinC (q C : Nat) (u : World) (w' : World) : Prop := G2 q q u w' ∧ Cnt w' q (C + 1)
set_option maxHeartbeats 800000 in
theorem cntJoin (q C : Nat) (a b : Int) (u : World) (hq : Cnt u q C) (hC : C ≤ 4611686018427387904) :
    Calls Try.prog 73 #[.agg (mc q), .int .i64 a, .int .i64 b] u fun e w' => e = .returned (.int .i64 (wrap64 (a + b))) ∧ JoinC q C u w' := by
  have hlt := hq.lt
  have r1 : Cnt (u.alloc (.cells (mc q) 74)) q C := hq.alloc _
  have c1 : (u.alloc (.cells (mc q) 74)).cell? ⟨q, 0, none⟩ = some (.int .i64 (C : Nat)) := r1.cell 0
  have f1 : (u.alloc (.cells (mc q) 74)).frozen? ⟨q, 0, none⟩ = false := r1.frozen 0
  have HQ := Lib.hid (show Row u q 3 #[.int .i64 (C : Nat)] from hq)
  unfold mc at c1 f1 ⊢
  clear r1
  go_enter Try.func73, Try.ntmps73
  go_wp2
  go_ret
  refine ⟨rfl, ((G2.refl q q u).setCell (.inr rfl) _).trans (G2.of_below ((Below.refl _ _).alloc (Nat.le_refl _) _)), ?_⟩
  have h := (HQ.out.set 0 (.int .i64 ((C + 1 : Nat)))).alloc (.cells #[Value.pointer (some ⟨q, 0, none⟩)] 74)
  exact h
theorem cntUnit (q : Nat) (w : World) : Calls Try.prog 74 #[.agg (mc q)] w fun e w' => e = .returned (.int .i64 0) ∧ Below w.heap.size w w' := by
  go_enter Try.func74, Try.ntmps74
  go_wp2
  go_ret
  exact ⟨rfl, (Below.refl _ _).alloc (Nat.le_refl _) _⟩
end Go.Proofs.Ytbiecpejpkgngaa
