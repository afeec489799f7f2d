/-
  A region that draws its order and holds operations of two kinds: those that only read or reckon (taken first, a list at a time), and those that call or make memory (each alone when it comes up).
-/
import Derived.Test.YtbiecpejpkgngaaRow
import Derived.OrdersHeld
namespace Go.Proofs.Ytbiecpejpkgngaa
open Go.RowKit
/-- Kinds of operations that yield a value and enter no function. -/
def valB : Op → Bool
  | .move _ | .assign _ | .pick _ _ _ | .load _ _ | .makeInterface _ _ | .binOp _ _ _ _ _ | .unOp _ _ _ | .convert _ _ _ | .slice _ _ _ _ _ | .fieldAddr _ _ _ | .indexAddr _ _ _ | .build _ _ | .extract _ _ => true
  | _ => false
theorem run_value_form {P : Program} {s : Sem Value} {w w' : World} {n : Next} (h : (do pure (Next.value (← s)) : Sem Next).run P w = .ok n w') : ∃ u, n = .value u := by
  rw [Sem.run_bind] at h
  cases hs : s.run P w with
  | ok u w1 =>
    rw [hs] at h
    simp at h
    exact ⟨u, h.1.symm⟩
  | halt x w1 => rw [hs] at h; simp [Result.andThen] at h
theorem run_form2 {P : Program} {α : Type} {s : Sem α} {g : α → Value} {w w' : World} {n : Next} (h : (do pure (Next.value (g (← s))) : Sem Next).run P w = .ok n w') : ∃ u, n = .value u := by
  rw [Sem.run_bind] at h
  cases hs : s.run P w with
  | ok u w1 =>
    rw [hs] at h
    simp at h
    exact ⟨_, h.1.symm⟩
  | halt x w1 => rw [hs] at h; simp [Result.andThen] at h
theorem val_form {P : Program} {ρ : Operand → Value} {o : Oper} (hv : valB o.op = true) {w w' : World} {n : Next} (h : (execOp ρ o).run P w = .ok n w') : ∃ u, n = .value u := by
  obtain ⟨dst, op, ty, pos, aft, gd⟩ := o
  cases op <;> first
    | (exfalso; revert hv; simp [valB]; done)
    | (unfold execOp at h; exact run_value_form h)
    | (unfold execOp at h; exact run_form2 (g := fun b => if b = true then _ else _) h)
    | (unfold execOp at h; simp at h; exact ⟨_, h.1.symm⟩)
theorem still_of_quiet {P : Program} {S : World → Prop} {o : Oper} {a : Act} {v : Value} {w : World} (hv : valB o.op = true) (h : o.quietAt P a S w v) : (execOp a.eval o).run P w = .ok (.value v) w := by
  unfold Oper.quietAt at h
  cases hr : (execOp a.eval o).run P w with
  | ok n w' =>
    obtain ⟨u, rfl⟩ := val_form hv hr
    rw [hr] at h
    obtain ⟨h1, h2⟩ : w' = w ∧ u = v := h
    rw [h1, h2]
  | halt x w' => rw [hr] at h; exact h.elim
section
variable {P : Program} {md : Region.Mode} {Q : Exit → Act → World → Prop} {S : World → Prop}
/-- The listed operations of l. -/
def pickL (l : List Oper) (is : List Nat) : List Oper := is.flatMap fun i => (l.drop i).take 1
/-- They may be taken first, one after the other; what is done then. -/
def segB (md : Region.Mode) (ops : Array Oper) : List Nat → Array Bool → Bool
  | [], _ => true
  | i :: is, done => (match ops[i]? with | none => false | some o => valB o.op) && Region.free md ops done i && (Region.ready md ops done).contains i && segB md ops is (done.setIfInBounds i true)
def doneL (is : List Nat) (done : Array Bool) : Array Bool := is.foldl (fun d i => d.setIfInBounds i true) done
theorem wpAnyH_seg {l : List Oper} {f : Nat} {w : World} (hs : Region.noSelect l.toArray = true) (hQ : ∀ c a (d : Option Tmp) v w, Q (.panic c) (a.put d v) w → Q (.panic c) a w) (hS : S w) :
    ∀ (is : List Nat) (done : Array Bool) (a : Act), segB md l.toArray is done = true → wpQuiet P l.toArray S (fun a' => wpAnyH P md l.toArray Q S f (doneL is done) a' w) (pickL l is) a →
      wpAnyH P md l.toArray Q S (is.length + f) done a w
  | [], done, a, _, h => by rw [List.length_nil, Nat.zero_add]; exact h
  | i :: is, done, a, hB, h => by
    simp only [segB, Bool.and_eq_true] at hB
    obtain ⟨⟨⟨h1, h2⟩, h3⟩, h4⟩ := hB
    cases ho : l.toArray[i]? with
    | none => rw [ho] at h1; cases h1
    | some o =>
      rw [ho] at h1
      have hp : pickL l (i :: is) = o :: pickL l is := by
        have hl : l[i]? = some o := by simpa using ho
        obtain ⟨hlt, hget⟩ := List.getElem?_eq_some_iff.1 hl
        unfold pickL
        rw [List.flatMap_cons, List.drop_eq_getElem_cons hlt, List.take_succ_cons, List.take_zero, hget]; rfl
      rw [hp] at h
      rw [List.length_cons, show is.length + 1 + f = (is.length + f) + 1 by omega]
      unfold wpQuiet at h
      by_cases hw : Region.wanted o (yielded l.toArray a.tmps) = true
      · rw [if_pos hw] at h
        obtain ⟨v, hv, hK⟩ := h
        exact wpAnyH_take ho hs h2 h3 (fun c a w => hQ c a _ _ w) (.inl ⟨hw, fun w hw' => still_of_quiet h1 (hv w hw')⟩) hS (wpAnyH_seg hs hQ hS is _ _ h4 hK)
      · rw [if_neg hw] at h
        exact wpAnyH_take ho hs h2 h3 (fun c a w => hQ c a _ _ w) (.inr ⟨by simpa using hw, rfl⟩) hS (wpAnyH_seg hs hQ hS is _ _ h4 h)
theorem wpOp_enter {ops : Array Oper} {i : Nat} {o : Oper} {f : FuncId} {args : Array Value} {a : Act} {w : World} {K : Act → World → Prop} {v : Value} {R : World → Prop} (d : Tmp) (hi : ops[i]? = some o) (hd : o.dst = some d) (hg : Region.wanted o (yielded ops a.tmps) = true)
    (hrun : (execOp a.eval o).run P w = .ok (.enter f args) w) (hc : Calls P f args w (fun e w' => e = .returned v ∧ R w')) (h : ∀ w', R w' → K (a.put (some d) v) w') : wpOp P ops Q i K a w := by
  rw [← hd] at h
  unfold wpOp
  simp only [hi, hg, if_true]
  refine .inl ?_
  unfold Oper.wp
  rw [hrun]
  unfold Oper.upon
  exact hc.mono fun e w' ⟨he, hr⟩ => by subst he; exact h _ hr
theorem wpOp_val {ops : Array Oper} {i : Nat} {o : Oper} {a : Act} {w w' : World} {K : Act → World → Prop} {v : Value} (d : Tmp) (hi : ops[i]? = some o) (hd : o.dst = some d) (hg : Region.wanted o (yielded ops a.tmps) = true)
    (hrun : (execOp a.eval o).run P w = .ok (.value v) w') (h : K (a.put (some d) v) w') : wpOp P ops Q i K a w := by
  rw [← hd] at h
  unfold wpOp
  simp only [hi, hg, if_true]
  refine .inl ?_
  unfold Oper.wp
  rw [hrun]
  exact h
/-- One operation alone may come up. -/
theorem wpAnyH_one {ops : Array Oper} {i fuel : Nat} {done : Array Bool} {a : Act} {w : World} (hr : Region.ready md ops done = [i])
    (h : wpOp P ops Q i (fun a' w' => S w' ∧ wpAnyH P md ops Q S fuel (done.setIfInBounds i true) a' w') a w) : wpAnyH P md ops Q S (fuel + 1) done a w :=
  wpAnyH_all hr (by simp) fun j hj => by
    obtain rfl : j = i := by simpa using hj
    exact h
/-- The region: its first list of operations that only read or reckon, then the rest. -/
theorem wp_region_mix {id f : Nat} {a : Act} {w : World} {l : List Oper} (is : List Nat) (hf : is.length + f = l.length) (hm : P.follows .mixedOrders = true) (hs : Region.noSelect l.toArray = true) (hQ : ∀ c a (d : Option Tmp) v w, Q (.panic c) (a.put d v) w → Q (.panic c) a w)
    (hS : S w.drew) (hB : segB .any l.toArray is (Array.replicate l.length false) = true)
    (h : wpQuiet P l.toArray S (fun a' => wpAnyH P .any l.toArray Q S f (doneL is (Array.replicate l.length false)) a' w.drew) (pickL l is) a) : (Code.region id l.toArray true).wp P Q a w := by
  refine wp_region_held (S := S) hm ?_
  show wpAnyH P .any l.toArray Q S l.toArray.size (Array.replicate l.toArray.size false) a w.drew
  have := wpAnyH_seg hs hQ hS is _ a hB h
  rw [hf] at this
  simpa using this
end
end Go.Proofs.Ytbiecpejpkgngaa
