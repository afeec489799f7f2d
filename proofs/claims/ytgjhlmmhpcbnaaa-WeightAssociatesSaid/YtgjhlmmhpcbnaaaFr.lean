/-
  What a law's frame opens: slices that came in, read as functions; integers and structs.
-/
import Derived.Test.YtgjhlmmhpcbnaaaMo0d
import Derived.ProofKit
import Derived.OpenShut
import Derived.Deep.Strs
import Derived.Deep.SlicePairs
import Derived.Lib.SmallJoins
import Derived.SizedLaws
namespace Go.Proofs.Ytgjhlmmhpcbnaaa
open Go.RowKit Go.ChangeShapes Go.WideShapes Go.Deep
section
variable {w : World} {a : Addr} {z : Nat → Value} {n : Nat}
/-- Cells at an address, as a slice that reads. -/
theorem rd_cells (h : ∀ i, i < n → w.cell? (a.add i) = some (z i)) : Rd w.heap.size w (some a) n z := by
  rcases Nat.eq_zero_or_pos n with h0 | h0
  · exact .inl h0
  · obtain ⟨b, off, spot⟩ := a
    have hspot : spot = none := by simpa [Addr.add] using World.cell?_spot (h 0 h0)
    subst hspot
    have hc : ∀ k, k < n → w.cell? ⟨b, off + k, none⟩ = some (z k) := fun k hk => by rw [← Go.WideShapes.add_plain]; exact h k hk
    exact .inr ⟨b, off, rfl, World.block_lt_of_cell? _ _ (hc 0 h0), hc⟩
/-- A slice of pairs that came in: cells 2 k and 2 k + 1. -/
def Rd2 (B : Nat) (w : World) (A : Option Addr) (n : Nat) (z z' : Nat → Value) : Prop := n = 0 ∨ ∃ b off, A = some ⟨b, off, none⟩ ∧ b < B ∧ ∀ k, k < n → w.cell? ⟨b, off + k * 2, none⟩ = some (z k) ∧ w.cell? ⟨b, off + k * 2 + 1, none⟩ = some (z' k)
theorem rd2_cells {z' : Nat → Value} (h : ∀ i, i < n → w.cell? (a.add (i * 2)) = some (z i) ∧ w.cell? (a.add (i * 2 + 1)) = some (z' i)) : Rd2 w.heap.size w (some a) n z z' := by
  rcases Nat.eq_zero_or_pos n with h0 | h0
  · exact .inl h0
  · obtain ⟨b, off, spot⟩ := a
    have hspot : spot = none := by simpa [Addr.add] using World.cell?_spot (h 0 h0).1
    subst hspot
    have hc : ∀ k, k < n → w.cell? ⟨b, off + k * 2, none⟩ = some (z k) ∧ w.cell? ⟨b, off + k * 2 + 1, none⟩ = some (z' k) := fun k hk => by
      have := h k hk
      rw [Go.WideShapes.add_plain, Go.WideShapes.add_plain, ← Nat.add_assoc] at this; exact this
    exact .inr ⟨b, off, rfl, World.block_lt_of_cell? _ _ (hc 0 h0).1, hc⟩
theorem Rd2.later {B : Nat} {w' : World} {A : Option Addr} {z' : Nat → Value} (h : Rd2 B w A n z z') (hb : Below B w w') : Rd2 B w' A n z z' := by
  rcases h with h | ⟨b, off, hA, hlt, hc⟩
  · exact .inl h
  · exact .inr ⟨b, off, hA, hlt, fun k hk => ⟨(hb.cell (by show b < B; omega)).trans (hc k hk).1, (hb.cell (by show b < B; omega)).trans (hc k hk).2⟩⟩
theorem Rd2.some {B : Nat} {A : Option Addr} {z' : Nat → Value} (h : Rd2 B w A n z z') {k : Nat} (hk : k < n) : ∃ b off, A = .some ⟨b, off, none⟩ ∧ b < B ∧ ∀ k, k < n → w.cell? ⟨b, off + k * 2, none⟩ = .some (z k) ∧ w.cell? ⟨b, off + k * 2 + 1, none⟩ = .some (z' k) := by
  rcases h with h | h
  · omega
  · exact h
end
theorem nat_of_wf {k : IntKind} {x : Int} {m : Nat} (hlo : (Lit.int k x).wf = true → 0 ≤ x ∧ x < m) (h : (Lit.int k x).wf = true) : ∃ n : Nat, x = (n : Int) ∧ n < m := by
  have b := hlo h
  exact ⟨x.toNat, by omega, by omega⟩
end Go.Proofs.Ytgjhlmmhpcbnaaa
