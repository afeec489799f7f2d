/-
  Package letterset: how a set of letters that came in is read, and read again behind the call.
-/
import Derived.Test.YtcflbpcfmpkolaaLs0
import Derived.ProofKit
import Derived.OpenShut
import Derived.ShutString
import Derived.ChangeOld
import Derived.Laws.IdiomArrays
namespace Go.Proofs.Ytcflbpcfmpkolaa
open Go.ChangeShapes Go.WideShapes Go.ChangeAt Go.RowKit

theorem cells_let : Try.prog.cellsOf 24 = 4 := by kernel_rfl
theorem cells_word : Try.prog.cellsOf 22 = 1 := by kernel_rfl
theorem list4 {α : Type} (l : List α) (h : (⟨l⟩ : Array α).size = 4) : ∃ a b c d, l = [a, b, c, d] := by
  match l, h with
  | [a, b, c, d], _ => exact ⟨a, b, c, d, rfl⟩
def letD {H : Type} (s : Nat → Nat) : DataW H := .agg [.lit (.int .u64 (s 0 : Nat)), .lit (.int .u64 (s 1 : Nat)), .lit (.int .u64 (s 2 : Nat)), .lit (.int .u64 (s 3 : Nat))]
theorem nat_of_wf {x : Int} (h : (Lit.int .u64 x).wf = true) : ∃ n : Nat, x = (n : Int) ∧ n < 18446744073709551616 := by
  have b := bounds_u64 h
  exact ⟨x.toNat, by omega, by omega⟩

theorem open_let {H : Type} {enc : TypeId × Value → H} {W : World} {base : Nat} {v : Value} {d : DataW H} {p : List MemPlace}
    (hv : Value.okWide Try.prog W .any base 24 v) (h : DataW.Trod enc Try.prog W 0 (fun _ => true) true 24 v d p) :
    ∃ s, Small s ∧ v = .agg (lc s) ∧ d = letD s ∧ p = [] := by
  obtain ⟨cs, rfl, hsz, _⟩ : ∃ cs, v = .agg cs ∧ cs.size = Try.prog.cellsOf 24 ∧ Row.okWide Try.prog W .any base 24 cs := by
    simpa [Value.okWide, Try.underlying24] using hv
  rw [cells_let] at hsz
  obtain ⟨l⟩ := cs
  obtain ⟨c0, c1, c2, c3, rfl⟩ := list4 l hsz
  obtain ⟨fuel, hf⟩ := h
  obtain ⟨y0, y1, y2, y3, m, hx, hy0, hy1, hy2, hy3⟩ := trod_array4 Try.underlying24 cells_word hf
  obtain ⟨x0, e0, rfl, w0⟩ := DataW.trod_int Try.underlying22 hy0
  obtain ⟨x1, e1, rfl, w1⟩ := DataW.trod_int Try.underlying22 hy1
  obtain ⟨x2, e2, rfl, w2⟩ := DataW.trod_int Try.underlying22 hy2
  obtain ⟨x3, e3, rfl, w3⟩ := DataW.trod_int Try.underlying22 hy3
  simp at e0 e1 e2 e3
  subst e0 e1 e2 e3
  simp only [Prod.mk.injEq] at hx
  obtain ⟨rfl, rfl⟩ := hx
  obtain ⟨n0, rfl, b0⟩ := nat_of_wf w0
  obtain ⟨n1, rfl, b1⟩ := nat_of_wf w1
  obtain ⟨n2, rfl, b2⟩ := nat_of_wf w2
  obtain ⟨n3, rfl, b3⟩ := nat_of_wf w3
  refine ⟨fun i => if i = 0 then n0 else if i = 1 then n1 else if i = 2 then n2 else n3, ?_, rfl, rfl, rfl⟩
  intro i
  dsimp only
  split
  · exact b0
  split
  · exact b1
  split
  · exact b2
  exact b3
theorem shut_let {H : Type} {enc : TypeId × Value → H} {W : World} {sp : Nat → Bool} {s : Nat → Nat} (hs : Small s) :
    DataW.Trod enc Try.prog W 0 sp true 24 (.agg (lc s)) (letD s) [] := by
  have w : ∀ i, (Lit.int .u64 (s i : Nat)).wf = true := fun i => by have := hs i; simp [Lit.wf, IntKind.min, IntKind.max, IntKind.signed, IntKind.bits]; omega
  exact ⟨2, by simp [DataW.trod, lc, letD, Value.cells, Try.underlying24, Try.underlying22, cells_let, cells_word, w, show List.range 4 = [0, 1, 2, 3] from rfl]⟩
end Go.Proofs.Ytcflbpcfmpkolaa
