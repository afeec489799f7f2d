/-
  Package letterset: how three sets of letters that came in as one array are read, and read again behind the call; the statement LettersetAlgebra's walk with its contracts.
-/
import Derived.Test.YtcflbpcfmpkolaaLsAlg
import Derived.Test.YtcflbpcfmpkolaaLsF
import Derived.Test.YtcflbpcfmpkolaaLsAlgM
namespace Go.Proofs.Ytcflbpcfmpkolaa
open Go.ChangeShapes Go.WideShapes Go.ChangeAt Go.RowKit

theorem algebra_walk (s : Nat → Nat) (x : Nat) (hs : Small s) (hx : x < 256) (w : World) :
    Calls Try.prog 5 #[.agg (lc3 s), .int .u8 x] w fun e w' => e = .returned (.bool true) ∧ Below w.heap.size w w' := by
  obtain ⟨A, hA⟩ : ∃ A, part3 s 0 = A := ⟨_, rfl⟩
  obtain ⟨B, hB⟩ : ∃ B, part3 s 1 = B := ⟨_, rfl⟩
  obtain ⟨C, hC⟩ : ∃ C, part3 s 2 = C := ⟨_, rfl⟩
  have sA : Small A := fun i => by rw [← hA]; exact hs _
  have sB : Small B := fun i => by rw [← hB]; exact hs _
  have sC : Small C := fun i => by rw [← hC]; exact hs _
  have sU := orW_small sA sB
  have sM := andW_small (t := B) sA
  have sD := minusW_small (t := B) sA
  have h3 := fun w => has_any (orW A B) x sU hx w
  rw [bit_or] at h3
  have h4 := fun w => has_any (andW A B) x sM hx w
  rw [bit_and] at h4
  have h5 := fun w => has_any (minusW A B) x sD hx w
  rw [bit_minus _ _ sB] at h5
  have h6 := fun w => has_any (notW A) x (notW_small A) hx w
  rw [bit_not _ sA] at h6
  have c5 := fun w => union_any B A sB sA w
  rw [or_comm_lc sA sB] at c5
  have c6 := fun w => meet_any B A sB sA w
  rw [and_comm_lc sA sB] at c6
  have c7 := fun w => not_any (notW A) (notW_small A) w
  rw [not_not_lc sA] at c7
  have c11 := fun w => meet_any (notW A) (notW B) (notW_small A) (notW_small B) w
  rw [not_or_lc sA sB] at c11
  have c15 := fun w => union_any (andW A B) (andW A C) sM (andW_small sA) w
  rw [distr_lc sA sB sC] at c15
  exact algebra_core s A B C (orW A B) (andW A B) (minusW A B) (notW A) (notW B) (notW (orW A B)) (orW B C) (andW A (orW B C)) (andW A C) x (bit A x) (bit B x) _ _ _ _ _ hA hB hC hx
    (len_or_and A B) (len_not sA) ⟨cnt_le _ _, cnt_le _ _, cnt_le _ _, cnt_le _ _, cnt_le _ _⟩ alive_true
    (fun w => has_any A x sA hx w) (fun w => has_any B x sB hx w) h3 h4 h5 h6
    (fun w => union_any A B sA sB w) (fun w => meet_any A B sA sB w) (fun w => minus_any A B sA sB w) (fun w => not_any A sA w)
    c5 c6 c7 (fun w => not_any B sB w) (fun w => meet_any A (notW B) sA (notW_small B) w) (fun w => not_any (orW A B) sU w) c11
    (fun w => union_any B C sB sC w) (fun w => meet_any A (orW B C) sA (orW_small sB sC) w) (fun w => meet_any A C sA sC w) c15
    (fun w => len_any _ sU w) (fun w => len_any _ sM w) (fun w => len_any _ sA w) (fun w => len_any _ sB w) (fun w => len_any _ (notW_small A) w) w

theorem cells_lets : Try.prog.cellsOf 37 = 12 := by kernel_rfl
theorem lc3_lit (s : Nat → Nat) : lc3 s = #[.int .u64 (s 0 : Nat), .int .u64 (s 1 : Nat), .int .u64 (s 2 : Nat), .int .u64 (s 3 : Nat), .int .u64 (s 4 : Nat), .int .u64 (s 5 : Nat), .int .u64 (s 6 : Nat), .int .u64 (s 7 : Nat), .int .u64 (s 8 : Nat), .int .u64 (s 9 : Nat), .int .u64 (s 10 : Nat), .int .u64 (s 11 : Nat)] := by
  apply Array.ext_getElem?; intro i
  by_cases h : i < 12
  · rw [lc3_at s h]
    have hc : i = 0 ∨ i = 1 ∨ i = 2 ∨ i = 3 ∨ i = 4 ∨ i = 5 ∨ i = 6 ∨ i = 7 ∨ i = 8 ∨ i = 9 ∨ i = 10 ∨ i = 11 := by omega
    rcases hc with rfl | rfl | rfl | rfl | rfl | rfl | rfl | rfl | rfl | rfl | rfl | rfl <;> rfl
  · rw [Array.getElem?_eq_none (by simp [lc3]; omega), Array.getElem?_eq_none (by simp; omega)]
theorem list12 {α : Type} (l : List α) (h : (⟨l⟩ : Array α).size = 12) : ∃ c0 c1 c2 c3 c4 c5 c6 c7 c8 c9 c10 c11, l = [c0, c1, c2, c3, c4, c5, c6, c7, c8, c9, c10, c11] := by
  match l, h with
  | [c0, c1, c2, c3, c4, c5, c6, c7, c8, c9, c10, c11], _ => exact ⟨c0, c1, c2, c3, c4, c5, c6, c7, c8, c9, c10, c11, rfl⟩
theorem trod_lets {H : Type} {enc : TypeId × Value → H} {w : World} {base : Nat} {spare : Nat → Bool} {held : Bool} {fuel : Nat} {c0 c1 c2 c3 c4 c5 c6 c7 c8 c9 c10 c11 : Value} {x : DataW H × List MemPlace}
    (h : DataW.trod enc Try.prog w base spare held fuel 37 [c0, c1, c2, c3, c4, c5, c6, c7, c8, c9, c10, c11] = some x) :
    ∃ y0 y1 y2 n, x = (.agg [y0.1, y1.1, y2.1], y0.2 ++ (y1.2 ++ y2.2)) ∧ DataW.trod enc Try.prog w base spare held n 24 [c0, c1, c2, c3] = some y0 ∧ DataW.trod enc Try.prog w base spare held n 24 [c4, c5, c6, c7] = some y1 ∧ DataW.trod enc Try.prog w base spare held n 24 [c8, c9, c10, c11] = some y2 := by
  cases fuel with
  | zero => simp [DataW.trod] at h
  | succ n =>
    unfold DataW.trod at h
    rw [Try.underlying37] at h
    have r : List.range 3 = [0, 1, 2] := rfl
    simp [r, cells_let] at h
    obtain ⟨_, h⟩ := h
    cases h0 : DataW.trod enc Try.prog w base spare held n 24 [c0, c1, c2, c3] with
    | none => simp [h0] at h
    | some y0 =>
      cases h1 : DataW.trod enc Try.prog w base spare held n 24 [c4, c5, c6, c7] with
      | none => simp [h0, h1] at h
      | some y1 =>
        cases h2 : DataW.trod enc Try.prog w base spare held n 24 [c8, c9, c10, c11] with
        | none => simp [h0, h1, h2] at h
        | some y2 =>
          simp [h0, h1, h2] at h
          exact ⟨y0, y1, y2, n, h.symm, h0, h1, h2⟩
theorem open_four {H : Type} {enc : TypeId × Value → H} {w : World} {base : Nat} {spare : Nat → Bool} {held : Bool} {fuel : Nat} {c0 c1 c2 c3 : Value} {x : DataW H × List MemPlace}
    (h : DataW.trod enc Try.prog w base spare held fuel 24 [c0, c1, c2, c3] = some x) :
    ∃ n0 n1 n2 n3 : Nat, (n0 < 18446744073709551616 ∧ n1 < 18446744073709551616 ∧ n2 < 18446744073709551616 ∧ n3 < 18446744073709551616) ∧ c0 = .int .u64 n0 ∧ c1 = .int .u64 n1 ∧ c2 = .int .u64 n2 ∧ c3 = .int .u64 n3 ∧ x = (.agg [.lit (.int .u64 n0), .lit (.int .u64 n1), .lit (.int .u64 n2), .lit (.int .u64 n3)], []) := by
  obtain ⟨y0, y1, y2, y3, m, hx, hy0, hy1, hy2, hy3⟩ := trod_array4 Try.underlying24 cells_word h
  obtain ⟨x0, e0, rfl, w0⟩ := DataW.trod_int Try.underlying22 hy0
  obtain ⟨x1, e1, rfl, w1⟩ := DataW.trod_int Try.underlying22 hy1
  obtain ⟨x2, e2, rfl, w2⟩ := DataW.trod_int Try.underlying22 hy2
  obtain ⟨x3, e3, rfl, w3⟩ := DataW.trod_int Try.underlying22 hy3
  simp at e0 e1 e2 e3
  subst e0 e1 e2 e3
  obtain ⟨n0, rfl, b0⟩ := nat_of_wf w0
  obtain ⟨n1, rfl, b1⟩ := nat_of_wf w1
  obtain ⟨n2, rfl, b2⟩ := nat_of_wf w2
  obtain ⟨n3, rfl, b3⟩ := nat_of_wf w3
  exact ⟨n0, n1, n2, n3, ⟨b0, b1, b2, b3⟩, rfl, rfl, rfl, rfl, by simpa using hx⟩
def letsD {H : Type} (s : Nat → Nat) : DataW H := .agg [letD (part3 s 0), letD (part3 s 1), letD (part3 s 2)]
theorem open_lets {H : Type} {enc : TypeId × Value → H} {W : World} {base : Nat} {v : Value} {d : DataW H} {p : List MemPlace}
    (hv : Value.okWide Try.prog W .any base 37 v) (h : DataW.Trod enc Try.prog W 0 (fun _ => true) true 37 v d p) :
    ∃ s, Small s ∧ v = .agg (lc3 s) ∧ d = letsD s ∧ p = [] := by
  obtain ⟨cs, rfl, hsz, _⟩ : ∃ cs, v = .agg cs ∧ cs.size = Try.prog.cellsOf 37 ∧ Row.okWide Try.prog W .any base 37 cs := by
    simpa [Value.okWide, Try.underlying37] using hv
  rw [cells_lets] at hsz
  obtain ⟨l⟩ := cs
  obtain ⟨c0, c1, c2, c3, c4, c5, c6, c7, c8, c9, c10, c11, rfl⟩ := list12 l hsz
  obtain ⟨fuel, hf⟩ := h
  obtain ⟨y0, y1, y2, n, hx, hy0, hy1, hy2⟩ := trod_lets hf
  obtain ⟨n0, n1, n2, n3, ⟨b0, b1, b2, b3⟩, rfl, rfl, rfl, rfl, rfl⟩ := open_four hy0
  obtain ⟨n4, n5, n6, n7, ⟨b4, b5, b6, b7⟩, rfl, rfl, rfl, rfl, rfl⟩ := open_four hy1
  obtain ⟨n8, n9, n10, n11, ⟨b8, b9, b10, b11⟩, rfl, rfl, rfl, rfl, rfl⟩ := open_four hy2
  simp only [Prod.mk.injEq] at hx
  obtain ⟨rfl, rfl⟩ := hx
  refine ⟨fun i => [n0, n1, n2, n3, n4, n5, n6, n7, n8, n9, n10, n11].getD i 0, ?_, ?_, rfl, rfl⟩
  · intro i
    have hc : i = 0 ∨ i = 1 ∨ i = 2 ∨ i = 3 ∨ i = 4 ∨ i = 5 ∨ i = 6 ∨ i = 7 ∨ i = 8 ∨ i = 9 ∨ i = 10 ∨ i = 11 ∨ 12 ≤ i := by omega
    rcases hc with rfl | rfl | rfl | rfl | rfl | rfl | rfl | rfl | rfl | rfl | rfl | rfl | h
    case inr.inr.inr.inr.inr.inr.inr.inr.inr.inr.inr.inr =>
      dsimp only
      rw [List.getD_eq_getElem?_getD, List.getElem?_eq_none (by simpa using h)]; decide
    all_goals (dsimp only [List.getD_cons_zero, List.getD_cons_succ]; assumption)
  · rw [lc3_lit]; rfl
theorem shut_lets {H : Type} {enc : TypeId × Value → H} {W : World} {sp : Nat → Bool} {s : Nat → Nat} (hs : Small s) :
    DataW.Trod enc Try.prog W 0 sp true 37 (.agg (lc3 s)) (letsD s) [] := by
  have w : ∀ i, (Lit.int .u64 (s i : Nat)).wf = true := fun i => by have := hs i; simp [Lit.wf, IntKind.min, IntKind.max, IntKind.signed, IntKind.bits]; omega
  rw [lc3_lit]
  exact ⟨3, by simp [DataW.trod, letD, letsD, part3, Value.cells, Try.underlying37, Try.underlying24, Try.underlying22, cells_let, cells_lets, cells_word, w, show List.range 4 = [0, 1, 2, 3] from rfl, show List.range 3 = [0, 1, 2] from rfl]⟩
theorem algebra_walk_int (s : Nat → Nat) (a : Int) (hs : Small s) (h : (Lit.int .u8 a).wf = true) (w : World) :
    Calls Try.prog 5 #[.agg (lc3 s), .int .u8 a] w fun e w' => e = .returned (.bool true) ∧ Below w.heap.size w w' := by
  have b := bounds_u8 h
  obtain ⟨n, rfl, hn⟩ : ∃ n : Nat, a = (n : Int) ∧ n < 256 := ⟨a.toNat, by omega, by omega⟩
  exact algebra_walk s n hs hn w
end Go.Proofs.Ytcflbpcfmpkolaa
