/-
  Package weight's statements: a weight that came in, read; three of them; '==' on weights.
-/
import Derived.Test.YtgjhlmmhpcbnaaaFr
import Derived.Test.YtgjhlmmhpcbnaaaWtX
import Derived.Laws.StructEq
namespace Go.Proofs.Ytgjhlmmhpcbnaaa
open Go.ChangeShapes Go.WideShapes Go.ChangeAt Go.RowKit
theorem cells_w : Try.prog.cellsOf 27 = 6 := by kernel_rfl
theorem cells_d : Try.prog.cellsOf 25 = 2 := by kernel_rfl
theorem cells_i : Try.prog.cellsOf 3 = 1 := by kernel_rfl
theorem cells_u : Try.prog.cellsOf 23 = 1 := by kernel_rfl
theorem list6 {α : Type} (l : List α) (h : l.length = 6) : ∃ a b c d e f, l = [a, b, c, d, e, f] := by
  match l, h with
  | [a, b, c, d, e, f], _ => exact ⟨a, b, c, d, e, f, rfl⟩
theorem i64_of {x : Int} (h : (Lit.int .i64 x).wf = true) : I64 x := by
  have b := bounds_i64 h
  unfold I64; omega
theorem trod_w {H : Type} {enc : TypeId × Value → H} {W : World} {base : Nat} {spare : Nat → Bool} {held : Bool} {fuel : Nat} {cs : List Value} {x : DataW H × List MemPlace}
    (h : DataW.trod enc Try.prog W base spare held fuel 27 cs = some x) : ∃ r, cs = (wc r).toList ∧ W64 r := by
  obtain ⟨xs, n, _, _, hl, hlen, hf⟩ := DataW.trod_struct Try.underlying27 h
  rw [cells_w] at hl
  obtain ⟨c0, c1, c2, c3, c4, c5, rfl⟩ := list6 cs hl
  have hlen' : xs.length = 5 := hlen
  match xs, hlen' with
  | [y0, y1, y2, y3, y4], _ =>
    have h0 : DataW.trod enc Try.prog W base spare held n 3 ((List.drop 0 [c0, c1, c2, c3, c4, c5]).take (Try.prog.cellsOf 3)) = some y0 := hf 0 _ rfl
    rw [cells_i] at h0
    have h1 : DataW.trod enc Try.prog W base spare held n 3 ((List.drop 1 [c0, c1, c2, c3, c4, c5]).take (Try.prog.cellsOf 3)) = some y1 := hf 1 _ rfl
    rw [cells_i] at h1
    have h2 : DataW.trod enc Try.prog W base spare held n 3 ((List.drop 2 [c0, c1, c2, c3, c4, c5]).take (Try.prog.cellsOf 3)) = some y2 := hf 2 _ rfl
    rw [cells_i] at h2
    have h3 : DataW.trod enc Try.prog W base spare held n 3 ((List.drop 3 [c0, c1, c2, c3, c4, c5]).take (Try.prog.cellsOf 3)) = some y3 := hf 3 _ rfl
    rw [cells_i] at h3
    have h4 : DataW.trod enc Try.prog W base spare held n 25 ((List.drop 4 [c0, c1, c2, c3, c4, c5]).take (Try.prog.cellsOf 25)) = some y4 := hf 4 _ rfl
    rw [cells_d] at h4
    obtain ⟨a0, e0, _, w0⟩ := DataW.trod_int (cs := [c0]) Try.underlying3 h0
    obtain ⟨a1, e1, _, w1⟩ := DataW.trod_int (cs := [c1]) Try.underlying3 h1
    obtain ⟨a2, e2, _, w2⟩ := DataW.trod_int (cs := [c2]) Try.underlying3 h2
    obtain ⟨a3, e3, _, w3⟩ := DataW.trod_int (cs := [c3]) Try.underlying3 h3
    obtain ⟨u0, u1, m, _, _, k0, k1⟩ := trod_struct2 (cs := [c4, c5]) Try.underlying25 h4
    have k0' : DataW.trod enc Try.prog W base spare held m 23 ((List.drop 0 [c4, c5]).take (Try.prog.cellsOf 23)) = some u0 := k0
    have k1' : DataW.trod enc Try.prog W base spare held m 23 ((List.drop 1 [c4, c5]).take (Try.prog.cellsOf 23)) = some u1 := k1
    rw [cells_u] at k0' k1'
    obtain ⟨a4, e4, _, w4⟩ := DataW.trod_int (cs := [c4]) Try.underlying23 k0'
    obtain ⟨a5, e5, _, w5⟩ := DataW.trod_int (cs := [c5]) Try.underlying23 k1'
    simp at e0 e1 e2 e3 e4 e5
    subst e0 e1 e2 e3 e4 e5
    have g4 := bounds_u64 w4
    have g5 := bounds_u64 w5
    exact ⟨⟨a0, a1, a2, a3, (a4, a5)⟩, rfl, i64_of w0, i64_of w1, i64_of w2, i64_of w3, by show 0 ≤ a4; omega, by show a4 < 18446744073709551616; omega, by show 0 ≤ a5; omega, by show a5 < 18446744073709551616; omega⟩
theorem open_w {H : Type} {enc : TypeId × Value → H} {W : World} {base : Nat} {v : Value} {d : DataW H} {p : List MemPlace}
    (hv : Value.okWide Try.prog W .any base 27 v) (h : DataW.Trod enc Try.prog W 0 (fun _ => true) true 27 v d p) :
    ∃ r, v = .agg (wc r) ∧ W64 r := by
  obtain ⟨cs, rfl, hsz, _⟩ : ∃ cs, v = .agg cs ∧ cs.size = Try.prog.cellsOf 27 ∧ Row.okWide Try.prog W .any base 27 cs := by
    simpa [Value.okWide, Try.underlying27] using hv
  obtain ⟨fuel, hf⟩ := h
  obtain ⟨r, hr, hw⟩ := trod_w hf
  refine ⟨r, ?_, hw⟩
  have hr' : cs.toList = (wc r).toList := by simpa [Value.cells] using hr
  rw [Array.toList_inj.1 hr']
/-- Three weights in a row. -/
def wc3 (a b c : Wt) : Array Value := wc a ++ wc b ++ wc c
theorem open_w3 {H : Type} {enc : TypeId × Value → H} {W : World} {base : Nat} {v : Value} {d : DataW H} {p : List MemPlace}
    (hv : Value.okWide Try.prog W .any base 46 v) (h : DataW.Trod enc Try.prog W 0 (fun _ => true) true 46 v d p) :
    ∃ a b c, v = .agg (wc3 a b c) ∧ W64 a ∧ W64 b ∧ W64 c := by
  obtain ⟨cs, rfl, hsz, _⟩ : ∃ cs, v = .agg cs ∧ cs.size = Try.prog.cellsOf 46 ∧ Row.okWide Try.prog W .any base 46 cs := by
    simpa [Value.okWide, Try.underlying46] using hv
  obtain ⟨fuel, hf⟩ := h
  obtain ⟨xs, m, _, _, hl, hlen, he⟩ := DataW.trod_array Try.underlying46 hf
  have hl18 : (Value.agg cs).cells.toList.length = 18 := hl.trans (by kernel_rfl)
  match xs, hlen with
  | [y0, y1, y2], _ =>
    have h0 := he 0 (by omega)
    have h1 := he 1 (by omega)
    have h2 := he 2 (by omega)
    simp only [cells_w, List.getElem?_cons_zero, List.getElem?_cons_succ] at h0 h1 h2
    obtain ⟨a, ea, wa⟩ := trod_w h0
    obtain ⟨b, eb, wb⟩ := trod_w h1
    obtain ⟨c, ec, wc'⟩ := trod_w h2
    refine ⟨a, b, c, ?_, wa, wb, wc'⟩
    have hcs : (Value.agg cs).cells.toList = cs.toList := rfl
    rw [hcs] at ea eb ec hl18
    have : cs.toList = (wc3 a b c).toList := by
      unfold wc3
      rw [Array.toList_append, Array.toList_append, ← ea, ← eb, ← ec]
      obtain ⟨l⟩ := cs
      simp only at hl18 ⊢
      rw [show List.drop (0 * 6) l = l from rfl, show (1 * 6 : Nat) = 6 from rfl, show (2 * 6 : Nat) = 12 from rfl]
      have t3 : (List.drop 12 l).take 6 = List.drop 12 l := List.take_of_length_le (by rw [List.length_drop]; omega)
      rw [t3, List.append_assoc, show List.drop 12 l = List.drop 6 (List.drop 6 l) by rw [List.drop_drop], List.take_append_drop, List.take_append_drop]
    rw [Array.toList_inj.1 this]

/-! ### '==' -/
theorem guard_w : Try.prog.eqGuardType Try.prog.depth 27 = false := by kernel_rfl
theorem equal_w (r : Wt) (w : World) : (Op.equalIn 10000 27 (.agg (wc r)) (.agg (wc r))).run Try.prog w = .ok true w := by
  obtain ⟨a, b, c, d, v, s⟩ := r
  unfold wc
  have i1 := fun (x : Int) => run_equalIn_int (P := Try.prog) w 9998 3 .i64 .i64 x x Try.underlying3
  have i2 := fun (x : Int) => run_equalIn_int (P := Try.prog) w 9997 23 .u64 .u64 x x Try.underlying23
  have hd := run_equalIn_struct (P := Try.prog) w 9998 25 #[.int .u64 v, .int .u64 s] #[.int .u64 v, .int .u64 s] (by kernel_rfl) (by kernel_rfl)
  rw [run_equalIn_struct w 9999 27 _ _ (by kernel_rfl) (by kernel_rfl)]
  go_simp
end Go.Proofs.Ytgjhlmmhpcbnaaa
