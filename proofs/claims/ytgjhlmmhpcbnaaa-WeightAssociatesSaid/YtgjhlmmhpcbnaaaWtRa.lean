/-
  Package weight: the reference's Valid, case by case (a).
-/
import Derived.Test.YtgjhlmmhpcbnaaaWtB
namespace Go.Proofs.Ytgjhlmmhpcbnaaa
open Go.RowKit
set_option linter.unusedVariables false
theorem rv1 (l n h t v s : Int) (w : World) (b1 : I64 l) (b2 : I64 n) (b3 : I64 h) (b4 : I64 t) (f1 : 0 ≤ v) (f2 : v < 18446744073709551616) (c : l < 0) :
    Calls Try.prog 18 #[.agg (wc ⟨l, n, h, t, (v, s)⟩)] w fun e w' => e = .returned (.bool false) ∧ Below w.heap.size w w' := by
  unfold I64 at b1 b2 b3 b4
  have hb := Lib.hid ((Below.refl w.heap.size w).alloc (Nat.le_refl _) (Obj.cells (wc ⟨l, n, h, t, (v, s)⟩) 27))
  unfold wc at *
  go_enter Try.func18, Try.ntmps18
  go_wp2
  go_ret
  exact ⟨rfl, hb.out⟩
theorem rv2 (l n h t v s : Int) (w : World) (b1 : I64 l) (b2 : I64 n) (b3 : I64 h) (b4 : I64 t) (f1 : 0 ≤ v) (f2 : v < 18446744073709551616) (c1 : 0 ≤ l) (c : 1152921504606846976 < l) :
    Calls Try.prog 18 #[.agg (wc ⟨l, n, h, t, (v, s)⟩)] w fun e w' => e = .returned (.bool false) ∧ Below w.heap.size w w' := by
  unfold I64 at b1 b2 b3 b4
  have hb := Lib.hid ((Below.refl w.heap.size w).alloc (Nat.le_refl _) (Obj.cells (wc ⟨l, n, h, t, (v, s)⟩) 27))
  unfold wc at *
  go_enter Try.func18, Try.ntmps18
  go_wp2
  go_ret
  exact ⟨rfl, hb.out⟩
theorem rv3 (l n h t v s : Int) (w : World) (b1 : I64 l) (b2 : I64 n) (b3 : I64 h) (b4 : I64 t) (f1 : 0 ≤ v) (f2 : v < 18446744073709551616) (c1 : 0 ≤ l) (c2 : l ≤ 1152921504606846976) (c : h < 0) :
    Calls Try.prog 18 #[.agg (wc ⟨l, n, h, t, (v, s)⟩)] w fun e w' => e = .returned (.bool false) ∧ Below w.heap.size w w' := by
  unfold I64 at b1 b2 b3 b4
  have hb := Lib.hid ((Below.refl w.heap.size w).alloc (Nat.le_refl _) (Obj.cells (wc ⟨l, n, h, t, (v, s)⟩) 27))
  unfold wc at *
  go_enter Try.func18, Try.ntmps18
  go_wp2
  go_ret
  exact ⟨rfl, hb.out⟩
theorem rv4 (l n h t v s : Int) (w : World) (b1 : I64 l) (b2 : I64 n) (b3 : I64 h) (b4 : I64 t) (f1 : 0 ≤ v) (f2 : v < 18446744073709551616) (c1 : 0 ≤ l) (c2 : l ≤ 1152921504606846976) (c3 : 0 ≤ h) (c : l < h) :
    Calls Try.prog 18 #[.agg (wc ⟨l, n, h, t, (v, s)⟩)] w fun e w' => e = .returned (.bool false) ∧ Below w.heap.size w w' := by
  unfold I64 at b1 b2 b3 b4
  have hb := Lib.hid ((Below.refl w.heap.size w).alloc (Nat.le_refl _) (Obj.cells (wc ⟨l, n, h, t, (v, s)⟩) 27))
  unfold wc at *
  go_enter Try.func18, Try.ntmps18
  go_wp2
  go_ret
  exact ⟨rfl, hb.out⟩
theorem rv5 (l n h t v s : Int) (w : World) (b1 : I64 l) (b2 : I64 n) (b3 : I64 h) (b4 : I64 t) (f1 : 0 ≤ v) (f2 : v < 18446744073709551616) (c1 : 0 ≤ l) (c2 : l ≤ 1152921504606846976) (c3 : 0 ≤ h) (c4 : h ≤ l) (c : t < 0) :
    Calls Try.prog 18 #[.agg (wc ⟨l, n, h, t, (v, s)⟩)] w fun e w' => e = .returned (.bool false) ∧ Below w.heap.size w w' := by
  unfold I64 at b1 b2 b3 b4
  have hb := Lib.hid ((Below.refl w.heap.size w).alloc (Nat.le_refl _) (Obj.cells (wc ⟨l, n, h, t, (v, s)⟩) 27))
  unfold wc at *
  go_enter Try.func18, Try.ntmps18
  go_wp2
  go_ret
  exact ⟨rfl, hb.out⟩
theorem rv6 (l n h t v s : Int) (w : World) (b1 : I64 l) (b2 : I64 n) (b3 : I64 h) (b4 : I64 t) (f1 : 0 ≤ v) (f2 : v < 18446744073709551616) (c1 : 0 ≤ l) (c2 : l ≤ 1152921504606846976) (c3 : 0 ≤ h) (c4 : h ≤ l) (c5 : 0 ≤ t) (c : l < t) :
    Calls Try.prog 18 #[.agg (wc ⟨l, n, h, t, (v, s)⟩)] w fun e w' => e = .returned (.bool false) ∧ Below w.heap.size w w' := by
  unfold I64 at b1 b2 b3 b4
  have hb := Lib.hid ((Below.refl w.heap.size w).alloc (Nat.le_refl _) (Obj.cells (wc ⟨l, n, h, t, (v, s)⟩) 27))
  unfold wc at *
  go_enter Try.func18, Try.ntmps18
  go_wp2
  go_ret
  exact ⟨rfl, hb.out⟩
end Go.Proofs.Ytgjhlmmhpcbnaaa
