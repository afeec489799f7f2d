/-
  Package weight: the reference's Valid, case by case (b).
-/
import Derived.Test.YtgjhlmmhpcbnaaaWtB
namespace Go.Proofs.Ytgjhlmmhpcbnaaa
open Go.RowKit
set_option linter.unusedVariables false
theorem rv7 (l n h t v s : Int) (w : World) (b1 : I64 l) (b2 : I64 n) (b3 : I64 h) (b4 : I64 t) (f1 : 0 ≤ v) (f2 : v < 18446744073709551616) (c1 : 0 ≤ l) (c2 : l ≤ 1152921504606846976) (c3 : 0 ≤ h) (c4 : h ≤ l) (c5 : 0 ≤ t) (c6 : t ≤ l) (c : n < 0) :
    Calls Try.prog 18 #[.agg (wc ⟨l, n, h, t, (v, s)⟩)] w fun e w' => e = .returned (.bool false) ∧ Below w.heap.size w w' := by
  unfold I64 at b1 b2 b3 b4
  have hb := Lib.hid ((Below.refl w.heap.size w).alloc (Nat.le_refl _) (Obj.cells (wc ⟨l, n, h, t, (v, s)⟩) 27))
  unfold wc at *
  go_enter Try.func18, Try.ntmps18
  go_wp2
  go_ret
  exact ⟨rfl, hb.out⟩
theorem rv8 (l n h t v s : Int) (w : World) (b1 : I64 l) (b2 : I64 n) (b3 : I64 h) (b4 : I64 t) (f1 : 0 ≤ v) (f2 : v < 18446744073709551616) (c1 : 0 ≤ l) (c2 : l ≤ 1152921504606846976) (c3 : 0 ≤ h) (c4 : h ≤ l) (c5 : 0 ≤ t) (c6 : t ≤ l) (c7 : 0 ≤ n) (c : l < n) :
    Calls Try.prog 18 #[.agg (wc ⟨l, n, h, t, (v, s)⟩)] w fun e w' => e = .returned (.bool false) ∧ Below w.heap.size w w' := by
  unfold I64 at b1 b2 b3 b4
  have hb := Lib.hid ((Below.refl w.heap.size w).alloc (Nat.le_refl _) (Obj.cells (wc ⟨l, n, h, t, (v, s)⟩) 27))
  unfold wc at *
  go_enter Try.func18, Try.ntmps18
  go_wp2
  go_ret
  exact ⟨rfl, hb.out⟩
theorem rv9 (l n h t v s : Int) (w : World) (b1 : I64 l) (b2 : I64 n) (b3 : I64 h) (b4 : I64 t) (f1 : 0 ≤ v) (f2 : v < 18446744073709551616) (c1 : 0 ≤ l) (c2 : l ≤ 1152921504606846976) (c3 : 0 ≤ h) (c4 : h ≤ l) (c5 : 0 ≤ t) (c6 : t ≤ l) (c : n = 0) (d : (h == l) = false) :
    Calls Try.prog 18 #[.agg (wc ⟨l, n, h, t, (v, s)⟩)] w fun e w' => e = .returned (.bool false) ∧ Below w.heap.size w w' := by
  unfold I64 at b1 b2 b3 b4
  have hb := Lib.hid ((Below.refl w.heap.size w).alloc (Nat.le_refl _) (Obj.cells (wc ⟨l, n, h, t, (v, s)⟩) 27))
  unfold wc at *
  subst c
  go_enter Try.func18, Try.ntmps18
  go_wp2
  go_ret
  exact ⟨rfl, hb.out⟩
theorem rv10 (l n h t v s : Int) (w : World) (b1 : I64 l) (b2 : I64 n) (b3 : I64 h) (b4 : I64 t) (f1 : 0 ≤ v) (f2 : v < 18446744073709551616) (c1 : 0 ≤ l) (c2 : l ≤ 1152921504606846976) (c5 : 0 ≤ t) (c6 : t ≤ l) (c : n = 0) (d : (t == l) = false) (e : h = l) :
    Calls Try.prog 18 #[.agg (wc ⟨l, n, h, t, (v, s)⟩)] w fun e w' => e = .returned (.bool false) ∧ Below w.heap.size w w' := by
  unfold I64 at b1 b2 b3 b4
  have hb := Lib.hid ((Below.refl w.heap.size w).alloc (Nat.le_refl _) (Obj.cells (wc ⟨l, n, h, t, (v, s)⟩) 27))
  unfold wc at *
  subst c e
  go_enter Try.func18, Try.ntmps18
  go_wp2
  go_ret
  exact ⟨rfl, hb.out⟩
theorem rv11 (l n h t v s : Int) (w : World) (b1 : I64 l) (b2 : I64 n) (b3 : I64 h) (b4 : I64 t) (f1 : 0 ≤ v) (f2 : v < 18446744073709551616) (c1 : 0 ≤ l) (c2 : l ≤ 1152921504606846976) (c3 : 0 ≤ h) (c4 : h ≤ l) (c5 : 0 ≤ t) (c6 : t ≤ l) (c : n = 1) (e : 1 ≤ l) (d : (h + t + 1 == l) = false) :
    Calls Try.prog 18 #[.agg (wc ⟨l, n, h, t, (v, s)⟩)] w fun e w' => e = .returned (.bool false) ∧ Below w.heap.size w w' := by
  unfold I64 at b1 b2 b3 b4
  have hb := Lib.hid ((Below.refl w.heap.size w).alloc (Nat.le_refl _) (Obj.cells (wc ⟨l, n, h, t, (v, s)⟩) 27))
  unfold wc at *
  subst c
  go_enter Try.func18, Try.ntmps18
  go_wp2
  go_ret
  exact ⟨rfl, hb.out⟩
theorem rv12 (l n h t v s : Int) (w : World) (b1 : I64 l) (b2 : I64 n) (b3 : I64 h) (b4 : I64 t) (f1 : 0 ≤ v) (f2 : v < 18446744073709551616) (c1 : 0 ≤ l) (c2 : l ≤ 1152921504606846976) (c3 : 0 ≤ h) (c4 : h ≤ l) (c5 : 0 ≤ t) (c6 : t ≤ l) (c : 2 ≤ n) (c8 : n ≤ l) (d : l < h + t + n) (d1 : (n == 0) = false) (d2 : (n == 1) = false) :
    Calls Try.prog 18 #[.agg (wc ⟨l, n, h, t, (v, s)⟩)] w fun e w' => e = .returned (.bool false) ∧ Below w.heap.size w w' := by
  unfold I64 at b1 b2 b3 b4
  have hb := Lib.hid ((Below.refl w.heap.size w).alloc (Nat.le_refl _) (Obj.cells (wc ⟨l, n, h, t, (v, s)⟩) 27))
  unfold wc at *
  go_enter Try.func18, Try.ntmps18
  go_wp2
  go_ret
  exact ⟨rfl, hb.out⟩
end Go.Proofs.Ytgjhlmmhpcbnaaa
