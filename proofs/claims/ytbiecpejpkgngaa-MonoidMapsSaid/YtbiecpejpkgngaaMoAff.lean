/-
  Package monoid: affine functions: the methods, the fold and the powers.
-/
import Derived.Test.YtbiecpejpkgngaaMoJ
import Derived.Test.YtbiecpejpkgngaaMoP
namespace Go.Proofs.Ytbiecpejpkgngaa
open Go.RowKit
theorem wpList_newR {ops : Array Oper} {rest : List Oper} {o : Oper} {a : Act} {w : World} {Q : Exit → Act → World → Prop} {t ty : TypeId} {c c' : Array Value} (ht : AggT ty c'.size) (hs : c.size = c'.size) (h1 : c'.all (·.oneCell') = true) (hgd : o.guard = none) (x y : Operand) (ho : o.op = .store ty x y)
    (hx : a.eval x = .pointer (some ⟨w.heap.size, 0, none⟩)) (hy : a.eval y = .agg c') (h : wpList Try.prog ops Q rest (a.put o.dst undef) (w.alloc (.cells c' t))) : wpList Try.prog ops Q (o :: rest) a (w.alloc (.cells c t)) :=
  wpList_storeR ht (Row.new w t c) hs h1 hgd x y ho hx hy (by rw [World.setRow_alloc_new]; exact h)
abbrev U (x : Int) : Int := IntKind.u64.wrap x
theorem U_mod (x : Int) : U x = x % 18446744073709551616 := by simp [U, IntKind.wrap, IntKind.bits, IntKind.signed]
theorem U_mul_left (a b : Int) : U (U a * b) = U (a * b) := by rw [U_mod, U_mod, U_mod, Int.mul_emod, Int.emod_emod, ← Int.mul_emod]
theorem U_mul_right (a b : Int) : U (a * U b) = U (a * b) := by rw [Int.mul_comm, U_mul_left, Int.mul_comm]
theorem U_add_left (a b : Int) : U (U a + b) = U (a + b) := by rw [U_mod, U_mod, U_mod, Int.emod_add_emod]
theorem U_add_right (a b : Int) : U (a + U b) = U (a + b) := by rw [Int.add_comm, U_add_left, Int.add_comm]
def mAff : Mo (Int × Int) where
  j f g := (U (f.1 * g.1), U (U (f.2 * g.1) + g.2))
  e := (1, 0)
  sz _ := 0
  assoc f g h := by
    refine Prod.ext ?_ ?_
    · show U (U (f.1 * g.1) * h.1) = U (f.1 * U (g.1 * h.1))
      rw [U_mul_left, U_mul_right, Int.mul_assoc]
    · show U (U (U (U (f.2 * g.1) + g.2) * h.1) + h.2) = U (U (f.2 * U (g.1 * h.1)) + U (U (g.2 * h.1) + h.2))
      have e1 : U (U (f.2 * g.1) + g.2) = U (f.2 * g.1 + g.2) := U_add_left _ _
      have e2 : U (g.1 * h.1) = U (g.1 * h.1) := rfl
      rw [e1, U_mul_left, U_add_left, U_mul_right, U_add_left, U_add_right, Int.add_left_comm (f.2 * (g.1 * h.1)), U_add_left, Int.add_mul, Int.mul_assoc]
      congr 1; omega
  sz_j _ _ := Nat.zero_le _
  sz_e := rfl
/-- An affine function's two cells. -/
def ac (f : Int × Int) : Array Value := #[.int .u64 f.1, .int .u64 f.2]
theorem aggAffines : AggT 42 0 := ⟨⟨_, Try.underlying42, rfl⟩, by kernel_rfl⟩
theorem aggAffine : AggT 40 2 := ⟨⟨_, Try.underlying40, rfl⟩, by kernel_rfl⟩
theorem aff_method (W : World) : (method 210 42 (.agg #[]) "Join").run Try.prog W = .ok (18, .agg #[]) W := rfl
theorem ac_one (f : Int × Int) : (ac f).all (·.oneCell') = true := by simp [ac]; exact ⟨rfl, rfl⟩
theorem aff_info : (Try.prog.info? 40).map (fun i => (i.zero, i.size)) = some (some (.agg #[.int .u64 0, .int .u64 0]), 2) := by kernel_rfl
theorem aff_zero (w : World) : (zeroValue 40).run Try.prog w = .ok (.agg (ac (0, 0))) w := (zero_of_info aff_info).1 w
theorem affJoin (f g : Int × Int) (w : World) : Calls Try.prog 18 #[.agg #[], .agg (ac f), .agg (ac g)] w fun e w' => e = .returned (.agg (ac (mAff.j f g))) ∧ Below w.heap.size w w' := by
  obtain ⟨a, b⟩ := f
  obtain ⟨c, d⟩ := g
  unfold ac
  go_enter Try.func18, Try.ntmps18
  go_wp2
  go_returns
  exact ⟨rfl, (((Below.refl _ _).alloc (Nat.le_refl _) _).alloc (by simp) _).alloc (by simp; omega) _ |>.alloc (by simp; omega) _⟩
theorem affUnit (w : World) : Calls Try.prog 19 #[.agg #[]] w fun e w' => e = .returned (.agg (ac mAff.e)) ∧ Below w.heap.size w w' := by
  go_enter Try.func19, Try.ntmps19
  go_wp2
  go_returns
  exact ⟨rfl, ((Below.refl _ _).alloc (Nat.le_refl _) _).alloc (by simp) _⟩
end Go.Proofs.Ytbiecpejpkgngaa
