/-
  Package modular: powers modulo P (the little theorem in use), Inverse, Mix, the statements' awake.
-/
import Derived.Test.YtgjhlmmhpcbnaaaMdL
import Derived.WalkKit
namespace Go.Proofs.Ytgjhlmmhpcbnaaa
open Go.RowKit

/-- The power modulo P. -/
def pw (a n : Int) : Int := R (a ^ n.toNat)
theorem pw_ge (a n : Int) : 0 ≤ pw a n := R_ge _
theorem pw_lt (a n : Int) : pw a n < 2305843009213693951 := R_lt _
theorem pw_64 (a n : Int) : pw a n < 18446744073709551616 := R_64 _
theorem pw_add (a : Int) {n m : Int} (hn : 0 ≤ n) (hm : 0 ≤ m) : pw a (n + m) = mP (pw a n) (pw a m) := by
  unfold pw mP
  rw [R_mul_left, R_mul_right, ← Int.pow_add, Int.toNat_add hn hm]
theorem pw_one (a : Int) : pw a 1 = R a := by
  unfold pw; rw [show (1 : Int).toNat = 1 from rfl, Int.pow_succ, Int.pow_zero, Int.one_mul]
theorem md_pow' (a n : Int) (w : World) (h0 : 0 ≤ a) (h1 : a < 18446744073709551616) (k0 : 0 ≤ n) (k1 : n < 18446744073709551616) :
    Calls Try.prog 51 #[.int .u64 a, .int .u64 n] w fun e w' => e = .returned (.int .u64 (pw a n)) ∧ w = w' := md_pow a n w h0 h1 k0 k1
/-! ### The errors' helpers -/
end Go.Proofs.Ytgjhlmmhpcbnaaa
