/-
  Package modular: the contracts of Reduce, Add, Neg, Sub, Mul, and of the reference's Add, Sub: over the integers, for every argument of the kind.
-/
import Derived.Test.YtgjhlmmhpcbnaaaRows
import Derived.Test.YtgjhlmmhpcbnaaaShelf
import Derived.WalkKit
import Derived.WalkSpells
import Derived.WalkLawsBesides
import Derived.Lib.Hide
namespace Go.Proofs.Ytgjhlmmhpcbnaaa
open Go.RowKit

/-- The remainder, and the functions' values. -/
def R (x : Int) : Int := x % 2305843009213693951
def aP (a b : Int) : Int := R (a + b)
def nP (a : Int) : Int := R (-a)
def sP (a b : Int) : Int := R (a - b)
def mP (a b : Int) : Int := R (a * b)

theorem w64 {x : Int} (h0 : 0 ≤ x) (h1 : x < 18446744073709551616) : IntKind.u64.wrap x = x := by rw [IntKind.wrap_u64]; omega
theorem R_ge (x : Int) : 0 ≤ R x := by unfold R; omega
theorem R_lt (x : Int) : R x < 2305843009213693951 := by unfold R; omega
theorem R_64 (x : Int) : R x < 18446744073709551616 := by unfold R; omega
theorem R_id {x : Int} (h0 : 0 ≤ x) (h1 : x < 2305843009213693951) : R x = x := by unfold R; omega
theorem R_R (x : Int) : R (R x) = R x := by unfold R; omega
theorem R_add_left (x y : Int) : R (R x + y) = R (x + y) := by unfold R; omega
theorem R_add_right (x y : Int) : R (x + R y) = R (x + y) := by unfold R; omega
theorem R_mul_left (x y : Int) : R (R x * y) = R (x * y) := by unfold R; rw [Int.mul_emod, Int.emod_emod, ← Int.mul_emod]
theorem R_mul_right (x y : Int) : R (x * R y) = R (x * y) := by unfold R; rw [Int.mul_emod, Int.emod_emod, ← Int.mul_emod]

theorem md_reduce (a : Int) (w : World) (h0 : 0 ≤ a) (h1 : a < 18446744073709551616) :
    Calls Try.prog 61 #[.int .u64 a] w fun e w' => e = .returned (.int .u64 (R a)) ∧ w = w' := by
  go_enter Try.func61, Try.ntmps61
  go_wp2
  go_ret
  exact ⟨congrArg (fun x => Ending.returned (.int .u64 x)) (by unfold R; omega), rfl⟩

theorem md_add (a b : Int) (w : World) (h0 : 0 ≤ a) (h1 : a < 18446744073709551616) (k0 : 0 ≤ b) (k1 : b < 18446744073709551616) :
    Calls Try.prog 48 #[.int .u64 a, .int .u64 b] w fun e w' => e = .returned (.int .u64 (aP a b)) ∧ w = w' := by
  go_enter Try.func48, Try.ntmps48
  go_wp2
  go_ret
  exact ⟨congrArg (fun x => Ending.returned (.int .u64 x)) (by show _ % _ = _ % _; omega), rfl⟩

theorem mul64_int (x y : Int) (w : World) (h0 : 0 ≤ x) (h1 : x < 18446744073709551616) (k0 : 0 ≤ y) (k1 : y < 18446744073709551616) :
    Calls Try.prog 62 #[.int .u64 x, .int .u64 y] w fun e w' => e = .returned (.tuple #[.int .u64 (x * y / 18446744073709551616), .int .u64 (x * y % 18446744073709551616)]) ∧ w = w' := by
  obtain ⟨m, rfl⟩ := Int.eq_ofNat_of_zero_le h0
  obtain ⟨n, rfl⟩ := Int.eq_ofNat_of_zero_le k0
  refine (Try.bits_Mul64 m n (by omega) (by omega) w).mono ?_
  rintro e w' ⟨rfl, rfl⟩
  exact ⟨rfl, rfl⟩

theorem or_join (h l : Nat) (hh : h < 576460752303423488) (hl : l < 8) : bits .or .u64 ((h : Int) * 8) (l : Int) = (h : Int) * 8 + l := by
  have e : ((h : Int) * 8) = ((h * 8 : Nat) : Int) := by omega
  rw [e, bits_or_u64_nat (h * 8) l (by omega) (by omega)]
  have := Nat.two_pow_add_eq_or_of_lt (i := 3) (show l < 2 ^ 3 from hl) h
  rw [show 2 ^ 3 * h = h * 8 by omega] at this
  rw [← this]; omega

theorem fold_arith {t : Int} (h0 : 0 ≤ t) (h1 : t < 5316911983139663491615228241121378304) :
    bits .or .u64 (IntKind.u64.wrap (t / 18446744073709551616 * 8)) (t % 18446744073709551616 / 2305843009213693952) = t / 2305843009213693952 ∧
    bits .and .u64 (t % 18446744073709551616) 2305843009213693951 = t % 2305843009213693952 := by
  obtain ⟨n, rfl⟩ := Int.eq_ofNat_of_zero_le h0
  constructor
  · have h := or_join (n / 18446744073709551616) (n % 18446744073709551616 / 2305843009213693952) (by omega) (by omega)
    have e1 : ((n / 18446744073709551616 : Nat) : Int) = (n : Int) / 18446744073709551616 := by omega
    have e2 : ((n % 18446744073709551616 / 2305843009213693952 : Nat) : Int) = (n : Int) % 18446744073709551616 / 2305843009213693952 := by omega
    rw [e1, e2] at h
    rw [w64 (by omega) (by omega), h]
    omega
  · have h := bits_and_u64_nat (n % 18446744073709551616) 2305843009213693951 (by omega) (by omega)
    rw [Nat.and_two_pow_sub_one_eq_mod _ 61] at h
    have e1 : ((n % 18446744073709551616 : Nat) : Int) = (n : Int) % 18446744073709551616 := by omega
    rw [← e1]
    refine Eq.trans h ?_
    omega

theorem fold_mod (t : Int) : R (t / 2305843009213693952 + t % 2305843009213693952) = R t := by unfold R; omega

theorem R_prod (a b : Int) : 0 ≤ R a * R b ∧ R a * R b < 5316911983139663491615228241121378304 := by
  have h1 := R_ge a; have h2 := R_ge b; have h3 := R_lt a; have h4 := R_lt b
  refine ⟨Int.mul_nonneg h1 h2, ?_⟩
  have h5 : R a * R b ≤ 2305843009213693950 * 2305843009213693950 := Int.mul_le_mul (by omega) (by omega) h2 (by omega)
  omega

theorem md_mul (a b : Int) (w : World) (h0 : 0 ≤ a) (h1 : a < 18446744073709551616) (k0 : 0 ≤ b) (k1 : b < 18446744073709551616) :
    Calls Try.prog 49 #[.int .u64 a, .int .u64 b] w fun e w' => e = .returned (.int .u64 (mP a b)) ∧ w = w' := by
  have HR := Lib.hid (fun w => md_reduce a w h0 h1)
  have HS := Lib.hid (fun w => md_reduce b w k0 k1)
  have HM := Lib.hid (fun w => mul64_int (R a) (R b) w (R_ge _) (R_64 _) (R_ge _) (R_64 _))
  obtain ⟨t0, t1⟩ := R_prod a b
  have HT := Lib.hid (show mP a b = R (R a * R b) by unfold mP; rw [R_mul_left, R_mul_right])
  obtain ⟨t, ht⟩ : ∃ t, t = R a * R b := ⟨_, rfl⟩
  rw [← ht] at t0 t1 HT HM
  have HX := Lib.hid (fold_arith t0 t1).1
  have HY := Lib.hid (fold_arith t0 t1).2
  have HA := Lib.hid (fun w => md_add (t / 2305843009213693952) (t % 2305843009213693952) w (by omega) (by omega) (by omega) (by omega))
  clear ht t0 t1
  go_enter Try.func49, Try.ntmps49
  go_wp2_with (first | (go_at_call 61; with_reducible refine (HR.out _).mono ?_; rintro e w' ⟨rfl, rfl⟩) | (go_at_call 61; with_reducible refine (HS.out _).mono ?_; rintro e w' ⟨rfl, rfl⟩) | (go_at_call 62; with_reducible refine (HM.out _).mono ?_; rintro e w' ⟨rfl, rfl⟩) | (go_at_call 48; rw [HX.out, HY.out]; with_reducible refine (HA.out _).mono ?_; rintro e w' ⟨rfl, rfl⟩))
  go_ret
  exact ⟨congrArg (fun x => Ending.returned (.int .u64 x)) (by show aP _ _ = _; rw [HT.out]; exact fold_mod t), rfl⟩
#print axioms md_mul
end Go.Proofs.Ytgjhlmmhpcbnaaa
