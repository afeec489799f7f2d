/-
  Package modular: the loops: the reference's Mul and Pow, and Pow.
-/
import Derived.Test.YtgjhlmmhpcbnaaaMd
import Derived.WalkKit
namespace Go.Proofs.Ytgjhlmmhpcbnaaa
open Go.RowKit

/-- What is left of x above its lowest k bits. -/
def bt (x : Int) (k : Nat) : Int := x / 2 ^ k
theorem two_pow_ge (k : Nat) : (0 : Int) < 2 ^ k := Int.pow_pos (by omega)
theorem bt_zero (x : Int) : bt x 0 = x := by unfold bt; simp
theorem bt_ge {x : Int} (h : 0 ≤ x) (k : Nat) : 0 ≤ bt x k := Int.ediv_nonneg h (Int.le_of_lt (two_pow_ge k))
theorem bt_step (x : Int) (k : Nat) : bt x (k + 1) = bt x k / 2 := by
  unfold bt
  rw [Int.pow_succ, ← Int.ediv_ediv_of_nonneg (Int.le_of_lt (two_pow_ge k))]
theorem bt_le {x : Int} (h : 0 ≤ x) (k : Nat) : bt x k ≤ x := by
  unfold bt
  exact Int.ediv_le_self _ h
theorem bt_none {x : Int} (k : Nat) (h0 : 0 ≤ x) (h : x < 2 ^ k) : bt x k = 0 := Int.ediv_eq_zero_of_lt h0 h
theorem and_one {x : Int} (h0 : 0 ≤ x) (h1 : x < 18446744073709551616) : bits .and .u64 x 1 = x % 2 := by
  obtain ⟨n, rfl⟩ := Int.eq_ofNat_of_zero_le h0
  have h := bits_and_u64_nat n 1 (by omega) (by omega)
  rw [Nat.and_one_is_mod] at h
  exact h

theorem dbl (a t : Int) : aP (R (a * t)) (R (a * t)) = R (a * (t + t)) := by
  unfold aP; rw [R_add_left, R_add_right, Int.mul_add]
theorem dbl1 (a t : Int) : aP (aP (R (a * t)) (R (a * t))) a = R (a * (t + t + 1)) := by
  rw [dbl]; unfold aP; rw [R_add_left, Int.mul_add a (t + t) 1, Int.mul_one]
theorem sqr (a : Int) (e : Nat) : mP (R (a ^ e)) (R (a ^ e)) = R (a ^ (e + e)) := by
  unfold mP; rw [R_mul_left, R_mul_right, Int.pow_add]
theorem sqr1 (a : Int) (e : Nat) : mP (mP (R (a ^ e)) (R (a ^ e))) a = R (a ^ (e + e + 1)) := by
  rw [sqr]; unfold mP; rw [R_mul_left, Int.pow_succ]
theorem R_pow (a : Int) (e : Nat) : R (R a ^ e) = R (a ^ e) := by
  induction e with
  | zero => rw [Int.pow_zero, Int.pow_zero]
  | succ e ih => rw [Int.pow_succ, Int.pow_succ, R_mul_right, ← R_mul_left, ih, R_mul_left]

theorem dbl_odd (n a b : Int) (h : b % 2 = 1) : R (aP n a + aP a a * (b / 2)) = R (n + a * b) := by
  unfold aP
  rw [R_add_left, ← R_add_right, R_mul_left, R_add_right]
  congr 1
  obtain ⟨q, rfl⟩ : ∃ q, b = q + q + 1 := ⟨b / 2, by omega⟩
  rw [show (q + q + 1) / 2 = q by omega, Int.add_mul, Int.mul_add, Int.mul_add, Int.mul_one]; omega
theorem dbl_even (n a b : Int) (h : b % 2 = 0) : R (n + aP a a * (b / 2)) = R (n + a * b) := by
  unfold aP
  rw [← R_add_right, R_mul_left, R_add_right]
  congr 1
  obtain ⟨q, rfl⟩ : ∃ q, b = q + q := ⟨b / 2, by omega⟩
  rw [show (q + q) / 2 = q by omega, Int.add_mul, Int.mul_add]
theorem sq_pow (s : Int) (k : Nat) : (s * s) ^ k = s ^ (2 * k) := by
  rw [Int.pow_mul]; congr 1; rw [Int.pow_succ, Int.pow_succ, Int.pow_zero, Int.one_mul]
theorem pow_odd (r s : Int) (m : Nat) (h : m % 2 = 1) : R (mP r s * mP s s ^ (m / 2)) = R (r * s ^ m) := by
  unfold mP
  rw [← R_mul_right, R_pow, R_mul_right, R_mul_left, sq_pow, Int.mul_assoc, ← Int.pow_succ', show 2 * (m / 2) + 1 = m by omega]
theorem pow_even (r s : Int) (m : Nat) (h : m % 2 = 0) : R (r * mP s s ^ (m / 2)) = R (r * s ^ m) := by
  unfold mP
  rw [← R_mul_right, R_pow, R_mul_right, sq_pow, show 2 * (m / 2) = m by omega]

theorem md_pow (a n : Int) (w : World) (h0 : 0 ≤ a) (h1 : a < 18446744073709551616) (k0 : 0 ≤ n) (k1 : n < 18446744073709551616) :
    Calls Try.prog 51 #[.int .u64 a, .int .u64 n] w fun e w' => e = .returned (.int .u64 (R (a ^ n.toNat))) ∧ w = w' := by
  obtain ⟨z, hz⟩ : ∃ z, z = R (a ^ n.toNat) := ⟨_, rfl⟩
  rw [← hz]
  have HZ := Lib.hid hz
  have H0 := Lib.hid (And.intro h0 h1)
  have HK := Lib.hid (And.intro k0 k1)
  clear hz
  go_enter Try.func51, Try.ntmps51
  go_wp2
  go_loop [1, 5, 6] (fun n t i => ∃ (m r s : Int), n = .int .u64 m ∧ t = .int .u64 r ∧ i = .int .u64 s ∧ 0 ≤ m ∧ m < 18446744073709551616 ∧ 0 ≤ r ∧ r < 2305843009213693951 ∧ 0 ≤ s ∧ s < 18446744073709551616 ∧ R (r * s ^ m.toNat) = z) (fun n _ _ => (intOf n).toNat)
  case atStart => exact ⟨n, 1, a, rfl, rfl, rfl, HK.out.1, HK.out.2, by omega, by omega, H0.out.1, H0.out.2, by rw [Int.one_mul]; exact HZ.out.symm⟩
  case round =>
    obtain ⟨m, r, s, rfl, rfl, rfl, m0, m1, r0, r1, s0, s1, hr⟩ := hrel
    have HR := Lib.hid hr
    clear hr
    by_cases hm : m = 0
    · subst hm
      have HE := Lib.hid (show r = z by rw [← HR.out, show (0 : Int).toNat = 0 from rfl, Int.pow_zero, Int.mul_one, R_id r0 r1])
      go_wp2
      go_ret
      exact ⟨congrArg (fun x => Ending.returned (.int .u64 x)) HE.out, rfl⟩
    · have hpos : 0 < m := by omega
      clear hm
      have HN := Lib.hid (and_one m0 m1)
      have HA1 := Lib.hid (fun w => md_mul r s w r0 (by omega) s0 s1)
      have HA2 := Lib.hid (fun w => md_mul s s w s0 s1 s0 s1)
      go_wp2_with (first | (go_at_call 49; with_reducible refine (HA1.out _).mono ?_; rintro e w' ⟨rfl, rfl⟩) | (go_at_call 49; with_reducible refine (HA2.out _).mono ?_; rintro e w' ⟨rfl, rfl⟩))
      all_goals
        rename_i hc hw
        rw [HN.out] at hc
      · have hc' : m % 2 = 1 := by simpa using hc
        refine ⟨⟨m / 2, mP r s, mP s s, rfl, rfl, rfl, by omega, by omega, R_ge _, R_lt _, R_ge _, R_64 _, ?_⟩, by simp [intOf]; try omega⟩
        rw [← HR.out, show (m / 2).toNat = m.toNat / 2 by omega, pow_odd _ _ _ (by omega)]
      · have hc' : ¬ m % 2 = 1 := by simpa using hc
        refine ⟨⟨m / 2, r, mP s s, rfl, rfl, rfl, by omega, by omega, r0, r1, R_ge _, R_64 _, ?_⟩, by simp [intOf]; try omega⟩
        rw [← HR.out, show (m / 2).toNat = m.toNat / 2 by omega, pow_even _ _ _ (by omega)]
end Go.Proofs.Ytgjhlmmhpcbnaaa
