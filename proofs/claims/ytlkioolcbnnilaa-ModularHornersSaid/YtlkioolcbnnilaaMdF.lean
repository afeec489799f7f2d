/-
  Package modular: powers modulo P (the little theorem in use), Inverse, Mix, the statements' awake.
-/
import Derived.Test.YtlkioolcbnnilaaMdL
import Derived.Test.YtlkioolcbnnilaaMdFer
import Derived.WalkKit
namespace Go.Proofs.Ytlkioolcbnnilaa
open Go.RowKit

/-- The power modulo P. -/
def pw (a n : Int) : Int := R (a ^ n.toNat)
theorem pw_ge (a n : Int) : 0 ≤ pw a n := R_ge _
theorem pw_lt (a n : Int) : pw a n < 2305843009213693951 := R_lt _
theorem pw_64 (a n : Int) : pw a n < 18446744073709551616 := R_64 _
theorem pw_add (a : Int) {n m : Int} (hn : 0 ≤ n) (hm : 0 ≤ m) : pw a (n + m) = mP (pw a n) (pw a m) := by
  unfold pw mP
  rw [R_mul_left, R_mul_right, ← Int.pow_add, Int.toNat_add hn hm]
theorem pw_one (a : Int) : pw a 1 = R a := by
  unfold pw; rw [show (1 : Int).toNat = 1 from rfl, Int.pow_succ, Int.pow_zero, Int.one_mul]
theorem R_nat (n e : Nat) : R ((n : Int) ^ e) = ((n ^ e % 2305843009213693951 : Nat) : Int) := by
  unfold R; rw [← Int.natCast_pow]; rfl
theorem R_cast (n : Nat) : R (n : Int) = ((n % 2305843009213693951 : Nat) : Int) := rfl
theorem pw_all {a : Int} (h : 0 ≤ a) {n : Int} (hn : n.toNat = Fer.P) : pw a n = R a := by
  obtain ⟨m, rfl⟩ := Int.eq_ofNat_of_zero_le h
  unfold pw
  rw [R_nat, R_cast, Fer.fermat' hn]
theorem pw_inv {a : Int} (h : 0 ≤ a) (hr : ¬ R a = 0) {n : Int} (hn : n.toNat + 1 = Fer.N) : mP a (pw a n) = 1 := by
  obtain ⟨m, rfl⟩ := Int.eq_ofNat_of_zero_le h
  unfold pw mP
  rw [R_mul_right, ← Int.pow_succ', R_nat, Fer.fermat hn (fun e => hr (by rw [R_cast, e]; rfl))]
  rfl
theorem pw_root {a b : Int} (ha : 0 ≤ a) (hb : 0 ≤ b) (h : pw a 17 = pw b 17) : R a = R b := by
  obtain ⟨m, rfl⟩ := Int.eq_ofNat_of_zero_le ha
  obtain ⟨n, rfl⟩ := Int.eq_ofNat_of_zero_le hb
  unfold pw at h
  rw [show (17 : Int).toNat = 17 from rfl, R_nat, R_nat] at h
  rw [R_cast, R_cast, Fer.root17 (Int.ofNat.inj h)]

theorem md_pow' (a n : Int) (w : World) (h0 : 0 ≤ a) (h1 : a < 18446744073709551616) (k0 : 0 ≤ n) (k1 : n < 18446744073709551616) :
    Calls Try.prog 22 #[.int .u64 a, .int .u64 n] w fun e w' => e = .returned (.int .u64 (pw a n)) ∧ w = w' := md_pow a n w h0 h1 k0 k1
theorem md_rpow' (a n : Int) (w : World) (h0 : 0 ≤ a) (h1 : a < 18446744073709551616) (k0 : 0 ≤ n) (k1 : n < 18446744073709551616) :
    Calls Try.prog 23 #[.int .u64 a, .int .u64 n] w fun e w' => e = .returned (.int .u64 (pw a n)) ∧ w = w' := md_rpow a n w h0 h1 k0 k1

theorem md_inv_none (a : Int) (w : World) (h0 : 0 ≤ a) (h1 : a < 18446744073709551616) (hr : R a = 0) :
    Calls Try.prog 24 #[.int .u64 a] w fun e w' => e = .returned (.tuple #[.int .u64 0, .iface 34 (.int .i64 1)]) ∧ w = w' := by
  have HR := Lib.hid (fun w => hr ▸ md_reduce a w h0 h1)
  clear hr
  go_enter Try.func24, Try.ntmps24
  go_wp2_with (go_at_call 14; with_reducible refine (HR.out _).mono ?_; rintro e w' ⟨rfl, rfl⟩)
  go_ret2
  exact ⟨rfl, rfl⟩
theorem md_inv (a : Int) (w : World) (h0 : 0 ≤ a) (h1 : a < 18446744073709551616) (hr : ¬ R a = 0) :
    Calls Try.prog 24 #[.int .u64 a] w fun e w' => e = .returned (.tuple #[.int .u64 (pw a 2305843009213693949), .nilIface]) ∧ w = w' := by
  have HR := Lib.hid (fun w => md_reduce a w h0 h1)
  have HP := Lib.hid (fun w => md_pow' a 2305843009213693949 w h0 h1 (by omega) (by omega))
  go_enter Try.func24, Try.ntmps24
  go_wp2_with (first | (go_at_call 14; with_reducible refine (HR.out _).mono ?_; rintro e w' ⟨rfl, rfl⟩) | (go_at_call 22; with_reducible refine (HP.out _).mono ?_; rintro e w' ⟨rfl, rfl⟩))
  go_ret2
  exact ⟨rfl, rfl⟩

/-- Mix's value. -/
def lin (k x y : Int) : Int := aP k (aP (mP 1234567890123456789 x) (mP 987654321987654321 y))
def mx (k x y : Int) : Int := pw (lin k x y) 17
theorem md_mix (k x y : Int) (w : World) (h0 : 0 ≤ k) (h1 : k < 18446744073709551616) (x0 : 0 ≤ x) (x1 : x < 18446744073709551616) (y0 : 0 ≤ y) (y1 : y < 18446744073709551616) :
    Calls Try.prog 28 #[.int .u64 k, .int .u64 x, .int .u64 y] w fun e w' => e = .returned (.int .u64 (mx k x y)) ∧ w = w' := by
  have H1 := Lib.hid (fun w => md_mul 1234567890123456789 x w (by omega) (by omega) x0 x1)
  have H2 := Lib.hid (fun w => md_mul 987654321987654321 y w (by omega) (by omega) y0 y1)
  have H3 := Lib.hid (fun w => md_add (mP 1234567890123456789 x) (mP 987654321987654321 y) w (R_ge _) (R_64 _) (R_ge _) (R_64 _))
  have H4 := Lib.hid (fun w => md_add k (aP (mP 1234567890123456789 x) (mP 987654321987654321 y)) w h0 h1 (R_ge _) (R_64 _))
  have H5 := Lib.hid (fun w => md_pow' (aP k (aP (mP 1234567890123456789 x) (mP 987654321987654321 y))) 17 w (R_ge _) (R_64 _) (by omega) (by omega))
  go_enter Try.func28, Try.ntmps28
  go_wp2_with (first | (go_at_call 20; with_reducible refine (H1.out _).mono ?_; rintro e w' ⟨rfl, rfl⟩) | (go_at_call 20; with_reducible refine (H2.out _).mono ?_; rintro e w' ⟨rfl, rfl⟩) | (go_at_call 15; with_reducible refine (H3.out _).mono ?_; rintro e w' ⟨rfl, rfl⟩) | (go_at_call 15; with_reducible refine (H4.out _).mono ?_; rintro e w' ⟨rfl, rfl⟩) | (go_at_call 22; with_reducible refine (H5.out _).mono ?_; rintro e w' ⟨rfl, rfl⟩))
  go_ret
  exact ⟨rfl, rfl⟩
theorem md_rmix (k x y : Int) (w : World) (h0 : 0 ≤ k) (h1 : k < 18446744073709551616) (x0 : 0 ≤ x) (x1 : x < 18446744073709551616) (y0 : 0 ≤ y) (y1 : y < 18446744073709551616) :
    Calls Try.prog 29 #[.int .u64 k, .int .u64 x, .int .u64 y] w fun e w' => e = .returned (.int .u64 (mx k x y)) ∧ w = w' := by
  have H1 := Lib.hid (fun w => md_rmul 1234567890123456789 x w (by omega) (by omega) x0 x1)
  have H2 := Lib.hid (fun w => md_rmul 987654321987654321 y w (by omega) (by omega) y0 y1)
  have H3 := Lib.hid (fun w => md_radd (mP 1234567890123456789 x) (mP 987654321987654321 y) w (R_ge _) (R_64 _) (R_ge _) (R_64 _))
  have H4 := Lib.hid (fun w => md_radd k (aP (mP 1234567890123456789 x) (mP 987654321987654321 y)) w h0 h1 (R_ge _) (R_64 _))
  have H5 := Lib.hid (fun w => md_rpow' (aP k (aP (mP 1234567890123456789 x) (mP 987654321987654321 y))) 17 w (R_ge _) (R_64 _) (by omega) (by omega))
  go_enter Try.func29, Try.ntmps29
  go_wp2_with (first | (go_at_call 21; with_reducible refine (H1.out _).mono ?_; rintro e w' ⟨rfl, rfl⟩) | (go_at_call 21; with_reducible refine (H2.out _).mono ?_; rintro e w' ⟨rfl, rfl⟩) | (go_at_call 16; with_reducible refine (H3.out _).mono ?_; rintro e w' ⟨rfl, rfl⟩) | (go_at_call 16; with_reducible refine (H4.out _).mono ?_; rintro e w' ⟨rfl, rfl⟩) | (go_at_call 23; with_reducible refine (H5.out _).mono ?_; rintro e w' ⟨rfl, rfl⟩))
  go_ret
  exact ⟨rfl, rfl⟩

theorem md_awake (w : World) :
    Calls Try.prog 13 #[] w fun e w' => e = .returned (.bool true) ∧ w = w' := by
  have e1 : aP 2305843009213693950 5 = 4 := by unfold aP R; decide
  have e2 : mP 1152921504606846976 4 = 2 := by unfold mP R; decide
  have H1 := Lib.hid (fun w => e1 ▸ md_add 2305843009213693950 5 w (by omega) (by omega) (by omega) (by omega))
  have H2 := Lib.hid (fun w => e2 ▸ md_mul 1152921504606846976 4 w (by omega) (by omega) (by omega) (by omega))
  clear e1 e2
  go_enter Try.func13, Try.ntmps13
  go_wp2_with (first | (go_at_call 15; with_reducible refine (H1.out _).mono ?_; rintro e w' ⟨rfl, rfl⟩) | (go_at_call 20; with_reducible refine (H2.out _).mono ?_; rintro e w' ⟨rfl, rfl⟩))
  go_ret
  exact ⟨rfl, rfl⟩

/-! ### The errors' helpers -/
theorem ta_errno (n : Int) (w : World) : Sem.run Try.prog (Instr.typeAssert (Value.iface 34 (Value.int IntKind.i64 n)) 30 34 true) w = .ok (.tuple #[.int .i64 n, .bool true]) w := by kernel_rfl
theorem num_some (n : Int) (w : World) :
    Calls Try.prog 31 #[.iface 34 (.int .i64 n)] w fun e w' => e = .returned (.int .i64 n) ∧ w = w' := by
  have ta := fun w => ta_errno n w
  go_enter Try.func31, Try.ntmps31
  go_wp2
  go_ret
  exact ⟨rfl, rfl⟩
theorem is_range (w : World) :
    Calls Try.prog 25 #[.iface 34 (.int .i64 1), .int .i64 1] w fun e w' => e = .returned (.bool true) ∧ w = w' := by
  go_enter Try.func25, Try.ntmps25
  go_wp2_with (go_at_call 31; refine (num_some _ _).mono ?_; rintro e w' ⟨rfl, rfl⟩)
  go_ret
  exact ⟨rfl, rfl⟩
end Go.Proofs.Ytlkioolcbnnilaa
