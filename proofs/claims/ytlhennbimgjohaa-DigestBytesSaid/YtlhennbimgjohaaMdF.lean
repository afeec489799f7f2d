/-
  Package modular: powers modulo P (the little theorem in use), Inverse, Mix, the statements' awake.
-/
import Derived.Test.YtlhennbimgjohaaMdL
import Derived.Test.YtlhennbimgjohaaMdFer
import Derived.WalkKit
namespace Go.Proofs.Ytlhennbimgjohaa
open Go.RowKit

/-- The power modulo P. -/
def pw (a n : Int) : Int := R (a ^ n.toNat)
theorem pw_ge (a n : Int) : 0 ≤ pw a n := R_ge _
theorem pw_lt (a n : Int) : pw a n < 2305843009213693951 := R_lt _
theorem pw_64 (a n : Int) : pw a n < 18446744073709551616 := R_64 _
theorem pw_add (a : Int) {n m : Int} (hn : 0 ≤ n) (hm : 0 ≤ m) : pw a (n + m) = mP (pw a n) (pw a m) := by
  unfold pw mP
  rw [R_mul_left, R_mul_right, ← Int.pow_add, Int.toNat_add hn hm]
theorem pw_one (a : Int) : pw a 1 = R a := by
  unfold pw; rw [show (1 : Int).toNat = 1 from rfl, Int.pow_succ, Int.pow_zero, Int.one_mul]
theorem R_nat (n e : Nat) : R ((n : Int) ^ e) = ((n ^ e % 2305843009213693951 : Nat) : Int) := by
  unfold R; rw [← Int.natCast_pow]; rfl
theorem R_cast (n : Nat) : R (n : Int) = ((n % 2305843009213693951 : Nat) : Int) := rfl
theorem pw_all {a : Int} (h : 0 ≤ a) {n : Int} (hn : n.toNat = Fer.P) : pw a n = R a := by
  obtain ⟨m, rfl⟩ := Int.eq_ofNat_of_zero_le h
  unfold pw
  rw [R_nat, R_cast, Fer.fermat' hn]
theorem pw_inv {a : Int} (h : 0 ≤ a) (hr : ¬ R a = 0) {n : Int} (hn : n.toNat + 1 = Fer.N) : mP a (pw a n) = 1 := by
  obtain ⟨m, rfl⟩ := Int.eq_ofNat_of_zero_le h
  unfold pw mP
  rw [R_mul_right, ← Int.pow_succ', R_nat, Fer.fermat hn (fun e => hr (by rw [R_cast, e]; rfl))]
  rfl
theorem pw_root {a b : Int} (ha : 0 ≤ a) (hb : 0 ≤ b) (h : pw a 17 = pw b 17) : R a = R b := by
  obtain ⟨m, rfl⟩ := Int.eq_ofNat_of_zero_le ha
  obtain ⟨n, rfl⟩ := Int.eq_ofNat_of_zero_le hb
  unfold pw at h
  rw [show (17 : Int).toNat = 17 from rfl, R_nat, R_nat] at h
  rw [R_cast, R_cast, Fer.root17 (Int.ofNat.inj h)]

theorem md_pow' (a n : Int) (w : World) (h0 : 0 ≤ a) (h1 : a < 18446744073709551616) (k0 : 0 ≤ n) (k1 : n < 18446744073709551616) :
    Calls Try.prog 34 #[.int .u64 a, .int .u64 n] w fun e w' => e = .returned (.int .u64 (pw a n)) ∧ w = w' := md_pow a n w h0 h1 k0 k1
theorem md_inv_none (a : Int) (w : World) (h0 : 0 ≤ a) (h1 : a < 18446744073709551616) (hr : R a = 0) :
    Calls Try.prog 44 #[.int .u64 a] w fun e w' => e = .returned (.tuple #[.int .u64 0, .iface 46 (.int .i64 1)]) ∧ w = w' := by
  have HR := Lib.hid (fun w => hr ▸ md_reduce a w h0 h1)
  clear hr
  go_enter Try.func44, Try.ntmps44
  go_wp2_with (go_at_call 42; with_reducible refine (HR.out _).mono ?_; rintro e w' ⟨rfl, rfl⟩)
  go_ret2
  exact ⟨rfl, rfl⟩
theorem md_inv (a : Int) (w : World) (h0 : 0 ≤ a) (h1 : a < 18446744073709551616) (hr : ¬ R a = 0) :
    Calls Try.prog 44 #[.int .u64 a] w fun e w' => e = .returned (.tuple #[.int .u64 (pw a 2305843009213693949), .nilIface]) ∧ w = w' := by
  have HR := Lib.hid (fun w => md_reduce a w h0 h1)
  have HP := Lib.hid (fun w => md_pow' a 2305843009213693949 w h0 h1 (by omega) (by omega))
  go_enter Try.func44, Try.ntmps44
  go_wp2_with (first | (go_at_call 42; with_reducible refine (HR.out _).mono ?_; rintro e w' ⟨rfl, rfl⟩) | (go_at_call 34; with_reducible refine (HP.out _).mono ?_; rintro e w' ⟨rfl, rfl⟩))
  go_ret2
  exact ⟨rfl, rfl⟩

/-! ### The errors' helpers -/
theorem ta_errno (n : Int) (w : World) : Sem.run Try.prog (Instr.typeAssert (Value.iface 46 (Value.int IntKind.i64 n)) 41 46 true) w = .ok (.tuple #[.int .i64 n, .bool true]) w := by kernel_rfl
theorem num_some (n : Int) (w : World) :
    Calls Try.prog 39 #[.iface 46 (.int .i64 n)] w fun e w' => e = .returned (.int .i64 n) ∧ w = w' := by
  have ta := fun w => ta_errno n w
  go_enter Try.func39, Try.ntmps39
  go_wp2
  go_ret
  exact ⟨rfl, rfl⟩
theorem is_range (w : World) :
    Calls Try.prog 23 #[.iface 46 (.int .i64 1), .int .i64 1] w fun e w' => e = .returned (.bool true) ∧ w = w' := by
  go_enter Try.func23, Try.ntmps23
  go_wp2_with (go_at_call 39; refine (num_some _ _).mono ?_; rintro e w' ⟨rfl, rfl⟩)
  go_ret
  exact ⟨rfl, rfl⟩
end Go.Proofs.Ytlhennbimgjohaa
