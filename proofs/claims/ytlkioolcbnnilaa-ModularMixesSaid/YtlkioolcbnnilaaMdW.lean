/-
  Package modular: the walks of the statements over integers (all of stage 4's but Horner's).
-/
import Derived.Test.YtlkioolcbnnilaaMdF
import Derived.WalkKit
namespace Go.Proofs.Ytlkioolcbnnilaa
open Go.RowKit
theorem ModularReduces_walk (a0 : Int) (w : World) (ba0 : 0 ≤ a0 ∧ a0 < 18446744073709551616) :
    Calls Try.prog 3 #[.int .u64 a0] w fun e w' => e = .returned (.bool true) ∧ w = w' := by
  have HE := Lib.hid (show R a0 = a0 % 2305843009213693951 from rfl)
  have H0 := Lib.hid (fun w => md_reduce a0 w ba0.1 ba0.2)
  go_enter Try.func3, Try.ntmps3
  go_wp2_with (first | (go_at_call 14; with_reducible refine (H0.out _).mono ?_; rintro e w' ⟨rfl, rfl⟩; rw [HE.out]) | (go_at_call 13; with_reducible refine (md_awake _).mono ?_; rintro e w' ⟨rfl, rfl⟩))
  go_ret
  exact ⟨rfl, rfl⟩
theorem ModularAdds_walk (a0 a1 : Int) (w : World) (ba0 : 0 ≤ a0 ∧ a0 < 18446744073709551616) (ba1 : 0 ≤ a1 ∧ a1 < 18446744073709551616) :
    Calls Try.prog 4 #[.int .u64 a0, .int .u64 a1] w fun e w' => e = .returned (.bool true) ∧ w = w' := by
  have hz : sP 0 a0 = nP a0 := by show R _ = R _; rw [Int.zero_sub]
  have H0 := Lib.hid (fun w => md_add a0 a1 w ba0.1 ba0.2 ba1.1 ba1.2)
  have H1 := Lib.hid (fun w => md_sub a0 a1 w ba0.1 ba0.2 ba1.1 ba1.2)
  have H2 := Lib.hid (fun w => md_neg a0 w ba0.1 ba0.2)
  have H3 := Lib.hid (fun w => md_radd a0 a1 w ba0.1 ba0.2 ba1.1 ba1.2)
  have H4 := Lib.hid (fun w => md_rsub a0 a1 w ba0.1 ba0.2 ba1.1 ba1.2)
  have H5 := Lib.hid (fun w => hz ▸ md_rsub 0 a0 w (by omega) (by omega) ba0.1 ba0.2)
  clear hz
  go_enter Try.func4, Try.ntmps4
  go_wp2_with (first | (go_at_call 15; with_reducible refine (H0.out _).mono ?_; rintro e w' ⟨rfl, rfl⟩) | (go_at_call 17; with_reducible refine (H1.out _).mono ?_; rintro e w' ⟨rfl, rfl⟩) | (go_at_call 19; with_reducible refine (H2.out _).mono ?_; rintro e w' ⟨rfl, rfl⟩) | (go_at_call 16; with_reducible refine (H3.out _).mono ?_; rintro e w' ⟨rfl, rfl⟩) | (go_at_call 18; with_reducible refine (H4.out _).mono ?_; rintro e w' ⟨rfl, rfl⟩) | (go_at_call 18; with_reducible refine (H5.out _).mono ?_; rintro e w' ⟨rfl, rfl⟩) | (go_at_call 13; with_reducible refine (md_awake _).mono ?_; rintro e w' ⟨rfl, rfl⟩))
  go_ret
  exact ⟨rfl, rfl⟩
theorem ModularMultiplies_walk (a0 a1 : Int) (w : World) (ba0 : 0 ≤ a0 ∧ a0 < 18446744073709551616) (ba1 : 0 ≤ a1 ∧ a1 < 18446744073709551616) :
    Calls Try.prog 5 #[.int .u64 a0, .int .u64 a1] w fun e w' => e = .returned (.bool true) ∧ w = w' := by
  have H0 := Lib.hid (fun w => md_mul a0 a1 w ba0.1 ba0.2 ba1.1 ba1.2)
  have H1 := Lib.hid (fun w => md_rmul a0 a1 w ba0.1 ba0.2 ba1.1 ba1.2)
  go_enter Try.func5, Try.ntmps5
  go_wp2_with (first | (go_at_call 20; with_reducible refine (H0.out _).mono ?_; rintro e w' ⟨rfl, rfl⟩) | (go_at_call 21; with_reducible refine (H1.out _).mono ?_; rintro e w' ⟨rfl, rfl⟩) | (go_at_call 13; with_reducible refine (md_awake _).mono ?_; rintro e w' ⟨rfl, rfl⟩))
  go_ret
  exact ⟨rfl, rfl⟩
theorem ModularPowers_walk (a0 a1 : Int) (w : World) (ba0 : 0 ≤ a0 ∧ a0 < 18446744073709551616) (ba1 : 0 ≤ a1 ∧ a1 < 18446744073709551616) :
    Calls Try.prog 6 #[.int .u64 a0, .int .u64 a1] w fun e w' => e = .returned (.bool true) ∧ w = w' := by
  have H0 := Lib.hid (fun w => md_pow' a0 a1 w ba0.1 ba0.2 ba1.1 ba1.2)
  have H1 := Lib.hid (fun w => md_rpow' a0 a1 w ba0.1 ba0.2 ba1.1 ba1.2)
  go_enter Try.func6, Try.ntmps6
  go_wp2_with (first | (go_at_call 22; with_reducible refine (H0.out _).mono ?_; rintro e w' ⟨rfl, rfl⟩) | (go_at_call 23; with_reducible refine (H1.out _).mono ?_; rintro e w' ⟨rfl, rfl⟩) | (go_at_call 13; with_reducible refine (md_awake _).mono ?_; rintro e w' ⟨rfl, rfl⟩))
  go_ret
  exact ⟨rfl, rfl⟩
theorem ModularMixes_walk (a0 a1 a2 : Int) (w : World) (ba0 : 0 ≤ a0 ∧ a0 < 18446744073709551616) (ba1 : 0 ≤ a1 ∧ a1 < 18446744073709551616) (ba2 : 0 ≤ a2 ∧ a2 < 18446744073709551616) :
    Calls Try.prog 11 #[.int .u64 a0, .int .u64 a1, .int .u64 a2] w fun e w' => e = .returned (.bool true) ∧ w = w' := by
  have H0 := Lib.hid (fun w => md_mix a0 a1 a2 w ba0.1 ba0.2 ba1.1 ba1.2 ba2.1 ba2.2)
  have H1 := Lib.hid (fun w => md_rmix a0 a1 a2 w ba0.1 ba0.2 ba1.1 ba1.2 ba2.1 ba2.2)
  go_enter Try.func11, Try.ntmps11
  go_wp2_with (first | (go_at_call 28; with_reducible refine (H0.out _).mono ?_; rintro e w' ⟨rfl, rfl⟩) | (go_at_call 29; with_reducible refine (H1.out _).mono ?_; rintro e w' ⟨rfl, rfl⟩) | (go_at_call 13; with_reducible refine (md_awake _).mono ?_; rintro e w' ⟨rfl, rfl⟩))
  go_ret
  exact ⟨rfl, rfl⟩
theorem ModularRing_walk (a0 a1 a2 : Int) (w : World) (ba0 : 0 ≤ a0 ∧ a0 < 18446744073709551616) (ba1 : 0 ≤ a1 ∧ a1 < 18446744073709551616) (ba2 : 0 ≤ a2 ∧ a2 < 18446744073709551616) :
    Calls Try.prog 7 #[.int .u64 a0, .int .u64 a1, .int .u64 a2] w fun e w' => e = .returned (.bool true) ∧ w = w' := by
  have e1 : aP a1 a0 = aP a0 a1 := by unfold aP; rw [Int.add_comm]
  have e2 : mP a1 a0 = mP a0 a1 := by unfold mP; rw [Int.mul_comm]
  have e3 : aP a0 (aP a1 a2) = aP (aP a0 a1) a2 := by unfold aP; rw [R_add_left, R_add_right, Int.add_assoc]
  have e4 : mP a0 (mP a1 a2) = mP (mP a0 a1) a2 := by unfold mP; rw [R_mul_left, R_mul_right, Int.mul_assoc]
  have e5 : aP (mP a0 a1) (mP a0 a2) = mP a0 (aP a1 a2) := by unfold mP aP; rw [R_add_left, R_add_right, R_mul_right, Int.mul_add]
  have H0 := Lib.hid (fun w => md_add a0 a1 w ba0.1 ba0.2 ba1.1 ba1.2)
  have H1 := Lib.hid (fun w => e1 ▸ md_add a1 a0 w ba1.1 ba1.2 ba0.1 ba0.2)
  have H2 := Lib.hid (fun w => md_mul a0 a1 w ba0.1 ba0.2 ba1.1 ba1.2)
  have H3 := Lib.hid (fun w => e2 ▸ md_mul a1 a0 w ba1.1 ba1.2 ba0.1 ba0.2)
  have H4 := Lib.hid (fun w => md_add a1 a2 w ba1.1 ba1.2 ba2.1 ba2.2)
  have H5 := Lib.hid (fun w => md_add (aP a0 a1) a2 w (R_ge _) (R_64 _) ba2.1 ba2.2)
  have H6 := Lib.hid (fun w => e3 ▸ md_add a0 (aP a1 a2) w ba0.1 ba0.2 (R_ge _) (R_64 _))
  have H7 := Lib.hid (fun w => md_mul a1 a2 w ba1.1 ba1.2 ba2.1 ba2.2)
  have H8 := Lib.hid (fun w => md_mul (mP a0 a1) a2 w (R_ge _) (R_64 _) ba2.1 ba2.2)
  have H9 := Lib.hid (fun w => e4 ▸ md_mul a0 (mP a1 a2) w ba0.1 ba0.2 (R_ge _) (R_64 _))
  have H10 := Lib.hid (fun w => md_mul a0 (aP a1 a2) w ba0.1 ba0.2 (R_ge _) (R_64 _))
  have H11 := Lib.hid (fun w => md_mul a0 a2 w ba0.1 ba0.2 ba2.1 ba2.2)
  have H12 := Lib.hid (fun w => e5 ▸ md_add (mP a0 a1) (mP a0 a2) w (R_ge _) (R_64 _) (R_ge _) (R_64 _))
  clear e1 e2 e3 e4 e5
  go_enter Try.func7, Try.ntmps7
  go_wp2_with (first | (go_at_call 15; with_reducible refine (H0.out _).mono ?_; rintro e w' ⟨rfl, rfl⟩) | (go_at_call 15; with_reducible refine (H1.out _).mono ?_; rintro e w' ⟨rfl, rfl⟩) | (go_at_call 20; with_reducible refine (H2.out _).mono ?_; rintro e w' ⟨rfl, rfl⟩) | (go_at_call 20; with_reducible refine (H3.out _).mono ?_; rintro e w' ⟨rfl, rfl⟩) | (go_at_call 15; with_reducible refine (H4.out _).mono ?_; rintro e w' ⟨rfl, rfl⟩) | (go_at_call 15; with_reducible refine (H5.out _).mono ?_; rintro e w' ⟨rfl, rfl⟩) | (go_at_call 15; with_reducible refine (H6.out _).mono ?_; rintro e w' ⟨rfl, rfl⟩) | (go_at_call 20; with_reducible refine (H7.out _).mono ?_; rintro e w' ⟨rfl, rfl⟩) | (go_at_call 20; with_reducible refine (H8.out _).mono ?_; rintro e w' ⟨rfl, rfl⟩) | (go_at_call 20; with_reducible refine (H9.out _).mono ?_; rintro e w' ⟨rfl, rfl⟩) | (go_at_call 20; with_reducible refine (H10.out _).mono ?_; rintro e w' ⟨rfl, rfl⟩) | (go_at_call 20; with_reducible refine (H11.out _).mono ?_; rintro e w' ⟨rfl, rfl⟩) | (go_at_call 15; with_reducible refine (H12.out _).mono ?_; rintro e w' ⟨rfl, rfl⟩) | (go_at_call 13; with_reducible refine (md_awake _).mono ?_; rintro e w' ⟨rfl, rfl⟩))
  go_ret
  exact ⟨rfl, rfl⟩
theorem ModularFermat_walk (a0 a1 a2 : Int) (w : World) (ba0 : 0 ≤ a0 ∧ a0 < 18446744073709551616) (ba1 : 0 ≤ a1 ∧ a1 < 4294967296) (ba2 : 0 ≤ a2 ∧ a2 < 4294967296) :
    Calls Try.prog 9 #[.int .u64 a0, .int .u32 a1, .int .u32 a2] w fun e w' => e = .returned (.bool true) ∧ w = w' := by
  have e1 : pw a0 2305843009213693951 = R a0 := pw_all ba0.1 rfl
  have e2 : pw a0 (a1 + a2) = mP (pw a0 a1) (pw a0 a2) := pw_add a0 ba1.1 ba2.1
  have H0 := Lib.hid (fun w => e1 ▸ md_pow' a0 2305843009213693951 w ba0.1 ba0.2 (by omega) (by omega))
  have H1 := Lib.hid (fun w => md_reduce a0 w ba0.1 ba0.2)
  have H2 := Lib.hid (fun w => md_pow' a0 a1 w ba0.1 ba0.2 ba1.1 (by omega))
  have H3 := Lib.hid (fun w => md_pow' a0 a2 w ba0.1 ba0.2 ba2.1 (by omega))
  have H4 := Lib.hid (fun w => e2 ▸ md_pow' a0 (a1 + a2) w ba0.1 ba0.2 (by omega) (by omega))
  have H5 := Lib.hid (fun w => md_mul (pw a0 a1) (pw a0 a2) w (R_ge _) (R_64 _) (R_ge _) (R_64 _))
  clear e1 e2
  go_enter Try.func9, Try.ntmps9
  go_wp2_with (first | (go_at_call 22; with_reducible refine (H0.out _).mono ?_; rintro e w' ⟨rfl, rfl⟩) | (go_at_call 14; with_reducible refine (H1.out _).mono ?_; rintro e w' ⟨rfl, rfl⟩) | (go_at_call 22; with_reducible refine (H2.out _).mono ?_; rintro e w' ⟨rfl, rfl⟩) | (go_at_call 22; with_reducible refine (H3.out _).mono ?_; rintro e w' ⟨rfl, rfl⟩) | (go_at_call 22; with_reducible refine (H4.out _).mono ?_; rintro e w' ⟨rfl, rfl⟩) | (go_at_call 20; with_reducible refine (H5.out _).mono ?_; rintro e w' ⟨rfl, rfl⟩) | (go_at_call 13; with_reducible refine (md_awake _).mono ?_; rintro e w' ⟨rfl, rfl⟩))
  go_ret
  exact ⟨rfl, rfl⟩
theorem ModularInverts_walk (a0 : Int) (w : World) (ba0 : 0 ≤ a0 ∧ a0 < 18446744073709551616) :
    Calls Try.prog 8 #[.int .u64 a0] w fun e w' => e = .returned (.bool true) ∧ w = w' := by
  by_cases hr : R a0 = 0
  · have H0 := Lib.hid (fun w => md_inv_none a0 w ba0.1 ba0.2 hr)
    have H1 := Lib.hid (fun w => is_range w)
    have hz : a0 % 2305843009213693951 = 0 := hr
    clear hr
    go_enter Try.func8, Try.ntmps8
    go_wp2_with (first | (go_at_call 24; with_reducible refine (H0.out _).mono ?_; rintro e w' ⟨rfl, rfl⟩) | (go_at_call 25; with_reducible refine (H1.out _).mono ?_; rintro e w' ⟨rfl, rfl⟩) | (go_at_call 13; with_reducible refine (md_awake _).mono ?_; rintro e w' ⟨rfl, rfl⟩))
    go_ret
    exact ⟨rfl, rfl⟩
  · have H0 := Lib.hid (fun w => md_inv a0 w ba0.1 ba0.2 hr)
    have h1 := pw_inv (n := 2305843009213693949) ba0.1 hr rfl
    have hlt := pw_lt a0 2305843009213693949
    have hge := pw_ge a0 2305843009213693949
    have hlt' := pw_64 a0 2305843009213693949
    have hz : ¬ a0 % 2305843009213693951 = 0 := hr
    obtain ⟨q, hq⟩ : ∃ q, q = pw a0 2305843009213693949 := ⟨_, rfl⟩
    rw [← hq] at h1 hlt hge H0 hlt'
    have H1 := Lib.hid (fun w => h1 ▸ md_mul a0 q w ba0.1 ba0.2 hge hlt')
    clear hr hq h1
    go_enter Try.func8, Try.ntmps8
    go_wp2_with (first | (go_at_call 24; with_reducible refine (H0.out _).mono ?_; rintro e w' ⟨rfl, rfl⟩) | (go_at_call 20; with_reducible refine (H1.out _).mono ?_; rintro e w' ⟨rfl, rfl⟩) | (go_at_call 13; with_reducible refine (md_awake _).mono ?_; rintro e w' ⟨rfl, rfl⟩))
    go_ret
    exact ⟨rfl, rfl⟩
theorem cancel {c d : Int} (h : R (c * d) = 1) {x y : Int} (e : mP c x = mP c y) : R x = R y := by
  have key : ∀ x, R (d * mP c x) = R x := fun x => by
    unfold mP
    rw [R_mul_right, ← Int.mul_assoc, Int.mul_comm d c, ← R_mul_left, h, Int.one_mul]
  rw [← key x, ← key y, e]
theorem mx_lin {k x y k' x' y' : Int} (h : mx k x y = mx k' x' y') : lin k x y = lin k' x' y' := by
  have := pw_root (R_ge _) (R_ge _) h
  unfold lin aP at *
  rwa [R_R, R_R] at this
theorem mP_of {c x y : Int} (h : R x = R y) : mP c x = mP c y := by
  unfold mP; rw [← R_mul_right, h, R_mul_right]
theorem mx_x (k x y z : Int) : mx k x z = mx k y z ↔ R x = R y := by
  constructor
  · intro h
    have h1 := mx_lin h
    have hx := R_ge (1234567890123456789 * x); have hx' := R_lt (1234567890123456789 * x)
    have hy := R_ge (1234567890123456789 * y); have hy' := R_lt (1234567890123456789 * y)
    refine cancel (c := 1234567890123456789) (d := 2179019607881955056) (by unfold R; decide) ?_
    unfold lin aP mP at h1; unfold mP
    generalize R (1234567890123456789 * x) = p at *
    generalize R (1234567890123456789 * y) = q at *
    generalize R (987654321987654321 * z) = r at *
    unfold R at h1; omega
  · intro h; unfold mx lin; rw [mP_of h]
theorem mx_y (k x y z : Int) : mx k z x = mx k z y ↔ R x = R y := by
  constructor
  · intro h
    have h1 := mx_lin h
    have hx := R_ge (987654321987654321 * x); have hx' := R_lt (987654321987654321 * x)
    have hy := R_ge (987654321987654321 * y); have hy' := R_lt (987654321987654321 * y)
    refine cancel (c := 987654321987654321) (d := 702030373931533610) (by unfold R; decide) ?_
    unfold lin aP mP at h1; unfold mP
    generalize R (987654321987654321 * x) = p at *
    generalize R (987654321987654321 * y) = q at *
    generalize R (1234567890123456789 * z) = r at *
    unfold R at h1; omega
  · intro h; unfold mx lin; rw [mP_of h]
theorem mx_k (x y u v : Int) : mx x u v = mx y u v ↔ R x = R y := by
  constructor
  · intro h
    have h1 := mx_lin h
    unfold lin aP at h1
    generalize R (mP 1234567890123456789 u + mP 987654321987654321 v) = r at *
    unfold R at *; omega
  · intro h
    have e : aP x (aP (mP 1234567890123456789 u) (mP 987654321987654321 v)) = aP y (aP (mP 1234567890123456789 u) (mP 987654321987654321 v)) := by
      unfold aP; rw [← R_add_left x, h, R_add_left]
    unfold mx lin; rw [e]
theorem ModularUnlike_walk (a0 a1 a2 : Int) (w : World) (ba0 : 0 ≤ a0 ∧ a0 < 18446744073709551616) (ba1 : 0 ≤ a1 ∧ a1 < 18446744073709551616) (ba2 : 0 ≤ a2 ∧ a2 < 18446744073709551616) :
    Calls Try.prog 12 #[.int .u64 a0, .int .u64 a1, .int .u64 a2] w fun e w' => e = .returned (.bool true) ∧ w = w' := by
  by_cases hs : R a0 = R a1
  · skip
    have e1 := (mx_x a2 a0 a1 5).2 hs
    have e2 := (mx_y 3 a0 a1 a2).2 hs
    have e3 := (mx_k a0 a1 a2 a2).2 hs
    have H0 := Lib.hid (fun w => md_mix a2 a0 5 w ba2.1 ba2.2 ba0.1 ba0.2 (by omega) (by omega))
    have H1 := Lib.hid (fun w => e1 ▸ md_mix a2 a1 5 w ba2.1 ba2.2 ba1.1 ba1.2 (by omega) (by omega))
    have H2 := Lib.hid (fun w => md_mix 3 a2 a0 w (by omega) (by omega) ba2.1 ba2.2 ba0.1 ba0.2)
    have H3 := Lib.hid (fun w => e2 ▸ md_mix 3 a2 a1 w (by omega) (by omega) ba2.1 ba2.2 ba1.1 ba1.2)
    have H4 := Lib.hid (fun w => md_mix a0 a2 a2 w ba0.1 ba0.2 ba2.1 ba2.2 ba2.1 ba2.2)
    have H5 := Lib.hid (fun w => e3 ▸ md_mix a1 a2 a2 w ba1.1 ba1.2 ba2.1 ba2.2 ba2.1 ba2.2)
    have hs' : a0 % 2305843009213693951 = a1 % 2305843009213693951 := hs
    clear hs e1 e2 e3
    go_enter Try.func12, Try.ntmps12
    go_wp2_with (first | (go_at_call 28; with_reducible refine (H0.out _).mono ?_; rintro e w' ⟨rfl, rfl⟩) | (go_at_call 28; with_reducible refine (H1.out _).mono ?_; rintro e w' ⟨rfl, rfl⟩) | (go_at_call 28; with_reducible refine (H2.out _).mono ?_; rintro e w' ⟨rfl, rfl⟩) | (go_at_call 28; with_reducible refine (H3.out _).mono ?_; rintro e w' ⟨rfl, rfl⟩) | (go_at_call 28; with_reducible refine (H4.out _).mono ?_; rintro e w' ⟨rfl, rfl⟩) | (go_at_call 28; with_reducible refine (H5.out _).mono ?_; rintro e w' ⟨rfl, rfl⟩) | (go_at_call 13; with_reducible refine (md_awake _).mono ?_; rintro e w' ⟨rfl, rfl⟩))
    go_ret
    exact ⟨rfl, rfl⟩
  · skip
    have e1 := fun h => hs ((mx_x a2 a0 a1 5).1 h)
    have e2 := fun h => hs ((mx_y 3 a0 a1 a2).1 h)
    have e3 := fun h => hs ((mx_k a0 a1 a2 a2).1 h)
    have H0 := Lib.hid (fun w => md_mix a2 a0 5 w ba2.1 ba2.2 ba0.1 ba0.2 (by omega) (by omega))
    have H1 := Lib.hid (fun w => md_mix a2 a1 5 w ba2.1 ba2.2 ba1.1 ba1.2 (by omega) (by omega))
    have H2 := Lib.hid (fun w => md_mix 3 a2 a0 w (by omega) (by omega) ba2.1 ba2.2 ba0.1 ba0.2)
    have H3 := Lib.hid (fun w => md_mix 3 a2 a1 w (by omega) (by omega) ba2.1 ba2.2 ba1.1 ba1.2)
    have H4 := Lib.hid (fun w => md_mix a0 a2 a2 w ba0.1 ba0.2 ba2.1 ba2.2 ba2.1 ba2.2)
    have H5 := Lib.hid (fun w => md_mix a1 a2 a2 w ba1.1 ba1.2 ba2.1 ba2.2 ba2.1 ba2.2)
    have hs' : ¬ a0 % 2305843009213693951 = a1 % 2305843009213693951 := hs
    clear hs
    generalize mx a2 a0 5 = m0 at *
    generalize mx a2 a1 5 = m1 at *
    generalize mx 3 a2 a0 = m2 at *
    generalize mx 3 a2 a1 = m3 at *
    generalize mx a0 a2 a2 = m4 at *
    generalize mx a1 a2 a2 = m5 at *
    have e1' : (m0 == m1) = false := by simpa using e1
    have e2' : (m2 == m3) = false := by simpa using e2
    have e3' : (m4 == m5) = false := by simpa using e3
    have hb : (a0 % 2305843009213693951 == a1 % 2305843009213693951) = false := by simpa using hs'
    clear e1 e2 e3 hs'
    go_enter Try.func12, Try.ntmps12
    go_wp2_with (first | (go_at_call 28; with_reducible refine (H0.out _).mono ?_; rintro e w' ⟨rfl, rfl⟩) | (go_at_call 28; with_reducible refine (H1.out _).mono ?_; rintro e w' ⟨rfl, rfl⟩) | (go_at_call 28; with_reducible refine (H2.out _).mono ?_; rintro e w' ⟨rfl, rfl⟩) | (go_at_call 28; with_reducible refine (H3.out _).mono ?_; rintro e w' ⟨rfl, rfl⟩) | (go_at_call 28; with_reducible refine (H4.out _).mono ?_; rintro e w' ⟨rfl, rfl⟩) | (go_at_call 28; with_reducible refine (H5.out _).mono ?_; rintro e w' ⟨rfl, rfl⟩) | (go_at_call 13; with_reducible refine (md_awake _).mono ?_; rintro e w' ⟨rfl, rfl⟩))
    go_ret
    exact ⟨rfl, rfl⟩
end Go.Proofs.Ytlkioolcbnnilaa
