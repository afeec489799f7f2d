/-
  The contracts of package length in one form each, and awake's.
-/
import Derived.Test.YtfifecdcdhggdaaLen
import Derived.Lib.Hide
namespace Go.Proofs.Ytfifecdcdhggdaa
open Go.RowKit

theorem add_any (a b : Int) (w : World) :
    Calls Try.prog 12 #[.int .i64 a, .int .i64 b] w fun e w' => e = .returned (.tuple #[.int .i64 (addV a b), errv (addC a b)]) ∧ w = w' := by
  unfold addV addC
  cases ha : badL a
  · cases hb : badL b
    · rw [badL_not] at ha hb
      by_cases hl : 1152921504606846976 < a + b
      · simp only [Bool.or_self, Bool.false_eq_true, if_false, if_pos hl]
        exact add_long a b w ha.1 ha.2 hb.1 hb.2 hl
      · simp only [Bool.or_self, Bool.false_eq_true, if_false, if_neg hl]
        exact add_ok a b w ha.1 ha.2 hb.1 hb.2 (by omega)
    · rw [badL_iff] at hb
      exact add_range a b w (by omega)
  · rw [badL_iff] at ha
    exact add_range a b w (by omega)

theorem refadd_any (a b : Int) (w : World) :
    Calls Try.prog 13 #[.int .i64 a, .int .i64 b] w fun e w' => e = .returned (.tuple #[.int .i64 (addV a b), .int .i64 (addC a b)]) ∧ w = w' := by
  unfold addV addC
  cases ha : badL a
  · cases hb : badL b
    · rw [badL_not] at ha hb
      by_cases hl : 1152921504606846976 < a + b
      · simp only [Bool.or_self, Bool.false_eq_true, if_false, if_pos hl]
        exact refadd_long a b w ha.1 ha.2 hb.1 hb.2 hl
      · simp only [Bool.or_self, Bool.false_eq_true, if_false, if_neg hl]
        exact refadd_ok a b w ha.1 ha.2 hb.1 hb.2 (by omega)
    · rw [badL_iff] at hb
      exact refadd_range a b w (by omega)
  · rw [badL_iff] at ha
    exact refadd_range a b w (by omega)

theorem sub_any (a b : Int) (w : World) :
    Calls Try.prog 16 #[.int .i64 a, .int .i64 b] w fun e w' => e = .returned (.tuple #[.int .i64 (subV a b), errv (subC a b)]) ∧ w = w' := by
  unfold subV subC
  cases ha : badL a
  · cases hb : badL b
    · rw [badL_not] at ha hb
      by_cases hl : a < b
      · simp only [Bool.or_self, Bool.false_or, decide_eq_true hl]
        exact sub_range a b w (by omega)
      · simp only [Bool.or_self, decide_eq_false hl, Bool.false_eq_true, if_false]
        exact sub_ok a b w ha.1 ha.2 hb.1 hb.2 (by omega)
    · rw [badL_iff] at hb
      exact sub_range a b w (by omega)
  · rw [badL_iff] at ha
    exact sub_range a b w (by omega)

theorem refsub_any (a b : Int) (w : World) :
    Calls Try.prog 17 #[.int .i64 a, .int .i64 b] w fun e w' => e = .returned (.tuple #[.int .i64 (subV a b), .int .i64 (subC a b)]) ∧ w = w' := by
  unfold subV subC
  cases ha : badL a
  · cases hb : badL b
    · rw [badL_not] at ha hb
      by_cases hl : a < b
      · simp only [Bool.or_self, Bool.false_or, decide_eq_true hl]
        exact refsub_range a b w (by omega)
      · simp only [Bool.or_self, decide_eq_false hl, Bool.false_eq_true, if_false]
        exact refsub_ok a b w ha.1 ha.2 hb.1 hb.2 (by omega)
    · rw [badL_iff] at hb
      exact refsub_range a b w (by omega)
  · rw [badL_iff] at ha
    exact refsub_range a b w (by omega)

theorem mul_top (a k : Int) (h1 : 0 < a) (h5 : k ≤ 1152921504606846976 / a) : a * k ≤ 1152921504606846976 := by
  have h : a * k ≤ a * (1152921504606846976 / a) := Int.mul_le_mul_of_nonneg_left h5 (by omega)
  have h' : a * (1152921504606846976 / a) ≤ 1152921504606846976 := Int.mul_ediv_self_le (by omega)
  omega

theorem mul_any (a k : Int) (w : World) :
    Calls Try.prog 18 #[.int .i64 a, .int .i64 k] w fun e w' => e = .returned (.tuple #[.int .i64 (mulV a k), errv (mulC a k)]) ∧ w = w' := by
  unfold mulV mulC
  cases ha : badL a
  · rw [badL_not] at ha
    by_cases hk : k < 0
    · simp only [Bool.false_or, decide_eq_true hk, if_true]
      exact mul_range a k w (by omega)
    · simp only [Bool.false_or, decide_eq_false hk, Bool.false_eq_true, if_false]
      by_cases h0 : 0 < a
      · by_cases hl : 1152921504606846976 / a < k
        · simp only [if_pos (show 0 < a ∧ 1152921504606846976 / a < k from ⟨h0, hl⟩)]
          exact mul_long a k w h0 ha.2 (by omega) hl
        · simp only [if_neg (show ¬ (0 < a ∧ 1152921504606846976 / a < k) from fun h => hl h.2)]
          exact mul_ok a k w h0 ha.2 (by omega) (by omega) (mul_top a k h0 (by omega)) (Int.mul_nonneg (by omega) (by omega))
      · obtain rfl : a = 0 := by omega
        simp only [if_neg (show ¬ ((0 : Int) < 0 ∧ 1152921504606846976 / 0 < k) from fun h => h0 h.1), Int.zero_mul]
        exact mul_zero 0 k w (by omega) rfl
  · rw [badL_iff] at ha
    exact mul_range a k w (by omega)

theorem refmul_any (a k : Int) (w : World) :
    Calls Try.prog 19 #[.int .i64 a, .int .i64 k] w fun e w' => e = .returned (.tuple #[.int .i64 (mulV a k), .int .i64 (mulC a k)]) ∧ w = w' := by
  unfold mulV mulC
  cases ha : badL a
  · rw [badL_not] at ha
    by_cases hk : k < 0
    · simp only [Bool.false_or, decide_eq_true hk, if_true]
      exact refmul_range a k w (by omega)
    · simp only [Bool.false_or, decide_eq_false hk, Bool.false_eq_true, if_false]
      by_cases h0 : 0 < a
      · by_cases hl : 1152921504606846976 / a < k
        · simp only [if_pos (show 0 < a ∧ 1152921504606846976 / a < k from ⟨h0, hl⟩)]
          exact refmul_long a k w h0 ha.2 (by omega) hl
        · simp only [if_neg (show ¬ (0 < a ∧ 1152921504606846976 / a < k) from fun h => hl h.2)]
          exact refmul_ok a k w h0 ha.2 (by omega) (by omega) (mul_top a k h0 (by omega)) (Int.mul_nonneg (by omega) (by omega))
      · obtain rfl : a = 0 := by omega
        simp only [if_neg (show ¬ ((0 : Int) < 0 ∧ 1152921504606846976 / 0 < k) from fun h => h0 h.1), Int.zero_mul]
        exact refmul_zero 0 k w (by omega) rfl
  · rw [badL_iff] at ha
    exact refmul_range a k w (by omega)

/-! ### Log -/
def logV (n : Int) : Int := if n < 1 then -1 else (Lib.bitLen n.toNat : Int) - 1
theorem bitLen_top (n : Int) (h0 : 1 ≤ n) (h1 : n ≤ 9223372036854775807) : 1 ≤ Lib.bitLen n.toNat ∧ Lib.bitLen n.toNat ≤ 63 := by
  constructor
  · have := Lib.bitLen_half n.toNat (by omega) (by omega); omega
  · exact Lib.bitLen_le _ 63 (by omega) (by omega)

set_option maxHeartbeats 400000 in
theorem log_any (n : Int) (w : World) (h1 : n ≤ 9223372036854775807) :
    Calls Try.prog 22 #[.int .i64 n] w fun e w' => e = .returned (.int .i64 (logV n)) ∧ w = w' := by
  by_cases h : n < 1
  · have e : logV n = -1 := by unfold logV; rw [if_pos h]
    rw [e]
    go_enter Try.func22, Try.ntmps22
    go_wp2
    go_ret
    exact ⟨rfl, rfl⟩
  · have e : logV n = (Lib.bitLen n.toNat : Int) - 1 := by unfold logV; rw [if_neg h]
    obtain ⟨g1, g2⟩ := bitLen_top n (by omega) h1
    have key : ∀ l : Nat, 1 ≤ l → l ≤ 63 → (∀ w : World, Calls Try.prog 30 #[.int .u64 n] w fun e w' => e = .returned (.int .i64 (l : Int)) ∧ w' = w) →
        Calls Try.prog 22 #[.int .i64 n] w fun e w' => e = .returned (.int .i64 ((l : Int) - 1)) ∧ w = w' := by
      intro l g1 g2 hc
      have HC := Lib.hid hc
      clear hc e
      go_enter Try.func22, Try.ntmps22
      go_wp2_with (go_at_call 30; refine (HC.out _).mono ?_; rintro e w' ⟨rfl, rfl⟩)
      go_ret
      exact ⟨rfl, rfl⟩
    rw [e]
    exact key _ g1 g2 fun w => Try.bits_Len n w (by omega) (by omega)

theorem log_five (w : World) : Calls Try.prog 22 #[.int .i64 5] w fun e w' => e = .returned (.int .i64 2) ∧ w = w' :=
  log_any 5 w (by omega)

/-! ### awake -/
set_option maxHeartbeats 400000 in
theorem awake_true (w : World) : Calls Try.prog 14 #[] w fun e w' => e = .returned (.bool true) ∧ w = w' := by
  go_enter Try.func14, Try.ntmps14
  go_wp2_with (first | (go_at_call 12; with_reducible refine (add_ok 3 4 _ (by omega) (by omega) (by omega) (by omega) (by omega)).mono ?_; rintro e w' ⟨rfl, rfl⟩) | (go_at_call 12; with_reducible refine (add_long 1152921504606846976 1 _ (by omega) (by omega) (by omega) (by omega) (by omega)).mono ?_; rintro e w' ⟨rfl, rfl⟩) | (go_at_call 29; with_reducible refine (is_some 2 2 (by omega) rfl _).mono ?_; rintro e w' ⟨rfl, rfl⟩) | (go_at_call 22; with_reducible refine (log_five _).mono ?_; rintro e w' ⟨rfl, rfl⟩))
  go_ret
  exact ⟨rfl, rfl⟩
end Go.Proofs.Ytfifecdcdhggdaa
