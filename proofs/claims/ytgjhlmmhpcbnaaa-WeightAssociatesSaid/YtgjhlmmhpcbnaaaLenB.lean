/-
  The contracts of package length in one form each, and awake's.
-/
import Derived.Test.YtgjhlmmhpcbnaaaLen
import Derived.Lib.Hide
namespace Go.Proofs.Ytgjhlmmhpcbnaaa
open Go.RowKit

theorem add_any (a b : Int) (w : World) :
    Calls Try.prog 37 #[.int .i64 a, .int .i64 b] w fun e w' => e = .returned (.tuple #[.int .i64 (addV a b), errv (addC a b)]) ∧ w = w' := by
  unfold addV addC
  cases ha : badL a
  · cases hb : badL b
    · rw [badL_not] at ha hb
      by_cases hl : 1152921504606846976 < a + b
      · simp only [Bool.or_self, Bool.false_eq_true, if_false, if_pos hl]
        exact add_long a b w ha.1 ha.2 hb.1 hb.2 hl
      · simp only [Bool.or_self, Bool.false_eq_true, if_false, if_neg hl]
        exact add_ok a b w ha.1 ha.2 hb.1 hb.2 (by omega)
    · rw [badL_iff] at hb
      exact add_range a b w (by omega)
  · rw [badL_iff] at ha
    exact add_range a b w (by omega)

theorem mul_top (a k : Int) (h1 : 0 < a) (h5 : k ≤ 1152921504606846976 / a) : a * k ≤ 1152921504606846976 := by
  have h : a * k ≤ a * (1152921504606846976 / a) := Int.mul_le_mul_of_nonneg_left h5 (by omega)
  have h' : a * (1152921504606846976 / a) ≤ 1152921504606846976 := Int.mul_ediv_self_le (by omega)
  omega

theorem mul_any (a k : Int) (w : World) :
    Calls Try.prog 40 #[.int .i64 a, .int .i64 k] w fun e w' => e = .returned (.tuple #[.int .i64 (mulV a k), errv (mulC a k)]) ∧ w = w' := by
  unfold mulV mulC
  cases ha : badL a
  · rw [badL_not] at ha
    by_cases hk : k < 0
    · simp only [Bool.false_or, decide_eq_true hk, if_true]
      exact mul_range a k w (by omega)
    · simp only [Bool.false_or, decide_eq_false hk, Bool.false_eq_true, if_false]
      by_cases h0 : 0 < a
      · by_cases hl : 1152921504606846976 / a < k
        · simp only [if_pos (show 0 < a ∧ 1152921504606846976 / a < k from ⟨h0, hl⟩)]
          exact mul_long a k w h0 ha.2 (by omega) hl
        · simp only [if_neg (show ¬ (0 < a ∧ 1152921504606846976 / a < k) from fun h => hl h.2)]
          exact mul_ok a k w h0 ha.2 (by omega) (by omega) (mul_top a k h0 (by omega)) (Int.mul_nonneg (by omega) (by omega))
      · obtain rfl : a = 0 := by omega
        simp only [if_neg (show ¬ ((0 : Int) < 0 ∧ 1152921504606846976 / 0 < k) from fun h => h0 h.1), Int.zero_mul]
        exact mul_zero 0 k w (by omega) rfl
  · rw [badL_iff] at ha
    exact mul_range a k w (by omega)

/-! ### Log -/
/-! ### awake -/
end Go.Proofs.Ytgjhlmmhpcbnaaa
