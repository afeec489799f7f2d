/-
  Package letterset: Fold, over plain numbers.
-/
import Derived.Test.YtcflbpcfmpkolaaLsC
namespace Go.Proofs.Ytcflbpcfmpkolaa
open Go.RowKit

def caps : Nat := 134217726
def fold1 (y : Nat) : Nat := (y ||| (y &&& caps) * 4294967296) ||| ((y ||| (y &&& caps) * 4294967296) / 4294967296 &&& caps)
/-- The word 1 of a folded set. -/
def foldW (s : Nat → Nat) : Nat → Nat := fun j => if j = 1 then fold1 (s 1) else s j
/-- A set with the other case of each letter. -/
def foldB (f : Nat → Bool) : Nat → Bool := fun x => f x || (decide (97 ≤ x ∧ x ≤ 122) && f (x - 32)) || (decide (65 ≤ x ∧ x ≤ 90) && f (x + 32))

theorem caps_bit : ∀ j : Fin 64, caps.testBit j.1 = decide (1 ≤ j.1 ∧ j.1 ≤ 26) := by decide +kernel
theorem caps_hi (j : Nat) (h : 64 ≤ j) : caps.testBit j = false := Nat.testBit_lt_two_pow (Nat.lt_of_lt_of_le (show caps < 2 ^ 64 by decide) (Nat.pow_le_pow_right (by decide) h))
theorem caps_at (j : Nat) : caps.testBit j = decide (1 ≤ j ∧ j ≤ 26) := by
  by_cases h : j < 64
  · exact caps_bit ⟨j, h⟩
  · rw [caps_hi j (by omega), decide_eq_false (by omega)]
theorem caps_small : caps < 18446744073709551616 := by decide
theorem and_caps (y : Nat) : y &&& caps ≤ 134217726 := Nat.and_le_right
theorem fold1_small {y : Nat} (h : y < 18446744073709551616) : fold1 y < 18446744073709551616 := by
  unfold fold1
  have := and_caps y
  have := and_caps ((y ||| (y &&& caps) * 4294967296) / 4294967296)
  exact or_small (or_small h (by omega)) (by omega)
theorem fold1_bit (y : Nat) (j : Nat) (hj : j < 64) : (fold1 y).testBit j = (y.testBit j || (decide (33 ≤ j ∧ j ≤ 58) && y.testBit (j - 32)) || (decide (1 ≤ j ∧ j ≤ 26) && y.testBit (j + 32))) := by
  unfold fold1
  rw [show (4294967296 : Nat) = 2 ^ 32 from rfl]
  simp only [Nat.testBit_or, Nat.testBit_and, Nat.testBit_mul_two_pow, Nat.testBit_div_two_pow, caps_at]
  by_cases h1 : 1 ≤ j ∧ j ≤ 26
  · have h2 : ¬ (33 ≤ j ∧ j ≤ 58) := by omega
    have h3 : ¬ (32 ≤ j) := by omega
    simp [h1, h2, h3, show 32 ≤ j + 32 by omega]
    cases y.testBit j <;> cases y.testBit (j + 32) <;> simp [Nat.add_comm]
  · by_cases h2 : 33 ≤ j ∧ j ≤ 58
    · have h3 : 32 ≤ j := by omega
      simp [h1, h2, h3, show 1 ≤ j - 32 by omega, show j - 32 ≤ 26 by omega]
    · have h4 : ¬ (32 ≤ j ∧ 1 ≤ j - 32 ∧ j - 32 ≤ 26) := by omega
      simp [h1, h2]
      intros; omega
theorem foldW_small {s : Nat → Nat} (h : Small s) : Small (foldW s) := fun j => by
  unfold foldW; split
  · exact fold1_small (h 1)
  · exact h j
theorem bit_fold (s : Nat → Nat) (x : Nat) (hx : x < 256) : bit (foldW s) x = foldB (bit s) x := by
  unfold bit foldW foldB
  dsimp only
  by_cases e : x / 64 = 1
  · rw [if_pos e, e, fold1_bit _ _ (by omega)]
    by_cases h1 : 97 ≤ x ∧ x ≤ 122
    · rw [decide_eq_true h1, decide_eq_true (show 33 ≤ x % 64 ∧ x % 64 ≤ 58 by omega), decide_eq_false (show ¬ (1 ≤ x % 64 ∧ x % 64 ≤ 26) by omega), decide_eq_false (show ¬ (65 ≤ x ∧ x ≤ 90) by omega), show (x - 32) / 64 = 1 by omega, show (x - 32) % 64 = x % 64 - 32 by omega]; simp
    · by_cases h2 : 65 ≤ x ∧ x ≤ 90
      · rw [decide_eq_false h1, decide_eq_true h2, decide_eq_true (show 1 ≤ x % 64 ∧ x % 64 ≤ 26 by omega), decide_eq_false (show ¬ (33 ≤ x % 64 ∧ x % 64 ≤ 58) by omega), show (x + 32) / 64 = 1 by omega, show (x + 32) % 64 = x % 64 + 32 by omega]; simp
      · rw [decide_eq_false h1, decide_eq_false h2, decide_eq_false (show ¬ (33 ≤ x % 64 ∧ x % 64 ≤ 58) by omega), decide_eq_false (show ¬ (1 ≤ x % 64 ∧ x % 64 ≤ 26) by omega)]; simp
  · rw [if_neg e, decide_eq_false (show ¬ (97 ≤ x ∧ x ≤ 122) by omega), decide_eq_false (show ¬ (65 ≤ x ∧ x ≤ 90) by omega)]; simp
theorem fold1_twice (y : Nat) (h : y < 18446744073709551616) : fold1 (fold1 y) = fold1 y := by
  apply Nat.eq_of_testBit_eq; intro j
  by_cases hj : j < 64
  · rw [fold1_bit _ j hj, fold1_bit y j hj]
    by_cases h1 : 1 ≤ j ∧ j ≤ 26
    · rw [fold1_bit y (j + 32) (by omega), decide_eq_true h1, decide_eq_false (show ¬ (33 ≤ j ∧ j ≤ 58) by omega), decide_eq_true (show 33 ≤ j + 32 ∧ j + 32 ≤ 58 by omega), decide_eq_false (show ¬ (1 ≤ j + 32 ∧ j + 32 ≤ 26) by omega), show j + 32 - 32 = j by omega]
      cases y.testBit j <;> cases y.testBit (j + 32) <;> rfl
    · by_cases h2 : 33 ≤ j ∧ j ≤ 58
      · rw [fold1_bit y (j - 32) (by omega), decide_eq_false h1, decide_eq_true h2, decide_eq_false (show ¬ (33 ≤ j - 32 ∧ j - 32 ≤ 58) by omega), decide_eq_true (show 1 ≤ j - 32 ∧ j - 32 ≤ 26 by omega), show j - 32 + 32 = j by omega]
        cases y.testBit j <;> cases y.testBit (j - 32) <;> simp
      · rw [decide_eq_false h1, decide_eq_false h2]; simp
  · rw [Nat.testBit_lt_two_pow (Nat.lt_of_lt_of_le (fold1_small (fold1_small h)) (Nat.pow_le_pow_right (n := 2) (i := 64) (by decide) (by omega))), Nat.testBit_lt_two_pow (Nat.lt_of_lt_of_le (fold1_small h) (Nat.pow_le_pow_right (n := 2) (i := 64) (by decide) (by omega)))]
theorem foldW_twice {s : Nat → Nat} (h : Small s) : lc (foldW (foldW s)) = lc (foldW s) := lc_congr fun i _ => by
  unfold foldW; split
  · rw [if_pos rfl, fold1_twice _ (h 1)]
  · rfl
end Go.Proofs.Ytcflbpcfmpkolaa
