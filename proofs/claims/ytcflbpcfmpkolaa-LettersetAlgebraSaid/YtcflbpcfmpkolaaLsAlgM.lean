/-
  Package letterset: the set algebra over plain numbers, for the statement LettersetAlgebra.
-/
import Derived.Test.YtcflbpcfmpkolaaLsOps
import Derived.Test.YtcflbpcfmpkolaaLsB
namespace Go.Proofs.Ytcflbpcfmpkolaa
open Go.RowKit

theorem word_ext {a b : Nat} (ha : a < 18446744073709551616) (hb : b < 18446744073709551616) (h : ∀ i, i < 64 → a.testBit i = b.testBit i) : a = b := by
  apply Nat.eq_of_testBit_eq; intro i
  by_cases hi : i < 64
  · exact h i hi
  · rw [Nat.testBit_lt_two_pow (Nat.lt_of_lt_of_le ha (Nat.pow_le_pow_right (n := 2) (i := 64) (by decide) (by omega))), Nat.testBit_lt_two_pow (Nat.lt_of_lt_of_le hb (Nat.pow_le_pow_right (n := 2) (i := 64) (by decide) (by omega)))]
theorem lc_ext {s t : Nat → Nat} (hs : Small s) (ht : Small t) (h : ∀ x, x < 256 → bit s x = bit t x) : lc s = lc t := lc_congr fun i hi => word_ext (hs i) (ht i) fun j hj => by
  have := h (64 * i + j) (by omega)
  unfold bit at this
  rwa [show (64 * i + j) / 64 = i by omega, show (64 * i + j) % 64 = j by omega] at this

theorem or_comm_lc {s t : Nat → Nat} (hs : Small s) (ht : Small t) : lc (orW t s) = lc (orW s t) := lc_ext (orW_small ht hs) (orW_small hs ht) fun x _ => by rw [bit_or, bit_or, Bool.or_comm]
theorem and_comm_lc {s t : Nat → Nat} (hs : Small s) (ht : Small t) : lc (andW t s) = lc (andW s t) := lc_ext (andW_small ht) (andW_small hs) fun x _ => by rw [bit_and, bit_and, Bool.and_comm]
theorem not_not_lc {s : Nat → Nat} (hs : Small s) : lc (notW (notW s)) = lc s := lc_ext (notW_small _) hs fun x _ => by rw [bit_not _ (notW_small s), bit_not _ hs, Bool.not_not]
theorem not_or_lc {s t : Nat → Nat} (hs : Small s) (ht : Small t) : lc (andW (notW s) (notW t)) = lc (notW (orW s t)) :=
  lc_ext (andW_small (notW_small s)) (notW_small _) fun x _ => by rw [bit_and, bit_not _ hs, bit_not _ ht, bit_not _ (orW_small hs ht), bit_or, Bool.not_or]
theorem distr_lc {s t u : Nat → Nat} (hs : Small s) (ht : Small t) (hu : Small u) : lc (orW (andW s t) (andW s u)) = lc (andW s (orW t u)) :=
  lc_ext (orW_small (andW_small hs) (andW_small hs)) (andW_small hs) fun x _ => by rw [bit_or, bit_and, bit_and, bit_and, bit_or, Bool.and_or_distrib_left]

theorem cnt_or_and (f g : Nat → Bool) : ∀ n, cnt (fun x => f x || g x) n + cnt (fun x => f x && g x) n = cnt f n + cnt g n
  | 0 => rfl
  | n + 1 => by
    have := cnt_or_and f g n
    have e : (f n || g n).toNat + (f n && g n).toNat = (f n).toNat + (g n).toNat := by cases f n <;> cases g n <;> rfl
    simp only [cnt]; omega
theorem cnt_not (f : Nat → Bool) : ∀ n, cnt f n + cnt (fun x => !f x) n = n
  | 0 => rfl
  | n + 1 => by
    have := cnt_not f n
    have e : (f n).toNat + (!f n).toNat = 1 := by cases f n <;> rfl
    simp only [cnt]; omega
theorem len_or_and (s t : Nat → Nat) : cnt (bit (orW s t)) 256 + cnt (bit (andW s t)) 256 = cnt (bit s) 256 + cnt (bit t) 256 := by
  rw [← cnt_or_and (bit s) (bit t) 256, cnt_congr 256 (fun x _ => bit_or s t x), cnt_congr 256 (fun x _ => bit_and s t x)]
theorem len_not {s : Nat → Nat} (hs : Small s) : cnt (bit s) 256 + cnt (bit (notW s)) 256 = 256 := by
  rw [cnt_congr 256 (fun x _ => bit_not s hs x)]; exact cnt_not _ _
end Go.Proofs.Ytcflbpcfmpkolaa
