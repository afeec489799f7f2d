/-
  Package letterset: how many bits a word has: math/bits.OnesCount64, over plain numbers.
-/
import Derived.Test.YtcflbpcfmpkolaaLs0
namespace Go.Proofs.Ytcflbpcfmpkolaa
open Go.RowKit

/-- How many of f 0 .. f (n-1) are true. -/
def cnt (f : Nat → Bool) : Nat → Nat
  | 0 => 0
  | n + 1 => cnt f n + (f n).toNat
theorem cnt_congr {f g : Nat → Bool} : ∀ (n : Nat), (∀ i, i < n → f i = g i) → cnt f n = cnt g n
  | 0, _ => rfl
  | n + 1, h => by rw [cnt, cnt, cnt_congr n fun i hi => h i (by omega), h n (by omega)]
theorem cnt_add (f : Nat → Bool) (a : Nat) : ∀ b, cnt f (a + b) = cnt f a + cnt (fun i => f (a + i)) b
  | 0 => by simp [cnt]
  | b + 1 => by rw [← Nat.add_assoc, cnt, cnt, cnt_add f a b, Nat.add_assoc]
theorem cnt_le (f : Nat → Bool) : ∀ n, cnt f n ≤ n
  | 0 => Nat.le_refl _
  | n + 1 => by have := cnt_le f n; have := Bool.toNat_le (f n); rw [cnt]; omega

theorem and_split (k a b : Nat) : a &&& b = 2 ^ k * (a / 2 ^ k &&& b / 2 ^ k) + (a % 2 ^ k &&& b % 2 ^ k) := by
  rw [← Nat.and_div_two_pow, ← Nat.and_mod_two_pow]; exact (Nat.div_add_mod _ _).symm
theorem and_byte (q r m t : Nat) (hr : r < 256) (ht : t < 256) : (256 * q + r) &&& (256 * m + t) = 256 * (q &&& m) + (r &&& t) := by
  have := and_split 8 (256 * q + r) (256 * m + t)
  rw [this, show (2 : Nat) ^ 8 = 256 from rfl, show (256 * q + r) / 256 = q by omega, show (256 * m + t) / 256 = m by omega, show (256 * q + r) % 256 = r by omega, show (256 * m + t) % 256 = t by omega]

def s1 (m x : Nat) : Nat := (x / 2 &&& m) + (x &&& m)
def s2 (m x : Nat) : Nat := (x / 4 &&& m) + (x &&& m)
def s3 (m x : Nat) : Nat := (x / 16 + x) &&& m
theorem tab1 : ∀ r : Fin 256, ∀ e : Fin 2, (128 * e.1 + r.1 / 2) &&& 85 = (r.1 / 2) &&& 85 := by decide +kernel
theorem tab2 : ∀ r : Fin 256, ∀ e : Fin 4, (64 * e.1 + r.1 / 4) &&& 51 = (r.1 / 4) &&& 51 := by decide +kernel
theorem tab1' : ∀ r : Fin 256, s1 85 r.1 < 256 := by decide +kernel
theorem tab2' : ∀ r : Fin 256, s2 51 r.1 < 256 ∧ s2 51 r.1 % 16 ≤ 6 ∧ s2 51 r.1 / 16 ≤ 6 := by decide +kernel
theorem tab3 : ∀ r : Fin 256, s3 15 (s2 51 (s1 85 r.1)) = cnt (fun i => r.1.testBit i) 8 := by decide +kernel

theorem s1_byte (m x : Nat) : s1 (256 * m + 85) x = 256 * s1 m (x / 256) + s1 85 (x % 256) := by
  obtain ⟨q, hq⟩ : ∃ q, q = x / 256 := ⟨_, rfl⟩
  obtain ⟨r, hr⟩ : ∃ r, r = x % 256 := ⟨_, rfl⟩
  have hr' : r < 256 := by omega
  rw [← hq, ← hr]; unfold s1
  rw [show x / 2 = 256 * (q / 2) + (128 * (q % 2) + r / 2) by omega, show x = 256 * q + r by omega, and_byte _ _ _ _ (by omega) (by omega), and_byte _ _ _ _ hr' (by omega)]
  have := tab1 ⟨r, hr'⟩ ⟨q % 2, by omega⟩
  dsimp only at this
  rw [this]; omega
theorem s2_byte (m x : Nat) : s2 (256 * m + 51) x = 256 * s2 m (x / 256) + s2 51 (x % 256) := by
  obtain ⟨q, hq⟩ : ∃ q, q = x / 256 := ⟨_, rfl⟩
  obtain ⟨r, hr⟩ : ∃ r, r = x % 256 := ⟨_, rfl⟩
  have hr' : r < 256 := by omega
  rw [← hq, ← hr]; unfold s2
  rw [show x / 4 = 256 * (q / 4) + (64 * (q % 4) + r / 4) by omega, show x = 256 * q + r by omega, and_byte _ _ _ _ (by omega) (by omega), and_byte _ _ _ _ hr' (by omega)]
  have := tab2 ⟨r, hr'⟩ ⟨q % 4, by omega⟩
  dsimp only at this
  rw [this]; omega
theorem s3_byte (m q r : Nat) (hq : q % 16 ≤ 6) (hr : r < 256) (h1 : r % 16 ≤ 6) (h2 : r / 16 ≤ 6) : s3 (256 * m + 15) (256 * q + r) = 256 * s3 m q + s3 15 r := by
  unfold s3
  rw [show (256 * q + r) / 16 + (256 * q + r) = 256 * (q / 16 + q) + (16 * (q % 16) + r / 16 + r) by omega, and_byte _ _ _ _ (by omega) (by omega)]
  rw [show (15 : Nat) = 2 ^ 4 - 1 from rfl, Nat.and_two_pow_sub_one_eq_mod, Nat.and_two_pow_sub_one_eq_mod]
  omega
/-- The mask of n bytes t. -/
def mask (t : Nat) : Nat → Nat
  | 0 => 0
  | n + 1 => 256 * mask t n + t
/-- Each byte's count, in that byte. -/
def bytesCnt : Nat → Nat → Nat
  | 0, _ => 0
  | n + 1, x => 256 * bytesCnt n (x / 256) + cnt (fun i => (x % 256).testBit i) 8
theorem s2_nibble : ∀ n x, s2 (mask 51 n) x % 16 ≤ 6
  | 0, x => by simp [mask, s2]
  | n + 1, x => by
    rw [mask, s2_byte]
    have := (tab2' ⟨x % 256, by omega⟩).2.1
    dsimp only at this; omega
theorem steps : ∀ n x, s3 (mask 15 n) (s2 (mask 51 n) (s1 (mask 85 n) x)) = bytesCnt n x
  | 0, x => by simp [mask, s3, bytesCnt]
  | n + 1, x => by
    obtain ⟨r, hr⟩ : ∃ r, r = x % 256 := ⟨_, rfl⟩
    have hr' : r < 256 := by omega
    have t1 := tab1' ⟨r, hr'⟩
    dsimp only at t1
    have t2 := tab2' ⟨s1 85 r, t1⟩
    dsimp only at t2
    have t3 := tab3 ⟨r, hr'⟩
    dsimp only at t3
    rw [mask, mask, mask, s1_byte, ← hr, s2_byte, show (256 * s1 (mask 85 n) (x / 256) + s1 85 r) / 256 = s1 (mask 85 n) (x / 256) by omega, show (256 * s1 (mask 85 n) (x / 256) + s1 85 r) % 256 = s1 85 r by omega,
      s3_byte _ _ _ (s2_nibble _ _) t2.1 t2.2.1 t2.2.2, steps n, t3, bytesCnt, ← hr]
theorem byte_bits (x i : Nat) (h : i < 8) : (x % 256).testBit i = x.testBit i := by
  rw [show (256 : Nat) = 2 ^ 8 from rfl, Nat.testBit_mod_two_pow]; simp [h]
theorem cnt_byte (x n : Nat) : cnt (fun i => x.testBit i) (8 + n) = cnt (fun i => (x % 256).testBit i) 8 + cnt (fun i => (x / 256).testBit i) n := by
  rw [cnt_add]
  congr 1
  · exact cnt_congr _ fun i hi => (byte_bits x i hi).symm
  · refine cnt_congr _ fun i _ => ?_
    rw [show (256 : Nat) = 2 ^ 8 from rfl, Nat.testBit_div_two_pow, Nat.add_comm]
theorem div_of (k A B : Nat) (h : B < k) : (k * A + B) / k = A := by rw [Nat.mul_add_div (by omega), Nat.div_eq_of_lt h]; rfl
def fold8 (y : Nat) : Nat := (y + y / 256 + (y + y / 256) / 65536 + (y + y / 256 + (y + y / 256) / 65536) / 4294967296) % 128
theorem fold8_sum (c0 c1 c2 c3 c4 c5 c6 c7 : Nat) (h0 : c0 ≤ 8) (h1 : c1 ≤ 8) (h2 : c2 ≤ 8) (h3 : c3 ≤ 8) (h4 : c4 ≤ 8) (h5 : c5 ≤ 8) (h6 : c6 ≤ 8) (h7 : c7 ≤ 8) :
    fold8 (256 * (256 * (256 * (256 * (256 * (256 * (256 * (256 * 0 + c7) + c6) + c5) + c4) + c3) + c2) + c1) + c0) = c0 + c1 + c2 + c3 + c4 + c5 + c6 + c7 := by
  have ey : ∀ A, (256 * A + c0) / 256 = A := fun A => div_of 256 A c0 (by omega)
  have ez : ∀ A, (65536 * A + (256 * (c1 + c2) + (c0 + c1))) / 65536 = A := fun A => div_of _ A _ (by omega)
  have eu : ∀ A, (4294967296 * A + (256 * (256 * (256 * (c3 + c4 + c5 + c6) + (c2 + c3 + c4 + c5)) + (c1 + c2 + c3 + c4)) + (c0 + c1 + c2 + c3))) / 4294967296 = A := fun A => div_of _ A _ (by omega)
  unfold fold8
  rw [ey]
  rw [show 256 * (256 * (256 * (256 * (256 * (256 * (256 * (256 * 0 + c7) + c6) + c5) + c4) + c3) + c2) + c1) + c0 + (256 * (256 * (256 * (256 * (256 * (256 * (256 * 0 + c7) + c6) + c5) + c4) + c3) + c2) + c1)
    = 65536 * (256 * (256 * (256 * (256 * (256 * c7 + (c6 + c7)) + (c5 + c6)) + (c4 + c5)) + (c3 + c4)) + (c2 + c3)) + (256 * (c1 + c2) + (c0 + c1)) by clear ey ez eu h0 h1 h2 h3 h4 h5 h6 h7; omega]
  rw [ez]
  rw [show 65536 * (256 * (256 * (256 * (256 * (256 * c7 + (c6 + c7)) + (c5 + c6)) + (c4 + c5)) + (c3 + c4)) + (c2 + c3)) + (256 * (c1 + c2) + (c0 + c1)) + (256 * (256 * (256 * (256 * (256 * c7 + (c6 + c7)) + (c5 + c6)) + (c4 + c5)) + (c3 + c4)) + (c2 + c3))
    = 4294967296 * (256 * (256 * (256 * c7 + (c6 + c7)) + (c5 + c6 + c7)) + (c4 + c5 + c6 + c7)) + (256 * (256 * (256 * (c3 + c4 + c5 + c6) + (c2 + c3 + c4 + c5)) + (c1 + c2 + c3 + c4)) + (c0 + c1 + c2 + c3)) by clear ey ez eu h0 h1 h2 h3 h4 h5 h6 h7; omega]
  rw [eu]
  rw [show 4294967296 * (256 * (256 * (256 * c7 + (c6 + c7)) + (c5 + c6 + c7)) + (c4 + c5 + c6 + c7)) + (256 * (256 * (256 * (c3 + c4 + c5 + c6) + (c2 + c3 + c4 + c5)) + (c1 + c2 + c3 + c4)) + (c0 + c1 + c2 + c3)) + (256 * (256 * (256 * c7 + (c6 + c7)) + (c5 + c6 + c7)) + (c4 + c5 + c6 + c7))
    = 128 * (33554432 * (256 * (256 * (256 * c7 + (c6 + c7)) + (c5 + c6 + c7)) + (c4 + c5 + c6 + c7)) + 2 * (256 * (256 * (c3 + c4 + c5 + c6) + (c2 + c3 + c4 + c5)) + (c1 + c2 + c3 + c4)) + 2 * (256 * (256 * c7 + (c6 + c7)) + (c5 + c6 + c7))) + (c0 + c1 + c2 + c3 + c4 + c5 + c6 + c7) by clear ey ez eu h0 h1 h2 h3 h4 h5 h6 h7; omega]
  rw [Nat.mul_add_mod, Nat.mod_eq_of_lt (by omega)]
theorem bytes_small (c0 c1 c2 c3 c4 c5 c6 c7 : Nat) (h0 : c0 ≤ 8) (h1 : c1 ≤ 8) (h2 : c2 ≤ 8) (h3 : c3 ≤ 8) (h4 : c4 ≤ 8) (h5 : c5 ≤ 8) (h6 : c6 ≤ 8) (h7 : c7 ≤ 8) :
    256 * (256 * (256 * (256 * (256 * (256 * (256 * (256 * 0 + c7) + c6) + c5) + c4) + c3) + c2) + c1) + c0 < 1000000000000000000 := by omega
theorem pop8 (x : Nat) : fold8 (bytesCnt 8 x) = cnt (fun i => x.testBit i) 64 ∧ bytesCnt 8 x < 1000000000000000000 := by
  have e : cnt (fun i => x.testBit i) 64 = cnt (fun i => (x % 256).testBit i) 8 + (cnt (fun i => (x / 256 % 256).testBit i) 8 + (cnt (fun i => (x / 256 / 256 % 256).testBit i) 8 + (cnt (fun i => (x / 256 / 256 / 256 % 256).testBit i) 8 + (cnt (fun i => (x / 256 / 256 / 256 / 256 % 256).testBit i) 8 + (cnt (fun i => (x / 256 / 256 / 256 / 256 / 256 % 256).testBit i) 8 + (cnt (fun i => (x / 256 / 256 / 256 / 256 / 256 / 256 % 256).testBit i) 8 + (cnt (fun i => (x / 256 / 256 / 256 / 256 / 256 / 256 / 256 % 256).testBit i) 8))))))) := by
    rw [show (64 : Nat) = 8 + 56 from rfl, cnt_byte, show (56 : Nat) = 8 + 48 from rfl, cnt_byte, show (48 : Nat) = 8 + 40 from rfl, cnt_byte, show (40 : Nat) = 8 + 32 from rfl, cnt_byte, show (32 : Nat) = 8 + 24 from rfl, cnt_byte, show (24 : Nat) = 8 + 16 from rfl, cnt_byte, show (16 : Nat) = 8 + 8 from rfl, cnt_byte]
    congr 7
    exact cnt_congr _ fun i hi => (byte_bits _ i hi).symm
  rw [e]; unfold bytesCnt bytesCnt bytesCnt bytesCnt bytesCnt bytesCnt bytesCnt bytesCnt bytesCnt
  have q := fun y => cnt_le (fun i => Nat.testBit y i) 8
  constructor
  · rw [fold8_sum _ _ _ _ _ _ _ _ (q _) (q _) (q _) (q _) (q _) (q _) (q _) (q _)]; omega
  · exact bytes_small _ _ _ _ _ _ _ _ (q _) (q _) (q _) (q _) (q _) (q _) (q _) (q _)
end Go.Proofs.Ytcflbpcfmpkolaa
