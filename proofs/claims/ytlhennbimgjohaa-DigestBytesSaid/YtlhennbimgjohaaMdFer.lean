/-
  Arithmetic alone: 37 is a generator modulo 2^61 - 1, so every number that is no multiple has a power of 37 as its remainder, and its power to 2^61 - 2 is 1.
-/
import Derived.WalkKit
namespace Go.Proofs.Ytlhennbimgjohaa.Fer

/-- x^e modulo m by squaring, for the kernel. -/
def pmod (m : Nat) : Nat → Nat → Nat → Nat → Nat
  | 0, _, _, acc => acc
  | f + 1, b, e, acc => pmod m f (b * b % m) (e / 2) (if e % 2 = 1 then acc * b % m else acc)

theorem pmod_eq (m : Nat) : ∀ f b e acc, e < 2 ^ f → pmod m f b e acc % m = acc * b ^ e % m
  | 0, b, e, acc, h => by
    obtain rfl : e = 0 := by simpa using h
    simp [pmod]
  | f + 1, b, e, acc, h => by
    have h' : e / 2 < 2 ^ f := by rw [Nat.pow_succ] at h; omega
    rw [pmod, pmod_eq m f _ _ _ h', Nat.mul_mod, ← Nat.pow_mod, ← Nat.mul_mod, ← Nat.pow_two, ← Nat.pow_mul]
    rcases Nat.mod_two_eq_zero_or_one e with h2 | h2
    · rw [if_neg (by omega), show 2 * (e / 2) = e by omega]
    · rw [if_pos h2, Nat.mul_mod, Nat.mod_mod, ← Nat.mul_mod, Nat.mul_assoc, ← Nat.pow_succ', show (2 * (e / 2)).succ = e by omega]

theorem pig : ∀ n (f : Nat → Nat), (∀ i, i < n → f i < n) → (∀ i j, i < n → j < n → f i = f j → i = j) → ∀ y, y < n → ∃ i, i < n ∧ f i = y
  | 0, _, _, _, _, h => by omega
  | n + 1, f, hf, hi, y, hy => by
    by_cases hz : f n = y
    · exact ⟨n, by omega, hz⟩
    by_cases hn : f n = n
    · have hlt : ∀ i, i < n → f i < n := fun i h => by
        have h1 := hf i (by omega)
        have h2 : f i ≠ n := fun e => by have := hi i n (by omega) (by omega) (by omega); omega
        omega
      obtain ⟨i, h1, h2⟩ := pig n f hlt (fun i j a b c => hi i j (by omega) (by omega) c) y (by omega)
      exact ⟨i, by omega, h2⟩
    · have hz' := hf n (by omega)
      obtain ⟨g, hg⟩ : ∃ g : Nat → Nat, ∀ i, g i = if f i = n then f n else f i := ⟨_, fun _ => rfl⟩
      have hne : ∀ i, i < n → f i ≠ f n := fun i h e => by have := hi i n (by omega) (by omega) e; omega
      have hlt : ∀ i, i < n → g i < n := fun i h => by
        have h1 := hf i (by omega)
        rw [hg]; split <;> omega
      have hinj : ∀ i j, i < n → j < n → g i = g j → i = j := fun i j a b c => by
        have h1 := hne i a; have h2 := hne j b
        rw [hg, hg] at c
        split at c <;> split at c
        · exact hi i j (by omega) (by omega) (by omega)
        · exact absurd c.symm h2
        · exact absurd c h1
        · exact hi i j (by omega) (by omega) c
      by_cases hy' : y = n
      · obtain ⟨i, h1, h2⟩ := pig n g hlt hinj (f n) (by omega)
        have h3 := hne i h1
        rw [hg] at h2
        split at h2
        · exact ⟨i, by omega, by omega⟩
        · exact absurd h2 h3
      · obtain ⟨i, h1, h2⟩ := pig n g hlt hinj y (by omega)
        rw [hg] at h2
        split at h2
        · exact absurd h2 hz
        · exact ⟨i, by omega, h2⟩

def P : Nat := 2305843009213693951
def N : Nat := 2305843009213693950
def qs : List Nat := [2, 3, 5, 7, 11, 13, 31, 41, 61, 151, 331, 1321]

theorem small (q : Nat) (h : q ∈ qs) (k : Nat) : Nat.Coprime k q ∨ q ∣ k := by
  have hd : Nat.gcd k q ∣ q := Nat.gcd_dvd_right k q
  have hk : Nat.gcd k q ∣ k := Nat.gcd_dvd_left k q
  have hall : ∀ q ∈ qs, 0 < q ∧ ∀ x, x ≤ q → x ∣ q → x = 1 ∨ x = q := by decide +kernel
  obtain ⟨h0, h1⟩ := hall q h
  rcases h1 _ (Nat.le_of_dvd h0 hd) hd with e | e
  · exact .inl e
  · exact .inr (e ▸ hk)

theorem factor {k : Nat} (hk : k ∣ N) (h1 : k ≠ 1) : ∃ q ∈ qs, q ∣ k := by
  by_cases hc : ∀ q ∈ qs, Nat.Coprime k q
  · exfalso
    have c : ∀ q, q ∈ qs → Nat.Coprime k q := hc
    have e : N = 2 * (3 * (3 * (5 * (5 * (7 * (11 * (13 * (31 * (41 * (61 * (151 * (331 * 1321)))))))))))) := by decide +kernel
    have c2 := c 2 (by decide); have c3 := c 3 (by decide); have c5 := c 5 (by decide); have c7 := c 7 (by decide); have c11 := c 11 (by decide); have c13 := c 13 (by decide)
    have c31 := c 31 (by decide); have c41 := c 41 (by decide); have c61 := c 61 (by decide); have c151 := c 151 (by decide); have c331 := c 331 (by decide); have c1321 := c 1321 (by decide)
    have hN : Nat.Coprime k N := by
      rw [e]
      exact c2.mul_right (c3.mul_right (c3.mul_right (c5.mul_right (c5.mul_right (c7.mul_right (c11.mul_right (c13.mul_right (c31.mul_right (c41.mul_right (c61.mul_right (c151.mul_right (c331.mul_right c1321))))))))))))
    exact h1 (Nat.Coprime.eq_one_of_dvd hN hk)
  · have : ∃ q, q ∈ qs ∧ ¬ Nat.Coprime k q := by
      apply Classical.byContradiction; intro hx
      exact hc fun q hq => Classical.byContradiction fun hn => hx ⟨q, hq, hn⟩
    obtain ⟨q, hq, hn⟩ := this
    exact ⟨q, hq, (small q hq k).resolve_left hn⟩

theorem gN : 37 ^ N % P = 1 := by
  have h := pmod_eq P 61 37 N 1 (by decide +kernel)
  rw [Nat.one_mul] at h
  rw [← h]; decide +kernel
theorem gq : ∀ q ∈ qs, 37 ^ (N / q) % P ≠ 1 := by
  intro q hq
  have hb : ∀ q ∈ qs, N / q < 2 ^ 61 ∧ pmod P 61 37 (N / q) 1 % P ≠ 1 := by decide +kernel
  obtain ⟨h1, h2⟩ := hb q hq
  have h := pmod_eq P 61 37 (N / q) 1 h1
  rw [Nat.one_mul] at h
  rw [← h]; exact h2

section
variable {g n p : Nat}
theorem one_pow_of {x a : Nat} (hp : 1 % p = 1) (h : x ^ a % p = 1) (k : Nat) : x ^ (a * k) % p = 1 := by
  rw [Nat.pow_mul, Nat.pow_mod, h, Nat.one_pow]; exact hp

theorem gcd_pow (hp : 1 % p = 1) (x : Nat) : ∀ a b, x ^ a % p = 1 → x ^ b % p = 1 → x ^ (Nat.gcd a b) % p = 1 := by
  intro a b
  induction a, b using Nat.gcd.induction with
  | H0 b => intro _ h; rw [Nat.gcd_zero_left]; exact h
  | H1 a b ha ih =>
    intro h1 h2
    rw [Nat.gcd_rec]
    refine ih ?_ h1
    have h3 := one_pow_of hp h1 (b / a)
    have h4 : x ^ b % p = x ^ (b % a) % p := by
      conv => lhs; rw [← Nat.div_add_mod b a, Nat.pow_add, Nat.mul_mod, h3, Nat.one_mul, Nat.mod_mod]
    rw [← h4]; exact h2

/-- What is asked of a generator g of order n modulo p. -/
structure Gen (g n p : Nat) : Prop where
  one : 1 % p = 1
  whole : g ^ n % p = 1
  part : ∀ q ∈ qs, g ^ (n / q) % p ≠ 1
  factor : ∀ k, k ∣ n → k ≠ 1 → ∃ q ∈ qs, q ∣ k
  pos : 0 < p
  next : p = n + 1

theorem Gen.order (G : Gen g n p) {d : Nat} (h0 : 0 < d) (h1 : d < n) : g ^ d % p ≠ 1 := by
  intro h
  have hm := gcd_pow G.one g d n h G.whole
  obtain ⟨m, hm'⟩ : ∃ m, m = Nat.gcd d n := ⟨_, rfl⟩
  rw [← hm'] at hm
  have hd : m ∣ d := hm' ▸ Nat.gcd_dvd_left d n
  have hN : m ∣ n := hm' ▸ Nat.gcd_dvd_right d n
  obtain ⟨k, hk⟩ := hN
  have hle := Nat.le_of_dvd h0 hd
  have hk1 : k ≠ 1 := by intro e; rw [e, Nat.mul_one] at hk; omega
  obtain ⟨q, hq, j, hj⟩ := G.factor k ⟨m, by rw [hk, Nat.mul_comm]⟩ hk1
  have hq0 : 0 < q := by have hall : ∀ q ∈ qs, 0 < q := by decide
                         exact hall q hq
  have e : n / q = m * j := by
    rw [hk, hj, show m * (q * j) = q * (m * j) by rw [← Nat.mul_assoc, Nat.mul_comm m q, Nat.mul_assoc]]
    exact Nat.mul_div_cancel_left _ hq0
  exact G.part q hq (by rw [e]; exact one_pow_of G.one hm j)

theorem Gen.unit (G : Gen g n p) {i : Nat} (h : i ≤ n) : g ^ (n - i) * g ^ i % p = 1 := by
  rw [← Nat.pow_add, Nat.sub_add_cancel h]; exact G.whole

theorem Gen.inj_lt (G : Gen g n p) {i j : Nat} (hij : i < j) (hj : j < n) (h : g ^ i % p = g ^ j % p) : False := by
  refine G.order (d := j - i) (by omega) (by omega) ?_
  have h1 := G.unit (i := i) (by omega)
  have e1 : g ^ (n - i) * g ^ j % p = 1 := by
    rw [Nat.mul_mod, ← h, ← Nat.mul_mod]; exact h1
  have e2 : g ^ j = g ^ i * g ^ (j - i) := by rw [← Nat.pow_add]; congr 1; omega
  rw [e2, ← Nat.mul_assoc, Nat.mul_mod, h1, Nat.one_mul, Nat.mod_mod] at e1
  exact e1

theorem Gen.nonzero (G : Gen g n p) {i : Nat} (h : i ≤ n) : 0 < g ^ i % p := by
  have h1 := G.unit h
  rcases Nat.eq_zero_or_pos (g ^ i % p) with e | e
  · rw [Nat.mul_mod, e, Nat.mul_zero, Nat.zero_mod] at h1
    omega
  · exact e

theorem Gen.power_of (G : Gen g n p) {a : Nat} (h : a % p ≠ 0) : ∃ i, g ^ i % p = a % p := by
  have hP := G.next
  have hb := fun x => Nat.mod_lt x G.pos
  obtain ⟨i, h1, h2⟩ := pig n (fun i => g ^ i % p - 1)
    (fun i hi => by have := G.nonzero (i := i) (by omega); have := hb (g ^ i); show _ - 1 < _; omega)
    (fun i j hi hj e => by
      have a1 := G.nonzero (i := i) (by omega); have a2 := G.nonzero (i := j) (by omega)
      have e' : g ^ i % p - 1 = g ^ j % p - 1 := e
      have e'' : g ^ i % p = g ^ j % p := by omega
      rcases Nat.lt_trichotomy i j with c | c | c
      · exact (G.inj_lt c hj e'').elim
      · exact c
      · exact (G.inj_lt c hi e''.symm).elim)
    (a % p - 1) (by have := hb a; omega)
  have h3 : g ^ i % p - 1 = a % p - 1 := h2
  exact ⟨i, by have := G.nonzero (i := i) (by omega); omega⟩

theorem Gen.fermat (G : Gen g n p) {a : Nat} (h : a % p ≠ 0) : a ^ n % p = 1 := by
  obtain ⟨i, hi⟩ := G.power_of h
  rw [Nat.pow_mod, ← hi, ← Nat.pow_mod, ← Nat.pow_mul, Nat.mul_comm]
  exact one_pow_of G.one G.whole i

theorem Gen.fermat' (G : Gen g n p) (a : Nat) : a ^ p % p = a % p := by
  by_cases h : a % p = 0
  · rw [Nat.pow_mod, h, Nat.zero_pow G.pos, Nat.zero_mod]
  · have e : a ^ p = a ^ n * a := by rw [G.next, Nat.pow_succ]
    rw [e, Nat.mul_mod, G.fermat h, Nat.one_mul, Nat.mod_mod]

theorem Gen.root (G : Gen g n p) {a b c e k : Nat} (hk : c * e = k * n + 1) (h : a ^ c % p = b ^ c % p) : a % p = b % p := by
  have key : ∀ a, a ^ (c * e) % p = a % p := fun a => by
    by_cases h0 : a % p = 0
    · rw [Nat.pow_mod, h0, Nat.zero_pow (by omega), Nat.zero_mod]
    · rw [hk, Nat.pow_succ, Nat.mul_mod, Nat.mul_comm k n, one_pow_of G.one (G.fermat h0) k, Nat.one_mul, Nat.mod_mod]
  rw [← key a, ← key b, Nat.pow_mul, Nat.pow_mul, Nat.pow_mod, h, ← Nat.pow_mod]
end

theorem gen : Gen 37 N P := ⟨by decide +kernel, gN, gq, fun _ h => factor h, by decide +kernel, by decide +kernel⟩

/-- THE LITTLE THEOREM, and what follows: stated with the modulus as a number. -/
theorem fermat {a e : Nat} (he : e = N) (h : a % 2305843009213693951 ≠ 0) : a ^ e % 2305843009213693951 = 1 := by rw [he]; exact gen.fermat h
theorem fermat' {e : Nat} (he : e = P) (a : Nat) : a ^ e % 2305843009213693951 = a % 2305843009213693951 := by rw [he]; exact gen.fermat' a
theorem root17 {a b : Nat} (h : a ^ 17 % 2305843009213693951 = b ^ 17 % 2305843009213693951) : a % 2305843009213693951 = b % 2305843009213693951 :=
  gen.root (e := 1763291712928118903) (k := 13) (by decide +kernel) h
#print axioms root17
end Go.Proofs.Ytlhennbimgjohaa.Fer
