/-
  Package monoid: powers, as plain arithmetic.
-/
import Derived.Test.YtgjhlmmhpcbnaaaMo0d
namespace Go.Proofs.Ytgjhlmmhpcbnaaa
section
variable {α : Type} (M : Mo α) (x : α)
/-- k copies of x. -/
def cw (k : Nat) : α := if k = 0 then M.e else gl M (fun _ => x) 0 (k - 1)
variable {M x}
theorem gl_const (i d : Nat) : gl M (fun _ => x) i d = gl M (fun _ => x) 0 d := by
  induction d with
  | zero => rfl
  | succ d ih => rw [gl, gl, ih]
theorem cw_one : cw M x 1 = x := rfl
theorem cw_add {a b : Nat} (ha : 1 ≤ a) (hb : 1 ≤ b) : M.j (cw M x a) (cw M x b) = cw M x (a + b) := by
  unfold cw
  rw [if_neg (by omega), if_neg (by omega), if_neg (by omega), ← gl_const (0 + (a - 1) + 1) (b - 1), gl_join]
  congr 1; omega
theorem cw_sz {a : Nat} : M.sz (cw M x a) ≤ M.sz x * a := by
  unfold cw
  by_cases h : a = 0
  · rw [if_pos h, M.sz_e]; omega
  · rw [if_neg h]
    have := gl_sz (M := M) (z := fun _ => x) (m := M.sz x) (fun _ => Nat.le_refl _) 0 (a - 1)
    rwa [show a - 1 + 1 = a by omega] at this
theorem cw_room {a b K : Nat} (h : a + b ≤ K) (hK : M.sz x * K ≤ 4611686018427387903) : M.sz (cw M x a) + M.sz (cw M x b) ≤ 9223372036854775807 := by
  have h1 := cw_sz (M := M) (x := x) (a := a); have h2 := cw_sz (M := M) (x := x) (a := b)
  have h3 : M.sz x * (a + b) ≤ M.sz x * K := Nat.mul_le_mul_left _ h
  rw [Nat.mul_add] at h3
  omega
end
theorem half_even {k t K : Nat} (h : k * t = K) (he : k % 2 = 0) : (k / 2) * (t + t) = K := by
  obtain ⟨q, rfl⟩ : ∃ q, k = q + q := ⟨k / 2, by omega⟩
  rw [show (q + q) / 2 = q by omega, Nat.mul_add, ← Nat.add_mul]; exact h
theorem half_odd {k t r K : Nat} (h : r + (k - k % 2) * t = K) (h2 : 2 ≤ k) (ho : k / 2 % 2 = 1) : (r + (t + t)) + (k / 2 - k / 2 % 2) * (t + t) = K := by
  obtain ⟨q, hq⟩ : ∃ q, k / 2 = q + 1 := ⟨k / 2 - 1, by omega⟩
  rw [ho, hq, show q + 1 - 1 = q by omega]
  rw [show k - k % 2 = (q + 1) + (q + 1) by omega, Nat.add_mul, Nat.add_mul] at h
  rw [Nat.mul_add]; omega
theorem half_ev {k t r K : Nat} (h : r + (k - k % 2) * t = K) (h2 : 2 ≤ k) (ho : k / 2 % 2 = 0) : r + (k / 2 - k / 2 % 2) * (t + t) = K := by
  obtain ⟨q, hq⟩ : ∃ q, k / 2 = q + 1 := ⟨k / 2 - 1, by omega⟩
  rw [ho, hq, Nat.sub_zero]
  rw [show k - k % 2 = (q + 1) + (q + 1) by omega, Nat.add_mul] at h
  rw [Nat.mul_add]; omega
theorem half_room {k t r K : Nat} (h : r + (k - k % 2) * t = K) (h2 : 2 ≤ k) : r + (t + t) ≤ K := by
  obtain ⟨q, hq⟩ : ∃ q, k / 2 = q + 1 := ⟨k / 2 - 1, by omega⟩
  rw [show k - k % 2 = (q + 1) + (q + 1) by omega, Nat.add_mul, Nat.add_mul] at h
  omega
theorem even_room {k t K : Nat} (h : k * t = K) (he : k % 2 = 0) (h1 : 1 ≤ k) : t + t ≤ K := by
  have := Nat.le_mul_of_pos_left (t + t) (show 0 < k / 2 by omega)
  rw [half_even h he] at this; exact this
end Go.Proofs.Ytgjhlmmhpcbnaaa
