/-
  Package monoid: affine functions: the units, powers of powers, '==', and Power for every exponent from 0 on.
-/
import Derived.Test.YtbiecpejpkgngaaMoAffP
import Derived.Laws.StructEq
namespace Go.Proofs.Ytbiecpejpkgngaa
open Go.RowKit
def InR (f : Int × Int) : Prop := U f.1 = f.1 ∧ U f.2 = f.2
theorem U_idem (x : Int) : U (U x) = U x := by rw [U_mod, U_mod, Int.emod_emod]
theorem inR_j (f g : Int × Int) : InR (mAff.j f g) := ⟨U_idem _, U_idem _⟩
theorem inR_e : InR mAff.e := ⟨by rw [U_mod]; rfl, by rw [U_mod]; rfl⟩
theorem aff_left {g : Int × Int} (h : InR g) : mAff.j mAff.e g = g := by
  refine Prod.ext ?_ ?_
  · show U (1 * g.1) = g.1
    rw [Int.one_mul, h.1]
  · show U (U (0 * g.1) + g.2) = g.2
    rw [Int.zero_mul, U_add_left, Int.zero_add, h.2]
theorem aff_right {f : Int × Int} (h : InR f) : mAff.j f mAff.e = f := by
  refine Prod.ext ?_ ?_
  · show U (f.1 * 1) = f.1
    rw [Int.mul_one, h.1]
  · show U (U (f.2 * 1) + 0) = f.2
    rw [Int.mul_one, U_add_left, Int.add_zero, h.2]
theorem inR_pw {f : Int × Int} (h : InR f) (k : Nat) : InR (pw mAff f k) := by
  unfold pw
  by_cases h0 : k = 0
  · rw [if_pos h0]; exact inR_e
  · rw [if_neg h0]
    rcases Nat.eq_zero_or_pos (k - 1) with h1 | h1
    · rw [h1]; exact h
    · obtain ⟨d, hd⟩ : ∃ d, k - 1 = d + 1 := ⟨k - 2, by omega⟩
      rw [hd, gl]; exact inR_j _ _
theorem pw_add' {f : Int × Int} (h : InR f) (a b : Nat) : mAff.j (pw mAff f a) (pw mAff f b) = pw mAff f (a + b) := by
  rcases Nat.eq_zero_or_pos a with rfl | ha
  · rw [Nat.zero_add]; exact aff_left (inR_pw h b)
  · rcases Nat.eq_zero_or_pos b with rfl | hb
    · exact aff_right (inR_pw h a)
    · exact pw_add ha hb
theorem pw_mul {f : Int × Int} (h : InR f) (i : Nat) : ∀ n, pw mAff (pw mAff f i) n = pw mAff f (i * n)
  | 0 => rfl
  | n + 1 => by
    rw [← pw_add' (inR_pw h i) n 1, pw_one, pw_mul h i n, pw_add' h, Nat.mul_succ]
theorem inR_wf {a b : Int} (ha : (Lit.int .u64 a).wf = true) (hb : (Lit.int .u64 b).wf = true) : InR (a, b) := by
  have h1 := bounds_u64 ha; have h2 := bounds_u64 hb
  exact ⟨by rw [U_mod]; show a % _ = a; omega, by rw [U_mod]; show b % _ = b; omega⟩
theorem guard_aff : Try.prog.eqGuardType Try.prog.depth 40 = false := by kernel_rfl
theorem equal_aff (f : Int × Int) (w : World) : (Op.equalIn 10000 40 (.agg (ac f)) (.agg (ac f))).run Try.prog w = .ok true w := by
  obtain ⟨a, b⟩ := f
  unfold ac
  have h1 := run_equalIn_int (P := Try.prog) w 9998 38 .u64 .u64 a a Try.underlying38
  have h2 := run_equalIn_int (P := Try.prog) w 9998 38 .u64 .u64 b b Try.underlying38
  rw [run_equalIn_struct w 9999 40 _ _ (by kernel_rfl) (by kernel_rfl)]
  go_simp
theorem aff_pow_any (x : Int × Int) (K : Nat) (w : World) (hK : (K : Int) ≤ 9223372036854775807) :
    Calls Try.prog 30 #[.agg #[], .agg (ac x), .int .i64 K] w fun e w' => e = .returned (.agg (ac (pw mAff x K))) ∧ Below w.heap.size w w' := by
  rcases Nat.eq_zero_or_pos K with rfl | h
  · exact aff_pow_none x 0 w (by omega)
  · exact aff_pow x K w h hK
end Go.Proofs.Ytbiecpejpkgngaa
