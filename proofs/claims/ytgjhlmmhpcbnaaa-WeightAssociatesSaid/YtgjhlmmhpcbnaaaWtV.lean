/-
  Package weight: Valid, and the reference's.
-/
import Derived.Test.YtgjhlmmhpcbnaaaWtA
namespace Go.Proofs.Ytgjhlmmhpcbnaaa
open Go.RowKit
set_option linter.unusedVariables false
instance (l n h t : Int) : Decidable (Lines l n h t) := by unfold Lines; infer_instance
def lb (r : Wt) : Bool := decide (Lines r.l r.n r.h r.t)
theorem lb_of {l n h t : Int} {d : Int × Int} {b : Bool} (hb : b = true ↔ Lines l n h t) : lb ⟨l, n, h, t, d⟩ = b := by
  unfold lb
  rw [Bool.eq_iff_iff, decide_eq_true_iff]
  exact hb.symm
theorem addC_ok {a b : Int} (ha : 0 ≤ a) (h1 : a ≤ 1152921504606846976) (hb : 0 ≤ b) (h2 : a + b ≤ 1152921504606846976) : addC a b = 0 := by
  unfold addC
  rw [(badL_not a).2 ⟨ha, h1⟩, (badL_not b).2 ⟨hb, by omega⟩]
  simp; omega
theorem addC_bad {a b : Int} (h : a < 0 ∨ b < 0 ∨ 1152921504606846976 < a + b) : ¬ addC a b = 0 := by
  unfold addC
  split
  · decide
  · rename_i hb
    have h1 : badL a = false := by cases e : badL a <;> simp_all
    have h2 : badL b = false := by cases e : badL b <;> simp_all
    rw [badL_not] at h1 h2
    rw [if_pos (by omega)]; decide
/-- The sum of three: its error, or its value. -/
theorem sum3 (n h t : Int) : ((sumP 0 [n, h, t]).2 = 0 ∧ 0 ≤ n ∧ 0 ≤ h ∧ 0 ≤ t ∧ n + h + t ≤ 1152921504606846976 ∧ (sumP 0 [n, h, t]).1 = n + h + t) ∨ ((sumP 0 [n, h, t]).2 ≠ 0 ∧ ¬ (0 ≤ n ∧ 0 ≤ h ∧ 0 ≤ t ∧ n + h + t ≤ 1152921504606846976)) := by
  by_cases h1 : addC 0 n = 0
  · rw [sumP_step h1]
    have c1 : 0 ≤ n ∧ n ≤ 1152921504606846976 := by
      by_cases e : 0 ≤ n ∧ n ≤ 1152921504606846976
      · exact e
      · exact absurd h1 (addC_bad (by omega))
    by_cases h2 : addC (0 + n) h = 0
    · rw [sumP_step h2]
      have c2 : 0 ≤ h ∧ n + h ≤ 1152921504606846976 := by
        by_cases e : 0 ≤ h ∧ n + h ≤ 1152921504606846976
        · exact e
        · exact absurd h2 (addC_bad (by omega))
      by_cases h3 : addC (0 + n + h) t = 0
      · rw [sumP_step h3]
        have c3 : 0 ≤ t ∧ n + h + t ≤ 1152921504606846976 := by
          by_cases e : 0 ≤ t ∧ n + h + t ≤ 1152921504606846976
          · exact e
          · exact absurd h3 (addC_bad (by omega))
        left
        refine ⟨rfl, by omega, by omega, by omega, by omega, ?_⟩
        show 0 + n + h + t = n + h + t
        omega
      · rw [sumP_stop h3]
        right
        refine ⟨h3, fun ⟨a, b, c, d⟩ => h3 (addC_ok (by omega) (by omega) (by omega) (by omega))⟩
    · rw [sumP_stop h2]
      right
      refine ⟨h2, fun ⟨a, b, c, d⟩ => h2 (addC_ok (by omega) (by omega) (by omega) (by omega))⟩
  · rw [sumP_stop h1]
    right
    refine ⟨h1, fun ⟨a, b, c, d⟩ => h1 (addC_ok (by omega) (by omega) (by omega) (by omega))⟩
theorem w_lines (r : Wt) (w : World) (h : W64 r) (h0 : 0 ≤ r.l) (h1 : r.l ≤ 1152921504606846976) :
    Calls Try.prog 33 #[.agg (wc r)] w fun e w' => e = .returned (.bool (lb r)) ∧ Below w.heap.size w w' := by
  obtain ⟨l, n, h, t, d⟩ := r
  obtain ⟨b1, b2, b3, b4, b5⟩ := h
  unfold I64 at b1 b2 b3 b4
  simp only [] at h0 h1 b1 b2 b3 b4
  have hb := Lib.hid ((Below.refl w.heap.size w).alloc (Nat.le_refl _) (Obj.cells (wc ⟨l, n, h, t, d⟩) 27))
  by_cases hn : n = 0
  · have hlb : lb ⟨l, n, h, t, d⟩ = (decide (h = l) && decide (t = l)) := lb_of (by
      rw [Bool.and_eq_true, decide_eq_true_iff, decide_eq_true_iff]; unfold Lines; omega)
    rw [hlb]
    have hn' : (n == 0) = true := by simpa using hn
    clear hlb
    unfold wc at *
    by_cases e1 : h = l
    · by_cases e2 : t = l
      · subst e1 e2 hn
        go_enter Try.func33, Try.ntmps33
        go_wp2
        go_ret
        exact ⟨by simp, hb.out⟩
      · have e2' : (t == l) = false := by simpa using e2
        subst e1 hn
        go_enter Try.func33, Try.ntmps33
        go_wp2
        go_ret
        exact ⟨by simp, hb.out⟩
    · have e1' : (h == l) = false := by simpa using e1
      subst hn
      go_enter Try.func33, Try.ntmps33
      go_wp2
      go_ret
      exact ⟨by simp, hb.out⟩
  · have hn' : (n == 0) = false := by simpa using hn
    have HL := Lib.hid (show lb ⟨l, n, h, t, d⟩ = decide (0 ≤ n ∧ 0 ≤ h ∧ 0 ≤ t ∧ ((n = 1 ∧ n + h + t = l) ∨ (n ≠ 1 ∧ n + h + t ≤ l))) from lb_of (by
      rw [decide_eq_true_iff]; unfold Lines; omega))
    obtain ⟨s, hs⟩ : ∃ s, w.heap.size = s := ⟨_, rfl⟩
    have H3 := sum3 n h t
    have HS1 := Lib.hid (fun (W : World) (g : Nat) (hr : Row W g 3 #[.int .i64 n, .int .i64 h, .int .i64 t]) => sum_some g 0 3 3 [n, h, t] W (by omega) rfl (fun k hk => by
      rw [hr.cell, Nat.zero_add]
      match k, hk with
      | 0, _ => rfl
      | 1, _ => rfl
      | 2, _ => rfl))
    obtain ⟨⟨pv, pc⟩, hp⟩ : ∃ p, sumP 0 [n, h, t] = p := ⟨_, rfl⟩
    rw [hp] at H3 HS1
    have HB2 := Lib.hid (hb.out.alloc (by simp) (Obj.cells #[.int .i64 n, .int .i64 h, .int .i64 t] 3))
    have R2 := Lib.hid (Row.new (w.alloc (Obj.cells (wc ⟨l, n, h, t, d⟩) 27)) 3 #[.int .i64 n, .int .i64 h, .int .i64 t])
    simp only [World.size_alloc] at R2
    rw [hs] at R2
    unfold wc at *
    clear hp hn
    rcases H3 with ⟨c0, p0, p1, p2, p3, c1⟩ | ⟨c0, c1⟩
    · simp only [] at c0 c1
      subst c0 c1
      have HS2 := Lib.hid (fun W g hr => show Calls Try.prog 52 #[.slice (some ⟨g, 0, none⟩) 3 3] W (fun e w' => e = .returned (.tuple #[.int .i64 (n + h + t), .nilIface]) ∧ W = w') from HS1.out W g hr)
      clear HS1
      by_cases e1 : n = 1
      · have HE := Lib.hid (show lb ⟨l, n, h, t, d⟩ = (n + h + t == l) by
          rw [HL.out, Bool.eq_iff_iff, decide_eq_true_iff, beq_iff_eq]; omega)
        have e1' : (n == 1) = true := by simpa using e1
        clear HL e1
        go_enter Try.func33, Try.ntmps33
        go_wp2_with (go_at_call 52; with_reducible refine (HS2.out _ _ R2.out).mono ?_; rintro e w2 ⟨rfl, rfl⟩)
        go_ret
        exact ⟨by rw [HE.out]; rfl, HB2.out⟩
      · have HE := Lib.hid (show lb ⟨l, n, h, t, d⟩ = decide (n + h + t ≤ l) by
          rw [HL.out, decide_eq_decide]; omega)
        have e1' : (n == 1) = false := by simpa using e1
        clear HL e1
        go_enter Try.func33, Try.ntmps33
        go_wp2_with (go_at_call 52; with_reducible refine (HS2.out _ _ R2.out).mono ?_; rintro e w2 ⟨rfl, rfl⟩)
        go_ret
        exact ⟨by rw [HE.out]; rfl, HB2.out⟩
    · simp only [] at c0 c1
      have HE := Lib.hid (show lb ⟨l, n, h, t, d⟩ = false by
        rw [HL.out, decide_eq_false_iff_not]; omega)
      have HS2 := Lib.hid (fun W g hr => show Calls Try.prog 52 #[.slice (some ⟨g, 0, none⟩) 3 3] W (fun e w' => e = .returned (.tuple #[.int .i64 pv, .iface 52 (.int .i64 pc)]) ∧ W = w') by
        rw [← errv_some c0]; exact HS1.out W g hr)
      clear HS1 HL c0 c1
      go_enter Try.func33, Try.ntmps33
      go_wp2_with (go_at_call 52; with_reducible refine (HS2.out _ _ R2.out).mono ?_; rintro e w2 ⟨rfl, rfl⟩)
      go_ret
      exact ⟨by rw [HE.out]; rfl, HB2.out⟩
end Go.Proofs.Ytgjhlmmhpcbnaaa
