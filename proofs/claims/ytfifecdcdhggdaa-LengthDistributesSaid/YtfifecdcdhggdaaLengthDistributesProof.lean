/-
  For all integers a, k and m the statement LengthDistributes about length.Mul and length.Add holds (it returns true and changes nothing). No further condition.
-/
import Derived.Test.YtfifecdcdhggdaaRows
import Derived.Test.YtfifecdcdhggdaaLenB
import Derived.WalkKit
import Derived.ProofKit
import Derived.OpenShut
import Derived.ShutString
namespace Go.Proofs.Ytfifecdcdhggdaa.lengthDistributes
open Go.ChangeShapes Go.WideShapes Go.ChangeAt Go.RowKit
open Go.ChangeMaps (open_string shut_string)
set_option linter.unusedVariables false      -- a walk need not use every 'w<i>' (that an integer argument fits its kind)

theorem own : ownKnob Try.prog.godebug = none := by kernel_rfl

theorem and61 (n : Int) : bits BinOp.and IntKind.i64 n 2305843009213693951 = n % 2305843009213693952 := by
  have hm : (BitVec.ofInt 64 2305843009213693951).toNat = 2 ^ 61 - 1 := by decide
  have key : (BitVec.ofInt 64 n &&& BitVec.ofInt 64 2305843009213693951).toNat = (n % ((2 ^ 64 : Nat) : Int)).toNat % 2 ^ 61 := by
    rw [BitVec.toNat_and, BitVec.toNat_ofInt, hm, Nat.and_two_pow_sub_one_eq_mod]
  show IntKind.i64.wrap ((BitVec.ofInt 64 n &&& BitVec.ofInt 64 2305843009213693951).toNat : Nat) = n % 2305843009213693952
  rw [key, IntKind.wrap_i64]
  omega
theorem mulC_zero (a k : Int) : mulC a k = 0 ↔ (badL a = false ∧ 0 ≤ k ∧ a * k ≤ 1152921504606846976) := by
  unfold mulC
  cases ha : badL a
  · rw [badL_not] at ha
    by_cases hk : k < 0
    · simp [hk]; omega
    · simp only [Bool.false_or, decide_eq_false hk, Bool.false_eq_true, if_false, true_and]
      by_cases h0 : 0 < a
      · by_cases hl : 1152921504606846976 / a < k
        · rw [if_pos ⟨h0, hl⟩]
          refine ⟨fun h => absurd h (by omega), fun h => ?_⟩
          have := (Int.le_ediv_iff_mul_le h0).mpr (show k * a ≤ 1152921504606846976 by rw [Int.mul_comm]; exact h.2)
          omega
        · rw [if_neg (fun h => hl h.2)]
          exact ⟨fun _ => ⟨by omega, mul_top a k h0 (by omega)⟩, fun _ => rfl⟩
      · obtain rfl : a = 0 := by omega
        rw [if_neg (fun h => h0 h.1)]
        exact ⟨fun _ => ⟨by omega, by omega⟩, fun _ => rfl⟩
  · simp
theorem mul_fails (a b : Int) (h : ¬ mulC a b = 0) (w : World) :
    Calls Try.prog 18 #[.int .i64 a, .int .i64 b] w fun e w' => e = .returned (.tuple #[.int .i64 (mulV a b), .iface 40 (.int .i64 (mulC a b))]) ∧ w = w' := by
  have := mul_any a b w; rw [errv_some h] at this; exact this
theorem mul_gives (a b : Int) (h : mulC a b = 0) (w : World) :
    Calls Try.prog 18 #[.int .i64 a, .int .i64 b] w fun e w' => e = .returned (.tuple #[.int .i64 (a * b), .nilIface]) ∧ w = w' := by
  have := mul_any a b w; unfold mulV at this; rw [h, if_pos rfl] at this; exact this
theorem sums_agree (a x y : Int) (hx : mulC a x = 0) (hy : mulC a y = 0) : addC (a * x) (a * y) = mulC a (x + y) ∧ addV (a * x) (a * y) = mulV a (x + y) := by
  have hx' := (mulC_zero a x).mp hx
  have hy' := (mulC_zero a y).mp hy
  obtain ⟨h1, h2, h3⟩ := hx'
  obtain ⟨_, h5, h6⟩ := hy'
  have ha := (badL_not a).mp h1
  have e : a * (x + y) = a * x + a * y := Int.mul_add a x y
  have px : 0 ≤ a * x := Int.mul_nonneg ha.1 h2
  have py : 0 ≤ a * y := Int.mul_nonneg ha.1 h5
  have bx : badL (a * x) = false := (badL_not _).mpr ⟨px, h3⟩
  have bz : badL (a * y) = false := (badL_not _).mpr ⟨py, h6⟩
  have c : addC (a * x) (a * y) = mulC a (x + y) := by
    by_cases hl : 1152921504606846976 < a * x + a * y
    · have l : addC (a * x) (a * y) = 2 := by unfold addC; rw [bx, bz]; simp [hl]
      have r0 : ¬ mulC a (x + y) = 0 := fun h => by have := ((mulC_zero a (x + y)).mp h).2.2; omega
      have r : mulC a (x + y) = 2 := by
        unfold mulC at r0 ⊢
        rw [h1, decide_eq_false (show ¬ x + y < 0 by omega)] at r0 ⊢
        simp only [Bool.or_self, Bool.false_eq_true, if_false] at r0 ⊢
        by_cases q : 0 < a ∧ 1152921504606846976 / a < x + y
        · rw [if_pos q]
        · rw [if_neg q] at r0; exact absurd rfl r0
      rw [l, r]
    · have l : addC (a * x) (a * y) = 0 := by unfold addC; rw [bx, bz]; simp [hl]
      rw [l, (mulC_zero a (x + y)).mpr ⟨h1, by omega, by omega⟩]
  refine ⟨c, ?_⟩
  unfold addV mulV
  rw [c, e]
set_option maxHeartbeats 800000 in
/-! ### STEP 1: THE WALK: the Go text returns true. 'Grown w w'': the world has at most new blocks (Derived/RowKit3.lean). Part the cases AHEAD of 'go_enter' where a test parts the walk; take each callee by a contract of your own. -/
theorem walk (a0 : Int) (a1 : Int) (a2 : Int) (w0 : (Lit.int .i64 a0).wf = true) (w1 : (Lit.int .i64 a1).wf = true) (w2 : (Lit.int .i64 a2).wf = true) (w : World) :
    Calls Try.prog 11 #[.int .i64 a0, .int .i64 a1, .int .i64 a2] w fun e w' => e = .returned (.bool true) ∧ Grown w w' := by
  obtain ⟨x, hx⟩ : ∃ x, bits BinOp.and IntKind.i64 a1 2305843009213693951 = x := ⟨_, rfl⟩
  obtain ⟨y, hy⟩ : ∃ y, bits BinOp.and IntKind.i64 a2 2305843009213693951 = y := ⟨_, rfl⟩
  have x0 : 0 ≤ x := by rw [← hx, and61]; omega
  have x1 : x ≤ 2305843009213693951 := by rw [← hx, and61]; omega
  have y0 : 0 ≤ y := by rw [← hy, and61]; omega
  have y1 : y ≤ 2305843009213693951 := by rw [← hy, and61]; omega
  by_cases cx : mulC a0 x = 0
  · by_cases cy : mulC a0 y = 0
    · obtain ⟨e1, e2⟩ := sums_agree a0 x y cx cy
      have M1 := Lib.hid (mul_gives a0 x cx)
      have M2 := Lib.hid (mul_gives a0 y cy)
      have A := fun w => add_any (a0 * x) (a0 * y) w
      rw [e1, e2] at A
      have A1 := Lib.hid A
      have M3 := Lib.hid (fun w => mul_any a0 (x + y) w)
      clear A e1 e2 cx cy
      go_enter Try.func11, Try.ntmps11
      go_wp2_with (first | (go_at_call 18; with_reducible refine (M1.out _).mono ?_; rintro e w' ⟨rfl, rfl⟩) | (go_at_call 18; with_reducible refine (M2.out _).mono ?_; rintro e w' ⟨rfl, rfl⟩) | (go_at_call 18; with_reducible refine (M3.out _).mono ?_; rintro e w' ⟨rfl, rfl⟩) | (go_at_call 12; with_reducible refine (A1.out _).mono ?_; rintro e w' ⟨rfl, rfl⟩) | (go_at_call 14; with_reducible refine (awake_true _).mono ?_; rintro e w' ⟨rfl, rfl⟩) | (go_at_call 15; with_reducible refine (num_errv _ _).mono ?_; rintro e w' ⟨rfl, rfl⟩))
      go_ret
      exact ⟨rfl, Grown.refl _⟩
    · have M1 := Lib.hid (mul_gives a0 x cx)
      have M2 := Lib.hid (mul_fails a0 y cy)
      clear cx cy
      go_enter Try.func11, Try.ntmps11
      go_wp2_with (first | (go_at_call 18; with_reducible refine (M1.out _).mono ?_; rintro e w' ⟨rfl, rfl⟩) | (go_at_call 18; with_reducible refine (M2.out _).mono ?_; rintro e w' ⟨rfl, rfl⟩) | (go_at_call 14; with_reducible refine (awake_true _).mono ?_; rintro e w' ⟨rfl, rfl⟩))
      go_ret
      exact ⟨rfl, Grown.refl _⟩
  · have M1 := Lib.hid (mul_fails a0 x cx)
    have M2 := Lib.hid (fun w => mul_any a0 y w)
    clear cx
    go_enter Try.func11, Try.ntmps11
    go_wp2_with (first | (go_at_call 18; with_reducible refine (M1.out _).mono ?_; rintro e w' ⟨rfl, rfl⟩) | (go_at_call 18; with_reducible refine (M2.out _).mono ?_; rintro e w' ⟨rfl, rfl⟩) | (go_at_call 14; with_reducible refine (awake_true _).mono ?_; rintro e w' ⟨rfl, rfl⟩))
    go_ret
    exact ⟨rfl, Grown.refl _⟩

/-! ### THE ROW's STEP: WRITTEN OUT: LEAVE IT -/
set_option maxRecDepth 100000 in
theorem lifted (os : Os) (started : os.Started) (H : Type) (enc : TypeId × Value → H) :
    ReturnsInHanded {} Try.checked os 11 .any (Rows.lengthDistributesSpec.pre6 enc Try.prog Try.f11 Rows.lengthDistributesRow.domain false) (Rows.lengthDistributesSpec.post enc Try.prog Try.f11 false true false false) := by
  refine returnsInHanded_of_change (C := Try.checked) own started (by kernel_rfl) Try.func11
    (ChangeSpec.witness6 (enc := enc) (C := Try.checked) false ⟨#[], #[.int .i64 0, .int .i64 0, .int .i64 0], []⟩ 8 (by kernel_rfl) (by kernel_rfl) (by kernel_rfl) (by kernel_rfl)) ?_
  intro W base args ds gs before hval0 hW hcnd _
  have hval : ∀ (j : Nat) t v, Try.f11.params[j]? = some t → args[j]? = some v → Value.okWide Try.prog W .any base t v := hval0
  have hW' := hW
  obtain ⟨p, q, hA0, hV, rfl, hfz, hnd⟩ := hW
  have hA : DataW.TrodAll enc Try.prog W 0 (fun _ => true) true Try.f11.params.toList args.toList ds p := hA0
  rw [Try.params11] at hA hval
  obtain ⟨v0, vs0, d0, ds0, p0, q0, hargs, rfl, rfl, h0, r0⟩ := trodAll_cons hA
  obtain ⟨v1, vs1, d1, ds1, p1, q1, rfl, rfl, rfl, h1, r1⟩ := trodAll_cons r0
  obtain ⟨v2, vs2, d2, ds2, p2, q2, rfl, rfl, rfl, h2, r2⟩ := trodAll_cons r1
  obtain ⟨rfl, rfl, rfl⟩ := trodAll_nil r2
  obtain rfl : args = #[v0, v1, v2] := by cases args; simp_all
  obtain ⟨rfl, rfl⟩ := trodVars_none hV
  obtain ⟨a0, rfl, rfl, rfl, w0⟩ := open_int Try.underlying3 (hval 0 3 v0 rfl rfl) h0
  obtain ⟨a1, rfl, rfl, rfl, w1⟩ := open_int Try.underlying3 (hval 1 3 v1 rfl rfl) h1
  obtain ⟨a2, rfl, rfl, rfl, w2⟩ := open_int Try.underlying3 (hval 2 3 v2 rfl rfl) h2
  clear hA0 hval0
  simp only [List.append_nil] at hW'
  refine (walk a0 a1 a2 w0 w1 w2 W).mono fun e W' ⟨he, hg⟩ => ?_
  subst he
  exact ⟨_, rfl, post_of_same (pa := []) (pv := []) hW' (fun _ _ _ => (trodAll_cons_mk (shut_bool Try.underlying4 _) trodAll_mk0)) (fun sp _ => (trodAll_cons_mk (shut_int Try.underlying3 w0) (trodAll_cons_mk (shut_int Try.underlying3 w1) (trodAll_cons_mk (shut_int Try.underlying3 w2) trodAll_mk0)))) (fun _ _ => rfl) rfl
    (hg.frame _) hg.2.1 (ok_one (by kernel_rfl) rfl (okWide_bool_mk Try.underlying4 _))⟩

theorem over : Rows.lengthDistributesRow.holds Try.pinned (OpenSpec.ofChange Rows.lengthDistributesSpec) :=
  OpenClaim.holds_of_wide 11 Try.f11 rfl rfl rfl rfl rfl rfl rfl ⟨rfl, rfl, rfl, rfl, rfl⟩ rfl rfl rfl rfl rfl (by kernel_rfl) Try.func11 (by kernel_rfl)
    (of_decide_eq_true (by kernel_rfl)) (by unfold Func.isWrapper; first | (rw [if_pos (by decide +kernel)]; kernel_rfl) | (rw [if_neg (by decide +kernel)]; exact ⟨rfl, rfl⟩))
    (fun os started H enc _ => lifted os started H enc)

/-- ████ THE STATEMENT ████ -/
theorem proved : Rows.LengthDistributesSaid :=
  over
#print axioms proved
end Go.Proofs.Ytfifecdcdhggdaa.lengthDistributes
