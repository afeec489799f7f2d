/-
  For all integers a and b the statement LengthUndoes about length.Add and length.Sub holds (it returns true and changes nothing). No further condition.
-/
import Derived.Test.YtfifecdcdhggdaaRows
import Derived.Test.YtfifecdcdhggdaaLenB
import Derived.WalkKit
import Derived.ProofKit
import Derived.OpenShut
import Derived.ShutString
namespace Go.Proofs.Ytfifecdcdhggdaa.lengthUndoes
open Go.ChangeShapes Go.WideShapes Go.ChangeAt Go.RowKit
open Go.ChangeMaps (open_string shut_string)
set_option linter.unusedVariables false      -- a walk need not use every 'w<i>' (that an integer argument fits its kind)

theorem own : ownKnob Try.prog.godebug = none := by kernel_rfl

theorem add_fails (a b : Int) (h : ¬ addC a b = 0) (w : World) :
    Calls Try.prog 12 #[.int .i64 a, .int .i64 b] w fun e w' => e = .returned (.tuple #[.int .i64 (addV a b), .iface 40 (.int .i64 (addC a b))]) ∧ w = w' := by
  have := add_any a b w; rw [errv_some h] at this; exact this
theorem sub_fails (a b : Int) (h : ¬ subC a b = 0) (w : World) :
    Calls Try.prog 16 #[.int .i64 a, .int .i64 b] w fun e w' => e = .returned (.tuple #[.int .i64 (subV a b), .iface 40 (.int .i64 (subC a b))]) ∧ w = w' := by
  have := sub_any a b w; rw [errv_some h] at this; exact this
theorem addC_zero {a b : Int} (h : addC a b = 0) : (0 ≤ a ∧ a ≤ 1152921504606846976) ∧ (0 ≤ b ∧ b ≤ 1152921504606846976) ∧ a + b ≤ 1152921504606846976 := by
  unfold addC at h
  cases ha : badL a <;> cases hb : badL b <;> simp [ha, hb] at h
  rw [badL_not] at ha hb
  exact ⟨ha, hb, h⟩
theorem subC_zero {a b : Int} (h : subC a b = 0) : (0 ≤ a ∧ a ≤ 1152921504606846976) ∧ (0 ≤ b ∧ b ≤ 1152921504606846976) ∧ b ≤ a := by
  unfold subC at h
  cases ha : badL a <;> cases hb : badL b <;> simp [ha, hb] at h
  rw [badL_not] at ha hb
  exact ⟨ha, hb, h⟩
theorem sub_back (a b : Int) (h : addC a b = 0) (w : World) :
    Calls Try.prog 16 #[.int .i64 (a + b), .int .i64 b] w fun e w' => e = .returned (.tuple #[.int .i64 a, .nilIface]) ∧ w = w' := by
  obtain ⟨h1, h2, h3⟩ := addC_zero h
  have := sub_ok (a + b) b w (by omega) (by omega) (by omega) (by omega) (by omega)
  rw [show a + b - b = a by omega] at this; exact this
theorem add_sum (a b : Int) (h : addC a b = 0) (w : World) :
    Calls Try.prog 12 #[.int .i64 a, .int .i64 b] w fun e w' => e = .returned (.tuple #[.int .i64 (a + b), .nilIface]) ∧ w = w' := by
  obtain ⟨h1, h2, h3⟩ := addC_zero h
  exact add_ok a b w (by omega) (by omega) (by omega) (by omega) (by omega)
theorem sub_rest (a b : Int) (h : subC a b = 0) (w : World) :
    Calls Try.prog 16 #[.int .i64 a, .int .i64 b] w fun e w' => e = .returned (.tuple #[.int .i64 (a - b), .nilIface]) ∧ w = w' := by
  obtain ⟨h1, h2, h3⟩ := subC_zero h
  exact sub_ok a b w (by omega) (by omega) (by omega) (by omega) (by omega)
theorem add_back (a b : Int) (h : subC a b = 0) (w : World) :
    Calls Try.prog 12 #[.int .i64 b, .int .i64 (a - b)] w fun e w' => e = .returned (.tuple #[.int .i64 a, .nilIface]) ∧ w = w' := by
  obtain ⟨h1, h2, h3⟩ := subC_zero h
  have := add_ok b (a - b) w (by omega) (by omega) (by omega) (by omega) (by omega)
  rw [show b + (a - b) = a by omega] at this; exact this
set_option maxHeartbeats 800000 in
/-! ### STEP 1: THE WALK: the Go text returns true. 'Grown w w'': the world has at most new blocks (Derived/RowKit3.lean). Part the cases AHEAD of 'go_enter' where a test parts the walk; take each callee by a contract of your own. -/
theorem walk (a0 : Int) (a1 : Int) (w0 : (Lit.int .i64 a0).wf = true) (w1 : (Lit.int .i64 a1).wf = true) (w : World) :
    Calls Try.prog 10 #[.int .i64 a0, .int .i64 a1] w fun e w' => e = .returned (.bool true) ∧ Grown w w' := by
  by_cases hA : addC a0 a1 = 0 <;> by_cases hS : subC a0 a1 = 0
  · have A1 := Lib.hid (add_sum a0 a1 hA)
    have A2 := Lib.hid (sub_back a0 a1 hA)
    have S1 := Lib.hid (sub_rest a0 a1 hS)
    have S2 := Lib.hid (add_back a0 a1 hS)
    clear hA hS
    go_enter Try.func10, Try.ntmps10
    go_wp2_with (first | (go_at_call 12; with_reducible refine (A1.out _).mono ?_; rintro e w' ⟨rfl, rfl⟩) | (go_at_call 12; with_reducible refine (S2.out _).mono ?_; rintro e w' ⟨rfl, rfl⟩) | (go_at_call 16; with_reducible refine (S1.out _).mono ?_; rintro e w' ⟨rfl, rfl⟩) | (go_at_call 16; with_reducible refine (A2.out _).mono ?_; rintro e w' ⟨rfl, rfl⟩) | (go_at_call 14; with_reducible refine (awake_true _).mono ?_; rintro e w' ⟨rfl, rfl⟩))
    go_ret
    exact ⟨rfl, Grown.refl _⟩
  · have A1 := Lib.hid (add_sum a0 a1 hA)
    have A2 := Lib.hid (sub_back a0 a1 hA)
    have S1 := Lib.hid (sub_fails a0 a1 hS)
    clear hA hS
    go_enter Try.func10, Try.ntmps10
    go_wp2_with (first | (go_at_call 12; with_reducible refine (A1.out _).mono ?_; rintro e w' ⟨rfl, rfl⟩) | (go_at_call 16; with_reducible refine (S1.out _).mono ?_; rintro e w' ⟨rfl, rfl⟩) | (go_at_call 16; with_reducible refine (A2.out _).mono ?_; rintro e w' ⟨rfl, rfl⟩) | (go_at_call 14; with_reducible refine (awake_true _).mono ?_; rintro e w' ⟨rfl, rfl⟩))
    go_ret
    exact ⟨rfl, Grown.refl _⟩
  · have A1 := Lib.hid (add_fails a0 a1 hA)
    have S1 := Lib.hid (sub_rest a0 a1 hS)
    have S2 := Lib.hid (add_back a0 a1 hS)
    clear hA hS
    go_enter Try.func10, Try.ntmps10
    go_wp2_with (first | (go_at_call 12; with_reducible refine (A1.out _).mono ?_; rintro e w' ⟨rfl, rfl⟩) | (go_at_call 12; with_reducible refine (S2.out _).mono ?_; rintro e w' ⟨rfl, rfl⟩) | (go_at_call 16; with_reducible refine (S1.out _).mono ?_; rintro e w' ⟨rfl, rfl⟩) | (go_at_call 14; with_reducible refine (awake_true _).mono ?_; rintro e w' ⟨rfl, rfl⟩))
    go_ret
    exact ⟨rfl, Grown.refl _⟩
  · have A1 := Lib.hid (add_fails a0 a1 hA)
    have S1 := Lib.hid (sub_fails a0 a1 hS)
    clear hA hS
    go_enter Try.func10, Try.ntmps10
    go_wp2_with (first | (go_at_call 12; with_reducible refine (A1.out _).mono ?_; rintro e w' ⟨rfl, rfl⟩) | (go_at_call 16; with_reducible refine (S1.out _).mono ?_; rintro e w' ⟨rfl, rfl⟩) | (go_at_call 14; with_reducible refine (awake_true _).mono ?_; rintro e w' ⟨rfl, rfl⟩))
    go_ret
    exact ⟨rfl, Grown.refl _⟩

/-! ### THE ROW's STEP: WRITTEN OUT: LEAVE IT -/
set_option maxRecDepth 100000 in
theorem lifted (os : Os) (started : os.Started) (H : Type) (enc : TypeId × Value → H) :
    ReturnsInHanded {} Try.checked os 10 .any (Rows.lengthUndoesSpec.pre6 enc Try.prog Try.f10 Rows.lengthUndoesRow.domain false) (Rows.lengthUndoesSpec.post enc Try.prog Try.f10 false true false false) := by
  refine returnsInHanded_of_change (C := Try.checked) own started (by kernel_rfl) Try.func10
    (ChangeSpec.witness6 (enc := enc) (C := Try.checked) false ⟨#[], #[.int .i64 0, .int .i64 0], []⟩ 8 (by kernel_rfl) (by kernel_rfl) (by kernel_rfl) (by kernel_rfl)) ?_
  intro W base args ds gs before hval0 hW hcnd _
  have hval : ∀ (j : Nat) t v, Try.f10.params[j]? = some t → args[j]? = some v → Value.okWide Try.prog W .any base t v := hval0
  have hW' := hW
  obtain ⟨p, q, hA0, hV, rfl, hfz, hnd⟩ := hW
  have hA : DataW.TrodAll enc Try.prog W 0 (fun _ => true) true Try.f10.params.toList args.toList ds p := hA0
  rw [Try.params10] at hA hval
  obtain ⟨v0, vs0, d0, ds0, p0, q0, hargs, rfl, rfl, h0, r0⟩ := trodAll_cons hA
  obtain ⟨v1, vs1, d1, ds1, p1, q1, rfl, rfl, rfl, h1, r1⟩ := trodAll_cons r0
  obtain ⟨rfl, rfl, rfl⟩ := trodAll_nil r1
  obtain rfl : args = #[v0, v1] := by cases args; simp_all
  obtain ⟨rfl, rfl⟩ := trodVars_none hV
  obtain ⟨a0, rfl, rfl, rfl, w0⟩ := open_int Try.underlying3 (hval 0 3 v0 rfl rfl) h0
  obtain ⟨a1, rfl, rfl, rfl, w1⟩ := open_int Try.underlying3 (hval 1 3 v1 rfl rfl) h1
  clear hA0 hval0
  simp only [List.append_nil] at hW'
  refine (walk a0 a1 w0 w1 W).mono fun e W' ⟨he, hg⟩ => ?_
  subst he
  exact ⟨_, rfl, post_of_same (pa := []) (pv := []) hW' (fun _ _ _ => (trodAll_cons_mk (shut_bool Try.underlying4 _) trodAll_mk0)) (fun sp _ => (trodAll_cons_mk (shut_int Try.underlying3 w0) (trodAll_cons_mk (shut_int Try.underlying3 w1) trodAll_mk0))) (fun _ _ => rfl) rfl
    (hg.frame _) hg.2.1 (ok_one (by kernel_rfl) rfl (okWide_bool_mk Try.underlying4 _))⟩

theorem over : Rows.lengthUndoesRow.holds Try.pinned (OpenSpec.ofChange Rows.lengthUndoesSpec) :=
  OpenClaim.holds_of_wide 10 Try.f10 rfl rfl rfl rfl rfl rfl rfl ⟨rfl, rfl, rfl, rfl, rfl⟩ rfl rfl rfl rfl rfl (by kernel_rfl) Try.func10 (by kernel_rfl)
    (of_decide_eq_true (by kernel_rfl)) (by unfold Func.isWrapper; first | (rw [if_pos (by decide +kernel)]; kernel_rfl) | (rw [if_neg (by decide +kernel)]; exact ⟨rfl, rfl⟩))
    (fun os started H enc _ => lifted os started H enc)

/-- ████ THE STATEMENT ████ -/
theorem proved : Rows.LengthUndoesSaid :=
  over
#print axioms proved
end Go.Proofs.Ytfifecdcdhggdaa.lengthUndoes
