/-
  For all integers from, n and size the statement LengthRanges about length.Range and length.Valid holds (it returns true and changes nothing). No further condition.
-/
import Derived.Test.YtfifecdcdhggdaaRows
import Derived.Test.YtfifecdcdhggdaaLenB
import Derived.WalkKit
import Derived.ProofKit
import Derived.OpenShut
import Derived.ShutString
namespace Go.Proofs.Ytfifecdcdhggdaa.lengthRanges
open Go.ChangeShapes Go.WideShapes Go.ChangeAt Go.RowKit
open Go.ChangeMaps (open_string shut_string)
set_option linter.unusedVariables false      -- a walk need not use every 'w<i>' (that an integer argument fits its kind)

theorem own : ownKnob Try.prog.godebug = none := by kernel_rfl

/-- Does the range lie within the length? -/
def rangeOk (f n l : Int) : Bool := decide (0 ≤ l ∧ l ≤ 1152921504606846976 ∧ 0 ≤ f ∧ 0 ≤ n ∧ f + n ≤ l)
def rangeC (f n l : Int) : Int := if rangeOk f n l = true then 0 else 1
set_option maxHeartbeats 400000 in
theorem valid_any (n : Int) (w : World) :
    Calls Try.prog 25 #[.int .i64 n] w fun e w' => e = .returned (.bool (!badL n)) ∧ w = w' := by
  cases h : badL n
  · rw [badL_not] at h
    obtain ⟨h1, h2⟩ := h
    go_enter Try.func25, Try.ntmps25
    go_wp2
    go_ret
    exact ⟨rfl, rfl⟩
  · rw [badL_iff] at h
    by_cases h1 : 0 ≤ n
    · have h2 : ¬ n ≤ 1152921504606846976 := by omega
      clear h
      go_enter Try.func25, Try.ntmps25
      go_wp2
      go_ret
      exact ⟨rfl, rfl⟩
    · clear h
      go_enter Try.func25, Try.ntmps25
      go_wp2
      go_ret
      exact ⟨rfl, rfl⟩
set_option maxHeartbeats 400000 in
theorem refvalid_any (n : Int) (w : World) :
    Calls Try.prog 28 #[.int .i64 n] w fun e w' => e = .returned (.bool (!badL n)) ∧ w = w' := by
  cases h : badL n
  · rw [badL_not] at h
    obtain ⟨h1, h2⟩ := h
    go_enter Try.func28, Try.ntmps28
    go_wp2
    go_ret
    exact ⟨rfl, rfl⟩
  · rw [badL_iff] at h
    by_cases h1 : 0 ≤ n
    · have h2 : ¬ n ≤ 1152921504606846976 := by omega
      clear h
      go_enter Try.func28, Try.ntmps28
      go_wp2
      go_ret
      exact ⟨rfl, rfl⟩
    · clear h
      go_enter Try.func28, Try.ntmps28
      go_wp2
      go_ret
      exact ⟨rfl, rfl⟩
set_option maxHeartbeats 800000 in
theorem range_any (f n l : Int) (w : World) (hf : f ≤ 9223372036854775807) :
    Calls Try.prog 23 #[.int .i64 f, .int .i64 n, .int .i64 l] w fun e w' => e = .returned (errv (rangeC f n l)) ∧ w = w' := by
  by_cases h : 0 ≤ l ∧ l ≤ 1152921504606846976 ∧ 0 ≤ f ∧ 0 ≤ n ∧ f + n ≤ l
  · have e : errv (rangeC f n l) = .nilIface := by unfold rangeC rangeOk; rw [decide_eq_true h]; rfl
    rw [e]; clear e
    obtain ⟨h1, h2, h3, h4, h5⟩ := h
    have hv : badL l = false := by rw [badL_not]; omega
    have hv' : ∀ w : World, Calls Try.prog 25 #[.int .i64 l] w fun e w' => e = .returned (.bool true) ∧ w = w' := fun w => by have := valid_any l w; rw [hv] at this; exact this
    have HV := Lib.hid hv'
    clear hv hv'
    go_enter Try.func23, Try.ntmps23
    go_wp2_with (go_at_call 25; refine (HV.out _).mono ?_; rintro e w' ⟨rfl, rfl⟩)
    go_ret
    exact ⟨rfl, rfl⟩
  · have e : errv (rangeC f n l) = .iface 40 (.int .i64 1) := by unfold rangeC rangeOk; rw [decide_eq_false h]; rfl
    rw [e]; clear e
    cases hv : badL l
    · have hv' : ∀ w : World, Calls Try.prog 25 #[.int .i64 l] w fun e w' => e = .returned (.bool true) ∧ w = w' := fun w => by have := valid_any l w; rw [hv] at this; exact this
      have HV := Lib.hid hv'
      rw [badL_not] at hv
      clear hv'
      obtain ⟨h1, h2⟩ := hv
      by_cases h3 : 0 ≤ f
      · by_cases h4 : 0 ≤ n
        · have h5 : l - f < n := by omega
          clear h
          go_enter Try.func23, Try.ntmps23
          go_wp2_with (go_at_call 25; refine (HV.out _).mono ?_; rintro e w' ⟨rfl, rfl⟩)
          go_ret
          exact ⟨rfl, rfl⟩
        · clear h
          go_enter Try.func23, Try.ntmps23
          go_wp2_with (go_at_call 25; refine (HV.out _).mono ?_; rintro e w' ⟨rfl, rfl⟩)
          go_ret
          exact ⟨rfl, rfl⟩
      · clear h
        go_enter Try.func23, Try.ntmps23
        go_wp2_with (go_at_call 25; refine (HV.out _).mono ?_; rintro e w' ⟨rfl, rfl⟩)
        go_ret
        exact ⟨rfl, rfl⟩
    · have hv' : ∀ w : World, Calls Try.prog 25 #[.int .i64 l] w fun e w' => e = .returned (.bool false) ∧ w = w' := fun w => by have := valid_any l w; rw [hv] at this; exact this
      have HV := Lib.hid hv'
      clear hv hv' h
      go_enter Try.func23, Try.ntmps23
      go_wp2_with (go_at_call 25; refine (HV.out _).mono ?_; rintro e w' ⟨rfl, rfl⟩)
      go_ret
      exact ⟨rfl, rfl⟩
set_option maxHeartbeats 800000 in
theorem refrange_any (f n l : Int) (w : World) :
    Calls Try.prog 24 #[.int .i64 f, .int .i64 n, .int .i64 l] w fun e w' => e = .returned (.bool (rangeOk f n l)) ∧ w = w' := by
  by_cases h : 0 ≤ l ∧ l ≤ 1152921504606846976 ∧ 0 ≤ f ∧ 0 ≤ n ∧ f + n ≤ l
  · have e : rangeOk f n l = true := by unfold rangeOk; exact decide_eq_true h
    rw [e]; clear e
    obtain ⟨h1, h2, h3, h4, h5⟩ := h
    have h6 : f ≤ l := by omega
    have h7 : n ≤ l - f := by omega
    have hv : badL l = false := by rw [badL_not]; omega
    have hv' : ∀ w : World, Calls Try.prog 28 #[.int .i64 l] w fun e w' => e = .returned (.bool true) ∧ w = w' := fun w => by have := refvalid_any l w; rw [hv] at this; exact this
    have HV := Lib.hid hv'
    clear hv hv'
    go_enter Try.func24, Try.ntmps24
    go_wp2_with (go_at_call 28; refine (HV.out _).mono ?_; rintro e w' ⟨rfl, rfl⟩)
    go_ret
    exact ⟨rfl, rfl⟩
  · have e : rangeOk f n l = false := by unfold rangeOk; exact decide_eq_false h
    rw [e]; clear e
    cases hv : badL l
    · have hv' : ∀ w : World, Calls Try.prog 28 #[.int .i64 l] w fun e w' => e = .returned (.bool true) ∧ w = w' := fun w => by have := refvalid_any l w; rw [hv] at this; exact this
      have HV := Lib.hid hv'
      rw [badL_not] at hv
      clear hv'
      obtain ⟨h1, h2⟩ := hv
      by_cases h3 : 0 ≤ f
      · by_cases h4 : 0 ≤ n
        · by_cases h6 : f ≤ l
          · have h5 : decide (n ≤ l - f) = false := decide_eq_false (by omega)
            clear h
            go_enter Try.func24, Try.ntmps24
            go_wp2_with (go_at_call 28; refine (HV.out _).mono ?_; rintro e w' ⟨rfl, rfl⟩)
            go_ret
            exact ⟨rfl, rfl⟩
          · clear h
            go_enter Try.func24, Try.ntmps24
            go_wp2_with (go_at_call 28; refine (HV.out _).mono ?_; rintro e w' ⟨rfl, rfl⟩)
            go_ret
            exact ⟨rfl, rfl⟩
        · clear h
          go_enter Try.func24, Try.ntmps24
          go_wp2_with (go_at_call 28; refine (HV.out _).mono ?_; rintro e w' ⟨rfl, rfl⟩)
          go_ret
          exact ⟨rfl, rfl⟩
      · clear h
        go_enter Try.func24, Try.ntmps24
        go_wp2_with (go_at_call 28; refine (HV.out _).mono ?_; rintro e w' ⟨rfl, rfl⟩)
        go_ret
        exact ⟨rfl, rfl⟩
    · have hv' : ∀ w : World, Calls Try.prog 28 #[.int .i64 l] w fun e w' => e = .returned (.bool false) ∧ w = w' := fun w => by have := refvalid_any l w; rw [hv] at this; exact this
      have HV := Lib.hid hv'
      clear hv hv' h
      go_enter Try.func24, Try.ntmps24
      go_wp2_with (go_at_call 28; refine (HV.out _).mono ?_; rintro e w' ⟨rfl, rfl⟩)
      go_ret
      exact ⟨rfl, rfl⟩
theorem range_yes (f n l : Int) (hf : f ≤ 9223372036854775807) (h : rangeOk f n l = true) (w : World) :
    Calls Try.prog 23 #[.int .i64 f, .int .i64 n, .int .i64 l] w fun e w' => e = .returned .nilIface ∧ w = w' := by
  have := range_any f n l w hf
  unfold rangeC at this; rw [h] at this; exact this
theorem range_no (f n l : Int) (hf : f ≤ 9223372036854775807) (h : rangeOk f n l = false) (w : World) :
    Calls Try.prog 23 #[.int .i64 f, .int .i64 n, .int .i64 l] w fun e w' => e = .returned (.iface 40 (.int .i64 1)) ∧ w = w' := by
  have := range_any f n l w hf
  unfold rangeC at this; rw [h] at this; exact this
theorem refrange_is (f n l : Int) (b : Bool) (h : rangeOk f n l = b) (w : World) :
    Calls Try.prog 24 #[.int .i64 f, .int .i64 n, .int .i64 l] w fun e w' => e = .returned (.bool b) ∧ w = w' := by
  subst h; exact refrange_any f n l w
theorem valid_is (l : Int) (b : Bool) (h : badL l = b) (w : World) :
    Calls Try.prog 25 #[.int .i64 l] w fun e w' => e = .returned (.bool !b) ∧ w = w' := by
  subst h; exact valid_any l w
theorem range_zero (l : Int) : rangeOk 0 0 l = !badL l := by
  unfold rangeOk
  cases h : badL l
  · rw [badL_not] at h; exact decide_eq_true (by omega)
  · rw [badL_iff] at h; exact decide_eq_false (by omega)
/-! ### STEP 1: THE WALK: the Go text returns true. 'Grown w w'': the world has at most new blocks (Derived/RowKit3.lean). Part the cases AHEAD of 'go_enter' where a test parts the walk; take each callee by a contract of your own. -/
theorem walk (a0 : Int) (a1 : Int) (a2 : Int) (w0 : (Lit.int .i64 a0).wf = true) (w1 : (Lit.int .i64 a1).wf = true) (w2 : (Lit.int .i64 a2).wf = true) (w : World) :
    Calls Try.prog 8 #[.int .i64 a0, .int .i64 a1, .int .i64 a2] w fun e w' => e = .returned (.bool true) ∧ Grown w w' := by
  have b0 : a0 ≤ 9223372036854775807 := (bounds_i64 w0).2
  cases hr : rangeOk a0 a1 a2 <;> cases hb : badL a2
  · have z : rangeOk 0 0 a2 = true := by rw [range_zero, hb]; rfl
    have H1 := Lib.hid (range_no a0 a1 a2 b0 hr)
    have H2 := Lib.hid (refrange_is a0 a1 a2 _ hr)
    have H3 := Lib.hid (range_yes 0 0 a2 (by omega) z)
    have H4 := Lib.hid (valid_is a2 _ hb)
    clear z hr hb b0
    go_enter Try.func8, Try.ntmps8
    go_wp2_with (first | (go_at_call 23; with_reducible refine (H1.out _).mono ?_; rintro e w' ⟨rfl, rfl⟩) | (go_at_call 23; with_reducible refine (H3.out _).mono ?_; rintro e w' ⟨rfl, rfl⟩) | (go_at_call 24; with_reducible refine (H2.out _).mono ?_; rintro e w' ⟨rfl, rfl⟩) | (go_at_call 25; with_reducible refine (H4.out _).mono ?_; rintro e w' ⟨rfl, rfl⟩) | (go_at_call 14; with_reducible refine (awake_true _).mono ?_; rintro e w' ⟨rfl, rfl⟩) | (go_at_call 15; with_reducible refine (num_some _ _).mono ?_; rintro e w' ⟨rfl, rfl⟩))
    go_ret
    exact ⟨rfl, Grown.refl _⟩
  · have z : rangeOk 0 0 a2 = false := by rw [range_zero, hb]; rfl
    have H1 := Lib.hid (range_no a0 a1 a2 b0 hr)
    have H2 := Lib.hid (refrange_is a0 a1 a2 _ hr)
    have H3 := Lib.hid (range_no 0 0 a2 (by omega) z)
    have H4 := Lib.hid (valid_is a2 _ hb)
    clear z hr hb b0
    go_enter Try.func8, Try.ntmps8
    go_wp2_with (first | (go_at_call 23; with_reducible refine (H1.out _).mono ?_; rintro e w' ⟨rfl, rfl⟩) | (go_at_call 23; with_reducible refine (H3.out _).mono ?_; rintro e w' ⟨rfl, rfl⟩) | (go_at_call 24; with_reducible refine (H2.out _).mono ?_; rintro e w' ⟨rfl, rfl⟩) | (go_at_call 25; with_reducible refine (H4.out _).mono ?_; rintro e w' ⟨rfl, rfl⟩) | (go_at_call 14; with_reducible refine (awake_true _).mono ?_; rintro e w' ⟨rfl, rfl⟩) | (go_at_call 15; with_reducible refine (num_some _ _).mono ?_; rintro e w' ⟨rfl, rfl⟩))
    go_ret
    exact ⟨rfl, Grown.refl _⟩
  · have z : rangeOk 0 0 a2 = true := by rw [range_zero, hb]; rfl
    have H1 := Lib.hid (range_yes a0 a1 a2 b0 hr)
    have H2 := Lib.hid (refrange_is a0 a1 a2 _ hr)
    have H3 := Lib.hid (range_yes 0 0 a2 (by omega) z)
    have H4 := Lib.hid (valid_is a2 _ hb)
    clear z hr hb b0
    go_enter Try.func8, Try.ntmps8
    go_wp2_with (first | (go_at_call 23; with_reducible refine (H1.out _).mono ?_; rintro e w' ⟨rfl, rfl⟩) | (go_at_call 23; with_reducible refine (H3.out _).mono ?_; rintro e w' ⟨rfl, rfl⟩) | (go_at_call 24; with_reducible refine (H2.out _).mono ?_; rintro e w' ⟨rfl, rfl⟩) | (go_at_call 25; with_reducible refine (H4.out _).mono ?_; rintro e w' ⟨rfl, rfl⟩) | (go_at_call 14; with_reducible refine (awake_true _).mono ?_; rintro e w' ⟨rfl, rfl⟩) | (go_at_call 15; with_reducible refine (num_nil _).mono ?_; rintro e w' ⟨rfl, rfl⟩))
    go_ret
    exact ⟨rfl, Grown.refl _⟩
  · have z : rangeOk 0 0 a2 = false := by rw [range_zero, hb]; rfl
    have H1 := Lib.hid (range_yes a0 a1 a2 b0 hr)
    have H2 := Lib.hid (refrange_is a0 a1 a2 _ hr)
    have H3 := Lib.hid (range_no 0 0 a2 (by omega) z)
    have H4 := Lib.hid (valid_is a2 _ hb)
    clear z hr hb b0
    go_enter Try.func8, Try.ntmps8
    go_wp2_with (first | (go_at_call 23; with_reducible refine (H1.out _).mono ?_; rintro e w' ⟨rfl, rfl⟩) | (go_at_call 23; with_reducible refine (H3.out _).mono ?_; rintro e w' ⟨rfl, rfl⟩) | (go_at_call 24; with_reducible refine (H2.out _).mono ?_; rintro e w' ⟨rfl, rfl⟩) | (go_at_call 25; with_reducible refine (H4.out _).mono ?_; rintro e w' ⟨rfl, rfl⟩) | (go_at_call 14; with_reducible refine (awake_true _).mono ?_; rintro e w' ⟨rfl, rfl⟩) | (go_at_call 15; with_reducible refine (num_nil _).mono ?_; rintro e w' ⟨rfl, rfl⟩))
    go_ret
    exact ⟨rfl, Grown.refl _⟩

/-! ### THE ROW's STEP: WRITTEN OUT: LEAVE IT -/
set_option maxRecDepth 100000 in
theorem lifted (os : Os) (started : os.Started) (H : Type) (enc : TypeId × Value → H) :
    ReturnsInHanded {} Try.checked os 8 .any (Rows.lengthRangesSpec.pre6 enc Try.prog Try.f8 Rows.lengthRangesRow.domain false) (Rows.lengthRangesSpec.post enc Try.prog Try.f8 false true false false) := by
  refine returnsInHanded_of_change (C := Try.checked) own started (by kernel_rfl) Try.func8
    (ChangeSpec.witness6 (enc := enc) (C := Try.checked) false ⟨#[], #[.int .i64 0, .int .i64 0, .int .i64 0], []⟩ 8 (by kernel_rfl) (by kernel_rfl) (by kernel_rfl) (by kernel_rfl)) ?_
  intro W base args ds gs before hval0 hW hcnd _
  have hval : ∀ (j : Nat) t v, Try.f8.params[j]? = some t → args[j]? = some v → Value.okWide Try.prog W .any base t v := hval0
  have hW' := hW
  obtain ⟨p, q, hA0, hV, rfl, hfz, hnd⟩ := hW
  have hA : DataW.TrodAll enc Try.prog W 0 (fun _ => true) true Try.f8.params.toList args.toList ds p := hA0
  rw [Try.params8] at hA hval
  obtain ⟨v0, vs0, d0, ds0, p0, q0, hargs, rfl, rfl, h0, r0⟩ := trodAll_cons hA
  obtain ⟨v1, vs1, d1, ds1, p1, q1, rfl, rfl, rfl, h1, r1⟩ := trodAll_cons r0
  obtain ⟨v2, vs2, d2, ds2, p2, q2, rfl, rfl, rfl, h2, r2⟩ := trodAll_cons r1
  obtain ⟨rfl, rfl, rfl⟩ := trodAll_nil r2
  obtain rfl : args = #[v0, v1, v2] := by cases args; simp_all
  obtain ⟨rfl, rfl⟩ := trodVars_none hV
  obtain ⟨a0, rfl, rfl, rfl, w0⟩ := open_int Try.underlying3 (hval 0 3 v0 rfl rfl) h0
  obtain ⟨a1, rfl, rfl, rfl, w1⟩ := open_int Try.underlying3 (hval 1 3 v1 rfl rfl) h1
  obtain ⟨a2, rfl, rfl, rfl, w2⟩ := open_int Try.underlying3 (hval 2 3 v2 rfl rfl) h2
  clear hA0 hval0
  simp only [List.append_nil] at hW'
  refine (walk a0 a1 a2 w0 w1 w2 W).mono fun e W' ⟨he, hg⟩ => ?_
  subst he
  exact ⟨_, rfl, post_of_same (pa := []) (pv := []) hW' (fun _ _ _ => (trodAll_cons_mk (shut_bool Try.underlying4 _) trodAll_mk0)) (fun sp _ => (trodAll_cons_mk (shut_int Try.underlying3 w0) (trodAll_cons_mk (shut_int Try.underlying3 w1) (trodAll_cons_mk (shut_int Try.underlying3 w2) trodAll_mk0)))) (fun _ _ => rfl) rfl
    (hg.frame _) hg.2.1 (ok_one (by kernel_rfl) rfl (okWide_bool_mk Try.underlying4 _))⟩

theorem over : Rows.lengthRangesRow.holds Try.pinned (OpenSpec.ofChange Rows.lengthRangesSpec) :=
  OpenClaim.holds_of_wide 8 Try.f8 rfl rfl rfl rfl rfl rfl rfl ⟨rfl, rfl, rfl, rfl, rfl⟩ rfl rfl rfl rfl rfl (by kernel_rfl) Try.func8 (by kernel_rfl)
    (of_decide_eq_true (by kernel_rfl)) (by unfold Func.isWrapper; first | (rw [if_pos (by decide +kernel)]; kernel_rfl) | (rw [if_neg (by decide +kernel)]; exact ⟨rfl, rfl⟩))
    (fun os started H enc _ => lifted os started H enc)

/-- ████ THE STATEMENT ████ -/
theorem proved : Rows.LengthRangesSaid :=
  over
#print axioms proved
end Go.Proofs.Ytfifecdcdhggdaa.lengthRanges
