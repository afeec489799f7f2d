/-
  For every integer n the statement LengthLogs about length.Log holds (it returns true and changes nothing). No further condition.
-/
import Derived.Test.YtfifecdcdhggdaaRows
import Derived.Test.YtfifecdcdhggdaaLenB
import Derived.WalkKit
import Derived.ProofKit
import Derived.OpenShut
import Derived.ShutString
namespace Go.Proofs.Ytfifecdcdhggdaa.lengthLogs
open Go.ChangeShapes Go.WideShapes Go.ChangeAt Go.RowKit
open Go.ChangeMaps (open_string shut_string)
set_option linter.unusedVariables false      -- a walk need not use every 'w<i>' (that an integer argument fits its kind)

theorem own : ownKnob Try.prog.godebug = none := by kernel_rfl

theorem bitLen_pow : ∀ (l x : Nat), 1 ≤ x → x < 2 ^ 64 → Lib.bitLen x = l + 1 → x / 2 ^ l = 1
  | 0, x, h1, h2, h => by
    have h3 := Lib.bitLen_half x (by omega) h2
    have h4 : Lib.bitLen (x / 2) = 0 := by omega
    by_cases h5 : x / 2 = 0
    · simp; omega
    · have := Lib.bitLen_half (x / 2) h5 (by omega); omega
  | l + 1, x, h1, h2, h => by
    have h3 := Lib.bitLen_half x (by omega) h2
    have h4 : Lib.bitLen (x / 2) = l + 1 := by omega
    have h5 : 1 ≤ x / 2 := by
      by_cases h6 : x / 2 = 0
      · rw [h6] at h4; have : Lib.bitLen 0 = 0 := by decide
        omega
      · omega
    have := bitLen_pow l (x / 2) h5 (by omega) h4
    rw [Nat.pow_succ, Nat.mul_comm, ← Nat.div_div_eq_div_mul]; exact this
theorem shr_one (n : Int) (l : Nat) (h0 : 1 ≤ n) (h1 : n ≤ 9223372036854775807) (h : Lib.bitLen n.toNat = l + 1) : n / 2 ^ l = 1 := by
  obtain ⟨x, rfl⟩ := Int.eq_ofNat_of_zero_le (show 0 ≤ n by omega)
  have := bitLen_pow l x (by omega) (by omega) (by simpa using h)
  have e : ((x : Int) / ((2 ^ l : Nat) : Int)) = ((x / 2 ^ l : Nat) : Int) := (Int.natCast_ediv x (2 ^ l)).symm
  rw [this] at e
  simpa using e
set_option maxHeartbeats 400000 in
/-! ### STEP 1: THE WALK: the Go text returns true. 'Grown w w'': the world has at most new blocks (Derived/RowKit3.lean). Part the cases AHEAD of 'go_enter' where a test parts the walk; take each callee by a contract of your own. -/
theorem walk (a0 : Int) (w0 : (Lit.int .i64 a0).wf = true) (w : World) :
    Calls Try.prog 7 #[.int .i64 a0] w fun e w' => e = .returned (.bool true) ∧ Grown w w' := by
  have b := (bounds_i64 w0).2
  by_cases h : a0 < 1
  · have L := log_any a0
    have e : logV a0 = -1 := by unfold logV; rw [if_pos h]
    rw [e] at L
    have H := Lib.hid (fun w => L w b)
    clear L e b
    go_enter Try.func7, Try.ntmps7
    go_wp2_with (first | (go_at_call 22; with_reducible refine (H.out _).mono ?_; rintro e w' ⟨rfl, rfl⟩) | (go_at_call 14; with_reducible refine (awake_true _).mono ?_; rintro e w' ⟨rfl, rfl⟩))
    go_ret
    exact ⟨rfl, Grown.refl _⟩
  · have L := log_any a0
    obtain ⟨g1, g2⟩ := bitLen_top a0 (by omega) b
    obtain ⟨l, hl⟩ : ∃ l, Lib.bitLen a0.toNat = l + 1 := ⟨Lib.bitLen a0.toNat - 1, by omega⟩
    have s := shr_one a0 l (by omega) b hl
    have e : logV a0 = (l : Int) := by unfold logV; rw [if_neg h, hl]; omega
    rw [e] at L
    have H := Lib.hid (fun w => L w b)
    have l2 : (l : Int) ≤ 62 := by omega
    have s' : (a0 / 2 ^ l == 1) = true := by rw [s]; rfl
    clear L e b g1 g2 hl s
    go_enter Try.func7, Try.ntmps7
    go_wp2_with (first | (go_at_call 22; with_reducible refine (H.out _).mono ?_; rintro e w' ⟨rfl, rfl⟩) | (go_at_call 14; with_reducible refine (awake_true _).mono ?_; rintro e w' ⟨rfl, rfl⟩))
    go_ret
    exact ⟨rfl, Grown.refl _⟩

/-! ### THE ROW's STEP: WRITTEN OUT: LEAVE IT -/
set_option maxRecDepth 100000 in
theorem lifted (os : Os) (started : os.Started) (H : Type) (enc : TypeId × Value → H) :
    ReturnsInHanded {} Try.checked os 7 .any (Rows.lengthLogsSpec.pre6 enc Try.prog Try.f7 Rows.lengthLogsRow.domain false) (Rows.lengthLogsSpec.post enc Try.prog Try.f7 false true false false) := by
  refine returnsInHanded_of_change (C := Try.checked) own started (by kernel_rfl) Try.func7
    (ChangeSpec.witness6 (enc := enc) (C := Try.checked) false ⟨#[], #[.int .i64 0], []⟩ 8 (by kernel_rfl) (by kernel_rfl) (by kernel_rfl) (by kernel_rfl)) ?_
  intro W base args ds gs before hval0 hW hcnd _
  have hval : ∀ (j : Nat) t v, Try.f7.params[j]? = some t → args[j]? = some v → Value.okWide Try.prog W .any base t v := hval0
  have hW' := hW
  obtain ⟨p, q, hA0, hV, rfl, hfz, hnd⟩ := hW
  have hA : DataW.TrodAll enc Try.prog W 0 (fun _ => true) true Try.f7.params.toList args.toList ds p := hA0
  rw [Try.params7] at hA hval
  obtain ⟨v0, vs0, d0, ds0, p0, q0, hargs, rfl, rfl, h0, r0⟩ := trodAll_cons hA
  obtain ⟨rfl, rfl, rfl⟩ := trodAll_nil r0
  obtain rfl : args = #[v0] := by cases args; simp_all
  obtain ⟨rfl, rfl⟩ := trodVars_none hV
  obtain ⟨a0, rfl, rfl, rfl, w0⟩ := open_int Try.underlying3 (hval 0 3 v0 rfl rfl) h0
  clear hA0 hval0
  simp only [List.append_nil] at hW'
  refine (walk a0 w0 W).mono fun e W' ⟨he, hg⟩ => ?_
  subst he
  exact ⟨_, rfl, post_of_same (pa := []) (pv := []) hW' (fun _ _ _ => (trodAll_cons_mk (shut_bool Try.underlying4 _) trodAll_mk0)) (fun sp _ => (trodAll_cons_mk (shut_int Try.underlying3 w0) trodAll_mk0)) (fun _ _ => rfl) rfl
    (hg.frame _) hg.2.1 (ok_one (by kernel_rfl) rfl (okWide_bool_mk Try.underlying4 _))⟩

theorem over : Rows.lengthLogsRow.holds Try.pinned (OpenSpec.ofChange Rows.lengthLogsSpec) :=
  OpenClaim.holds_of_wide 7 Try.f7 rfl rfl rfl rfl rfl rfl rfl ⟨rfl, rfl, rfl, rfl, rfl⟩ rfl rfl rfl rfl rfl (by kernel_rfl) Try.func7 (by kernel_rfl)
    (of_decide_eq_true (by kernel_rfl)) (by unfold Func.isWrapper; first | (rw [if_pos (by decide +kernel)]; kernel_rfl) | (rw [if_neg (by decide +kernel)]; exact ⟨rfl, rfl⟩))
    (fun os started H enc _ => lifted os started H enc)

/-- ████ THE STATEMENT ████ -/
theorem proved : Rows.LengthLogsSaid :=
  over
#print axioms proved
end Go.Proofs.Ytfifecdcdhggdaa.lengthLogs
