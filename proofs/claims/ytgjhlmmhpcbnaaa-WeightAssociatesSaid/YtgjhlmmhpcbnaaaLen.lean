/-
  The contracts of package length, of its reference, and of the statements' helpers (Num, Is, awake): what each call returns, for every argument; the world stays as it was.
-/
import Derived.Test.YtgjhlmmhpcbnaaaRows
import Derived.Test.YtgjhlmmhpcbnaaaShelf
import Derived.WalkKit
import Derived.WalkSpells
import Derived.WalkLawsBesides
namespace Go.Proofs.Ytgjhlmmhpcbnaaa
open Go.RowKit

/-- The error value of a code: nil for 0, else the code of package api. -/
def errv (c : Int) : Value := if c = 0 then .nilIface else .iface 52 (.int .i64 c)
theorem errv_zero : errv 0 = .nilIface := rfl
theorem errv_some {c : Int} (h : ¬ c = 0) : errv c = .iface 52 (.int .i64 c) := by unfold errv; rw [if_neg h]

theorem ta_errno (n : Int) (w : World) : Sem.run Try.prog (Instr.typeAssert (Value.iface 52 (Value.int IntKind.i64 n)) 35 52 true) w = .ok (.tuple #[.int .i64 n, .bool true]) w := by kernel_rfl

set_option maxHeartbeats 400000 in
theorem num_some (n : Int) (w : World) :
    Calls Try.prog 21 #[.iface 52 (.int .i64 n)] w fun e w' => e = .returned (.int .i64 n) ∧ w = w' := by
  have ta := fun w => ta_errno n w
  go_enter Try.func21, Try.ntmps21
  go_wp2
  go_ret
  exact ⟨rfl, rfl⟩

set_option maxHeartbeats 400000 in
theorem num_nil (w : World) :
    Calls Try.prog 21 #[.nilIface] w fun e w' => e = .returned (.int .i64 0) ∧ w = w' := by
  go_enter Try.func21, Try.ntmps21
  go_wp2
  go_ret
  exact ⟨rfl, rfl⟩

theorem num_errv (c : Int) (w : World) :
    Calls Try.prog 21 #[errv c] w fun e w' => e = .returned (.int .i64 c) ∧ w = w' := by
  by_cases h : c = 0
  · rw [h, errv_zero]; exact num_nil w
  · rw [errv_some h]; exact num_some c w

set_option maxHeartbeats 400000 in
theorem is_some (n c : Int) (h : ¬ c = 0) (hn : n = c) (w : World) :
    Calls Try.prog 26 #[.iface 52 (.int .i64 n), .int .i64 c] w fun e w' => e = .returned (.bool true) ∧ w = w' := by
  subst hn
  have hb : (n != 0) = true := by simpa using h
  go_enter Try.func26, Try.ntmps26
  go_wp2_with (go_at_call 21; refine (num_some _ _).mono ?_; rintro e w' ⟨rfl, rfl⟩)
  go_ret
  exact ⟨rfl, rfl⟩

/-! ### Plain functions: what each call returns -/
def badL (n : Int) : Bool := decide (n < 0) || decide (1152921504606846976 < n)
theorem badL_iff (n : Int) : badL n = true ↔ (n < 0 ∨ 1152921504606846976 < n) := by simp [badL]
theorem badL_not (n : Int) : badL n = false ↔ (0 ≤ n ∧ n ≤ 1152921504606846976) := by simp [badL]

def addC (a b : Int) : Int := if badL a || badL b then 1 else if 1152921504606846976 < a + b then 2 else 0
def addV (a b : Int) : Int := if addC a b = 0 then a + b else 0
def subC (a b : Int) : Int := if badL a || badL b || decide (a < b) then 1 else 0
def subV (a b : Int) : Int := if subC a b = 0 then a - b else 0
def mulC (a k : Int) : Int := if badL a || decide (k < 0) then 1 else if 0 < a ∧ 1152921504606846976 / a < k then 2 else 0
def mulV (a k : Int) : Int := if mulC a k = 0 then a * k else 0

set_option maxHeartbeats 400000 in
theorem add_range (a b : Int) (w : World) (h : a < 0 ∨ 1152921504606846976 < a ∨ b < 0 ∨ 1152921504606846976 < b) :
    Calls Try.prog 37 #[.int .i64 a, .int .i64 b] w fun e w' => e = .returned (.tuple #[.int .i64 0, .iface 52 (.int .i64 1)]) ∧ w = w' := by
  by_cases h1 : 0 ≤ a
  · by_cases h2 : a ≤ 1152921504606846976
    · by_cases h3 : 0 ≤ b
      · have h4 : ¬ b ≤ 1152921504606846976 := by omega
        clear h
        go_enter Try.func37, Try.ntmps37; go_wp2; all_goals (go_ret2; exact ⟨rfl, rfl⟩)
      · clear h
        go_enter Try.func37, Try.ntmps37; go_wp2; all_goals (go_ret2; exact ⟨rfl, rfl⟩)
    · clear h
      go_enter Try.func37, Try.ntmps37; go_wp2; all_goals (go_ret2; exact ⟨rfl, rfl⟩)
  · clear h
    go_enter Try.func37, Try.ntmps37; go_wp2; all_goals (go_ret2; exact ⟨rfl, rfl⟩)

set_option maxHeartbeats 400000 in
theorem add_long (a b : Int) (w : World) (h1 : 0 ≤ a) (h2 : a ≤ 1152921504606846976) (h3 : 0 ≤ b) (h4 : b ≤ 1152921504606846976) (h5 : 1152921504606846976 < a + b) :
    Calls Try.prog 37 #[.int .i64 a, .int .i64 b] w fun e w' => e = .returned (.tuple #[.int .i64 (0), .iface 52 (.int .i64 2)]) ∧ w = w' := by
  all_goals
    go_enter Try.func37, Try.ntmps37
    go_wp2
    all_goals (go_ret2; exact ⟨rfl, rfl⟩)

set_option maxHeartbeats 400000 in
theorem add_ok (a b : Int) (w : World) (h1 : 0 ≤ a) (h2 : a ≤ 1152921504606846976) (h3 : 0 ≤ b) (h4 : b ≤ 1152921504606846976) (h5 : a + b ≤ 1152921504606846976) :
    Calls Try.prog 37 #[.int .i64 a, .int .i64 b] w fun e w' => e = .returned (.tuple #[.int .i64 (a + b), .nilIface]) ∧ w = w' := by
  all_goals
    go_enter Try.func37, Try.ntmps37
    go_wp2
    all_goals (go_ret2; exact ⟨rfl, rfl⟩)

set_option maxHeartbeats 400000 in
theorem mul_range (a b : Int) (w : World) (h : a < 0 ∨ 1152921504606846976 < a ∨ b < 0) :
    Calls Try.prog 40 #[.int .i64 a, .int .i64 b] w fun e w' => e = .returned (.tuple #[.int .i64 0, .iface 52 (.int .i64 1)]) ∧ w = w' := by
  by_cases h1 : 0 ≤ a
  · by_cases h2 : a ≤ 1152921504606846976
    · have h3 : b < 0 := by omega
      clear h
      go_enter Try.func40, Try.ntmps40; go_wp2; all_goals (go_ret2; exact ⟨rfl, rfl⟩)
    · clear h
      go_enter Try.func40, Try.ntmps40; go_wp2; all_goals (go_ret2; exact ⟨rfl, rfl⟩)
  · clear h
    go_enter Try.func40, Try.ntmps40; go_wp2; all_goals (go_ret2; exact ⟨rfl, rfl⟩)

set_option maxHeartbeats 400000 in
theorem mul_zero (a b : Int) (w : World) (h3 : 0 ≤ b) (h1 : a = 0) :
    Calls Try.prog 40 #[.int .i64 a, .int .i64 b] w fun e w' => e = .returned (.tuple #[.int .i64 (0), .nilIface]) ∧ w = w' := by
  subst h1
  all_goals
    go_enter Try.func40, Try.ntmps40
    go_wp2
    all_goals (go_ret2; exact ⟨rfl, rfl⟩)

set_option maxHeartbeats 400000 in
theorem mul_long (a b : Int) (w : World) (h1 : 0 < a) (h2 : a ≤ 1152921504606846976) (h3 : 0 ≤ b) (h5 : 1152921504606846976 / a < b) :
    Calls Try.prog 40 #[.int .i64 a, .int .i64 b] w fun e w' => e = .returned (.tuple #[.int .i64 (0), .iface 52 (.int .i64 2)]) ∧ w = w' := by
  all_goals
    go_enter Try.func40, Try.ntmps40
    go_wp2
    all_goals (go_ret2; exact ⟨rfl, rfl⟩)

set_option maxHeartbeats 400000 in
theorem mul_ok (a b : Int) (w : World) (h1 : 0 < a) (h2 : a ≤ 1152921504606846976) (h3 : 0 ≤ b) (h5 : b ≤ 1152921504606846976 / a) (h6 : a * b ≤ 1152921504606846976) (h7 : 0 ≤ a * b) :
    Calls Try.prog 40 #[.int .i64 a, .int .i64 b] w fun e w' => e = .returned (.tuple #[.int .i64 (a * b), .nilIface]) ∧ w = w' := by
  all_goals
    go_enter Try.func40, Try.ntmps40
    go_wp2
    all_goals (go_ret2; exact ⟨rfl, rfl⟩)

end Go.Proofs.Ytgjhlmmhpcbnaaa
