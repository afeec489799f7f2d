/-
  Package monoid: the methods of the monoids that the statements use.
-/
import Derived.Test.YtbiecpejpkgngaaMo0
namespace Go.Proofs.Ytbiecpejpkgngaa
open Go.RowKit
theorem aggAdd : AggT 26 0 := ⟨⟨_, Try.underlying26, rfl⟩, by kernel_rfl⟩
theorem aggMax : AggT 28 0 := ⟨⟨_, Try.underlying28, rfl⟩, by kernel_rfl⟩
theorem aggWords : AggT 61 0 := ⟨⟨_, Try.underlying61, rfl⟩, by kernel_rfl⟩
theorem add_method (W : World) : (method 210 26 (.agg #[]) "Join").run Try.prog W = .ok (65, .agg #[]) W := rfl
theorem max_method (W : World) : (method 210 28 (.agg #[]) "Join").run Try.prog W = .ok (67, .agg #[]) W := rfl
theorem words_method (W : World) : (method 210 61 (.agg #[]) "Join").run Try.prog W = .ok (71, .agg #[]) W := rfl

theorem addJoin (a b : Int) (w : World) (_ : mAdd.sz a + mAdd.sz b ≤ 9223372036854775807) : Calls Try.prog 65 #[.agg #[], .int .i64 a, .int .i64 b] w fun e w' => e = .returned (.int .i64 (mAdd.j a b)) ∧ Below w.heap.size w w' := by
  go_enter Try.func65, Try.ntmps65
  go_wp2
  go_ret
  exact ⟨rfl, (Below.refl _ _).alloc (Nat.le_refl _) _⟩
theorem addUnit (w : World) : Calls Try.prog 66 #[.agg #[]] w fun e w' => e = .returned (.int .i64 0) ∧ Below w.heap.size w w' := by
  go_enter Try.func66, Try.ntmps66
  go_wp2
  go_ret
  exact ⟨rfl, (Below.refl _ _).alloc (Nat.le_refl _) _⟩
theorem maxJoin (a b : Int) (w : World) (_ : mMax.sz a + mMax.sz b ≤ 9223372036854775807) : Calls Try.prog 67 #[.agg #[], .int .i64 a, .int .i64 b] w fun e w' => e = .returned (.int .i64 (mMax.j a b)) ∧ Below w.heap.size w w' := by
  go_enter Try.func67, Try.ntmps67
  go_wp2
  all_goals
    go_ret
    exact ⟨ret_i64 (show _ = max a b by omega), (Below.refl _ _).alloc (Nat.le_refl _) _⟩
theorem maxUnit (w : World) : Calls Try.prog 68 #[.agg #[]] w fun e w' => e = .returned (.int .i64 (-9223372036854775808)) ∧ Below w.heap.size w w' := by
  go_enter Try.func68, Try.ntmps68
  go_wp2
  go_ret
  exact ⟨rfl, (Below.refl _ _).alloc (Nat.le_refl _) _⟩
theorem wordsUnit (w : World) : Calls Try.prog 72 #[.agg #[]] w fun e w' => e = .returned (.string ByteArray.empty) ∧ Below w.heap.size w w' := by
  go_enter Try.func72, Try.ntmps72
  go_wp2
  go_ret
  exact ⟨rfl, (Below.refl _ _).alloc (Nat.le_refl _) _⟩
theorem wordsJoin (a b : ByteArray) (w : World) (h : mWords.sz a + mWords.sz b ≤ 9223372036854775807) : Calls Try.prog 71 #[.agg #[], .string a, .string b] w fun e w' => e = .returned (.string (mWords.j a b)) ∧ Below w.heap.size w w' := by
  have h' : a.size + b.size ≤ 9223372036854775807 := h
  have h2 : ¬ 9223372036854775807 < a.size + b.size := by omega
  clear h
  go_enter Try.func71, Try.ntmps71
  go_wp2
  go_ret
  exact ⟨rfl, (Below.refl _ _).alloc (Nat.le_refl _) _⟩
end Go.Proofs.Ytbiecpejpkgngaa
