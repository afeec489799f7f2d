/-
  Package modular: Horner and the reference's, over a slice that reads.
-/
import Derived.Test.YtlkioolcbnnilaaMdF
import Derived.WalkKit
import Derived.Deep.QuietTactic
import Derived.BigQuiet
namespace Go.Proofs.Ytlkioolcbnnilaa
open Go.RowKit

/-- The value of a polynomial, the highest coefficient first. -/
def ho (x : Int) (z : Nat → Int) : Nat → Int
  | 0 => 0
  | k + 1 => aP (mP (ho x z k) x) (z k)
theorem ho_ge (x : Int) (z : Nat → Int) (k : Nat) : 0 ≤ ho x z k := by
  cases k with
  | zero => exact Int.le_refl _
  | succ k => exact R_ge _
theorem ho_64 (x : Int) (z : Nat → Int) (k : Nat) : ho x z k < 18446744073709551616 := by
  cases k with
  | zero => show (0 : Int) < _; omega
  | succ k => exact R_64 _

/-- The slice (A, n) reads as z(0) .. z(n - 1). -/
def RdU (w : World) (A : Option Addr) (n : Nat) (z : Nat → Int) : Prop := n = 0 ∨ ∃ b off, A = some ⟨b, off, none⟩ ∧ ∀ k, k < n → w.cell? ⟨b, off + k, none⟩ = some (.int .u64 (z k)) ∧ 0 ≤ z k ∧ z k < 18446744073709551616

theorem md_horner (x : Int) (A : Option Addr) (n c : Nat) (z : Nat → Int) (w : World) (h0 : 0 ≤ x) (h1 : x < 18446744073709551616) (hn : n ≤ 140737488355328) (hz : RdU w A n z) :
    Calls Try.prog 26 #[.int .u64 x, .slice A n c] w fun e w' => e = .returned (.int .u64 (ho x z n)) ∧ w = w' := by
  have HZ := Lib.hid hz
  have HX := Lib.hid (And.intro h0 h1)
  clear hz h0 h1
  go_enter Try.func26, Try.ntmps26
  go_wp2
  go_loop [5, 10] (fun t i => ∃ (k : Nat), k ≤ n ∧ i = .int .i64 k ∧ t = .int .u64 (ho x z k)) (fun _ i => n - (intOf i).toNat)
  case atStart => exact ⟨0, Nat.zero_le _, rfl, rfl⟩
  case round =>
    obtain ⟨k, hk, rfl, rfl⟩ := hrel
    by_cases hlt : k < n
    · obtain ⟨b, off, rfl, hc⟩ := HZ.out.resolve_left (by omega)
      obtain ⟨hcell, z0, z1⟩ := hc k hlt
      have H1 := Lib.hid (fun w => md_mul (ho x z k) x w (ho_ge _ _ _) (ho_64 _ _ _) HX.out.1 HX.out.2)
      have H2 := Lib.hid (fun w => md_add (mP (ho x z k) x) (z k) w (R_ge _) (R_64 _) z0 z1)
      clear hc z0 z1
      go_wp2_with (first | (go_at_call 20; with_reducible refine (H1.out _).mono ?_; rintro e w' ⟨rfl, rfl⟩) | (go_at_call 15; with_reducible refine (H2.out _).mono ?_; rintro e w' ⟨rfl, rfl⟩))
      go_round
      case rel => exact ⟨k + 1, by omega, by go_num, rfl⟩
      case measure => simp [intOf]; omega
    · obtain rfl : k = n := by omega
      go_wp2
      go_ret
      exact ⟨rfl, rfl⟩
theorem calls_drew {P : Program} {f : FuncId} {args : Array Value} {w : World} {n : Nat} {v : Value} (h : Calls P f args (w.drewN n) fun e w' => e = .returned v ∧ w.drewN n = w') :
    Calls P f args (w.drewN n) fun e w'' => e = .returned v ∧ ∃ m, w'' = w.drewN m := h.mono fun _ _ ⟨he, h⟩ => ⟨he, n, h.symm⟩
theorem md_rhorner (x : Int) (A : Option Addr) (n c : Nat) (z : Nat → Int) (w : World) (h0 : 0 ≤ x) (h1 : x < 18446744073709551616) (hn : n ≤ 140737488355328) (hz : RdU w A n z) :
    Calls Try.prog 27 #[.int .u64 x, .slice A n c] w fun e w' => e = .returned (.int .u64 (ho x z n)) ∧ ∃ m, w' = w.drewN m := by
  have HZ := Lib.hid hz
  have HX := Lib.hid (And.intro h0 h1)
  clear hz h0 h1
  go_enter Try.func27, Try.ntmps27
  go_wp2
  go_loopw [5, 6] (fun t i wr => ∃ (k m : Nat), k ≤ n ∧ i = .int .i64 k ∧ t = .int .u64 (ho x z k) ∧ wr = w.drewN m) (fun _ i _ => n - (intOf i).toNat)
  case atStart => exact ⟨0, 0, Nat.zero_le _, rfl, rfl, rfl⟩
  case round =>
    obtain ⟨k, m, hk, rfl, rfl, hw⟩ := hrel
    have HW := Lib.hid hw
    by_cases hlt : k < n
    · obtain ⟨b, off, rfl, hc⟩ := HZ.out.resolve_left (by omega)
      obtain ⟨hcell, z0, z1⟩ := hc k hlt
      have H1 := Lib.hid (fun w => md_rmul (ho x z k) x w (ho_ge _ _ _) (ho_64 _ _ _) HX.out.1 HX.out.2)
      have H2 := Lib.hid (fun w => md_radd (mP (ho x z k) x) (z k) w (R_ge _) (R_64 _) z0 z1)
      have hcell' : wr.cell? ⟨b, off + k, none⟩ = some (.int .u64 (z k)) := by rw [hw]; exact hcell
      clear hc z0 z1 hw hcell
      go_wp2
      go_quiet (first | (with_reducible exact calls_drew (H1.out _)) | (with_reducible exact calls_drew (H2.out _)))
      go_wp2
      go_roundw
      case rel => exact ⟨k + 1, m + nq, by omega, by go_num, rfl, by rw [HW.out, World.drewN_drewN]⟩
      case measure => simp [intOf]; omega
    · clear hw
      obtain rfl : k = n := by omega
      go_wp2
      go_ret
      exact ⟨rfl, m, HW.out⟩
end Go.Proofs.Ytlkioolcbnnilaa
