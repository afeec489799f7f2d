/-
  The contracts of length.Sum and of its reference, over every slice.
-/
import Derived.Test.YtgjhlmmhpcbnaaaLenB
namespace Go.Proofs.Ytgjhlmmhpcbnaaa
open Go.RowKit

/-- The sum from the left, and the code of the first error. -/
def sumP : Int → List Int → Int × Int
  | t, [] => (t, 0)
  | t, x :: xs => if addC t x = 0 then sumP (t + x) xs else (0, addC t x)
theorem sumP_step {t x : Int} (h : addC t x = 0) (xs : List Int) : sumP t (x :: xs) = sumP (t + x) xs := by rw [sumP, if_pos h]
theorem sumP_stop {t x : Int} (h : ¬ addC t x = 0) (xs : List Int) : sumP t (x :: xs) = (0, addC t x) := by rw [sumP, if_neg h]
theorem drop_at (zs : List Int) (k : Nat) (h : k < zs.length) : zs.drop k = zs.getD k 0 :: zs.drop (k + 1) := by
  rw [List.drop_eq_getElem_cons h]; simp [List.getD, h]

theorem add_gives (a b : Int) (h : addC a b = 0) (w : World) :
    Calls Try.prog 37 #[.int .i64 a, .int .i64 b] w fun e w' => e = .returned (.tuple #[.int .i64 (a + b), .nilIface]) ∧ w = w' := by
  have := add_any a b w; unfold addV at this; rw [h, if_pos rfl] at this; exact this
theorem add_stops (a b : Int) (h : ¬ addC a b = 0) (w : World) :
    Calls Try.prog 37 #[.int .i64 a, .int .i64 b] w fun e w' => e = .returned (.tuple #[.int .i64 0, .iface 52 (.int .i64 (addC a b))]) ∧ w = w' := by
  have := add_any a b w; unfold addV at this; rw [errv_some h, if_neg h] at this; exact this
def SumEnd (p : Int × Int) (w : World) (e : Ending) (w' : World) : Prop := e = .returned (.tuple #[.int .i64 p.1, errv p.2]) ∧ w = w'
set_option maxHeartbeats 400000 in
theorem sum_zero (A : Option Addr) (c : Nat) (w : World) : Calls Try.prog 52 #[.slice A 0 c] w (SumEnd (0, 0) w) := by
  go_enter Try.func52, Try.ntmps52
  go_wp2
  refine wp_loop_rounds 1 ?_; rw [rounds_succ]
  go_wp2
  go_ret2
  exact ⟨rfl, rfl⟩
set_option maxHeartbeats 800000 in
theorem sum_some (b off n c : Nat) (zs : List Int) (w : World) (hn : n ≤ 140737488355328) (hz : zs.length = n)
    (hc : ∀ k, k < n → w.cell? ⟨b, off + k, none⟩ = some (.int .i64 (zs.getD k 0))) :
    Calls Try.prog 52 #[.slice (some ⟨b, off, none⟩) n c] w (SumEnd (sumP 0 zs) w) := by
  obtain ⟨p, hp⟩ : ∃ p, p = sumP 0 zs := ⟨_, rfl⟩
  rw [← hp]
  have HP := Lib.hid hp
  have HC := Lib.hid hc
  have HZ := Lib.hid hz
  clear hp hc hz
  go_enter Try.func52, Try.ntmps52
  go_wp2
  go_loop [4, 11] (fun t i => ∃ (k : Nat) (T : Int), k ≤ n ∧ i = .int .i64 k ∧ t = .int .i64 T ∧ p = sumP T (zs.drop k)) (fun _ i => n - (intOf i).toNat)
  case atStart => exact ⟨0, 0, Nat.zero_le _, rfl, rfl, by rw [List.drop_zero]; exact HP.out⟩
  case round =>
    obtain ⟨k, T, hk, rfl, rfl, hq⟩ := hrel
    have HQ := Lib.hid hq
    clear hq
    by_cases hlt : k < n
    · obtain ⟨x, hx⟩ : ∃ x, zs.getD k 0 = x := ⟨_, rfl⟩
      have hcell := HC.out k hlt
      have hd := drop_at zs k (by have := HZ.out; omega)
      rw [hx] at hcell hd
      clear hx
      by_cases ha : addC T x = 0
      · have HS := Lib.hid (show p = sumP (T + x) (zs.drop (k + 1)) by rw [HQ.out, hd, sumP_step ha])
        have HA := Lib.hid (add_gives T x ha)
        clear ha hd
        go_wp2_with (go_at_call 37; with_reducible refine (HA.out _).mono ?_; rintro e w' ⟨rfl, rfl⟩)
        go_round
        case rel => exact ⟨k + 1, _, by omega, by go_num, rfl, HS.out⟩
        case measure => simp [intOf]; omega
      · have hs : p = (0, addC T x) := by rw [HQ.out, hd, sumP_stop ha]
        have H2 := Lib.hid (show errv p.2 = .iface 52 (.int .i64 (addC T x)) by rw [hs]; exact errv_some ha)
        have H1 := Lib.hid (show p.1 = 0 by rw [hs])
        have HA := Lib.hid (add_stops T x ha)
        clear hs ha hd
        go_wp2_with (go_at_call 37; with_reducible refine (HA.out _).mono ?_; rintro e w' ⟨rfl, rfl⟩)
        go_ret2
        exact ⟨by rw [H1.out, H2.out]; rfl, rfl⟩
    · have hs : p = (T, 0) := by rw [HQ.out, List.drop_of_length_le (by have := HZ.out; omega), sumP]
      have HS := Lib.hid hs
      clear hs
      go_wp2
      go_ret2
      exact ⟨by rw [HS.out]; rfl, rfl⟩

end Go.Proofs.Ytgjhlmmhpcbnaaa
