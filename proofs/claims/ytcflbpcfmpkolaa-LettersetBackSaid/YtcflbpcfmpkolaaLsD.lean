/-
  Package letterset: the statements' helper 'alive'.
-/
import Derived.Test.YtcflbpcfmpkolaaLsB
import Derived.Test.YtcflbpcfmpkolaaLsC
namespace Go.Proofs.Ytcflbpcfmpkolaa
open Go.RowKit

def two : Nat → Nat := put (put (fun _ => 0) 97) 200
theorem two_small : Small two := put_small (put_small zero_small _) _
theorem two_97 : bit two 97 = true := by decide +kernel
theorem two_200 : bit two 200 = true := by decide +kernel
theorem two_len : cnt (bit two) 256 = 2 := by decide +kernel

theorem of_two (w : World) : Calls Try.prog 16 #[.slice (some ⟨w.heap.size, 0, none⟩) 2 2] (w.alloc (.cells #[.int .u8 97, .int .u8 200] 5)) fun e w' => e = .returned (.agg (lc two)) ∧ Below w.heap.size w w' := by
  have r := Row.new w 5 #[.int .u8 97, .int .u8 200]
  have c := of_some w.heap.size 0 2 2 (fun k => if k = 0 then 97 else 200) (w.alloc (.cells #[.int .u8 97, .int .u8 200] 5)) (by omega) (fun k _ => by split <;> omega) (fun k hk => by
    rw [Nat.zero_add, r.cell]
    have : k = 0 ∨ k = 1 := by omega
    rcases this with rfl | rfl <;> rfl)
  have hb := (Below.refl w.heap.size w).alloc (Nat.le_refl _) (Obj.cells #[.int .u8 97, .int .u8 200] 5)
  exact c.mono fun e w' ⟨he, h⟩ => ⟨he, hb.trans (h.mono (by simp))⟩
theorem of_two_since {a w : World} (hb : Below a.heap.size a w) : Calls Try.prog 16 #[.slice (some ⟨w.heap.size, 0, none⟩) 2 2] (w.alloc (.cells #[.int .u8 97, .int .u8 200] 5)) fun e w' => e = .returned (.agg (lc two)) ∧ Below a.heap.size a w' :=
  (of_two w).mono fun _ _ ⟨he, h⟩ => ⟨he, hb.trans (h.mono hb.size)⟩
theorem has_97 (w : World) : Calls Try.prog 12 #[.agg (lc two), .int .u8 97] w fun e w' => e = .returned (.bool true) ∧ Below w.heap.size w w' := by
  have := has_any two 97 two_small (by omega) w; rw [two_97] at this; exact this
theorem has_200 (w : World) : Calls Try.prog 12 #[.agg (lc two), .int .u8 200] w fun e w' => e = .returned (.bool true) ∧ Below w.heap.size w w' := by
  have := has_any two 200 two_small (by omega) w; rw [two_200] at this; exact this
theorem len_two (w : World) : Calls Try.prog 14 #[.agg (lc two)] w fun e w' => e = .returned (.int .i64 2) ∧ Below w.heap.size w w' := by
  have := len_any two two_small w; rw [two_len] at this; exact this

set_option maxHeartbeats 400000 in
theorem alive_true (w : World) : Calls Try.prog 13 #[] w fun e w' => e = .returned (.bool true) ∧ Below w.heap.size w w' := by
  have hb := Below.refl w.heap.size w
  go_enter Try.func13, Try.ntmps13
  go_wp2_with (first | (go_at_call 16; with_reducible refine (of_two_since hb).mono ?_; rintro e w' ⟨rfl, hb⟩) | (go_at_call 12; with_reducible refine (calls_since hb (has_97 _)).mono ?_; rintro e w' ⟨rfl, hb⟩) | (go_at_call 12; with_reducible refine (calls_since hb (has_200 _)).mono ?_; rintro e w' ⟨rfl, hb⟩) | (go_at_call 14; with_reducible refine (calls_since hb (len_two _)).mono ?_; rintro e w' ⟨rfl, hb⟩))
  go_ret
  exact ⟨rfl, hb⟩
end Go.Proofs.Ytcflbpcfmpkolaa
