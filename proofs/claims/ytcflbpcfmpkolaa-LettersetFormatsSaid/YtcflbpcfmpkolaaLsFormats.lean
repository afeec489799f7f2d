/-
  The walk of the statement LettersetFormats.
-/
import Derived.Test.YtcflbpcfmpkolaaFmtS
import Derived.Test.YtcflbpcfmpkolaaLsD
namespace Go.Proofs.Ytcflbpcfmpkolaa
open Go.RowKit

def fiveZ (k : Nat) : Nat := [45, 97, 98, 99, 120].getD k 0
def five : Nat → Nat := ofW fiveZ 5
theorem five_small : Small five := put_small (put_small (put_small (put_small (put_small zero_small _) _) _) _) _
def fiveC : Array Value := #[.int .u8 45, .int .u8 97, .int .u8 98, .int .u8 99, .int .u8 120]
theorem of_five {w : World} {g : Nat} (r : Row w g 5 fiveC) : Calls Try.prog 16 #[.slice (some ⟨g, 0, none⟩) 5 5] w fun e w' => e = .returned (.agg (lc five)) ∧ Below w.heap.size w w' :=
  of_some g 0 5 5 fiveZ w (by omega) (fun k hk => by
    have : k = 0 ∨ k = 1 ∨ k = 2 ∨ k = 3 ∨ k = 4 := by omega
    rcases this with rfl | rfl | rfl | rfl | rfl <;> decide) (fun k hk => by
    rw [Nat.zero_add, r.cell]
    have : k = 0 ∨ k = 1 ∨ k = 2 ∨ k = 3 ∨ k = 4 := by omega
    rcases this with rfl | rfl | rfl | rfl | rfl <;> rfl)
theorem five_fmt : fmt (bit five) 0 = [92, 45, 97, 45, 99, 120] := by decide +kernel

set_option maxHeartbeats 1000000 in
theorem formats_walk (s : Nat → Nat) (hs : Small s) (w : World) :
    Calls Try.prog 9 #[.agg (lc s)] w fun e w' => e = .returned (.bool true) ∧ Below w.heap.size w w' := by
  have r0 := Row.new w 24 (lc s)
  have hb := (Below.refl w.heap.size w).alloc (Nat.le_refl _) (Obj.cells (lc s) 24)
  have hf5 := Lib.hid (fun w => format_any five five_small w)
  rw [five_fmt] at hf5
  have hff := Lib.hid (fun w => format_any s hs w)
  have hro := Lib.hid (fun w => refof_any s hs w)
  have hrf := Lib.hid (fun w => refformat_any (bit s) w)
  obtain ⟨t, ht⟩ : ∃ t, t = (fmt (bit s) 0).toArray := ⟨_, rfl⟩
  rw [← ht] at hff hrf
  clear hs ht
  obtain ⟨w2, hw2⟩ : ∃ w2, w2 = w.alloc (Obj.cells (lc s) 24) := ⟨_, rfl⟩
  rw [← hw2] at r0 hb
  have HW2 := Lib.hid hw2
  go_enter Try.func9, Try.ntmps9
  go_wp2
  rw [← HW2.out]
  clear hw2
  have p0 := (r0.alloc (.cells fiveC 5)).drew
  have p2 := (Row.new w2 5 fiveC).drew
  have hb4 := (hb.alloc hb.size (.cells fiveC 5)).drew
  obtain ⟨w3, hw3⟩ : ∃ w3, w3 = (w2.alloc (.cells fiveC 5)).drew := ⟨_, rfl⟩
  have hof := Lib.hid (fun u => of_five (g := w2.heap.size) (w := later w3 u) ((hw3 ▸ p2 : Row w3 w2.heap.size 5 fiveC).later u))
  have HW := Lib.hid hw3
  rw [← hw3] at p0 hb4
  clear r0 hb p2 hw3
  refine wp_region_first (by kernel_rfl) rfl (by kernel_rfl) (by kernel_rfl) (by kernel_rfl) (fun K hK => ?_)
  go_simp
  have e := HW.out
  unfold fiveC at e
  rw [← e]
  clear e
  refine hK _ _ ?_
  clear hK K
  repeat (first | go_big_quiet_skip | (go_big_quiet_want; first | (with_reducible refine quiet_load_let p0 _ rfl ?_ ?_; go_simp; go_simp; go_big_quiet_on) | (go_big_quiet_op; first | go_big_quiet_on | go_big_quiet_call (first | with_reducible exact calls_later (hof.out _) | with_reducible exact calls_later (hf5.out _) | with_reducible exact calls_later (hff.out _) | with_reducible exact calls_later (hro.out _) | with_reducible exact calls_later (hrf.out _)))))
  refine wpQuiet_nil ?_
  rintro w4 ⟨u, rfl⟩
  go_wp2
  go_ret
  exact ⟨rfl, hb4.trans ((below_later w3 u).mono hb4.size)⟩
end Go.Proofs.Ytcflbpcfmpkolaa
