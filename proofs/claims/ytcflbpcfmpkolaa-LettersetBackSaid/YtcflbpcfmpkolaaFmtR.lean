/-
  The reference's notation of a set of letters.
-/
import Derived.Test.YtcflbpcfmpkolaaFmt
import Derived.Laws.IdiomStrings
namespace Go.Proofs.Ytcflbpcfmpkolaa
open Go.Shelf Go.RowKit

theorem convert_one (w : World) (z : Int) (h0 : 0 ≤ z) (h1 : z < 256) :
    (convert 33 9 (.slice (some ⟨w.heap.size, 0, none⟩) 1 1)).run Try.prog (w.alloc (.cells #[.int .u8 z] 5)) = .ok (.string ⟨#[byteZ z]⟩) (w.alloc (.cells #[.int .u8 z] 5)) := by
  refine run_convert_bytes_back (w.alloc (.cells #[.int .u8 z] 5)) 33 9 5 ⟨w.heap.size, 0, none⟩ 1 [byteZ z] Try.underlying33 Try.underlying5 Try.underlying9 ?_
  intro j hj
  obtain rfl : j = 0 := by simp at hj; exact hj
  rw [show [byteZ z][0] = byteZ z from rfl, byteZ_nat h0 h1]
  simp [Addr.add]
theorem hex_cut (k : Nat) (h : k < 16) : (⟨#[48, 49, 50, 51, 52, 53, 54, 55, 56, 57, 97, 98, 99, 100, 101, 102]⟩ : ByteArray).extract k (k + 1) = ⟨#[hexD k]⟩ := by
  have : ∀ k : Fin 16, (⟨#[48, 49, 50, 51, 52, 53, 54, 55, 56, 57, 97, 98, 99, 100, 101, 102]⟩ : ByteArray).extract k.1 (k.1 + 1) = ⟨#[hexD k.1]⟩ := by decide
  exact this ⟨k, h⟩
theorem cat_bytes (a b : Array UInt8) : (⟨a⟩ : ByteArray) ++ ⟨b⟩ = ⟨a ++ b⟩ := by
  apply ByteArray.ext; simp
set_option maxRecDepth 100000 in
set_option maxHeartbeats 1000000 in
theorem refletter_any (x : Nat) (hx : (x : Int) < 256) (w : World) :
    Calls Try.prog 36 #[.int .i64 (x : Nat)] w fun e w' => e = .returned (.string ⟨(letB x).toArray⟩) ∧ Below w.heap.size w w' := by
  have hcv := convert_one w
  go_enter Try.func36, Try.ntmps36
  go_wp2
  all_goals (try (refine wp_region_later (by kernel_rfl) (by kernel_rfl) ?_; repeat (first | go_big_quiet_skip | (go_big_quiet_want; go_big_quiet_op; go_big_quiet_on))))
  all_goals (try (refine wpQuiet_nil ?_; rintro _ ⟨u, rfl⟩; go_wp2))
  all_goals go_ret
  all_goals refine ⟨?_, ?_⟩
  all_goals first | exact Below.refl _ _ | exact (Below.refl _ _).alloc (Nat.le_refl _) _ | exact below_later _ _ | skip
  all_goals try (simp only [beq_iff_eq, beq_eq_false_iff_ne, ne_eq] at *)
  all_goals unfold letB
  all_goals repeat (first | rw [if_pos (by omega)] | rw [if_neg (by omega)])
  all_goals
    first
    | (rw [hex_cut _ (by omega), hex_cut _ (by omega), cat_bytes, cat_bytes]; rfl)
    | (rw [cat_bytes, ← byteZ_cast]; rfl)
    | (rw [cat_bytes, ← byteZ_cast, show (x : Int) = 92 by omega]; rfl)
    | (rw [cat_bytes, ← byteZ_cast, show (x : Int) = 93 by omega]; rfl)
    | (rw [cat_bytes, ← byteZ_cast, show (x : Int) = 45 by omega]; rfl)
    | (rw [cat_bytes, ← byteZ_cast, show (x : Int) = 94 by omega]; rfl)
    | (rw [← byteZ_cast]; rfl)
    | rfl
end Go.Proofs.Ytcflbpcfmpkolaa
