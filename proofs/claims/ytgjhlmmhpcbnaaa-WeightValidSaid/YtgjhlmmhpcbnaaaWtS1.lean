/-
  WeightValid: the walk.
-/
import Derived.Test.YtgjhlmmhpcbnaaaWtF
import Derived.Test.YtgjhlmmhpcbnaaaWtR
namespace Go.Proofs.Ytgjhlmmhpcbnaaa
open Go.RowKit
set_option maxRecDepth 20000 in
set_option maxHeartbeats 1600000 in
theorem valid_walk (r : Wt) (w : World) (h : W64 r) :
    Calls Try.prog 4 #[.agg (wc r)] w fun e w' => e = .returned (.bool true) ∧ Below w.heap.size w w' := by
  have HA := Lib.hid alive_true
  have H1 := Lib.hid (fun w => w_valid r w h)
  have H2 := Lib.hid (fun w => w_rvalid r w h)
  obtain ⟨B, hB⟩ : ∃ B, B = gb r := ⟨_, rfl⟩
  rw [← hB] at H1 H2
  have HB := Lib.hid ((Below.refl w.heap.size w).alloc (Nat.le_refl _) (Obj.cells (wc r) 27))
  have R1 := Lib.hid (Row.new w 27 (wc r))
  obtain ⟨X, hX⟩ : ∃ X, X = wc r := ⟨_, rfl⟩
  have hX6 : X.size = 6 := by rw [hX]; rfl
  have aW : AggT 27 X.size := by rw [hX6]; exact aggW
  rw [← hX] at H1 H2 HB R1 ⊢
  obtain ⟨c, hc⟩ : ∃ c, w.heap.size = c := ⟨_, rfl⟩
  rw [hc] at R1 HB
  have HS := Lib.hid hc
  clear h hX hX6 hB
  go_enter Try.func4, Try.ntmps4
  go_wp2_with fail
  obtain ⟨w1, hw1⟩ : ∃ w1, w1 = w.alloc (Obj.cells X 27) := ⟨_, rfl⟩
  rw [← hw1] at HB R1 ⊢
  clear hw1 hc
  refine wp_region_later (by kernel_rfl) (by kernel_rfl) ?_
  repeat (first | go_big_quiet_skip | (go_big_quiet_want; first | (with_reducible refine quiet_loadR aW R1.out _ rfl ?_ ?_; (go_simp <;> fail); go_simp; go_big_quiet_on) | (go_big_quiet_op; first | go_big_quiet_on | go_big_quiet_call (first | with_reducible exact calls_later (HA.out _) | with_reducible exact calls_later (H1.out _) | with_reducible exact calls_later (H2.out _)))))
  refine wpQuiet_nil ?_
  rintro w6 ⟨u, rfl⟩
  go_wp2
  go_ret
  exact ⟨by simp, by rw [HS.out]; exact HB.out.trans ((below_later w1 u).mono (by have := HB.out.size; have := HS.out; omega))⟩
end Go.Proofs.Ytgjhlmmhpcbnaaa
