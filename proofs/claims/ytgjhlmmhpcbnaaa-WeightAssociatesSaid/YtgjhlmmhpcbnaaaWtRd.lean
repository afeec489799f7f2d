/-
  Package weight: the reference's Valid, case by case (d).
-/
import Derived.Test.YtgjhlmmhpcbnaaaWtB
namespace Go.Proofs.Ytgjhlmmhpcbnaaa
open Go.RowKit
set_option linter.unusedVariables false
theorem rl_b2 (l n h t v s : Int) (w : World) (b1 : I64 l) (b2 : I64 n) (b3 : I64 h) (b4 : I64 t) (f1 : 0 ≤ v) (f2 : v < 18446744073709551616) (c1 : 0 ≤ l) (c2 : l ≤ 1152921504606846976) (c3 : 0 ≤ h) (c5 : 0 ≤ t) (e0 : n = 1) (e1 : h + t + 1 = l) (e2 : (h + t + 1 == l) = true) (g : v < 2305843009213693951) (g2 : (s == sc l) = false) :
    Calls Try.prog 18 #[.agg (wc ⟨l, n, h, t, (v, s)⟩)] w fun e w' => e = .returned (.bool false) ∧ Below w.heap.size w w' := by
  unfold I64 at b1 b2 b3 b4
  have HP := Lib.hid (fun w => w_scale l w c1 (by omega))
  have hb := Lib.hid ((Below.refl w.heap.size w).alloc (Nat.le_refl _) (Obj.cells (wc ⟨l, n, h, t, (v, s)⟩) 27))
  have R1 := Lib.hid (Row.new w 27 (wc ⟨l, n, h, t, (v, s)⟩))
  obtain ⟨c, hc⟩ : ∃ c, w.heap.size = c := ⟨_, rfl⟩
  rw [hc] at R1 hb
  have HS := Lib.hid hc
  unfold wc at *
  subst e0 e1
  go_enter Try.func18, Try.ntmps18
  go_wp2
  obtain ⟨w1, hw1⟩ : ∃ w1, w1 = w.alloc (Obj.cells #[.int .i64 (h + t + 1), .int .i64 1, .int .i64 h, .int .i64 t, .int .u64 v, .int .u64 s] 27) := ⟨_, rfl⟩
  rw [← hw1] at hb R1 ⊢
  have q0 : ∀ u, (later w1 u).cell? ⟨c, 0, none⟩ = some (.int .i64 (h + t + 1)) := fun u => (R1.out.later u).cell 0
  have q4 : ∀ u, (later w1 u).cell? ⟨c, 4, none⟩ = some (.int .u64 v) := fun u => (R1.out.later u).cell 4
  have q5 : ∀ u, (later w1 u).cell? ⟨c, 5, none⟩ = some (.int .u64 s) := fun u => (R1.out.later u).cell 5
  clear hw1
  refine wp_region_later (by kernel_rfl) (by kernel_rfl) ?_
  repeat (first | go_big_quiet_skip | (go_big_quiet_want; go_big_quiet_op; first | go_big_quiet_on | go_big_quiet_call (with_reducible exact calls_later_eq (HP.out _))))
  refine wpQuiet_nil ?_
  rintro w4 ⟨u, rfl⟩
  go_wp2
  go_ret
  exact ⟨rfl, by rw [HS.out]; exact hb.out.trans ((below_later w1 u).mono (by have := hb.out.size; have := HS.out; omega))⟩
theorem rl_b3 (l n h t v s : Int) (w : World) (b1 : I64 l) (b2 : I64 n) (b3 : I64 h) (b4 : I64 t) (f1 : 0 ≤ v) (f2 : v < 18446744073709551616) (c1 : 0 ≤ l) (c2 : l ≤ 1152921504606846976) (c3 : 0 ≤ h) (c5 : 0 ≤ t) (e0 : n = 1) (e1 : h + t + 1 = l) (e2 : (h + t + 1 == l) = true) (g : v < 2305843009213693951) (g2 : (s == sc l) = true) (g3 : 0 < l) :
    Calls Try.prog 18 #[.agg (wc ⟨l, n, h, t, (v, s)⟩)] w fun e w' => e = .returned (.bool true) ∧ Below w.heap.size w w' := by
  unfold I64 at b1 b2 b3 b4
  have HP := Lib.hid (fun w => w_scale l w c1 (by omega))
  have hb := Lib.hid ((Below.refl w.heap.size w).alloc (Nat.le_refl _) (Obj.cells (wc ⟨l, n, h, t, (v, s)⟩) 27))
  have R1 := Lib.hid (Row.new w 27 (wc ⟨l, n, h, t, (v, s)⟩))
  obtain ⟨c, hc⟩ : ∃ c, w.heap.size = c := ⟨_, rfl⟩
  rw [hc] at R1 hb
  have HS := Lib.hid hc
  unfold wc at *
  subst e0 e1
  go_enter Try.func18, Try.ntmps18
  go_wp2
  obtain ⟨w1, hw1⟩ : ∃ w1, w1 = w.alloc (Obj.cells #[.int .i64 (h + t + 1), .int .i64 1, .int .i64 h, .int .i64 t, .int .u64 v, .int .u64 s] 27) := ⟨_, rfl⟩
  rw [← hw1] at hb R1 ⊢
  have q0 : ∀ u, (later w1 u).cell? ⟨c, 0, none⟩ = some (.int .i64 (h + t + 1)) := fun u => (R1.out.later u).cell 0
  have q4 : ∀ u, (later w1 u).cell? ⟨c, 4, none⟩ = some (.int .u64 v) := fun u => (R1.out.later u).cell 4
  have q5 : ∀ u, (later w1 u).cell? ⟨c, 5, none⟩ = some (.int .u64 s) := fun u => (R1.out.later u).cell 5
  clear hw1
  refine wp_region_later (by kernel_rfl) (by kernel_rfl) ?_
  repeat (first | go_big_quiet_skip | (go_big_quiet_want; go_big_quiet_op; first | go_big_quiet_on | go_big_quiet_call (with_reducible exact calls_later_eq (HP.out _))))
  refine wpQuiet_nil ?_
  rintro w4 ⟨u, rfl⟩
  go_wp2
  go_ret
  exact ⟨rfl, by rw [HS.out]; exact hb.out.trans ((below_later w1 u).mono (by have := hb.out.size; have := HS.out; omega))⟩
theorem rl_c1 (l n h t v s : Int) (w : World) (b1 : I64 l) (b2 : I64 n) (b3 : I64 h) (b4 : I64 t) (f1 : 0 ≤ v) (f2 : v < 18446744073709551616) (c1 : 0 ≤ l) (c2 : l ≤ 1152921504606846976) (c3 : 0 ≤ h) (c5 : 0 ≤ t) (c4 : h ≤ l) (c6 : t ≤ l) (c8 : n ≤ l) (e0 : 2 ≤ n) (e1 : h + t + n ≤ l) (d1 : (n == 0) = false) (d2 : (n == 1) = false) (g : decide (v < 2305843009213693951) = false) :
    Calls Try.prog 18 #[.agg (wc ⟨l, n, h, t, (v, s)⟩)] w fun e w' => e = .returned (.bool false) ∧ Below w.heap.size w w' := by
  unfold I64 at b1 b2 b3 b4
  have HP := Lib.hid (fun w => w_scale l w c1 (by omega))
  have hb := Lib.hid ((Below.refl w.heap.size w).alloc (Nat.le_refl _) (Obj.cells (wc ⟨l, n, h, t, (v, s)⟩) 27))
  have R1 := Lib.hid (Row.new w 27 (wc ⟨l, n, h, t, (v, s)⟩))
  obtain ⟨c, hc⟩ : ∃ c, w.heap.size = c := ⟨_, rfl⟩
  rw [hc] at R1 hb
  have HS := Lib.hid hc
  unfold wc at *
  go_enter Try.func18, Try.ntmps18
  go_wp2
  obtain ⟨w1, hw1⟩ : ∃ w1, w1 = w.alloc (Obj.cells #[.int .i64 l, .int .i64 n, .int .i64 h, .int .i64 t, .int .u64 v, .int .u64 s] 27) := ⟨_, rfl⟩
  rw [← hw1] at hb R1 ⊢
  have q0 : ∀ u, (later w1 u).cell? ⟨c, 0, none⟩ = some (.int .i64 l) := fun u => (R1.out.later u).cell 0
  have q4 : ∀ u, (later w1 u).cell? ⟨c, 4, none⟩ = some (.int .u64 v) := fun u => (R1.out.later u).cell 4
  have q5 : ∀ u, (later w1 u).cell? ⟨c, 5, none⟩ = some (.int .u64 s) := fun u => (R1.out.later u).cell 5
  clear hw1
  refine wp_region_later (by kernel_rfl) (by kernel_rfl) ?_
  repeat (first | go_big_quiet_skip | (go_big_quiet_want; go_big_quiet_op; first | go_big_quiet_on | go_big_quiet_call (with_reducible exact calls_later_eq (HP.out _))))
  refine wpQuiet_nil ?_
  rintro w4 ⟨u, rfl⟩
  go_wp2
  go_ret
  exact ⟨rfl, by rw [HS.out]; exact hb.out.trans ((below_later w1 u).mono (by have := hb.out.size; have := HS.out; omega))⟩
theorem rl_c2 (l n h t v s : Int) (w : World) (b1 : I64 l) (b2 : I64 n) (b3 : I64 h) (b4 : I64 t) (f1 : 0 ≤ v) (f2 : v < 18446744073709551616) (c1 : 0 ≤ l) (c2 : l ≤ 1152921504606846976) (c3 : 0 ≤ h) (c5 : 0 ≤ t) (c4 : h ≤ l) (c6 : t ≤ l) (c8 : n ≤ l) (e0 : 2 ≤ n) (e1 : h + t + n ≤ l) (d1 : (n == 0) = false) (d2 : (n == 1) = false) (g : v < 2305843009213693951) (g2 : (s == sc l) = false) :
    Calls Try.prog 18 #[.agg (wc ⟨l, n, h, t, (v, s)⟩)] w fun e w' => e = .returned (.bool false) ∧ Below w.heap.size w w' := by
  unfold I64 at b1 b2 b3 b4
  have HP := Lib.hid (fun w => w_scale l w c1 (by omega))
  have hb := Lib.hid ((Below.refl w.heap.size w).alloc (Nat.le_refl _) (Obj.cells (wc ⟨l, n, h, t, (v, s)⟩) 27))
  have R1 := Lib.hid (Row.new w 27 (wc ⟨l, n, h, t, (v, s)⟩))
  obtain ⟨c, hc⟩ : ∃ c, w.heap.size = c := ⟨_, rfl⟩
  rw [hc] at R1 hb
  have HS := Lib.hid hc
  unfold wc at *
  go_enter Try.func18, Try.ntmps18
  go_wp2
  obtain ⟨w1, hw1⟩ : ∃ w1, w1 = w.alloc (Obj.cells #[.int .i64 l, .int .i64 n, .int .i64 h, .int .i64 t, .int .u64 v, .int .u64 s] 27) := ⟨_, rfl⟩
  rw [← hw1] at hb R1 ⊢
  have q0 : ∀ u, (later w1 u).cell? ⟨c, 0, none⟩ = some (.int .i64 l) := fun u => (R1.out.later u).cell 0
  have q4 : ∀ u, (later w1 u).cell? ⟨c, 4, none⟩ = some (.int .u64 v) := fun u => (R1.out.later u).cell 4
  have q5 : ∀ u, (later w1 u).cell? ⟨c, 5, none⟩ = some (.int .u64 s) := fun u => (R1.out.later u).cell 5
  clear hw1
  refine wp_region_later (by kernel_rfl) (by kernel_rfl) ?_
  repeat (first | go_big_quiet_skip | (go_big_quiet_want; go_big_quiet_op; first | go_big_quiet_on | go_big_quiet_call (with_reducible exact calls_later_eq (HP.out _))))
  refine wpQuiet_nil ?_
  rintro w4 ⟨u, rfl⟩
  go_wp2
  go_ret
  exact ⟨rfl, by rw [HS.out]; exact hb.out.trans ((below_later w1 u).mono (by have := hb.out.size; have := HS.out; omega))⟩
theorem rl_c3 (l n h t v s : Int) (w : World) (b1 : I64 l) (b2 : I64 n) (b3 : I64 h) (b4 : I64 t) (f1 : 0 ≤ v) (f2 : v < 18446744073709551616) (c1 : 0 ≤ l) (c2 : l ≤ 1152921504606846976) (c3 : 0 ≤ h) (c5 : 0 ≤ t) (c4 : h ≤ l) (c6 : t ≤ l) (c8 : n ≤ l) (e0 : 2 ≤ n) (e1 : h + t + n ≤ l) (d1 : (n == 0) = false) (d2 : (n == 1) = false) (g : v < 2305843009213693951) (g2 : (s == sc l) = true) (g3 : 0 < l) :
    Calls Try.prog 18 #[.agg (wc ⟨l, n, h, t, (v, s)⟩)] w fun e w' => e = .returned (.bool true) ∧ Below w.heap.size w w' := by
  unfold I64 at b1 b2 b3 b4
  have HP := Lib.hid (fun w => w_scale l w c1 (by omega))
  have hb := Lib.hid ((Below.refl w.heap.size w).alloc (Nat.le_refl _) (Obj.cells (wc ⟨l, n, h, t, (v, s)⟩) 27))
  have R1 := Lib.hid (Row.new w 27 (wc ⟨l, n, h, t, (v, s)⟩))
  obtain ⟨c, hc⟩ : ∃ c, w.heap.size = c := ⟨_, rfl⟩
  rw [hc] at R1 hb
  have HS := Lib.hid hc
  unfold wc at *
  go_enter Try.func18, Try.ntmps18
  go_wp2
  obtain ⟨w1, hw1⟩ : ∃ w1, w1 = w.alloc (Obj.cells #[.int .i64 l, .int .i64 n, .int .i64 h, .int .i64 t, .int .u64 v, .int .u64 s] 27) := ⟨_, rfl⟩
  rw [← hw1] at hb R1 ⊢
  have q0 : ∀ u, (later w1 u).cell? ⟨c, 0, none⟩ = some (.int .i64 l) := fun u => (R1.out.later u).cell 0
  have q4 : ∀ u, (later w1 u).cell? ⟨c, 4, none⟩ = some (.int .u64 v) := fun u => (R1.out.later u).cell 4
  have q5 : ∀ u, (later w1 u).cell? ⟨c, 5, none⟩ = some (.int .u64 s) := fun u => (R1.out.later u).cell 5
  clear hw1
  refine wp_region_later (by kernel_rfl) (by kernel_rfl) ?_
  repeat (first | go_big_quiet_skip | (go_big_quiet_want; go_big_quiet_op; first | go_big_quiet_on | go_big_quiet_call (with_reducible exact calls_later_eq (HP.out _))))
  refine wpQuiet_nil ?_
  rintro w4 ⟨u, rfl⟩
  go_wp2
  go_ret
  exact ⟨rfl, by rw [HS.out]; exact hb.out.trans ((below_later w1 u).mono (by have := hb.out.size; have := HS.out; omega))⟩
end Go.Proofs.Ytgjhlmmhpcbnaaa
