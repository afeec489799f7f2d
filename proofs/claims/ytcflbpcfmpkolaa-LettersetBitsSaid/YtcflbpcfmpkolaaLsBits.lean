/-
  The walk of the statement LettersetBits.
-/
import Derived.Test.YtcflbpcfmpkolaaLsD
namespace Go.Proofs.Ytcflbpcfmpkolaa
open Go.RowKit

def BitsRel (s : Nat → Nat) (w : World) (g1 : Nat) (i : Value) (wr : World) : Prop :=
  ∃ k : Nat, k ≤ 256 ∧ i = .int .i64 k ∧ Row wr w.heap.size 24 (lc s) ∧ Row wr g1 26 (sc (bit s)) ∧ Below w.heap.size w wr

set_option maxHeartbeats 1000000 in
theorem bits_walk (s : Nat → Nat) (hs : Small s) (w : World) :
    Calls Try.prog 3 #[.agg (lc s)] w fun e w' => e = .returned (.bool true) ∧ Below w.heap.size w w' := by
  have r0 := Row.new w 24 (lc s)
  have hb := (Below.refl w.heap.size w).alloc (Nat.le_refl _) (Obj.cells (lc s) 24)
  have HS := Lib.hid hs
  have zs := zero_set
  clear hs
  go_enter Try.func3, Try.ntmps3
  go_wp2_with (first | (with_reducible refine wpList_load_let r0 rfl _ rfl ?_ ?_; go_simp; go_simp) | (go_at_call 11; with_reducible refine (refof_any s HS.out _).mono ?_; rintro e w1 ⟨rfl, hb1⟩; have r1 := r0.below' hb1; have hb2 := hb.trans (hb1.mono hb.size)) | (with_reducible refine wpList_new_set (fun _ => false) (bit s) rfl _ _ rfl ?_ ?_ ?_; go_simp; go_simp; go_simp))
  go_loopw [4] (fun i wr => BitsRel s w w1.heap.size i wr) (fun i _ => left256 i)
  case atStart =>
    unfold BitsRel
    exact ⟨0, by omega, rfl, r1.alloc _, Row.new _ _ _, hb2.alloc hb2.size _⟩
  case round =>
    obtain ⟨k, hk, rfl, q0, q1, hb3⟩ := hrel
    have HK := Lib.hid hk
    clear hk hb r0 r1 hb1 hb2 zs
    by_cases hlt : (k : Int) < 256
    · obtain ⟨b, hbk⟩ : ∃ b, b = bit s k := ⟨_, rfl⟩
      have hasc := Lib.hid (fun w => has_any s k HS.out (by omega) w)
      have hc : ∀ u, (later wr u).cell? ⟨w1.heap.size, k, none⟩ = some (.bool b) := fun u => by rw [(q1.later u).cell, sc_at _ (by omega), hbk]
      rw [← hbk] at hasc
      have hne : (b != b) = false := by cases b <;> rfl
      clear hbk
      go_wp2
      refine wp_region_later (by kernel_rfl) (by kernel_rfl) ?_
      repeat (first | go_big_quiet_skip | (go_big_quiet_want; first | (with_reducible refine quiet_load_let q0 _ rfl ?_ ?_; go_simp; go_simp; go_big_quiet_on) | (go_big_quiet_op; first | go_big_quiet_on | go_big_quiet_call (with_reducible exact calls_later (hasc.out _)))))
      refine wpQuiet_nil ?_
      rintro w2 ⟨u, rfl⟩
      go_wp2
      go_roundw
      case rel => unfold BitsRel; exact ⟨k + 1, by omega, by go_num, q0.later u, q1.later u, hb3.trans ((below_later wr u).mono hb3.size)⟩
      case measure => exact left256_lt (by omega) rfl
    · have ha := Lib.hid alive_true
      have hl := Lib.hid (fun w => len_any s HS.out w)
      have hr := Lib.hid (fun w => reflen_any (bit s) w)
      obtain ⟨n, hn⟩ : ∃ n, n = cnt (bit s) 256 := ⟨_, rfl⟩
      rw [← hn] at hl hr
      clear hn
      go_wp2
      refine wp_region_later (by kernel_rfl) (by kernel_rfl) ?_
      repeat (first | go_big_quiet_skip | (go_big_quiet_want; first | (with_reducible refine quiet_load_let q0 _ rfl ?_ ?_; go_simp; go_simp; go_big_quiet_on) | (with_reducible refine quiet_load_set q1 _ rfl ?_ ?_; go_simp; go_simp; go_big_quiet_on) | (go_big_quiet_op; first | go_big_quiet_on | go_big_quiet_call (first | with_reducible exact calls_later (ha.out _) | with_reducible exact calls_later (hl.out _) | with_reducible exact calls_later (hr.out _)))))
      refine wpQuiet_nil ?_
      rintro w2 ⟨u, rfl⟩
      go_wp2
      go_ret
      exact ⟨rfl, hb3.trans ((below_later wr u).mono hb3.size)⟩
end Go.Proofs.Ytcflbpcfmpkolaa
