/-
  The walk of the statement LettersetBack.
-/
import Derived.Test.YtcflbpcfmpkolaaBackM
import Derived.Test.YtcflbpcfmpkolaaLsParses
import Derived.Test.YtcflbpcfmpkolaaFmtS
import Derived.Test.YtcflbpcfmpkolaaLsD
namespace Go.Proofs.Ytcflbpcfmpkolaa
open Go.RowKit

set_option maxRecDepth 100000 in
set_option maxHeartbeats 1000000 in
theorem back_none (s U : Nat → Nat) (t x : ByteArray) (hs : Small s)
    (p1 : ∀ w, Calls Try.prog 28 #[.agg (lc s)] w fun e w' => e = .returned (.string x) ∧ Below w.heap.size w w')
    (p2 : ∀ w, Calls Try.prog 25 #[.string x] w fun e w' => e = .returned (.tuple #[.agg (lc s), .nilIface]) ∧ Below w.heap.size w w')
    (p3 : ∀ w, Calls Try.prog 25 #[.string t] w fun e w' => e = .returned (.tuple #[.agg (lc U), .iface 62 (.int .i64 4)]) ∧ Below w.heap.size w w') (w : World) :
    Calls Try.prog 10 #[.agg (lc s), .string t] w fun e w' => e = .returned (.bool true) ∧ Below w.heap.size w w' := by
  have r0 := Row.new w 24 (lc s)
  have hb := (Below.refl w.heap.size w).alloc (Nat.le_refl _) (Obj.cells (lc s) 24)
  have P1 := Lib.hid p1
  have P2 := Lib.hid p2
  have P3 := Lib.hid p3
  have PA := Lib.hid alive_true
  have gl := guard_let
  have el := equal_let
  have zs := zero_let
  clear p1 p2 p3 hs
  go_enter Try.func10, Try.ntmps10
  go_wp2_with (first | ((with_reducible refine wpList_load_let r0 rfl _ rfl ?_ ?_); (go_simp <;> fail); go_simp) | ((with_reducible refine wpList_load_let_g r0 ?_ _ rfl ?_ ?_); (first | rfl | (go_simp <;> fail)); (go_simp <;> fail); go_simp) | ((with_reducible refine wpList_load_let_g r1 ?_ _ rfl ?_ ?_); (first | rfl | (go_simp <;> fail)); (go_simp <;> fail); go_simp) | (go_at_call 28; (with_reducible refine (P1.out _).mono ?_); rintro e w1 ⟨rfl, hb1⟩; have r0 := r0.below' hb1; have hb := hb.trans (hb1.mono hb.size)) | (go_at_call 25; (with_reducible refine (P2.out _).mono ?_); rintro e w2 ⟨rfl, hb2⟩; have r0 := r0.below' hb2; have hb := hb.trans (hb2.mono hb.size)) | ((with_reducible refine wpList_new_let (fun _ => 0) s rfl _ _ rfl ?_ ?_ ?_); (go_simp <;> fail); (go_simp <;> fail); go_simp; have r1 := Row.new w2 24 (lc s); have r0 := r0.alloc (.cells (lc s) 24); have hb := hb.alloc hb.size (.cells (lc s) 24)) | (go_at_call 13; (with_reducible refine (PA.out _).mono ?_); rintro e w3 ⟨rfl, hb3⟩; have r0 := r0.below' hb3; have r1 := r1.below' hb3; have hb := hb.trans (hb3.mono hb.size)) | (go_at_call 25; (with_reducible refine (P3.out _).mono ?_); rintro e w4 ⟨rfl, hb4⟩; have r0 := r0.below' hb4; have r1 := r1.below' hb4; have hb := hb.trans (hb4.mono hb.size)) | ((with_reducible refine wpList_new_let (fun _ => 0) U rfl _ _ rfl ?_ ?_ ?_); (go_simp <;> fail); (go_simp <;> fail); go_simp; have r2 := Row.new w4 24 (lc U); have hb := hb.alloc hb.size (.cells (lc U) 24)))
  go_ret
  exact ⟨rfl, hb⟩
set_option maxRecDepth 100000 in
set_option maxHeartbeats 1000000 in
theorem back_some (s U V : Nat → Nat) (t x y : ByteArray) (hxt : t.size + x.size ≤ 9223372036854775807) (hs : Small s)
    (p1 : ∀ w, Calls Try.prog 28 #[.agg (lc s)] w fun e w' => e = .returned (.string x) ∧ Below w.heap.size w w')
    (p2 : ∀ w, Calls Try.prog 25 #[.string x] w fun e w' => e = .returned (.tuple #[.agg (lc s), .nilIface]) ∧ Below w.heap.size w w')
    (p3 : ∀ w, Calls Try.prog 25 #[.string t] w fun e w' => e = .returned (.tuple #[.agg (lc U), .nilIface]) ∧ Below w.heap.size w w')
    (p4 : ∀ w, Calls Try.prog 25 #[.string (t ++ x)] w fun e w' => e = .returned (.tuple #[.agg (lc V), .nilIface]) ∧ Below w.heap.size w w')
    (p5 : ∀ w, Calls Try.prog 18 #[.agg (lc U), .agg (lc s)] w fun e w' => e = .returned (.agg (lc V)) ∧ Below w.heap.size w w')
    (p6 : ∀ w, Calls Try.prog 18 #[.agg (lc s), .agg (lc U)] w fun e w' => e = .returned (.agg (lc V)) ∧ Below w.heap.size w w')
    (p7 : ∀ w, Calls Try.prog 28 #[.agg (lc V)] w fun e w' => e = .returned (.string y) ∧ Below w.heap.size w w') (w : World) :
    Calls Try.prog 10 #[.agg (lc s), .string t] w fun e w' => e = .returned (.bool true) ∧ Below w.heap.size w w' := by
  have r0 := Row.new w 24 (lc s)
  have hb := (Below.refl w.heap.size w).alloc (Nat.le_refl _) (Obj.cells (lc s) 24)
  have P1 := Lib.hid p1
  have P2 := Lib.hid p2
  have P3 := Lib.hid p3
  have P4 := Lib.hid p4
  have P5 := Lib.hid p5
  have P6 := Lib.hid p6
  have P7 := Lib.hid p7
  have HX := Lib.hid hxt
  have PA := Lib.hid alive_true
  have gl := guard_let
  have el := equal_let
  have zs := zero_let
  clear p1 p2 p3 p4 p5 p6 p7 hs hxt
  go_enter Try.func10, Try.ntmps10
  go_wp2_with (first | ((with_reducible refine wpList_load_let r0 rfl _ rfl ?_ ?_); (go_simp <;> fail); go_simp) | ((with_reducible refine wpList_load_let_g r0 ?_ _ rfl ?_ ?_); (first | rfl | (go_simp <;> fail)); (go_simp <;> fail); go_simp) | ((with_reducible refine wpList_load_let_g r1 ?_ _ rfl ?_ ?_); (first | rfl | (go_simp <;> fail)); (go_simp <;> fail); go_simp) | (go_at_call 28; (with_reducible refine (P1.out _).mono ?_); rintro e w5 ⟨rfl, hb5⟩; have r0 := r0.below' hb5; have r2 := r2.below' hb5; have hb := hb.trans (hb5.mono hb.size)) | (go_at_call 28; (with_reducible refine (P1.out _).mono ?_); rintro e w1 ⟨rfl, hb1⟩; have r0 := r0.below' hb1; have hb := hb.trans (hb1.mono hb.size)) | (go_at_call 25; (with_reducible refine (P2.out _).mono ?_); rintro e w2 ⟨rfl, hb2⟩; have r0 := r0.below' hb2; have hb := hb.trans (hb2.mono hb.size)) | ((with_reducible refine wpList_new_let (fun _ => 0) s rfl _ _ rfl ?_ ?_ ?_); (go_simp <;> fail); (go_simp <;> fail); go_simp; have r1 := Row.new w2 24 (lc s); have r0 := r0.alloc (.cells (lc s) 24); have hb := hb.alloc hb.size (.cells (lc s) 24)) | (go_at_call 13; (with_reducible refine (PA.out _).mono ?_); rintro e w3 ⟨rfl, hb3⟩; have r0 := r0.below' hb3; have r1 := r1.below' hb3; have hb := hb.trans (hb3.mono hb.size)) | (go_at_call 25; (with_reducible refine (P3.out _).mono ?_); rintro e w4 ⟨rfl, hb4⟩; have r0 := r0.below' hb4; have r1 := r1.below' hb4; have hb := hb.trans (hb4.mono hb.size)) | ((with_reducible refine wpList_new_let (fun _ => 0) U rfl _ _ rfl ?_ ?_ ?_); (go_simp <;> fail); (go_simp <;> fail); go_simp; have r2 := Row.new w4 24 (lc U); have r0 := r0.alloc (.cells (lc U) 24); have hb := hb.alloc hb.size (.cells (lc U) 24)) | (go_at_call 25; (with_reducible refine (P4.out _).mono ?_); rintro e w6 ⟨rfl, hb6⟩; have r0 := r0.below' hb6; have r2 := r2.below' hb6; have hb := hb.trans (hb6.mono hb.size)) | ((with_reducible refine wpList_new_let (fun _ => 0) V rfl _ _ rfl ?_ ?_ ?_); (go_simp <;> fail); (go_simp <;> fail); go_simp; have r3 := Row.new w6 24 (lc V); have r0 := r0.alloc (.cells (lc V) 24); have r2 := r2.alloc (.cells (lc V) 24); have hb := hb.alloc hb.size (.cells (lc V) 24)))
  · exfalso
    have := HX.out
    rename_i h
    omega
  obtain ⟨w7, hw7⟩ : ∃ w7, w7 = w6.alloc (.cells (lc V) 24) := ⟨_, rfl⟩
  rw [← hw7] at r0 r2 r3 hb ⊢
  clear hw7
  refine wp_region_later (by kernel_rfl) (by kernel_rfl) ?_
  repeat (first | go_big_quiet_skip | (go_big_quiet_want; first | (with_reducible refine quiet_load_let r0 _ rfl ?_ ?_; go_simp; go_simp; go_big_quiet_on) | (with_reducible refine quiet_load_let r2 _ rfl ?_ ?_; go_simp; go_simp; go_big_quiet_on) | (with_reducible refine quiet_load_let r3 _ rfl ?_ ?_; go_simp; go_simp; go_big_quiet_on) | (go_big_quiet_op; first | go_big_quiet_on | go_big_quiet_call (first | with_reducible exact calls_later (P5.out _) | with_reducible exact calls_later (P6.out _) | with_reducible exact calls_later (P7.out _)))))
  refine wpQuiet_nil ?_
  rintro w8 ⟨u, rfl⟩
  go_wp2
  go_ret
  exact ⟨rfl, hb.trans ((below_later w7 u).mono hb.size)⟩
theorem back_walk (s : Nat → Nat) (t : ByteArray) (hs : Small s) (ht : t.size ≤ 140737488351232) (w : World) :
    Calls Try.prog 10 #[.agg (lc s), .string t] w fun e w' => e = .returned (.bool true) ∧ Below w.heap.size w w' := by
  obtain ⟨S, hS, hSs⟩ := back_one s hs
  have p1 : ∀ w, Calls Try.prog 28 #[.agg (lc s)] w fun e w' => e = .returned (.string (ba (fmt (bit s) 0))) ∧ Below w.heap.size w w' := fun w => format_any s hs w
  have p2 : ∀ w, Calls Try.prog 25 #[.string (ba (fmt (bit s) 0))] w fun e w' => e = .returned (.tuple #[.agg (lc s), .nilIface]) ∧ Below w.heap.size w w' :=
    fun w => (parse_any _ _ hS w).mono fun e w' ⟨he, hb⟩ => ⟨by rw [he, hSs], hb⟩
  cases hR : parseS t.size t (fun _ => 0) with
  | none => exact back_none s (fun _ => 0) t _ hs p1 p2 (fun w => parse_any t _ hR w) w
  | some u =>
    have hu := parseS_small _ _ _ zero_small hR
    obtain ⟨V, hV, hVs⟩ := back_two s hs t u hu hR
    have e : t ++ ba (fmt (bit s) 0) = ba (t.data.toList ++ fmt (bit s) 0) := by
      show (⟨t.data⟩ : ByteArray) ++ ⟨(fmt (bit s) 0).toArray⟩ = _
      rw [cat_bytes]; unfold ba; congr 1; simp
    have hl := fmt_len (bit s) 256 0 (by omega)
    refine back_some s u (orW u s) t _ _ (by rw [ba_size]; omega) hs p1 p2 (fun w => parse_any t _ hR w) (fun w => ?_) (fun w => union_any u s hu hs w) (fun w => ?_) (fun w => format_any _ (orW_small hu hs) w) w
    · rw [e]
      exact (parse_any _ _ hV w).mono fun e w' ⟨he, hb⟩ => ⟨by rw [he, hVs], hb⟩
    · have := union_any s u hs hu w
      rwa [show orW s u = orW u s from funext fun i => Nat.or_comm _ _] at this
end Go.Proofs.Ytcflbpcfmpkolaa
