/-
  Package digest: Put.
-/
import Derived.Test.YtlhennbimgjohaaDgY
import Derived.Deep.OwnRows
import Derived.OwnWalk
namespace Go.Proofs.Ytlhennbimgjohaa
open Go.RowKit
/-- A slice of n bytes. -/
def IsSl (n : Nat) (z : Nat → Int) (v : Value) (w : World) : Prop := ∃ A c, v = .slice A n c ∧ Rd w.heap.size w A n (u8 z)
theorem IsSl.below {n : Nat} {z : Nat → Int} {v : Value} {w w' : World} (hb : Below w.heap.size w w') (h : IsSl n z v w) : IsSl n z v w' := by
  obtain ⟨A, c, hv, hr⟩ := h
  exact ⟨A, c, hv, (hr.later hb).mono hb.size⟩
theorem made_size (z : Value) (n : Nat) : (madeCells #[z] n).size = n := by
  have : (madeCells #[z] n).toList.length = n := by rw [toList_madeCells_one]; simp
  simpa using this
theorem u8_info : (Try.prog.info? 5).map (fun i => (i.zero, i.size, i.bytes)) = some (some (.int .u8 0), 1, 1) := by kernel_rfl
set_option maxRecDepth 20000 in
set_option maxHeartbeats 1600000 in
theorem dg_put (f : Int × Int) (w : World) (hf : In64 f) :
    Calls Try.prog 24 #[.agg (dc f)] w fun e w' => (∃ g, e = .returned (.slice (some ⟨g, 0, none⟩) 16 16) ∧ Rd w'.heap.size w' (some ⟨g, 0, none⟩) 16 (u8 (pb f))) ∧ Below w.heap.size w w' := by
  have C1 := Lib.hid (fun w => dg_reduced f w hf)
  obtain ⟨a, ha⟩ : ∃ a, a = R f.1 := ⟨_, rfl⟩
  obtain ⟨b, hb⟩ : ∃ b, b = R f.2 := ⟨_, rfl⟩
  have a0 : 0 ≤ a := by rw [ha]; exact R_ge _
  have a1 : a < 18446744073709551616 := by rw [ha]; exact R_64 _
  have b0 : 0 ≤ b := by rw [hb]; exact R_ge _
  have b1 : b < 18446744073709551616 := by rw [hb]; exact R_64 _
  have HA := Lib.hid ha
  have HBb := Lib.hid hb
  rw [show rd f = (a, b) by rw [ha, hb]; rfl] at C1
  obtain ⟨s, hs⟩ : ∃ s, w.heap.size = s := ⟨_, rfl⟩
  have HB0 := Lib.hid ((Below.refl w.heap.size w).alloc (Nat.le_refl _) (Obj.cells (dc f) 26))
  have R0 := Lib.hid (Row.new w 26 (dc f))
  rw [hs] at R0 HB0
  have HS := Lib.hid hs
  obtain ⟨i0, hi, hz0, hz1, hz2⟩ := info_parts u8_info
  clear ha hb
  go_enter Try.func24, Try.ntmps24
  go_wp2_with (first | ((with_reducible refine wpList_loadR aggD R0.out rfl _ rfl ?_ ?_); (go_simp <;> fail); go_simp))
  clear hs
  refine (C1.out _).mono ?_
  rintro e w1 ⟨rfl, hb1⟩
  have R1 := Lib.hid (R0.out.below' hb1)
  have HB1 := Lib.hid (HB0.out.trans (hb1.mono (by have := HB0.out.size; have := HS.out; omega)))
  clear hb1 R0 HB0
  go_wp2_with (first | ((with_reducible refine wpList_storeR (c' := dc (a, b)) aggD R1.out rfl (dc_one _) rfl _ _ rfl ?_ ?_ ?_); (go_simp <;> fail); (go_simp <;> fail); go_simp; have R2 := Lib.hid (R1.out.setRow (dc (a, b))); have HB2 := Lib.hid (below_setRow HB1.out (Nat.le_refl _) (dc (a, b))); clear R1 HB1; revert R2 HB2; generalize w1.setRow s (dc (a, b)) = w2; intro R2 HB2) | (at_make; refine wpList_make_row _ rfl _ _ 29 rfl 5 i0 (.int .u8 0) Try.underlying29 hi hz0 hz1 rfl .i64 .i64 16 rfl rfl (by rw [hz2]; omega) (by omega) ?_; have R3 := Lib.hid (Row.new w2 5 (madeCells #[.int .u8 0] 16)); have R2' := Lib.hid R2.out; have R2 := Lib.hid (R2.out.alloc (.cells (madeCells #[.int .u8 0] 16) 5)); have HB3 := Lib.hid (HB2.out.alloc (by have := HB2.out.size; have := HS.out; omega) (.cells (madeCells #[.int .u8 0] 16) 5)); have HL := Lib.hid (show s < w2.heap.size from R2'.out.lt); clear R2'; revert R3 R2 HB3; generalize w2.alloc (.cells (madeCells #[.int .u8 0] 16) 5) = w3; intro R3 R2 HB3))
  obtain ⟨g, hg⟩ : ∃ g, g = w2.heap.size := ⟨_, rfl⟩
  rw [← hg] at R3 HL ⊢
  clear hg hi hz0 hz1 hz2
  have q0 : ∀ u, (later w3 u).cell? ⟨s, 0, none⟩ = some (.int .u64 a) := fun u => (R2.out.later u).cell 0
  refine wp_region_tail 4 (by kernel_rfl) (by kernel_rfl) ?_
  simp only [List.take_succ_cons, List.take_zero, List.drop_succ_cons, List.drop_zero]
  repeat (first | go_big_quiet_skip | (go_big_quiet_want; go_big_quiet_op; go_big_quiet_on))
  refine wpQuiet_nil ?_
  rintro w4 ⟨u, rfl⟩
  have S3 := Lib.hid (R3.out.later u)
  have S2 := Lib.hid (R2.out.later u)
  have HB4 := Lib.hid (HB3.out.trans ((below_later w3 u).mono (by have := HB3.out.size; have := HS.out; omega)))
  have P1 := Lib.hid (fun cap => put_number g 0 cap 5 (madeCells #[.int .u8 0] 16) a (later w3 u) S3.out (by rw [made_size]; omega) a0 a1)
  clear q0 R3 R2 HB3 a0 a1
  go_wp2_with fail
  refine (P1.out _).mono ?_
  rintro e w5 ⟨rfl, hg5, c5, hr5, hu5⟩
  have T3 := Lib.hid hr5
  have T2 := Lib.hid (S2.out.grown hg5 (by intro e; injection e with e; have := HL.out; omega))
  have HU := Lib.hid hu5
  have HB5 := Lib.hid (HB4.out.grown hg5 (by have := HB4.out.size; have := HS.out; omega) (fun k h => by cases h; have := HL.out; omega))
  clear hg5 hr5 hu5 HB4 S2 S3 P1
  have P2 := Lib.hid (fun u cap => put_number g 8 cap 5 c5 b (later w5 u) (T3.out.later u) (by rw [HU.out.1, made_size]; omega) b0 b1)
  clear b0 b1
  go_wp2_with fail
  have q1 : ∀ u, (later w5 u).cell? ⟨s, 1, none⟩ = some (.int .u64 b) := fun u => (T2.out.later u).cell 1
  refine wp_region_tail 4 (by kernel_rfl) (by kernel_rfl) ?_
  simp only [List.take_succ_cons, List.take_zero, List.drop_succ_cons, List.drop_zero]
  repeat (first | go_big_quiet_skip | (go_big_quiet_want; go_big_quiet_op; go_big_quiet_on))
  refine wpQuiet_nil ?_
  rintro w6 ⟨u, rfl⟩
  have HB6 := Lib.hid (HB5.out.trans ((below_later w5 u).mono (by have := HB5.out.size; have := HS.out; omega)))
  clear q1
  go_wp2_with fail
  refine (P2.out u _).mono ?_
  rintro e w7 ⟨rfl, hg7, c7, hr7, hu7⟩
  have HR := Lib.hid hr7
  have HU7 := Lib.hid hu7
  have HB7 := Lib.hid (HB6.out.grown hg7 (by have := HB6.out.size; have := HS.out; omega) (fun k h => by cases h; have := HL.out; omega))
  clear hg7 hr7 hu7 HB6 P2
  go_wp2_with fail
  go_ret
  refine ⟨⟨g, rfl, HR.out.rd HR.out.lt 0 16 (u8 (pb f)) fun k hk => ?_⟩, by rw [HS.out]; exact HB7.out⟩
  rw [Nat.zero_add]
  unfold u8 pb
  by_cases c : k < 8
  · rw [if_pos c, HU7.out.2.2 k (.inl c), HU.out.2.1 k (by omega) (by omega)]; show some (Value.int .u8 (be a (k - 0))) = _; rw [Nat.sub_zero, HA.out]
  · rw [if_neg c, HU7.out.2.1 k (by omega) (by omega)]; show some (Value.int .u8 (be b (k - 8))) = _; rw [HBb.out]
end Go.Proofs.Ytlhennbimgjohaa
