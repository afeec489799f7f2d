/-
  Package digest: the contracts of Join and reduced, and of the reference's Join.
-/
import Derived.Test.YtgjhlmmhpcbnaaaDg
namespace Go.Proofs.Ytgjhlmmhpcbnaaa
open Go.RowKit
theorem dg_join (f g : Int × Int) (w : World) (hf : In64 f) (hg : In64 g) :
    Calls Try.prog 38 #[.agg (dc f), .agg (dc g)] w fun e w' => e = .returned (.agg (dc (mDig.j f g))) ∧ Below w.heap.size w w' := by
  obtain ⟨a, b⟩ := f
  obtain ⟨c, d⟩ := g
  obtain ⟨f1, f2, f3, f4⟩ := hf
  obtain ⟨g1, g2, g3, g4⟩ := hg
  simp only [] at f1 f2 f3 f4 g1 g2 g3 g4
  have H1 := Lib.hid (fun w => md_mul a d w f1 f2 g3 g4)
  have H2 := Lib.hid (fun w => md_add (mP a d) c w (R_ge _) (R_64 _) g1 g2)
  have H3 := Lib.hid (fun w => md_mul b d w f3 f4 g3 g4)
  have z0 := dg_zero
  obtain ⟨s, hs⟩ : ∃ s, w.heap.size = s := ⟨_, rfl⟩
  have hb := (((Below.refl w.heap.size w).alloc (Nat.le_refl _) (Obj.cells (dc (a, b)) 25)).alloc (by simp) (Obj.cells (dc (c, d)) 25)).alloc (by simp; omega) (Obj.cells (dc (0, 0)) 25)
  have r0 := ((Row.new w 25 (dc (a, b))).alloc (Obj.cells (dc (c, d)) 25)).alloc (Obj.cells (dc (0, 0)) 25)
  have r1 := (Row.new (w.alloc (Obj.cells (dc (a, b)) 25)) 25 (dc (c, d))).alloc (Obj.cells (dc (0, 0)) 25)
  have r2 := (Row.new ((w.alloc (Obj.cells (dc (a, b)) 25)).alloc (Obj.cells (dc (c, d)) 25)) 25 (dc (0, 0)))
  simp only [World.size_alloc] at r1 r2
  rw [hs] at r0 r1 r2 hb
  have HS := Lib.hid hs
  clear f1 f2 f3 f4 g1 g2 g3 g4
  go_enter Try.func38, Try.ntmps38
  go_wp2
  obtain ⟨w2, hw2⟩ : ∃ w2, w2 = ((w.alloc (Obj.cells (dc (a, b)) 25)).alloc (Obj.cells (dc (c, d)) 25)).alloc (Obj.cells (dc (0, 0)) 25) := ⟨_, rfl⟩
  rw [← hw2] at r0 r1 r2 hb ⊢
  have q0 : ∀ u, (later w2 u).cell? ⟨s, 0, none⟩ = some (.int .u64 a) := fun u => (r0.later u).cell 0
  have q1 : ∀ u, (later w2 u).cell? ⟨s, 1, none⟩ = some (.int .u64 b) := fun u => (r0.later u).cell 1
  have q2 : ∀ u, (later w2 u).cell? ⟨s + 1, 0, none⟩ = some (.int .u64 c) := fun u => (r1.later u).cell 0
  have q3 : ∀ u, (later w2 u).cell? ⟨s + 1, 1, none⟩ = some (.int .u64 d) := fun u => (r1.later u).cell 1
  clear hw2 z0 r0 r1 hs
  refine wp_region_tail 14 (by kernel_rfl) (by kernel_rfl) ?_
  simp only [List.take_succ_cons, List.take_zero, List.drop_succ_cons, List.drop_zero]
  repeat (first | go_big_quiet_skip | (go_big_quiet_want; go_big_quiet_op; first | go_big_quiet_on | go_big_quiet_call (first | with_reducible exact calls_later_eq (H1.out _) | with_reducible exact calls_later_eq (H2.out _) | with_reducible exact calls_later_eq (H3.out _))))
  refine wpQuiet_nil ?_
  rintro w4 ⟨u, rfl⟩
  have r4 := Lib.hid (r2.later u)
  have hb2 := Lib.hid (hb.trans ((below_later w2 u).mono (by have := hb.size; have := HS.out; omega)))
  clear q0 q1 q2 q3 r2 hb
  go_wp2_with (first | ((with_reducible refine wpList_storeR (c' := dc (mDig.j (a, b) (c, d))) aggD r4.out rfl (dc_one _) rfl _ _ rfl ?_ ?_ ?_); (go_simp <;> fail); exact rfl; go_simp))
  refine bodyPost_ret (results_cellR (c := dc (mDig.j (a, b) (c, d))) aggD rfl _ (r4.out.setRow _) ?_) rfl ⟨rfl, ?_⟩
  · go_simp
  · rw [HS.out]; exact below_setRow hb2.out (by omega) _
theorem dg_reduced (f : Int × Int) (w : World) (hf : In64 f) :
    Calls Try.prog 54 #[.agg (dc f)] w fun e w' => e = .returned (.agg (dc (rd f))) ∧ Below w.heap.size w w' := by
  obtain ⟨a, b⟩ := f
  obtain ⟨f1, f2, f3, f4⟩ := hf
  simp only [] at f1 f2 f3 f4
  have H1 := Lib.hid (fun w => md_reduce a w f1 f2)
  have H2 := Lib.hid (fun w => md_reduce b w f3 f4)
  have z0 := dg_zero
  obtain ⟨s, hs⟩ : ∃ s, w.heap.size = s := ⟨_, rfl⟩
  have hb := ((Below.refl w.heap.size w).alloc (Nat.le_refl _) (Obj.cells (dc (a, b)) 25)).alloc (by simp) (Obj.cells (dc (0, 0)) 25)
  have r0 := (Row.new w 25 (dc (a, b))).alloc (Obj.cells (dc (0, 0)) 25)
  have r2 := (Row.new (w.alloc (Obj.cells (dc (a, b)) 25)) 25 (dc (0, 0)))
  simp only [World.size_alloc] at r2
  rw [hs] at r0 r2 hb
  have HS := Lib.hid hs
  clear f1 f2 f3 f4
  go_enter Try.func54, Try.ntmps54
  go_wp2
  obtain ⟨w2, hw2⟩ : ∃ w2, w2 = (w.alloc (Obj.cells (dc (a, b)) 25)).alloc (Obj.cells (dc (0, 0)) 25) := ⟨_, rfl⟩
  rw [← hw2] at r0 r2 hb ⊢
  have q0 : ∀ u, (later w2 u).cell? ⟨s, 0, none⟩ = some (.int .u64 a) := fun u => (r0.later u).cell 0
  have q1 : ∀ u, (later w2 u).cell? ⟨s, 1, none⟩ = some (.int .u64 b) := fun u => (r0.later u).cell 1
  clear hw2 z0 r0 hs
  refine wp_region_tail 7 (by kernel_rfl) (by kernel_rfl) ?_
  simp only [List.take_succ_cons, List.take_zero, List.drop_succ_cons, List.drop_zero]
  repeat (first | go_big_quiet_skip | (go_big_quiet_want; go_big_quiet_op; first | go_big_quiet_on | go_big_quiet_call (first | with_reducible exact calls_later_eq (H1.out _) | with_reducible exact calls_later_eq (H2.out _))))
  refine wpQuiet_nil ?_
  rintro w4 ⟨u, rfl⟩
  have r4 := Lib.hid (r2.later u)
  have hb2 := Lib.hid (hb.trans ((below_later w2 u).mono (by have := hb.size; have := HS.out; omega)))
  clear q0 q1 r2 hb
  go_wp2_with (first | ((with_reducible refine wpList_storeR (c' := dc (rd (a, b))) aggD r4.out rfl (dc_one _) rfl _ _ rfl ?_ ?_ ?_); (go_simp <;> fail); exact rfl; go_simp))
  refine bodyPost_ret (results_cellR (c := dc (rd (a, b))) aggD rfl _ (r4.out.setRow _) ?_) rfl ⟨rfl, ?_⟩
  · go_simp
  · rw [HS.out]; exact below_setRow hb2.out (by omega) _
theorem ds_unit (w : World) : Calls Try.prog 81 #[.agg #[]] w fun e w' => e = .returned (.agg (dc mDig.e)) ∧ Below w.heap.size w w' := by
  have HU := Lib.hid dg_unit
  have z0 := dg_zero
  obtain ⟨s, hs⟩ : ∃ s, w.heap.size = s := ⟨_, rfl⟩
  have hb := Lib.hid (((Below.refl w.heap.size w).alloc (Nat.le_refl _) (Obj.cells #[] 73)).alloc (by simp) (Obj.cells (dc (0, 0)) 25))
  have r2 := Lib.hid (Row.new (w.alloc (Obj.cells #[] 73)) 25 (dc (0, 0)))
  simp only [World.size_alloc] at r2
  rw [hs] at r2 hb
  have HS := Lib.hid hs
  go_enter Try.func81, Try.ntmps81
  go_wp2_with (first | (go_at_call 35; (with_reducible refine (HU.out _).mono ?_); rintro e w2 ⟨rfl, hb2⟩; have HB := Lib.hid (hb.out.trans (hb2.mono (by have := hb.out.size; have := HS.out; omega))); have r3 := Lib.hid (r2.out.below' hb2); clear hb2 z0) | ((with_reducible refine wpList_storeR (c' := dc mDig.e) aggD r3.out rfl (dc_one _) rfl _ _ rfl ?_ ?_ ?_); (go_simp <;> fail); (go_simp <;> fail); go_simp))
  refine bodyPost_ret (results_cellR (c := dc mDig.e) aggD rfl _ (r3.out.setRow _) ?_) rfl ⟨rfl, ?_⟩
  · go_simp
  · rw [HS.out]; exact below_setRow HB.out (by omega) _
theorem ds_join (f g : Int × Int) (w : World) (hf : In64 f) (hg : In64 g) : Calls Try.prog 80 #[.agg #[], .agg (dc f), .agg (dc g)] w fun e w' => e = .returned (.agg (dc (mDig.j f g))) ∧ Below w.heap.size w w' := by
  have HU := Lib.hid (fun w => dg_join f g w hf hg)
  have z0 := dg_zero
  clear hf hg
  obtain ⟨s, hs⟩ : ∃ s, w.heap.size = s := ⟨_, rfl⟩
  have hb := Lib.hid ((((Below.refl w.heap.size w).alloc (Nat.le_refl _) (Obj.cells #[] 73)).alloc (by simp) (Obj.cells (dc f) 25)).alloc (by simp; omega) (Obj.cells (dc g) 25) |>.alloc (by simp; omega) (Obj.cells (dc (0, 0)) 25))
  have r0 := Lib.hid (((Row.new (w.alloc (Obj.cells #[] 73)) 25 (dc f)).alloc (Obj.cells (dc g) 25)).alloc (Obj.cells (dc (0, 0)) 25))
  have r1 := Lib.hid ((Row.new ((w.alloc (Obj.cells #[] 73)).alloc (Obj.cells (dc f) 25)) 25 (dc g)).alloc (Obj.cells (dc (0, 0)) 25))
  have r2 := Lib.hid (Row.new (((w.alloc (Obj.cells #[] 73)).alloc (Obj.cells (dc f) 25)).alloc (Obj.cells (dc g) 25)) 25 (dc (0, 0)))
  simp only [World.size_alloc] at r0 r1 r2
  rw [hs] at r0 r1 r2 hb
  have HS := Lib.hid hs
  go_enter Try.func80, Try.ntmps80
  go_wp2_with (first | ((with_reducible refine wpList_loadR aggD r0.out rfl _ rfl ?_ ?_); (go_simp <;> fail); go_simp) | ((with_reducible refine wpList_loadR aggD r1.out rfl _ rfl ?_ ?_); (go_simp <;> fail); go_simp) | (go_at_call 38; (with_reducible refine (HU.out _).mono ?_); rintro e w2 ⟨rfl, hb2⟩; have HB := Lib.hid (hb.out.trans (hb2.mono (by have := hb.out.size; have := HS.out; omega))); have r3 := Lib.hid (r2.out.below' hb2); clear hb2 z0) | ((with_reducible refine wpList_storeR (c' := dc (mDig.j f g)) aggD r3.out rfl (dc_one _) rfl _ _ rfl ?_ ?_ ?_); (go_simp <;> fail); (go_simp <;> fail); go_simp))
  refine bodyPost_ret (results_cellR (c := dc (mDig.j f g)) aggD rfl _ (r3.out.setRow _) ?_) rfl ⟨rfl, ?_⟩
  · go_simp
  · rw [HS.out]; exact below_setRow HB.out (by omega) _
end Go.Proofs.Ytgjhlmmhpcbnaaa
