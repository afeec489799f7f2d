/-
  Package digest: inverseScale, Rest, Front.
-/
import Derived.Test.YtlhennbimgjohaaDgB
namespace Go.Proofs.Ytlhennbimgjohaa
open Go.RowKit
theorem results_cellR2 {fn : Func} {p q : Tmp} {ty : TypeId} {c : Array Value} (ht : AggT ty c.size) (h : fn.results = #[.cell p ty, .tmp q]) (tmps : Array Value) {w : World} {g : Nat} {t : TypeId} (hr : Row w g t c) (hp : tmps.getD p undef = .pointer (some ⟨g, 0, none⟩)) :
    (results fn tmps).run Try.prog w = .ok (.tuple #[.agg c, tmps.getD q undef]) w := by
  obtain ⟨⟨d, hd, hm⟩, hi⟩ := ht
  have hl : (loadVar ty ⟨g, 0, none⟩).run Try.prog w = .ok (.agg c) w := run_loadVar_row _ g t ty c (0, 0) d hr hd (by cases d <;> first | exact hm | simp_all) hi
  have hp' : tmps[p]?.getD undef = .pointer (some ⟨g, 0, none⟩) := by simpa using hp
  simp [results, h, hp', asAddr, hl]
/-- The inverse of a Scale. -/
def iv (s : Int) : Int := pw s 2305843009213693949
theorem dg_iscale_none (f g : Int × Int) (w : World) (hf : In64 f) (hg : In64 g) (h : R f.2 = 0 ∨ R g.2 = 0) :
    Calls Try.prog 37 #[.agg (dc f), .agg (dc g)] w fun e w' => e = .returned (.tuple #[.int .u64 0, .iface 46 (.int .i64 1)]) ∧ Below w.heap.size w w' := by
  obtain ⟨a, b⟩ := f
  obtain ⟨c, d⟩ := g
  obtain ⟨f1, f2, f3, f4⟩ := hf
  obtain ⟨g1, g2, g3, g4⟩ := hg
  simp only [] at f1 f2 f3 f4 g1 g2 g3 g4 h
  have hb := Lib.hid (((Below.refl w.heap.size w).alloc (Nat.le_refl _) (Obj.cells (dc (a, b)) 26)).alloc (by simp) (Obj.cells (dc (c, d)) 26))
  by_cases h0 : R b = 0
  · have HR := Lib.hid (fun w => h0 ▸ md_reduce b w f3 f4)
    clear h h0
    unfold dc at *
    go_enter Try.func37, Try.ntmps37
    go_wp2_with (go_at_call 42; with_reducible refine (HR.out _).mono ?_; rintro e w' ⟨rfl, rfl⟩)
    go_ret2
    exact ⟨rfl, hb.out⟩
  · have HR := Lib.hid (fun w => md_reduce b w f3 f4)
    have HI := Lib.hid (fun w => md_inv_none d w g3 g4 (h.resolve_left h0))
    obtain ⟨x, hx⟩ : ∃ x, R b = x := ⟨_, rfl⟩
    rw [hx] at HR h0
    have hne : (x == 0) = false := by simpa using h0
    clear h h0 hx
    unfold dc at *
    go_enter Try.func37, Try.ntmps37
    go_wp2_with (first | (go_at_call 42; with_reducible refine (HR.out _).mono ?_; rintro e w' ⟨rfl, rfl⟩) | (go_at_call 44; with_reducible refine (HI.out _).mono ?_; rintro e w' ⟨rfl, rfl⟩))
    go_ret2
    exact ⟨rfl, hb.out⟩
theorem dg_iscale (f g : Int × Int) (w : World) (hf : In64 f) (hg : In64 g) (h0 : ¬ R f.2 = 0) (h1 : ¬ R g.2 = 0) :
    Calls Try.prog 37 #[.agg (dc f), .agg (dc g)] w fun e w' => e = .returned (.tuple #[.int .u64 (iv g.2), .nilIface]) ∧ Below w.heap.size w w' := by
  obtain ⟨a, b⟩ := f
  obtain ⟨c, d⟩ := g
  obtain ⟨f1, f2, f3, f4⟩ := hf
  obtain ⟨g1, g2, g3, g4⟩ := hg
  simp only [] at f1 f2 f3 f4 g1 g2 g3 g4 h0 h1
  have hb := Lib.hid (((Below.refl w.heap.size w).alloc (Nat.le_refl _) (Obj.cells (dc (a, b)) 26)).alloc (by simp) (Obj.cells (dc (c, d)) 26))
  have HR := Lib.hid (fun w => md_reduce b w f3 f4)
  have HI := Lib.hid (fun w => md_inv d w g3 g4 h1)
  obtain ⟨x, hx⟩ : ∃ x, R b = x := ⟨_, rfl⟩
  rw [hx] at HR h0
  have hne : (x == 0) = false := by simpa using h0
  clear h0 hx h1
  unfold dc at *
  go_enter Try.func37, Try.ntmps37
  go_wp2_with (first | (go_at_call 42; with_reducible refine (HR.out _).mono ?_; rintro e w' ⟨rfl, rfl⟩) | (go_at_call 44; with_reducible refine (HI.out _).mono ?_; rintro e w' ⟨rfl, rfl⟩))
  go_ret2
  exact ⟨rfl, hb.out⟩
def rs (f g : Int × Int) : Int × Int := (sP f.1 (mP g.1 (mP f.2 (iv g.2))), mP f.2 (iv g.2))
def fr (f g : Int × Int) : Int × Int := (mP (sP f.1 g.1) (iv g.2), mP f.2 (iv g.2))
theorem dg_rest_none (f g : Int × Int) (w : World) (hf : In64 f) (hg : In64 g) (h : R f.2 = 0 ∨ R g.2 = 0) :
    Calls Try.prog 21 #[.agg (dc f), .agg (dc g)] w fun e w' => e = .returned (.tuple #[.agg (dc (0, 0)), .iface 46 (.int .i64 1)]) ∧ Below w.heap.size w w' := by
  have HI := Lib.hid (fun w => dg_iscale_none f g w hf hg h)
  have z0 := dg_zero
  obtain ⟨s, hs⟩ : ∃ s, w.heap.size = s := ⟨_, rfl⟩
  have hb := Lib.hid ((((Below.refl w.heap.size w).alloc (Nat.le_refl _) (Obj.cells (dc f) 26)).alloc (by simp) (Obj.cells (dc g) 26)).alloc (by simp; omega) (Obj.cells (dc (0, 0)) 26))
  have r0 := Lib.hid (((Row.new w 26 (dc f)).alloc (Obj.cells (dc g) 26)).alloc (Obj.cells (dc (0, 0)) 26))
  have r1 := Lib.hid ((Row.new (w.alloc (Obj.cells (dc f) 26)) 26 (dc g)).alloc (Obj.cells (dc (0, 0)) 26))
  have r2 := Lib.hid (Row.new ((w.alloc (Obj.cells (dc f) 26)).alloc (Obj.cells (dc g) 26)) 26 (dc (0, 0)))
  simp only [World.size_alloc] at r1 r2
  rw [hs] at r0 r1 r2 hb
  have HS := Lib.hid hs
  clear h hf hg
  go_enter Try.func21, Try.ntmps21
  go_wp2_with (first | ((with_reducible refine wpList_loadR aggD r0.out rfl _ rfl ?_ ?_); (go_simp <;> fail); go_simp) | ((with_reducible refine wpList_loadR aggD r1.out rfl _ rfl ?_ ?_); (go_simp <;> fail); go_simp) | (go_at_call 37; (with_reducible refine (HI.out _).mono ?_); rintro e w2 ⟨rfl, hb2⟩; have HB := Lib.hid (hb.out.trans (hb2.mono (by have := hb.out.size; have := HS.out; omega))); have r3 := Lib.hid (r2.out.below' hb2); clear hb2) | ((with_reducible refine wpList_storeR (c' := dc (0, 0)) aggD r3.out rfl (dc_one _) rfl _ _ rfl ?_ ?_ ?_); (go_simp <;> fail); exact rfl; go_simp))
  refine bodyPost_ret (results_cellR2 (c := dc (0, 0)) aggD rfl _ (r3.out.setRow _) ?_) rfl ⟨rfl, ?_⟩
  · go_simp
  · rw [HS.out]; exact below_setRow HB.out (by omega) _
theorem dg_front_none (f g : Int × Int) (w : World) (hf : In64 f) (hg : In64 g) (h : R f.2 = 0 ∨ R g.2 = 0) :
    Calls Try.prog 22 #[.agg (dc f), .agg (dc g)] w fun e w' => e = .returned (.tuple #[.agg (dc (0, 0)), .iface 46 (.int .i64 1)]) ∧ Below w.heap.size w w' := by
  have HI := Lib.hid (fun w => dg_iscale_none f g w hf hg h)
  have z0 := dg_zero
  obtain ⟨s, hs⟩ : ∃ s, w.heap.size = s := ⟨_, rfl⟩
  have hb := Lib.hid ((((Below.refl w.heap.size w).alloc (Nat.le_refl _) (Obj.cells (dc f) 26)).alloc (by simp) (Obj.cells (dc g) 26)).alloc (by simp; omega) (Obj.cells (dc (0, 0)) 26))
  have r0 := Lib.hid (((Row.new w 26 (dc f)).alloc (Obj.cells (dc g) 26)).alloc (Obj.cells (dc (0, 0)) 26))
  have r1 := Lib.hid ((Row.new (w.alloc (Obj.cells (dc f) 26)) 26 (dc g)).alloc (Obj.cells (dc (0, 0)) 26))
  have r2 := Lib.hid (Row.new ((w.alloc (Obj.cells (dc f) 26)).alloc (Obj.cells (dc g) 26)) 26 (dc (0, 0)))
  simp only [World.size_alloc] at r1 r2
  rw [hs] at r0 r1 r2 hb
  have HS := Lib.hid hs
  clear h hf hg
  go_enter Try.func22, Try.ntmps22
  go_wp2_with (first | ((with_reducible refine wpList_loadR aggD r0.out rfl _ rfl ?_ ?_); (go_simp <;> fail); go_simp) | ((with_reducible refine wpList_loadR aggD r1.out rfl _ rfl ?_ ?_); (go_simp <;> fail); go_simp) | (go_at_call 37; (with_reducible refine (HI.out _).mono ?_); rintro e w2 ⟨rfl, hb2⟩; have HB := Lib.hid (hb.out.trans (hb2.mono (by have := hb.out.size; have := HS.out; omega))); have r3 := Lib.hid (r2.out.below' hb2); clear hb2) | ((with_reducible refine wpList_storeR (c' := dc (0, 0)) aggD r3.out rfl (dc_one _) rfl _ _ rfl ?_ ?_ ?_); (go_simp <;> fail); exact rfl; go_simp))
  refine bodyPost_ret (results_cellR2 (c := dc (0, 0)) aggD rfl _ (r3.out.setRow _) ?_) rfl ⟨rfl, ?_⟩
  · go_simp
  · rw [HS.out]; exact below_setRow HB.out (by omega) _
theorem dg_rest (f g : Int × Int) (w : World) (hf : In64 f) (hg : In64 g) (h0 : ¬ R f.2 = 0) (h1 : ¬ R g.2 = 0) :
    Calls Try.prog 21 #[.agg (dc f), .agg (dc g)] w fun e w' => e = .returned (.tuple #[.agg (dc (rs f g)), .nilIface]) ∧ Below w.heap.size w w' := by
  have HI := Lib.hid (fun w => dg_iscale f g w hf hg h0 h1)
  have HV := Lib.hid (show rs f g = rs f g from rfl)
  unfold rs at HV
  obtain ⟨i, hi⟩ : ∃ i, iv g.2 = i := ⟨_, rfl⟩
  have i0 : 0 ≤ i := by rw [← hi]; exact R_ge _
  have i1 : i < 18446744073709551616 := by rw [← hi]; exact R_64 _
  rw [hi] at HI
  have HE := Lib.hid (show ((sP f.1 (mP g.1 (mP f.2 i)), mP f.2 i) : Int × Int) = rs f g by rw [← hi]; rfl)
  obtain ⟨a, b⟩ := f
  obtain ⟨c, d⟩ := g
  obtain ⟨f1, f2, f3, f4⟩ := hf
  obtain ⟨g1, g2, g3, g4⟩ := hg
  simp only [] at f1 f2 f3 f4 g1 g2 g3 g4 HI HE
  obtain ⟨v, hv⟩ : ∃ v, rs (a, b) (c, d) = v := ⟨_, rfl⟩
  rw [hv] at HE ⊢
  have H1 := Lib.hid (fun w => md_mul b i w f3 f4 i0 i1)
  have H2 := Lib.hid (fun w => md_mul c (mP b i) w g1 g2 (R_ge _) (R_64 _))
  have H3 := Lib.hid (fun w => md_sub a (mP c (mP b i)) w f1 f2 (R_ge _) (R_64 _))
  have z0 := dg_zero
  obtain ⟨s, hs⟩ : ∃ s, w.heap.size = s := ⟨_, rfl⟩
  have hb := Lib.hid ((((Below.refl w.heap.size w).alloc (Nat.le_refl _) (Obj.cells (dc (a, b)) 26)).alloc (by simp) (Obj.cells (dc (c, d)) 26)).alloc (by simp; omega) (Obj.cells (dc (0, 0)) 26))
  have r0 := Lib.hid (((Row.new w 26 (dc (a, b))).alloc (Obj.cells (dc (c, d)) 26)).alloc (Obj.cells (dc (0, 0)) 26))
  have r1 := Lib.hid ((Row.new (w.alloc (Obj.cells (dc (a, b)) 26)) 26 (dc (c, d))).alloc (Obj.cells (dc (0, 0)) 26))
  have r2 := Lib.hid (Row.new ((w.alloc (Obj.cells (dc (a, b)) 26)).alloc (Obj.cells (dc (c, d)) 26)) 26 (dc (0, 0)))
  simp only [World.size_alloc] at r1 r2
  rw [hs] at r0 r1 r2 hb
  have HS := Lib.hid hs
  clear hi h0 h1 i0 i1 f1 f2 f3 f4 g1 g2 g3 g4 hv HV
  go_enter Try.func21, Try.ntmps21
  go_wp2_with (first | ((with_reducible refine wpList_loadR aggD r0.out rfl _ rfl ?_ ?_); (go_simp <;> fail); go_simp) | ((with_reducible refine wpList_loadR aggD r1.out rfl _ rfl ?_ ?_); (go_simp <;> fail); go_simp) | (go_at_call 37; (with_reducible refine (HI.out _).mono ?_); rintro e w2 ⟨rfl, hb2⟩; have HB := Lib.hid (hb.out.trans (hb2.mono (by have := hb.out.size; have := HS.out; omega))); have t0 := Lib.hid (r0.out.below' hb2); have t1 := Lib.hid (r1.out.below' hb2); have r3 := Lib.hid (r2.out.below' hb2); have p0 := t0.out.cell 0; have p1 := t0.out.cell 1; have p2 := t1.out.cell 0; simp only [dc] at p0 p1 p2; clear hb2 z0) | (go_at_call 33; with_reducible refine (H1.out _).mono ?_; rintro e w' ⟨rfl, rfl⟩))
  have q0 : ∀ u, (later w2 u).cell? ⟨s, 0, none⟩ = some (.int .u64 a) := fun u => (t0.out.later u).cell 0
  have q1 : ∀ u, (later w2 u).cell? ⟨s + 1, 0, none⟩ = some (.int .u64 c) := fun u => (t1.out.later u).cell 0
  clear p0 p1 p2
  refine wp_region_later (by kernel_rfl) (by kernel_rfl) ?_
  repeat (first | go_big_quiet_skip | (go_big_quiet_want; go_big_quiet_op; first | go_big_quiet_on | go_big_quiet_call (first | with_reducible exact calls_later_eq (H2.out _) | with_reducible exact calls_later_eq (H3.out _))))
  refine wpQuiet_nil ?_
  rintro w6 ⟨u, rfl⟩
  have r4 := Lib.hid (r3.out.later u)
  have HB4 := Lib.hid (HB.out.trans ((below_later w2 u).mono (by have := HB.out.size; have := HS.out; omega)))
  clear q0 q1
  go_wp2_with (first | ((with_reducible refine wpList_storeR (c' := dc (sP a (mP c (mP b i)), mP b i)) aggD r4.out rfl (dc_one _) rfl _ _ rfl ?_ ?_ ?_); (go_simp <;> fail); exact rfl; go_simp))
  refine bodyPost_ret (results_cellR2 (c := dc (sP a (mP c (mP b i)), mP b i)) aggD rfl _ (r4.out.setRow _) ?_) rfl ⟨by rw [← HE.out]; rfl, ?_⟩
  · go_simp
  · rw [HS.out]; exact below_setRow HB4.out (by omega) _
theorem dg_front (f g : Int × Int) (w : World) (hf : In64 f) (hg : In64 g) (h0 : ¬ R f.2 = 0) (h1 : ¬ R g.2 = 0) :
    Calls Try.prog 22 #[.agg (dc f), .agg (dc g)] w fun e w' => e = .returned (.tuple #[.agg (dc (fr f g)), .nilIface]) ∧ Below w.heap.size w w' := by
  have HI := Lib.hid (fun w => dg_iscale f g w hf hg h0 h1)
  have HV := Lib.hid (show fr f g = fr f g from rfl)
  unfold fr at HV
  obtain ⟨i, hi⟩ : ∃ i, iv g.2 = i := ⟨_, rfl⟩
  have i0 : 0 ≤ i := by rw [← hi]; exact R_ge _
  have i1 : i < 18446744073709551616 := by rw [← hi]; exact R_64 _
  rw [hi] at HI
  have HE := Lib.hid (show ((mP (sP f.1 g.1) i, mP f.2 i) : Int × Int) = fr f g by rw [← hi]; rfl)
  obtain ⟨a, b⟩ := f
  obtain ⟨c, d⟩ := g
  obtain ⟨f1, f2, f3, f4⟩ := hf
  obtain ⟨g1, g2, g3, g4⟩ := hg
  simp only [] at f1 f2 f3 f4 g1 g2 g3 g4 HI HE
  obtain ⟨v, hv⟩ : ∃ v, fr (a, b) (c, d) = v := ⟨_, rfl⟩
  rw [hv] at HE ⊢
  have H1 := Lib.hid (fun w => md_mul b i w f3 f4 i0 i1)
  have H2 := Lib.hid (fun w => md_sub a c w f1 f2 g1 g2)
  have H3 := Lib.hid (fun w => md_mul (sP a c) i w (R_ge _) (R_64 _) i0 i1)
  have z0 := dg_zero
  obtain ⟨s, hs⟩ : ∃ s, w.heap.size = s := ⟨_, rfl⟩
  have hb := Lib.hid ((((Below.refl w.heap.size w).alloc (Nat.le_refl _) (Obj.cells (dc (a, b)) 26)).alloc (by simp) (Obj.cells (dc (c, d)) 26)).alloc (by simp; omega) (Obj.cells (dc (0, 0)) 26))
  have r0 := Lib.hid (((Row.new w 26 (dc (a, b))).alloc (Obj.cells (dc (c, d)) 26)).alloc (Obj.cells (dc (0, 0)) 26))
  have r1 := Lib.hid ((Row.new (w.alloc (Obj.cells (dc (a, b)) 26)) 26 (dc (c, d))).alloc (Obj.cells (dc (0, 0)) 26))
  have r2 := Lib.hid (Row.new ((w.alloc (Obj.cells (dc (a, b)) 26)).alloc (Obj.cells (dc (c, d)) 26)) 26 (dc (0, 0)))
  simp only [World.size_alloc] at r1 r2
  rw [hs] at r0 r1 r2 hb
  have HS := Lib.hid hs
  clear hi h0 h1 i0 i1 f1 f2 f3 f4 g1 g2 g3 g4 hv HV
  go_enter Try.func22, Try.ntmps22
  go_wp2_with (first | ((with_reducible refine wpList_loadR aggD r0.out rfl _ rfl ?_ ?_); (go_simp <;> fail); go_simp) | ((with_reducible refine wpList_loadR aggD r1.out rfl _ rfl ?_ ?_); (go_simp <;> fail); go_simp) | (go_at_call 37; (with_reducible refine (HI.out _).mono ?_); rintro e w2 ⟨rfl, hb2⟩; have HB := Lib.hid (hb.out.trans (hb2.mono (by have := hb.out.size; have := HS.out; omega))); have t0 := Lib.hid (r0.out.below' hb2); have t1 := Lib.hid (r1.out.below' hb2); have r3 := Lib.hid (r2.out.below' hb2); have p0 := t0.out.cell 0; have p1 := t0.out.cell 1; have p2 := t1.out.cell 0; simp only [dc] at p0 p1 p2; clear hb2 z0) | (go_at_call 33; with_reducible refine (H1.out _).mono ?_; rintro e w' ⟨rfl, rfl⟩) | (go_at_call 38; with_reducible refine (H2.out _).mono ?_; rintro e w' ⟨rfl, rfl⟩) | (go_at_call 33; with_reducible refine (H3.out _).mono ?_; rintro e w' ⟨rfl, rfl⟩) | ((with_reducible refine wpList_storeR (c' := dc (mP (sP a c) i, mP b i)) aggD r3.out rfl (dc_one _) rfl _ _ rfl ?_ ?_ ?_); (go_simp <;> fail); exact rfl; go_simp))
  refine bodyPost_ret (results_cellR2 (c := dc (mP (sP a c) i, mP b i)) aggD rfl _ (r3.out.setRow _) ?_) rfl ⟨by rw [← HE.out]; rfl, ?_⟩
  · go_simp
  · rw [HS.out]; exact below_setRow HB.out (by omega) _
end Go.Proofs.Ytlhennbimgjohaa
