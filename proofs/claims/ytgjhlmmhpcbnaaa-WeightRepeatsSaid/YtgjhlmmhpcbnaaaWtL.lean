/-
  Package weight: the reference's Join.
-/
import Derived.Test.YtgjhlmmhpcbnaaaWtK
namespace Go.Proofs.Ytgjhlmmhpcbnaaa
open Go.RowKit
set_option maxRecDepth 20000 in
set_option maxHeartbeats 1600000 in
theorem rjoin_bad1 (a b : Wt) (w : World) (ha : W64 a) (h : gb a = false) :
    Calls Try.prog 20 #[.agg (wc a), .agg (wc b)] w fun e w' => e = .returned (.tuple #[.agg (wc wZ), .int .i64 4]) ∧ Below w.heap.size w w' := by
  have HA := Lib.hid (fun w => h ▸ w_rvalid a w ha)
  have z0 := w_zero
  have hst := start3 w a b
  obtain ⟨c, hc⟩ : ∃ c, w.heap.size = c := ⟨_, rfl⟩
  rw [hc] at hst
  have HS := Lib.hid hc
  have R2 := Lib.hid hst.2.1
  have R3 := Lib.hid hst.2.2.1
  have R4 := Lib.hid hst.2.2.2
  have HB0 := Lib.hid hst.1
  clear hst
  clear h ha
  go_enter Try.func20, Try.ntmps20
  go_wp2_with (first | ((with_reducible refine wpList_loadR aggW R2.out rfl _ rfl ?_ ?_); (go_simp <;> fail); go_simp) | (go_at_call 18; (with_reducible refine (HA.out _).mono ?_); rintro e w1 ⟨rfl, hb⟩; have S2 := Lib.hid (R2.out.below' hb); have S3 := Lib.hid (R3.out.below' hb); have S4 := Lib.hid (R4.out.below' hb); have HB1 := Lib.hid (HB0.out.trans (hb.mono (by have := HB0.out.size; have := HS.out; omega))); clear hb HB0 R2 R3 R4) | ((with_reducible refine wpList_storeR (c' := wc wZ) aggW S4.out rfl (wc_one _) rfl _ _ rfl ?_ ?_ ?_); (go_simp <;> fail); (first | (go_simp <;> fail) | exact rfl); go_simp))
  refine bodyPost_ret (results_cellR2 (c := wc wZ) aggW rfl _ (S4.out.setRow _) ?_) rfl ⟨rfl, ?_⟩
  · go_simp
  · rw [HS.out]; exact below_setRow HB1.out (by omega) _
set_option maxRecDepth 20000 in
set_option maxHeartbeats 1600000 in
theorem rjoin_bad2 (a b : Wt) (w : World) (ha : W64 a) (hb : W64 b) (h : gb a = true) (h2 : gb b = false) :
    Calls Try.prog 20 #[.agg (wc a), .agg (wc b)] w fun e w' => e = .returned (.tuple #[.agg (wc wZ), .int .i64 4]) ∧ Below w.heap.size w w' := by
  have HA := Lib.hid (fun w => h ▸ w_rvalid a w ha)
  have HV := Lib.hid (fun w => h2 ▸ w_rvalid b w hb)
  have z0 := w_zero
  have hst := start3 w a b
  obtain ⟨c, hc⟩ : ∃ c, w.heap.size = c := ⟨_, rfl⟩
  rw [hc] at hst
  have HS := Lib.hid hc
  have R2 := Lib.hid hst.2.1
  have R3 := Lib.hid hst.2.2.1
  have R4 := Lib.hid hst.2.2.2
  have HB0 := Lib.hid hst.1
  clear hst
  clear h ha h2 hb
  go_enter Try.func20, Try.ntmps20
  go_wp2_with (first | ((with_reducible refine wpList_loadR aggW R2.out rfl _ rfl ?_ ?_); (go_simp <;> fail); go_simp) | ((with_reducible refine wpList_loadR_g aggW S3.out ?_ _ rfl ?_ ?_); exact rfl; (go_simp <;> fail); go_simp) | (go_at_call 18; (with_reducible refine (HA.out _).mono ?_); rintro e w1 ⟨rfl, hb⟩; have S2 := Lib.hid (R2.out.below' hb); have S3 := Lib.hid (R3.out.below' hb); have S4 := Lib.hid (R4.out.below' hb); have HB1 := Lib.hid (HB0.out.trans (hb.mono (by have := HB0.out.size; have := HS.out; omega))); clear hb HB0 R2 R3 R4) | (go_at_call 18; (with_reducible refine (HV.out _).mono ?_); rintro e w2 ⟨rfl, hb⟩; have T2 := Lib.hid (S2.out.below' hb); have T3 := Lib.hid (S3.out.below' hb); have T4 := Lib.hid (S4.out.below' hb); have HB2 := Lib.hid (HB1.out.trans (hb.mono (by have := HB1.out.size; have := HS.out; omega))); clear hb HB1 S2 S3 S4) | ((with_reducible refine wpList_storeR (c' := wc wZ) aggW T4.out rfl (wc_one _) rfl _ _ rfl ?_ ?_ ?_); (go_simp <;> fail); (first | (go_simp <;> fail) | exact rfl); go_simp))
  refine bodyPost_ret (results_cellR2 (c := wc wZ) aggW rfl _ (T4.out.setRow _) ?_) rfl ⟨rfl, ?_⟩
  · go_simp
  · rw [HS.out]; exact below_setRow HB2.out (by omega) _
set_option maxRecDepth 20000 in
set_option maxHeartbeats 1600000 in
theorem rjoin_long (a b : Wt) (w : World) (ga : Good a) (gb' : Good b) (h : 1152921504606846976 < a.l + b.l) :
    Calls Try.prog 20 #[.agg (wc a), .agg (wc b)] w fun e w' => e = .returned (.tuple #[.agg (wc wZ), .int .i64 2]) ∧ Below w.heap.size w w' := by
  have HA := Lib.hid (fun w => gb_true ga ▸ w_rvalid a w ga.w64)
  have HV := Lib.hid (fun w => gb_true gb' ▸ w_rvalid b w gb'.w64)
  obtain ⟨al, hal⟩ : ∃ x, x = a.l := ⟨_, rfl⟩
  obtain ⟨bl, hbl⟩ : ∃ x, x = b.l := ⟨_, rfl⟩
  have i0 := ga.l0
  have i1 := ga.l1
  have k0 := gb'.l0
  have k1 := gb'.l1
  rw [← hal] at h i0 i1
  rw [← hbl] at h k0 k1
  have HAL := Lib.hid hal
  have HBL := Lib.hid hbl
  have z0 := w_zero
  have hst := start3 w a b
  obtain ⟨c, hc⟩ : ∃ c, w.heap.size = c := ⟨_, rfl⟩
  rw [hc] at hst
  have HS := Lib.hid hc
  have R2 := Lib.hid hst.2.1
  have R3 := Lib.hid hst.2.2.1
  have R4 := Lib.hid hst.2.2.2
  have HB0 := Lib.hid hst.1
  clear hst
  have h' : 1152921504606846976 - bl < al := by omega
  clear h ga gb' hal hbl
  go_enter Try.func20, Try.ntmps20
  go_wp2_with (first | ((with_reducible refine wpList_loadR aggW R2.out rfl _ rfl ?_ ?_); (go_simp <;> fail); go_simp) | ((with_reducible refine wpList_loadR_g aggW S3.out ?_ _ rfl ?_ ?_); exact rfl; (go_simp <;> fail); go_simp) | (go_at_call 18; (with_reducible refine (HA.out _).mono ?_); rintro e w1 ⟨rfl, hb⟩; have S2 := Lib.hid (R2.out.below' hb); have S3 := Lib.hid (R3.out.below' hb); have S4 := Lib.hid (R4.out.below' hb); have HB1 := Lib.hid (HB0.out.trans (hb.mono (by have := HB0.out.size; have := HS.out; omega))); clear hb HB0 R2 R3 R4) | (go_at_call 18; (with_reducible refine (HV.out _).mono ?_); rintro e w2 ⟨rfl, hb⟩; have T2 := Lib.hid (S2.out.below' hb); have T3 := Lib.hid (S3.out.below' hb); have T4 := Lib.hid (S4.out.below' hb); have HB2 := Lib.hid (HB1.out.trans (hb.mono (by have := HB1.out.size; have := HS.out; omega))); clear hb HB1 S2 S3 S4; have p2 : w2.cell? ⟨c, 0, none⟩ = some (.int .i64 al) := HAL.out ▸ T2.out.cell 0; have p3 : w2.cell? ⟨c + 1, 0, none⟩ = some (.int .i64 bl) := HBL.out ▸ T3.out.cell 0) | ((with_reducible refine wpList_storeR (c' := wc wZ) aggW T4.out rfl (wc_one _) rfl _ _ rfl ?_ ?_ ?_); (go_simp <;> fail); (first | (go_simp <;> fail) | exact rfl); go_simp))
  refine bodyPost_ret (results_cellR2 (c := wc wZ) aggW rfl _ (T4.out.setRow _) ?_) rfl ⟨rfl, ?_⟩
  · go_simp
  · rw [HS.out]; exact below_setRow HB2.out (by omega) _
set_option maxRecDepth 20000 in
set_option maxHeartbeats 1600000 in
theorem rjoin_ok (a b : Wt) (w : World) (ga : Good a) (gb' : Good b) (h : a.l + b.l ≤ 1152921504606846976) :
    Calls Try.prog 20 #[.agg (wc a), .agg (wc b)] w fun e w' => e = .returned (.tuple #[.agg (wc (wj a b)), .int .i64 0]) ∧ Below w.heap.size w w' := by
  have HA := Lib.hid (fun w => gb_true ga ▸ w_rvalid a w ga.w64)
  have HV := Lib.hid (fun w => gb_true gb' ▸ w_rvalid b w gb'.w64)
  have CJ := Lib.hid (fun w => w_rjoin0 a b w ga.wl gb'.wl h)
  obtain ⟨al, hal⟩ : ∃ x, x = a.l := ⟨_, rfl⟩
  obtain ⟨bl, hbl⟩ : ∃ x, x = b.l := ⟨_, rfl⟩
  have i0 := ga.l0
  have i1 := ga.l1
  have k0 := gb'.l0
  have k1 := gb'.l1
  rw [← hal] at h i0 i1
  rw [← hbl] at h k0 k1
  have HAL := Lib.hid hal
  have HBL := Lib.hid hbl
  have z0 := w_zero
  have hst := start3 w a b
  obtain ⟨c, hc⟩ : ∃ c, w.heap.size = c := ⟨_, rfl⟩
  rw [hc] at hst
  have HS := Lib.hid hc
  have R2 := Lib.hid hst.2.1
  have R3 := Lib.hid hst.2.2.1
  have R4 := Lib.hid hst.2.2.2
  have HB0 := Lib.hid hst.1
  clear hst
  obtain ⟨J, hJ⟩ : ∃ J, J = wj a b := ⟨_, rfl⟩
  rw [← hJ] at CJ ⊢
  have h' : ¬ 1152921504606846976 - bl < al := by omega
  clear h ga gb' hal hbl hJ
  go_enter Try.func20, Try.ntmps20
  go_wp2_with (first | ((with_reducible refine wpList_loadR aggW R2.out rfl _ rfl ?_ ?_); (go_simp <;> fail); go_simp) | ((with_reducible refine wpList_loadR_g aggW S3.out ?_ _ rfl ?_ ?_); exact rfl; (go_simp <;> fail); go_simp) | (go_at_call 18; (with_reducible refine (HA.out _).mono ?_); rintro e w1 ⟨rfl, hb⟩; have S2 := Lib.hid (R2.out.below' hb); have S3 := Lib.hid (R3.out.below' hb); have S4 := Lib.hid (R4.out.below' hb); have HB1 := Lib.hid (HB0.out.trans (hb.mono (by have := HB0.out.size; have := HS.out; omega))); clear hb HB0 R2 R3 R4) | (go_at_call 18; (with_reducible refine (HV.out _).mono ?_); rintro e w2 ⟨rfl, hb⟩; have T2 := Lib.hid (S2.out.below' hb); have T3 := Lib.hid (S3.out.below' hb); have T4 := Lib.hid (S4.out.below' hb); have HB2 := Lib.hid (HB1.out.trans (hb.mono (by have := HB1.out.size; have := HS.out; omega))); clear hb HB1 S2 S3 S4; have p2 : w2.cell? ⟨c, 0, none⟩ = some (.int .i64 al) := HAL.out ▸ T2.out.cell 0; have p3 : w2.cell? ⟨c + 1, 0, none⟩ = some (.int .i64 bl) := HBL.out ▸ T3.out.cell 0) | ((with_reducible refine wpList_loadR aggW T2.out rfl _ rfl ?_ ?_); (go_simp <;> fail); go_simp) | ((with_reducible refine wpList_loadR aggW T3.out rfl _ rfl ?_ ?_); (go_simp <;> fail); go_simp) | (go_at_call 39; (with_reducible refine (CJ.out _).mono ?_); rintro e w3 ⟨rfl, hb⟩; have U4 := Lib.hid (T4.out.below' hb); have HB3 := Lib.hid (HB2.out.trans (hb.mono (by have := HB2.out.size; have := HS.out; omega))); clear hb HB2 T4) | ((with_reducible refine wpList_storeR (c' := wc J) aggW U4.out rfl (wc_one _) rfl _ _ rfl ?_ ?_ ?_); (go_simp <;> fail); (first | (go_simp <;> fail) | exact rfl); go_simp))
  refine bodyPost_ret (results_cellR2 (c := wc J) aggW rfl _ (U4.out.setRow _) ?_) rfl ⟨rfl, ?_⟩
  · go_simp
  · rw [HS.out]; exact below_setRow HB3.out (by omega) _
theorem w_rjoin (a b : Wt) (w : World) (ha : W64 a) (hb : W64 b) :
    Calls Try.prog 20 #[.agg (wc a), .agg (wc b)] w fun e w' => e = .returned (.tuple #[.agg (wc (jV a b)), .int .i64 (jC a b)]) ∧ Below w.heap.size w w' := by
  by_cases ga : Good a
  · by_cases gb' : Good b
    · by_cases h : a.l + b.l ≤ 1152921504606846976
      · rw [jV_ok ga gb' h, jC_ok ga gb' h]; exact rjoin_ok a b w ga gb' h
      · rw [jV_long ga gb' (by omega), jC_long ga gb' (by omega)]; exact rjoin_long a b w ga gb' (by omega)
    · have h2 := gb_false gb'
      rw [jV_bad (fun h => by rw [h2] at h; exact Bool.false_ne_true h.2), jC_bad (fun h => by rw [h2] at h; exact Bool.false_ne_true h.2)]
      exact rjoin_bad2 a b w ha hb (gb_true ga) h2
  · have h2 := gb_false ga
    rw [jV_bad (fun h => by rw [h2] at h; exact Bool.false_ne_true h.1), jC_bad (fun h => by rw [h2] at h; exact Bool.false_ne_true h.1)]
    exact rjoin_bad1 a b w ha h2
end Go.Proofs.Ytgjhlmmhpcbnaaa
