/-
  Package weight: the reference's times and Repeat.
-/
import Derived.Test.YtgjhlmmhpcbnaaaWtM
import Derived.Test.YtgjhlmmhpcbnaaaWtL
namespace Go.Proofs.Ytgjhlmmhpcbnaaa
open Go.RowKit
set_option linter.unusedVariables false
theorem wp_U : ∀ k, wp wU k = wU
  | 0 => rfl
  | k + 1 => by rw [wp, wp_U k]; exact wj_left wl_U
set_option maxRecDepth 20000 in
set_option maxHeartbeats 3200000 in
theorem times_none (a : Wt) (k : Int) (w : World) (h : k = 0) :
    Calls Try.prog 42 #[.agg (wc a), .int .i64 k] w fun e w' => e = .returned (.agg (wc wU)) ∧ Below w.heap.size w w' := by
  have HU := Lib.hid w_runit
  subst h
  have z0 := w_zero
  have hst := start2 w a
  obtain ⟨c, hc⟩ : ∃ c, w.heap.size = c := ⟨_, rfl⟩
  rw [hc] at hst
  have HS := Lib.hid hc
  have R2 := Lib.hid hst.2.1
  have R4 := Lib.hid hst.2.2
  have HB0 := Lib.hid hst.1
  clear hst
  go_enter Try.func42, Try.ntmps42
  go_wp2_with (first | (go_at_call 17; (with_reducible refine (HU.out _).mono ?_); rintro e w1 ⟨rfl, hb⟩; have S4 := Lib.hid (R4.out.below' hb); have HB1 := Lib.hid (HB0.out.trans (hb.mono (by have := HB0.out.size; have := HS.out; omega))); clear hb HB0 R4) | ((with_reducible refine wpList_storeR (c' := wc wU) aggW S4.out rfl (wc_one _) rfl _ _ rfl ?_ ?_ ?_); (go_simp <;> fail); (first | (go_simp <;> fail) | exact rfl); go_simp))
  refine bodyPost_ret (results_cellR (c := wc wU) aggW rfl _ (S4.out.setRow _) ?_) rfl ⟨rfl, ?_⟩
  · go_simp
  · rw [HS.out]; exact below_setRow HB1.out (by omega) _
set_option maxRecDepth 20000 in
set_option maxHeartbeats 3200000 in
theorem times_zero (a : Wt) (k : Int) (w : World) (h : (k == 0) = false) (h0 : a.l = 0) :
    Calls Try.prog 42 #[.agg (wc a), .int .i64 k] w fun e w' => e = .returned (.agg (wc wU)) ∧ Below w.heap.size w w' := by
  have HU := Lib.hid w_runit
  have z0 := w_zero
  have hst := start2 w a
  obtain ⟨c, hc⟩ : ∃ c, w.heap.size = c := ⟨_, rfl⟩
  rw [hc] at hst
  have HS := Lib.hid hc
  have R2 := Lib.hid hst.2.1
  have R4 := Lib.hid hst.2.2
  have HB0 := Lib.hid hst.1
  clear hst
  have p0 : ((w.alloc (.cells (wc a) 27)).alloc (.cells (wc wZ) 27)).cell? ⟨c, 0, none⟩ = some (.int .i64 0) := h0 ▸ R2.out.cell 0
  clear h0
  go_enter Try.func42, Try.ntmps42
  go_wp2_with (first | (go_at_call 17; (with_reducible refine (HU.out _).mono ?_); rintro e w1 ⟨rfl, hb⟩; have S4 := Lib.hid (R4.out.below' hb); have HB1 := Lib.hid (HB0.out.trans (hb.mono (by have := HB0.out.size; have := HS.out; omega))); clear hb HB0 R4; clear p0) | ((with_reducible refine wpList_storeR (c' := wc wU) aggW S4.out rfl (wc_one _) rfl _ _ rfl ?_ ?_ ?_); (go_simp <;> fail); (first | (go_simp <;> fail) | exact rfl); go_simp))
  refine bodyPost_ret (results_cellR (c := wc wU) aggW rfl _ (S4.out.setRow _) ?_) rfl ⟨rfl, ?_⟩
  · go_simp
  · rw [HS.out]; exact below_setRow HB1.out (by omega) _
set_option maxRecDepth 20000 in
set_option maxHeartbeats 6400000 in
theorem times_step (a A B C : Wt) (k q : Int) (w : World) (h0 : (k == 0) = false) (hl0 : (a.l == 0) = false) (hq : k / 2 = q) (k0 : 0 ≤ k) (k1 : k ≤ 9223372036854775807)
    (H1 : ∀ w, Calls Try.prog 42 #[.agg (wc a), .int .i64 q] w fun e w' => e = .returned (.agg (wc A)) ∧ Below w.heap.size w w')
    (H2 : ∀ w, Calls Try.prog 39 #[.agg (wc A), .agg (wc A)] w fun e w' => e = .returned (.agg (wc B)) ∧ Below w.heap.size w w')
    (H3 : (k % 2 == 1) = true → ∀ w, Calls Try.prog 39 #[.agg (wc B), .agg (wc a)] w fun e w' => e = .returned (.agg (wc C)) ∧ Below w.heap.size w w')
    (H4 : (k % 2 == 1) = false → C = B) :
    Calls Try.prog 42 #[.agg (wc a), .int .i64 k] w fun e w' => e = .returned (.agg (wc C)) ∧ Below w.heap.size w w' := by
  have K1 := Lib.hid H1
  have K2 := Lib.hid H2
  have z0 := w_zero
  have hst := start2 w a
  obtain ⟨c, hc⟩ : ∃ c, w.heap.size = c := ⟨_, rfl⟩
  rw [hc] at hst
  have HS := Lib.hid hc
  have R2 := Lib.hid hst.2.1
  have R4 := Lib.hid hst.2.2
  have HB0 := Lib.hid hst.1
  clear hst
  obtain ⟨l, hl⟩ : ∃ x, x = a.l := ⟨_, rfl⟩
  have HLL := Lib.hid hl
  have p0 : ((w.alloc (.cells (wc a) 27)).alloc (.cells (wc wZ) 27)).cell? ⟨c, 0, none⟩ = some (.int .i64 l) := HLL.out ▸ R2.out.cell 0
  rw [← hl] at hl0
  cases hm : (k % 2 == 1)
  · rw [H4 hm]
    clear H1 H2 H3 H4 hl
    go_enter Try.func42, Try.ntmps42
    go_wp2_with (first | ((with_reducible refine wpList_loadR aggW R2.out rfl _ rfl ?_ ?_); (go_simp <;> fail); go_simp) | (go_at_call 42; (with_reducible refine (K1.out _).mono ?_); rintro e w1 ⟨rfl, hb⟩; have S2 := Lib.hid (R2.out.below' hb); have S4 := Lib.hid (R4.out.below' hb); have HB1 := Lib.hid (HB0.out.trans (hb.mono (by have := HB0.out.size; have := HS.out; omega))); clear hb HB0 R2 R4; clear p0) | ((with_reducible refine wpList_newR (c' := wc A) aggW rfl (wc_one _) rfl _ _ rfl ?_ ?_ ?_); (go_simp <;> fail); (first | (go_simp <;> fail) | exact rfl); go_simp; have T5 := Lib.hid (Row.new w1 27 (wc A)); have T2 := Lib.hid (S2.out.alloc (.cells (wc A) 27)); have T4 := Lib.hid (S4.out.alloc (.cells (wc A) 27)); have HB2 := Lib.hid (HB1.out.alloc (by have hs := HB1.out.size; have := HS.out; omega) (.cells (wc A) 27)); clear HB1 S2 S4; revert T5 T2 T4 HB2; generalize w1.alloc (.cells (wc A) 27) = w2; intro T5 T2 T4 HB2) | ((with_reducible refine wpList_loadR aggW T5.out rfl _ rfl ?_ ?_); (go_simp <;> fail); go_simp) | (go_at_call 39; (with_reducible refine (K2.out _).mono ?_); rintro e w3 ⟨rfl, hb⟩; have U2 := Lib.hid (T2.out.below' hb); have U4 := Lib.hid (T4.out.below' hb); have HB3 := Lib.hid (HB2.out.trans (hb.mono (by have := HB2.out.size; have := HS.out; omega))); clear hb HB2 T2 T4) | ((with_reducible refine wpList_newR (c' := wc B) aggW rfl (wc_one _) rfl _ _ rfl ?_ ?_ ?_); (go_simp <;> fail); (first | (go_simp <;> fail) | exact rfl); go_simp; have V6 := Lib.hid (Row.new w3 27 (wc B)); have V2 := Lib.hid (U2.out.alloc (.cells (wc B) 27)); have V4 := Lib.hid (U4.out.alloc (.cells (wc B) 27)); have HB4 := Lib.hid (HB3.out.alloc (by have hs := HB3.out.size; have := HS.out; omega) (.cells (wc B) 27)); clear HB3 U2 U4; revert V6 V2 V4 HB4; generalize w3.alloc (.cells (wc B) 27) = w4; intro V6 V2 V4 HB4) | ((with_reducible refine wpList_loadR aggW V6.out rfl _ rfl ?_ ?_); (go_simp <;> fail); go_simp) | ((with_reducible refine wpList_storeR (c' := wc B) aggW V4.out rfl (wc_one _) rfl _ _ rfl ?_ ?_ ?_); (go_simp <;> fail); (first | (go_simp <;> fail) | exact rfl); go_simp))
    refine bodyPost_ret (results_cellR (c := wc B) aggW rfl _ (V4.out.setRow _) ?_) rfl ⟨rfl, ?_⟩
    · go_simp
    · rw [HS.out]; exact below_setRow HB4.out (by omega) _
  · have K3 := Lib.hid (H3 hm)
    clear H1 H2 H3 H4 hl
    go_enter Try.func42, Try.ntmps42
    go_wp2_with (first | ((with_reducible refine wpList_loadR aggW R2.out rfl _ rfl ?_ ?_); (go_simp <;> fail); go_simp) | (go_at_call 42; (with_reducible refine (K1.out _).mono ?_); rintro e w1 ⟨rfl, hb⟩; have S2 := Lib.hid (R2.out.below' hb); have S4 := Lib.hid (R4.out.below' hb); have HB1 := Lib.hid (HB0.out.trans (hb.mono (by have := HB0.out.size; have := HS.out; omega))); clear hb HB0 R2 R4; clear p0) | ((with_reducible refine wpList_newR (c' := wc A) aggW rfl (wc_one _) rfl _ _ rfl ?_ ?_ ?_); (go_simp <;> fail); (first | (go_simp <;> fail) | exact rfl); go_simp; have T5 := Lib.hid (Row.new w1 27 (wc A)); have T2 := Lib.hid (S2.out.alloc (.cells (wc A) 27)); have T4 := Lib.hid (S4.out.alloc (.cells (wc A) 27)); have HB2 := Lib.hid (HB1.out.alloc (by have hs := HB1.out.size; have := HS.out; omega) (.cells (wc A) 27)); clear HB1 S2 S4; revert T5 T2 T4 HB2; generalize w1.alloc (.cells (wc A) 27) = w2; intro T5 T2 T4 HB2) | ((with_reducible refine wpList_loadR aggW T5.out rfl _ rfl ?_ ?_); (go_simp <;> fail); go_simp) | (go_at_call 39; (with_reducible refine (K2.out _).mono ?_); rintro e w3 ⟨rfl, hb⟩; have U2 := Lib.hid (T2.out.below' hb); have U4 := Lib.hid (T4.out.below' hb); have HB3 := Lib.hid (HB2.out.trans (hb.mono (by have := HB2.out.size; have := HS.out; omega))); clear hb HB2 T2 T4) | ((with_reducible refine wpList_newR (c' := wc B) aggW rfl (wc_one _) rfl _ _ rfl ?_ ?_ ?_); (go_simp <;> fail); (first | (go_simp <;> fail) | exact rfl); go_simp; have V6 := Lib.hid (Row.new w3 27 (wc B)); have V2 := Lib.hid (U2.out.alloc (.cells (wc B) 27)); have V4 := Lib.hid (U4.out.alloc (.cells (wc B) 27)); have HB4 := Lib.hid (HB3.out.alloc (by have hs := HB3.out.size; have := HS.out; omega) (.cells (wc B) 27)); have L6a := Lib.hid (show c + 1 ≠ w3.heap.size by have hs := U4.out.lt; omega); have L7a := Lib.hid (show c ≤ w3.heap.size by have hs := U4.out.lt; omega); clear HB3 U2 U4; revert V6 V2 V4 HB4; generalize w3.alloc (.cells (wc B) 27) = w4; intro V6 V2 V4 HB4) | ((with_reducible refine wpList_loadR aggW V6.out rfl _ rfl ?_ ?_); (go_simp <;> fail); go_simp) | ((with_reducible refine wpList_loadR aggW V2.out rfl _ rfl ?_ ?_); (go_simp <;> fail); go_simp) | (go_at_call 39; (with_reducible refine (K3.out _).mono ?_); rintro e w5 ⟨rfl, hb⟩; have X2 := Lib.hid (V2.out.below' hb); have X4 := Lib.hid (V4.out.below' hb); have X6 := Lib.hid (V6.out.below' hb); have HB5 := Lib.hid (HB4.out.trans (hb.mono (by have := HB4.out.size; have := HS.out; omega))); have L6 : c + 1 ≠ w3.heap.size := L6a.out; have L7 : c ≤ w3.heap.size := L7a.out; clear hb HB4 V2 V4 V6) | ((with_reducible refine wpList_storeR (c' := wc C) aggW X6.out rfl (wc_one _) rfl _ _ rfl ?_ ?_ ?_); (go_simp <;> fail); (first | (go_simp <;> fail) | exact rfl); go_simp; have Y6 := Lib.hid (X6.out.setRow (wc C)); have Y4 := Lib.hid (X4.out.setRow_far L6 (wc C)); have YB := Lib.hid (below_setRow HB5.out L7 (wc C)); clear X6 X4 HB5) | ((with_reducible refine wpList_loadR aggW Y6.out rfl _ rfl ?_ ?_); (go_simp <;> fail); go_simp) | ((with_reducible refine wpList_storeR (c' := wc C) aggW Y4.out rfl (wc_one _) rfl _ _ rfl ?_ ?_ ?_); (go_simp <;> fail); (first | (go_simp <;> fail) | exact rfl); go_simp))
    refine bodyPost_ret (results_cellR (c := wc C) aggW rfl _ (Y4.out.setRow _) ?_) rfl ⟨rfl, ?_⟩
    · go_simp
    · rw [HS.out]; exact below_setRow YB.out (by omega) _
theorem w_times (a : Wt) (g : Good a) (K : Nat) : a.l * K ≤ 1152921504606846976 → (K : Int) ≤ 9223372036854775807 → ∀ w, Calls Try.prog 42 #[.agg (wc a), .int .i64 K] w fun e w' => e = .returned (.agg (wc (wp a K))) ∧ Below w.heap.size w w' := by
  induction K using Nat.strongRecOn with
  | ind K ih =>
    intro hm hK w
    rcases Nat.eq_zero_or_pos K with rfl | hpos
    · exact times_none a 0 w rfl
    · have e0 : ((K : Int) == 0) = false := by
        have : ¬ (K : Int) = 0 := by omega
        simpa using this
      by_cases h0 : a.l = 0
      · rw [good_zero g h0, wp_U]; exact times_zero wU K w e0 rfl
      · have hl0 := g.l0
        have hq : (K : Int) / 2 = ((K / 2 : Nat) : Int) := by omega
        have m1 : a.l * ((K / 2 : Nat) : Int) + a.l * ((K / 2 : Nat) : Int) ≤ a.l * K := by
          rw [← Int.mul_add]; exact Int.mul_le_mul_of_nonneg_left (by omega) hl0
        have m0 : 0 ≤ a.l * ((K / 2 : Nat) : Int) := Int.mul_nonneg hl0 (by omega)
        refine times_step a (wp a (K / 2)) (wp a (K / 2 + K / 2)) (wp a K) K ((K / 2 : Nat) : Int) w e0 (by simpa using h0) hq (by omega) hK (ih (K / 2) (by omega) (by omega) (by omega)) (fun w => ?_) (fun ho w => ?_) (fun he => ?_)
        · rw [← wp_add g.wl]
          exact w_rjoin0 _ _ w (wl_wp g.wl _) (wl_wp g.wl _) (by rw [wp_l]; omega)
        · have hodd : (K : Int) % 2 = 1 := by simpa using ho
          have : wp a K = wj (wp a (K / 2 + K / 2)) a := by
            rw [show K = (K / 2 + K / 2) + 1 by omega, wp]; congr 2; omega
          rw [this]
          refine w_rjoin0 _ _ w (wl_wp g.wl _) g.wl ?_
          rw [wp_l]
          have e1 : a.l * ((K / 2 + K / 2 : Nat) : Int) + a.l = a.l * K := by
            rw [show (K : Int) = ((K / 2 + K / 2 : Nat) : Int) + 1 by omega, Int.mul_add, Int.mul_one]
          omega
        · have hev : ¬ (K : Int) % 2 = 1 := by simpa using he
          congr 1; omega
set_option maxRecDepth 20000 in
set_option maxHeartbeats 3200000 in
theorem rrep_bad (a : Wt) (k : Int) (w : World) (ha : W64 a) (h : gb a = false) :
    Calls Try.prog 23 #[.agg (wc a), .int .i64 k] w fun e w' => e = .returned (.tuple #[.agg (wc wZ), .int .i64 4]) ∧ Below w.heap.size w w' := by
  have HA := Lib.hid (fun w => h ▸ w_rvalid a w ha)
  have z0 := w_zero
  have hst := start2 w a
  obtain ⟨c, hc⟩ : ∃ c, w.heap.size = c := ⟨_, rfl⟩
  rw [hc] at hst
  have HS := Lib.hid hc
  have R2 := Lib.hid hst.2.1
  have R4 := Lib.hid hst.2.2
  have HB0 := Lib.hid hst.1
  clear hst
  clear h ha
  go_enter Try.func23, Try.ntmps23
  go_wp2_with (first | ((with_reducible refine wpList_loadR aggW R2.out rfl _ rfl ?_ ?_); (go_simp <;> fail); go_simp) | (go_at_call 18; (with_reducible refine (HA.out _).mono ?_); rintro e w1 ⟨rfl, hb⟩; have S2 := Lib.hid (R2.out.below' hb); have S4 := Lib.hid (R4.out.below' hb); have HB1 := Lib.hid (HB0.out.trans (hb.mono (by have := HB0.out.size; have := HS.out; omega))); clear hb HB0 R2 R4) | ((with_reducible refine wpList_storeR (c' := wc wZ) aggW S4.out rfl (wc_one _) rfl _ _ rfl ?_ ?_ ?_); (go_simp <;> fail); (first | (go_simp <;> fail) | exact rfl); go_simp))
  refine bodyPost_ret (results_cellR2 (c := wc wZ) aggW rfl _ (S4.out.setRow _) ?_) rfl ⟨rfl, ?_⟩
  · go_simp
  · rw [HS.out]; exact below_setRow HB1.out (by omega) _
set_option maxRecDepth 20000 in
set_option maxHeartbeats 3200000 in
theorem rrep_neg (a : Wt) (k : Int) (w : World) (g : Good a) (h : k < 0) (h2 : -9223372036854775808 ≤ k) :
    Calls Try.prog 23 #[.agg (wc a), .int .i64 k] w fun e w' => e = .returned (.tuple #[.agg (wc wZ), .int .i64 1]) ∧ Below w.heap.size w w' := by
  have HA := Lib.hid (fun w => gb_true g ▸ w_rvalid a w g.w64)
  have z0 := w_zero
  have hst := start2 w a
  obtain ⟨c, hc⟩ : ∃ c, w.heap.size = c := ⟨_, rfl⟩
  rw [hc] at hst
  have HS := Lib.hid hc
  have R2 := Lib.hid hst.2.1
  have R4 := Lib.hid hst.2.2
  have HB0 := Lib.hid hst.1
  clear hst
  clear g
  go_enter Try.func23, Try.ntmps23
  go_wp2_with (first | ((with_reducible refine wpList_loadR aggW R2.out rfl _ rfl ?_ ?_); (go_simp <;> fail); go_simp) | (go_at_call 18; (with_reducible refine (HA.out _).mono ?_); rintro e w1 ⟨rfl, hb⟩; have S2 := Lib.hid (R2.out.below' hb); have S4 := Lib.hid (R4.out.below' hb); have HB1 := Lib.hid (HB0.out.trans (hb.mono (by have := HB0.out.size; have := HS.out; omega))); clear hb HB0 R2 R4) | ((with_reducible refine wpList_storeR (c' := wc wZ) aggW S4.out rfl (wc_one _) rfl _ _ rfl ?_ ?_ ?_); (go_simp <;> fail); (first | (go_simp <;> fail) | exact rfl); go_simp))
  refine bodyPost_ret (results_cellR2 (c := wc wZ) aggW rfl _ (S4.out.setRow _) ?_) rfl ⟨rfl, ?_⟩
  · go_simp
  · rw [HS.out]; exact below_setRow HB1.out (by omega) _
set_option maxRecDepth 20000 in
set_option maxHeartbeats 3200000 in
theorem rrep_long (a : Wt) (k : Int) (w : World) (g : Good a) (h : 0 ≤ k) (h2 : k ≤ 9223372036854775807) (h3 : 0 < a.l) (h4 : 1152921504606846976 / a.l < k) :
    Calls Try.prog 23 #[.agg (wc a), .int .i64 k] w fun e w' => e = .returned (.tuple #[.agg (wc wZ), .int .i64 2]) ∧ Below w.heap.size w w' := by
  have HA := Lib.hid (fun w => gb_true g ▸ w_rvalid a w g.w64)
  obtain ⟨l, hl⟩ : ∃ x, x = a.l := ⟨_, rfl⟩
  have HLL := Lib.hid hl
  have i1 := g.l1
  rw [← hl] at h3 h4 i1
  have z0 := w_zero
  have hst := start2 w a
  obtain ⟨c, hc⟩ : ∃ c, w.heap.size = c := ⟨_, rfl⟩
  rw [hc] at hst
  have HS := Lib.hid hc
  have R2 := Lib.hid hst.2.1
  have R4 := Lib.hid hst.2.2
  have HB0 := Lib.hid hst.1
  clear hst
  clear g hl
  go_enter Try.func23, Try.ntmps23
  go_wp2_with (first | ((with_reducible refine wpList_loadR aggW R2.out rfl _ rfl ?_ ?_); (go_simp <;> fail); go_simp) | (go_at_call 18; (with_reducible refine (HA.out _).mono ?_); rintro e w1 ⟨rfl, hb⟩; have S2 := Lib.hid (R2.out.below' hb); have S4 := Lib.hid (R4.out.below' hb); have HB1 := Lib.hid (HB0.out.trans (hb.mono (by have := HB0.out.size; have := HS.out; omega))); clear hb HB0 R2 R4; have p2 : w1.cell? ⟨c, 0, none⟩ = some (.int .i64 l) := HLL.out ▸ S2.out.cell 0) | ((with_reducible refine wpList_storeR (c' := wc wZ) aggW S4.out rfl (wc_one _) rfl _ _ rfl ?_ ?_ ?_); (go_simp <;> fail); (first | (go_simp <;> fail) | exact rfl); go_simp))
  refine bodyPost_ret (results_cellR2 (c := wc wZ) aggW rfl _ (S4.out.setRow _) ?_) rfl ⟨rfl, ?_⟩
  · go_simp
  · rw [HS.out]; exact below_setRow HB1.out (by omega) _
set_option maxRecDepth 20000 in
set_option maxHeartbeats 3200000 in
theorem rrep_ok (a : Wt) (k : Int) (w : World) (g : Good a) (X : Wt) (h : 0 ≤ k) (h2 : k ≤ 9223372036854775807) (h3 : 0 < a.l) (h4 : k ≤ 1152921504606846976 / a.l) (ht : ∀ w, Calls Try.prog 42 #[.agg (wc a), .int .i64 k] w fun e w' => e = .returned (.agg (wc X)) ∧ Below w.heap.size w w') :
    Calls Try.prog 23 #[.agg (wc a), .int .i64 k] w fun e w' => e = .returned (.tuple #[.agg (wc X), .int .i64 0]) ∧ Below w.heap.size w w' := by
  have HA := Lib.hid (fun w => gb_true g ▸ w_rvalid a w g.w64)
  have HT := Lib.hid ht
  obtain ⟨l, hl⟩ : ∃ x, x = a.l := ⟨_, rfl⟩
  have HLL := Lib.hid hl
  have i1 := g.l1
  rw [← hl] at h3 h4 i1
  have z0 := w_zero
  have hst := start2 w a
  obtain ⟨c, hc⟩ : ∃ c, w.heap.size = c := ⟨_, rfl⟩
  rw [hc] at hst
  have HS := Lib.hid hc
  have R2 := Lib.hid hst.2.1
  have R4 := Lib.hid hst.2.2
  have HB0 := Lib.hid hst.1
  clear hst
  clear g hl ht
  go_enter Try.func23, Try.ntmps23
  go_wp2_with (first | ((with_reducible refine wpList_loadR aggW R2.out rfl _ rfl ?_ ?_); (go_simp <;> fail); go_simp) | (go_at_call 18; (with_reducible refine (HA.out _).mono ?_); rintro e w1 ⟨rfl, hb⟩; have S2 := Lib.hid (R2.out.below' hb); have S4 := Lib.hid (R4.out.below' hb); have HB1 := Lib.hid (HB0.out.trans (hb.mono (by have := HB0.out.size; have := HS.out; omega))); clear hb HB0 R2 R4; have p2 : w1.cell? ⟨c, 0, none⟩ = some (.int .i64 l) := HLL.out ▸ S2.out.cell 0) | ((with_reducible refine wpList_loadR aggW S2.out rfl _ rfl ?_ ?_); (go_simp <;> fail); go_simp) | (go_at_call 42; (with_reducible refine (HT.out _).mono ?_); rintro e w3 ⟨rfl, hb⟩; have U4 := Lib.hid (S4.out.below' hb); have HB3 := Lib.hid (HB1.out.trans (hb.mono (by have := HB1.out.size; have := HS.out; omega))); clear hb HB1 S4) | ((with_reducible refine wpList_storeR (c' := wc X) aggW U4.out rfl (wc_one _) rfl _ _ rfl ?_ ?_ ?_); (go_simp <;> fail); (first | (go_simp <;> fail) | exact rfl); go_simp))
  refine bodyPost_ret (results_cellR2 (c := wc X) aggW rfl _ (U4.out.setRow _) ?_) rfl ⟨rfl, ?_⟩
  · go_simp
  · rw [HS.out]; exact below_setRow HB3.out (by omega) _
set_option maxRecDepth 20000 in
set_option maxHeartbeats 3200000 in
theorem rrep_ok0 (a : Wt) (k : Int) (w : World) (g : Good a) (X : Wt) (h : 0 ≤ k) (h2 : k ≤ 9223372036854775807) (h3 : a.l = 0) (ht : ∀ w, Calls Try.prog 42 #[.agg (wc a), .int .i64 k] w fun e w' => e = .returned (.agg (wc X)) ∧ Below w.heap.size w w') :
    Calls Try.prog 23 #[.agg (wc a), .int .i64 k] w fun e w' => e = .returned (.tuple #[.agg (wc X), .int .i64 0]) ∧ Below w.heap.size w w' := by
  have HA := Lib.hid (fun w => gb_true g ▸ w_rvalid a w g.w64)
  have HT := Lib.hid ht
  obtain ⟨l, hl⟩ : ∃ x, x = a.l := ⟨_, rfl⟩
  have HLL := Lib.hid hl
  have i1 := g.l1
  rw [← hl] at h3 i1
  subst h3
  have z0 := w_zero
  have hst := start2 w a
  obtain ⟨c, hc⟩ : ∃ c, w.heap.size = c := ⟨_, rfl⟩
  rw [hc] at hst
  have HS := Lib.hid hc
  have R2 := Lib.hid hst.2.1
  have R4 := Lib.hid hst.2.2
  have HB0 := Lib.hid hst.1
  clear hst
  clear g hl ht
  go_enter Try.func23, Try.ntmps23
  go_wp2_with (first | ((with_reducible refine wpList_loadR aggW R2.out rfl _ rfl ?_ ?_); (go_simp <;> fail); go_simp) | (go_at_call 18; (with_reducible refine (HA.out _).mono ?_); rintro e w1 ⟨rfl, hb⟩; have S2 := Lib.hid (R2.out.below' hb); have S4 := Lib.hid (R4.out.below' hb); have HB1 := Lib.hid (HB0.out.trans (hb.mono (by have := HB0.out.size; have := HS.out; omega))); clear hb HB0 R2 R4; have p2 : w1.cell? ⟨c, 0, none⟩ = some (.int .i64 0) := HLL.out ▸ S2.out.cell 0) | ((with_reducible refine wpList_loadR aggW S2.out rfl _ rfl ?_ ?_); (go_simp <;> fail); go_simp) | (go_at_call 42; (with_reducible refine (HT.out _).mono ?_); rintro e w3 ⟨rfl, hb⟩; have U4 := Lib.hid (S4.out.below' hb); have HB3 := Lib.hid (HB1.out.trans (hb.mono (by have := HB1.out.size; have := HS.out; omega))); clear hb HB1 S4) | ((with_reducible refine wpList_storeR (c' := wc X) aggW U4.out rfl (wc_one _) rfl _ _ rfl ?_ ?_ ?_); (go_simp <;> fail); (first | (go_simp <;> fail) | exact rfl); go_simp))
  refine bodyPost_ret (results_cellR2 (c := wc X) aggW rfl _ (U4.out.setRow _) ?_) rfl ⟨rfl, ?_⟩
  · go_simp
  · rw [HS.out]; exact below_setRow HB3.out (by omega) _
theorem w_rrepeat (a : Wt) (k : Int) (w : World) (ha : W64 a) (hk : I64 k) :
    Calls Try.prog 23 #[.agg (wc a), .int .i64 k] w fun e w' => e = .returned (.tuple #[.agg (wc (rV a k)), .int .i64 (rC a k)]) ∧ Below w.heap.size w w' := by
  unfold I64 at hk
  by_cases g : Good a
  · have h0 := g.l0
    have h1 := g.l1
    by_cases hn : k < 0
    · have e : rC a k = 1 := by rw [rC_good g, if_pos hn]
      rw [rV_bad (by rw [e]; decide), e]
      exact rrep_neg a k w g hn hk.1
    · by_cases hL : 1152921504606846976 < a.l * k
      · have e : rC a k = 2 := by rw [rC_good g, if_neg hn, if_pos hL]
        rw [rV_bad (by rw [e]; decide), e]
        have hp : 0 < a.l := by
          by_cases h : a.l = 0
          · rw [h, Int.zero_mul] at hL; omega
          · omega
        exact rrep_long a k w g (by omega) hk.2 hp ((Int.ediv_lt_iff_lt_mul hp).2 (by rw [Int.mul_comm]; exact hL))
      · have e : rC a k = 0 := by rw [rC_good g, if_neg hn, if_neg hL]
        rw [rV_ok e, e]
        have ht : ∀ w, Calls Try.prog 42 #[.agg (wc a), .int .i64 k] w fun e w' => e = .returned (.agg (wc (wp a k.toNat))) ∧ Below w.heap.size w w' := fun w => by
          have := w_times a g k.toNat (by rw [show ((k.toNat : Nat) : Int) = k by omega]; omega) (by omega) w
          rwa [show ((k.toNat : Nat) : Int) = k by omega] at this
        by_cases hp : 0 < a.l
        · refine rrep_ok a k w g _ (by omega) hk.2 hp ?_ ht
          by_cases h : 1152921504606846976 / a.l < k
          · have := (Int.ediv_lt_iff_lt_mul hp).1 h; rw [Int.mul_comm] at this; omega
          · omega
        · exact rrep_ok0 a k w g _ (by omega) hk.2 (by omega) ht
  · rw [rV_bad (by rw [rC_bad (gb_false g)]; decide), rC_bad (gb_false g)]
    exact rrep_bad a k w ha (gb_false g)
end Go.Proofs.Ytgjhlmmhpcbnaaa
