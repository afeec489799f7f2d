/-
  WeightRepeats: the walk.
-/
import Derived.Test.YtgjhlmmhpcbnaaaWtF
import Derived.Test.YtgjhlmmhpcbnaaaWtN
namespace Go.Proofs.Ytgjhlmmhpcbnaaa
open Go.RowKit
set_option maxRecDepth 20000 in
set_option maxHeartbeats 1600000 in
theorem repeats_walk (a : Wt) (k : Int) (w : World) (ha : W64 a) (hk : (Lit.int .i64 k).wf = true) :
    Calls Try.prog 6 #[.agg (wc a), .int .i64 k] w fun e w' => e = .returned (.bool true) ∧ Below w.heap.size w w' := by
  have HA := Lib.hid alive_true
  have H1 := Lib.hid (fun w => w_repeat a k w ha (i64_of hk))
  have H2 := Lib.hid (fun w => w_rrepeat a k w ha (i64_of hk))
  obtain ⟨J, hJ⟩ : ∃ J, J = rV a k := ⟨_, rfl⟩
  obtain ⟨E, hE⟩ : ∃ E, E = rC a k := ⟨_, rfl⟩
  rw [← hJ, ← hE] at H1 H2
  have HN := Lib.hid (fun w => num_errv E w)
  obtain ⟨EV, hEV⟩ : ∃ x, x = errv E := ⟨_, rfl⟩
  rw [← hEV] at H1 HN
  have ge := guard_w
  have ee := equal_w
  have z0 := w_zero
  obtain ⟨c, hc⟩ : ∃ c, w.heap.size = c := ⟨_, rfl⟩
  have HB0 := Lib.hid ((Below.refl w.heap.size w).alloc (Nat.le_refl _) (Obj.cells (wc a) 27))
  have R2 := Lib.hid (Row.new w 27 (wc a))
  rw [hc] at R2 HB0
  have HS := Lib.hid hc
  clear ha hk hJ hE hEV
  go_enter Try.func6, Try.ntmps6
  go_wp2_with (first | ((with_reducible refine wpList_loadR aggW R2.out rfl _ rfl ?_ ?_); (go_simp <;> fail); go_simp) | (go_at_call 22; (with_reducible refine (H1.out _).mono ?_); rintro e w1 ⟨rfl, hb⟩; have S2 := Lib.hid (R2.out.below' hb); have HB1 := Lib.hid (HB0.out.trans (hb.mono (by have := HB0.out.size; have := HS.out; omega))); clear hb HB0 R2) | ((with_reducible refine wpList_newR (c' := wc J) aggW rfl (wc_one _) rfl _ _ rfl ?_ ?_ ?_); (go_simp <;> fail); (first | (go_simp <;> fail) | exact rfl); go_simp; have T5 := Lib.hid (Row.new w1 27 (wc J)); have T2 := Lib.hid (S2.out.alloc (.cells (wc J) 27)); have HB2 := Lib.hid (HB1.out.alloc (by have hs := HB1.out.size; have := HS.out; omega) (.cells (wc J) 27)); clear HB1 S2; revert T5 T2 HB2; generalize w1.alloc (.cells (wc J) 27) = w2; intro T5 T2 HB2) | ((with_reducible refine wpList_loadR aggW T2.out rfl _ rfl ?_ ?_); (go_simp <;> fail); go_simp) | (go_at_call 23; (with_reducible refine (H2.out _).mono ?_); rintro e w3 ⟨rfl, hb⟩; have U2 := Lib.hid (T2.out.below' hb); have U5 := Lib.hid (T5.out.below' hb); have HB3 := Lib.hid (HB2.out.trans (hb.mono (by have := HB2.out.size; have := HS.out; omega))); clear hb HB2 T2 T5) | ((with_reducible refine wpList_newR (c' := wc J) aggW rfl (wc_one _) rfl _ _ rfl ?_ ?_ ?_); (go_simp <;> fail); (first | (go_simp <;> fail) | exact rfl); go_simp; have V7 := Lib.hid (Row.new w3 27 (wc J)); have V5 := Lib.hid (U5.out.alloc (.cells (wc J) 27)); have HB4 := Lib.hid (HB3.out.alloc (by have hs := HB3.out.size; have := HS.out; omega) (.cells (wc J) 27)); clear HB3 U5; revert V7 V5 HB4; generalize w3.alloc (.cells (wc J) 27) = w4; intro V7 V5 HB4) | (go_at_call 12; (with_reducible refine (HA.out _).mono ?_); rintro e w5 ⟨rfl, hb⟩; have X5 := Lib.hid (V5.out.below' hb); have X7 := Lib.hid (V7.out.below' hb); have HB5 := Lib.hid (HB4.out.trans (hb.mono (by have := HB4.out.size; have := HS.out; omega))); clear hb HB4 V5 V7) | ((with_reducible refine wpList_loadR_g aggW X5.out ?_ _ rfl ?_ ?_); exact rfl; (go_simp <;> fail); go_simp) | ((with_reducible refine wpList_loadR_g aggW X7.out ?_ _ rfl ?_ ?_); exact rfl; (go_simp <;> fail); go_simp) | (go_at_call 21; with_reducible refine (HN.out _).mono ?_; rintro e w' ⟨rfl, rfl⟩))
  go_ret
  exact ⟨rfl, by rw [HS.out]; exact HB5.out⟩
end Go.Proofs.Ytgjhlmmhpcbnaaa
