/-
  Package weight: Repeat.
-/
import Derived.Test.YtgjhlmmhpcbnaaaWtJ
namespace Go.Proofs.Ytgjhlmmhpcbnaaa
open Go.RowKit
noncomputable def rC (r : Wt) (k : Int) : Int := if gb r = true then (if k < 0 then 1 else if 1152921504606846976 < r.l * k then 2 else 0) else 4
noncomputable def rV (r : Wt) (k : Int) : Wt := if rC r k = 0 then wp r k.toNat else wZ
theorem rC_bad {r : Wt} (h : gb r = false) (k : Int) : rC r k = 4 := by unfold rC; rw [h, if_neg Bool.false_ne_true]
theorem rC_good {r : Wt} (g : Good r) (k : Int) : rC r k = if k < 0 then 1 else if 1152921504606846976 < r.l * k then 2 else 0 := by unfold rC; rw [if_pos (gb_true g)]
theorem rV_bad {r : Wt} {k : Int} (h : rC r k ≠ 0) : rV r k = wZ := by unfold rV; rw [if_neg h]
theorem rV_ok {r : Wt} {k : Int} (h : rC r k = 0) : rV r k = wp r k.toNat := by unfold rV; rw [if_pos h]
theorem rC_zero {r : Wt} {k : Int} (h : rC r k = 0) : Good r ∧ 0 ≤ k ∧ r.l * k ≤ 1152921504606846976 := by
  by_cases g : Good r
  · rw [rC_good g] at h
    by_cases h1 : k < 0
    · rw [if_pos h1] at h; cases h
    · rw [if_neg h1] at h
      by_cases h2 : 1152921504606846976 < r.l * k
      · rw [if_pos h2] at h; cases h
      · exact ⟨g, by omega, by omega⟩
  · rw [rC_bad (gb_false g)] at h; cases h
theorem mulC_eq {a k : Int} (h0 : 0 ≤ a) (h1 : a ≤ 1152921504606846976) : mulC a k = if k < 0 then 1 else if 1152921504606846976 < a * k then 2 else 0 := by
  unfold mulC
  rw [(badL_not a).2 ⟨h0, h1⟩, Bool.false_or]
  by_cases hk : k < 0
  · rw [if_pos (by simpa using hk), if_pos hk]
  · rw [if_neg (by simpa using hk), if_neg hk]
    by_cases ha : 0 < a
    · by_cases hq : 1152921504606846976 / a < k
      · rw [if_pos ⟨ha, hq⟩, if_pos (by rw [Int.mul_comm]; exact (Int.ediv_lt_iff_lt_mul ha).1 hq)]
      · rw [if_neg (fun h => hq h.2), if_neg (fun h => hq ((Int.ediv_lt_iff_lt_mul ha).2 (by rw [Int.mul_comm]; exact h)))]
    · obtain rfl : a = 0 := by omega
      rw [if_neg (fun h => ha h.1), if_neg (by rw [Int.zero_mul]; omega)]
theorem mul_gives (a k : Int) (h : mulC a k = 0) (w : World) :
    Calls Try.prog 40 #[.int .i64 a, .int .i64 k] w fun e w' => e = .returned (.tuple #[.int .i64 (a * k), .nilIface]) ∧ w = w' := by
  have := mul_any a k w
  unfold mulV at this
  rw [h, if_pos rfl] at this
  exact this
theorem start2 (w : World) (a : Wt) : Below w.heap.size w ((w.alloc (.cells (wc a) 27)).alloc (.cells (wc wZ) 27)) ∧
    Row ((w.alloc (.cells (wc a) 27)).alloc (.cells (wc wZ) 27)) w.heap.size 27 (wc a) ∧
    Row ((w.alloc (.cells (wc a) 27)).alloc (.cells (wc wZ) 27)) (w.heap.size + 1) 27 (wc wZ) := by
  refine ⟨((Below.refl _ _).alloc (Nat.le_refl _) _).alloc (by simp) _, (Row.new _ _ _).alloc _, ?_⟩
  have := Row.new (w.alloc (.cells (wc a) 27)) 27 (wc wZ)
  simpa using this
set_option maxRecDepth 20000 in
set_option maxHeartbeats 3200000 in
theorem rep_bad (a : Wt) (k : Int) (w : World) (ha : W64 a) (h : gb a = false) :
    Calls Try.prog 22 #[.agg (wc a), .int .i64 k] w fun e w' => e = .returned (.tuple #[.agg (wc wZ), .iface 52 (.int .i64 4)]) ∧ Below w.heap.size w w' := by
  have HA := Lib.hid (fun w => h ▸ w_valid a w ha)
  have z0 := w_zero
  have hst := start2 w a
  obtain ⟨c, hc⟩ : ∃ c, w.heap.size = c := ⟨_, rfl⟩
  rw [hc] at hst
  have HS := Lib.hid hc
  have R2 := Lib.hid hst.2.1
  have R4 := Lib.hid hst.2.2
  have HB0 := Lib.hid hst.1
  clear hst
  clear h ha
  go_enter Try.func22, Try.ntmps22
  go_wp2_with (first | ((with_reducible refine wpList_loadR aggW R2.out rfl _ rfl ?_ ?_); (go_simp <;> fail); go_simp) | (go_at_call 14; (with_reducible refine (HA.out _).mono ?_); rintro e w1 ⟨rfl, hb⟩; have S2 := Lib.hid (R2.out.below' hb); have S4 := Lib.hid (R4.out.below' hb); have HB1 := Lib.hid (HB0.out.trans (hb.mono (by have := HB0.out.size; have := HS.out; omega))); clear hb HB0 R2 R4) | ((with_reducible refine wpList_storeR (c' := wc wZ) aggW S4.out rfl (wc_one _) rfl _ _ rfl ?_ ?_ ?_); (go_simp <;> fail); (first | (go_simp <;> fail) | exact rfl); go_simp))
  refine bodyPost_ret (results_cellR2 (c := wc wZ) aggW rfl _ (S4.out.setRow _) ?_) rfl ⟨rfl, ?_⟩
  · go_simp
  · rw [HS.out]; exact below_setRow HB1.out (by omega) _
set_option maxRecDepth 20000 in
set_option maxHeartbeats 3200000 in
theorem rep_err (a : Wt) (k : Int) (w : World) (g : Good a) (E : Int) (h0 : E ≠ 0) (h : mulC a.l k = E) :
    Calls Try.prog 22 #[.agg (wc a), .int .i64 k] w fun e w' => e = .returned (.tuple #[.agg (wc wZ), .iface 52 (.int .i64 E)]) ∧ Below w.heap.size w w' := by
  have HA := Lib.hid (fun w => gb_true g ▸ w_valid a w g.w64)
  have HM := Lib.hid (fun w => show Calls Try.prog 40 #[.int .i64 a.l, .int .i64 k] w fun e w' => e = .returned (.tuple #[.int .i64 (mulV a.l k), .iface 52 (.int .i64 E)]) ∧ w = w' by
    have := mul_any a.l k w
    rw [h, errv_some h0] at this
    exact this)
  obtain ⟨mv, hmv⟩ : ∃ x, x = mulV a.l k := ⟨_, rfl⟩
  rw [← hmv] at HM
  obtain ⟨l, hl⟩ : ∃ x, x = a.l := ⟨_, rfl⟩
  rw [← hl] at HM
  have HLL := Lib.hid hl
  have z0 := w_zero
  have hst := start2 w a
  obtain ⟨c, hc⟩ : ∃ c, w.heap.size = c := ⟨_, rfl⟩
  rw [hc] at hst
  have HS := Lib.hid hc
  have R2 := Lib.hid hst.2.1
  have R4 := Lib.hid hst.2.2
  have HB0 := Lib.hid hst.1
  clear hst
  clear h g hl hmv h0
  go_enter Try.func22, Try.ntmps22
  go_wp2_with (first | ((with_reducible refine wpList_loadR aggW R2.out rfl _ rfl ?_ ?_); (go_simp <;> fail); go_simp) | (go_at_call 14; (with_reducible refine (HA.out _).mono ?_); rintro e w1 ⟨rfl, hb⟩; have S2 := Lib.hid (R2.out.below' hb); have S4 := Lib.hid (R4.out.below' hb); have HB1 := Lib.hid (HB0.out.trans (hb.mono (by have := HB0.out.size; have := HS.out; omega))); clear hb HB0 R2 R4; have p2 : w1.cell? ⟨c, 0, none⟩ = some (.int .i64 l) := HLL.out ▸ S2.out.cell 0) | (go_at_call 40; with_reducible refine (HM.out _).mono ?_; rintro e w' ⟨rfl, rfl⟩) | ((with_reducible refine wpList_storeR (c' := wc wZ) aggW S4.out rfl (wc_one _) rfl _ _ rfl ?_ ?_ ?_); (go_simp <;> fail); (first | (go_simp <;> fail) | exact rfl); go_simp))
  refine bodyPost_ret (results_cellR2 (c := wc wZ) aggW rfl _ (S4.out.setRow _) ?_) rfl ⟨rfl, ?_⟩
  · go_simp
  · rw [HS.out]; exact below_setRow HB1.out (by omega) _
set_option maxRecDepth 20000 in
set_option maxHeartbeats 3200000 in
theorem rep_none (a : Wt) (k : Int) (w : World) (g : Good a) (hk : k = 0) :
    Calls Try.prog 22 #[.agg (wc a), .int .i64 k] w fun e w' => e = .returned (.tuple #[.agg (wc wU), .nilIface]) ∧ Below w.heap.size w w' := by
  have HA := Lib.hid (fun w => gb_true g ▸ w_valid a w g.w64)
  have HU := Lib.hid w_unit
  subst hk
  have HM := Lib.hid (fun w => show Calls Try.prog 40 #[.int .i64 a.l, .int .i64 0] w fun e w' => e = .returned (.tuple #[.int .i64 0, .nilIface]) ∧ w = w' by
    have := mul_gives a.l 0 (by rw [mulC_eq g.l0 g.l1, Int.mul_zero, if_neg (by decide), if_neg (by decide)]) w
    rw [Int.mul_zero] at this
    exact this)
  obtain ⟨l, hl⟩ : ∃ x, x = a.l := ⟨_, rfl⟩
  rw [← hl] at HM
  have HLL := Lib.hid hl
  have z0 := w_zero
  have hst := start2 w a
  obtain ⟨c, hc⟩ : ∃ c, w.heap.size = c := ⟨_, rfl⟩
  rw [hc] at hst
  have HS := Lib.hid hc
  have R2 := Lib.hid hst.2.1
  have R4 := Lib.hid hst.2.2
  have HB0 := Lib.hid hst.1
  clear hst
  clear g hl
  go_enter Try.func22, Try.ntmps22
  go_wp2_with (first | ((with_reducible refine wpList_loadR aggW R2.out rfl _ rfl ?_ ?_); (go_simp <;> fail); go_simp) | (go_at_call 14; (with_reducible refine (HA.out _).mono ?_); rintro e w1 ⟨rfl, hb⟩; have S2 := Lib.hid (R2.out.below' hb); have S4 := Lib.hid (R4.out.below' hb); have HB1 := Lib.hid (HB0.out.trans (hb.mono (by have := HB0.out.size; have := HS.out; omega))); clear hb HB0 R2 R4; have p2 : w1.cell? ⟨c, 0, none⟩ = some (.int .i64 l) := HLL.out ▸ S2.out.cell 0) | (go_at_call 40; with_reducible refine (HM.out _).mono ?_; rintro e w' ⟨rfl, rfl⟩) | (go_at_call 16; (with_reducible refine (HU.out _).mono ?_); rintro e w3 ⟨rfl, hb⟩; have U4 := Lib.hid (S4.out.below' hb); have HB3 := Lib.hid (HB1.out.trans (hb.mono (by have := HB1.out.size; have := HS.out; omega))); clear hb HB1 S4) | ((with_reducible refine wpList_storeR (c' := wc wU) aggW U4.out rfl (wc_one _) rfl _ _ rfl ?_ ?_ ?_); (go_simp <;> fail); (first | (go_simp <;> fail) | exact rfl); go_simp))
  refine bodyPost_ret (results_cellR2 (c := wc wU) aggW rfl _ (U4.out.setRow _) ?_) rfl ⟨rfl, ?_⟩
  · go_simp
  · rw [HS.out]; exact below_setRow HB3.out (by omega) _
set_option maxRecDepth 20000 in
set_option maxHeartbeats 3200000 in
theorem rep_ok (a : Wt) (k : Int) (w : World) (g : Good a) (hk : 1 ≤ k) (hk2 : k ≤ 9223372036854775807) (hm : a.l * k ≤ 1152921504606846976) :
    Calls Try.prog 22 #[.agg (wc a), .int .i64 k] w fun e w' => e = .returned (.tuple #[.agg (wc (wp a k.toNat)), .nilIface]) ∧ Below w.heap.size w w' := by
  have HA := Lib.hid (fun w => gb_true g ▸ w_valid a w g.w64)
  have HM := Lib.hid (fun w => show Calls Try.prog 40 #[.int .i64 a.l, .int .i64 k] w fun e w' => e = .returned (.tuple #[.int .i64 (a.l * k), .nilIface]) ∧ w = w' from mul_gives a.l k (by rw [mulC_eq g.l0 g.l1, if_neg (show ¬ k < 0 by omega), if_neg (by omega)]) w)
  have CJ := Lib.hid (fun w => rd_of g.wl.ir ▸ dg_repeat a.d k w g.wl.ir.in64 hk2)
  have HV := Lib.hid (wp_closed g.wl k.toNat (by omega))
  rw [show ((k.toNat : Nat) : Int) = k by omega] at HV
  obtain ⟨i1, i2, i3, i4, i5, i6⟩ := g.in
  have i0 := g.l0
  have i7 := g.l1
  have nk1 : a.n * k ≤ a.l * k := Int.mul_le_mul_of_nonneg_right i2 (by omega)
  have nk0 : 0 ≤ a.n * k := Int.mul_nonneg i1 (by omega)
  have z0 := w_zero
  have hst := start2 w a
  obtain ⟨c, hc⟩ : ∃ c, w.heap.size = c := ⟨_, rfl⟩
  rw [hc] at hst
  have HS := Lib.hid hc
  have R2 := Lib.hid hst.2.1
  have R4 := Lib.hid hst.2.2
  have HB0 := Lib.hid hst.1
  clear hst
  obtain ⟨X, hX⟩ : ∃ X, X = wp a k.toNat := ⟨_, rfl⟩
  rw [← hX] at HV ⊢
  obtain ⟨l, n, h, t, d⟩ := a
  simp only [] at hm i1 i2 i3 i4 i5 i6 i0 i7 HM CJ HV nk1 nk0
  obtain ⟨D, hD⟩ : ∃ D, D = cw mDig d k.toNat := ⟨_, rfl⟩
  obtain ⟨L, hL⟩ : ∃ L, L = l * k := ⟨_, rfl⟩
  obtain ⟨N, hN⟩ : ∃ N, N = n * k := ⟨_, rfl⟩
  rw [← hD] at HV CJ
  rw [← hL] at HV HM hm nk1
  rw [← hN] at HV nk0 nk1
  have HW1 := Lib.hid (show IntKind.i64.wrap (n * k) = N by rw [← hN]; exact i64_id (by omega) (by omega))
  have ek : (k == 0) = false := by
    have : ¬ k = 0 := by omega
    simpa using this
  clear g hX hD hL hN
  go_enter Try.func22, Try.ntmps22
  go_wp2_with (first | ((with_reducible refine wpList_loadR aggW R2.out rfl _ rfl ?_ ?_); (go_simp <;> fail); go_simp) | (go_at_call 14; (with_reducible refine (HA.out _).mono ?_); rintro e w1 ⟨rfl, hb⟩; have S2 := Lib.hid (R2.out.below' hb); have S4 := Lib.hid (R4.out.below' hb); have HB1 := Lib.hid (HB0.out.trans (hb.mono (by have := HB0.out.size; have := HS.out; omega))); clear hb HB0 R2 R4; have p2 : w1.cell? ⟨c, 0, none⟩ = some (.int .i64 l) := S2.out.cell 0) | (go_at_call 40; with_reducible refine (HM.out _).mono ?_; rintro e w' ⟨rfl, rfl⟩))
  clear p2
  refine wp_region_named fun fra hfra => ?_
  have o2 : tm fra 2 = .pointer (some ⟨c, 0, none⟩) := by rw [hfra]; rfl
  have o1 : tm fra 1 = .int .i64 k := by rw [hfra]; rfl
  have o6 : tm fra 6 = .int .i64 L := by rw [hfra]; rfl
  have sz : fra.tmps.size = 50 := by rw [hfra]; rfl
  obtain ⟨PL, hPL⟩ : ∃ PL : List (Value → World → Prop), PL = [(fun v _ => v = .int .i64 L), (fun v _ => v = .pointer (some ⟨c, 1, none⟩)), (fun v _ => v = .int .i64 n), (fun v _ => v = .int .i64 k), (fun v _ => v = .int .i64 N), (fun v _ => v = .pointer (some ⟨c, 2, none⟩)), (fun v _ => v = .int .i64 h), (fun v _ => v = .pointer (some ⟨c, 3, none⟩)), (fun v _ => v = .int .i64 t), (fun v _ => v = .pointer (some ⟨c, 4, none⟩)), (fun v _ => v = .agg (dc d)), (fun v _ => v = .int .i64 k), (fun v _ => v = .agg (dc D)), (fun v _ => v = .agg (wc ⟨L, N, h, t, D⟩)), (fun _ _ => True), (fun _ _ => True)] := ⟨_, rfl⟩
  have hmono : AllMono PL := by rw [hPL]; exact ⟨mono_det _, mono_det _, mono_det _, mono_det _, mono_det _, mono_det _, mono_det _, mono_det _, mono_det _, mono_det _, mono_det _, mono_det _, mono_det _, mono_det _, mono_top, mono_top, trivial⟩
  have P0 : ∀ v w, PL.getD 0 (fun _ _ => True) v w = (fun v _ => v = .int .i64 L) v w := fun v w => by rw [hPL]; rfl
  have P1 : ∀ v w, PL.getD 1 (fun _ _ => True) v w = (fun v _ => v = .pointer (some ⟨c, 1, none⟩)) v w := fun v w => by rw [hPL]; rfl
  have P2 : ∀ v w, PL.getD 2 (fun _ _ => True) v w = (fun v _ => v = .int .i64 n) v w := fun v w => by rw [hPL]; rfl
  have P3 : ∀ v w, PL.getD 3 (fun _ _ => True) v w = (fun v _ => v = .int .i64 k) v w := fun v w => by rw [hPL]; rfl
  have P4 : ∀ v w, PL.getD 4 (fun _ _ => True) v w = (fun v _ => v = .int .i64 N) v w := fun v w => by rw [hPL]; rfl
  have P5 : ∀ v w, PL.getD 5 (fun _ _ => True) v w = (fun v _ => v = .pointer (some ⟨c, 2, none⟩)) v w := fun v w => by rw [hPL]; rfl
  have P6 : ∀ v w, PL.getD 6 (fun _ _ => True) v w = (fun v _ => v = .int .i64 h) v w := fun v w => by rw [hPL]; rfl
  have P7 : ∀ v w, PL.getD 7 (fun _ _ => True) v w = (fun v _ => v = .pointer (some ⟨c, 3, none⟩)) v w := fun v w => by rw [hPL]; rfl
  have P8 : ∀ v w, PL.getD 8 (fun _ _ => True) v w = (fun v _ => v = .int .i64 t) v w := fun v w => by rw [hPL]; rfl
  have P9 : ∀ v w, PL.getD 9 (fun _ _ => True) v w = (fun v _ => v = .pointer (some ⟨c, 4, none⟩)) v w := fun v w => by rw [hPL]; rfl
  have P10 : ∀ v w, PL.getD 10 (fun _ _ => True) v w = (fun v _ => v = .agg (dc d)) v w := fun v w => by rw [hPL]; rfl
  have P11 : ∀ v w, PL.getD 11 (fun _ _ => True) v w = (fun v _ => v = .int .i64 k) v w := fun v w => by rw [hPL]; rfl
  have P12 : ∀ v w, PL.getD 12 (fun _ _ => True) v w = (fun v _ => v = .agg (dc D)) v w := fun v w => by rw [hPL]; rfl
  have P13 : ∀ v w, PL.getD 13 (fun _ _ => True) v w = (fun v _ => v = .agg (wc ⟨L, N, h, t, D⟩)) v w := fun v w => by rw [hPL]; rfl
  have hkeep : AllKeep PL := by rw [hPL]; exact ⟨keep_det _, keep_det _, keep_det _, keep_det _, keep_det _, keep_det _, keep_det _, keep_det _, keep_det _, keep_det _, keep_det _, keep_det _, keep_det _, keep_det _, keep_top, keep_top, trivial⟩
  refine wp_region_by (by kernel_rfl) (fun j => PL.getD j (fun _ _ => True)) 14 15 1 (fun _ => 27) (fun _ => wc wZ) (fun i => [wc ⟨L, N, h, t, D⟩].getD i #[]) (by rw [sz]; kernel_rfl) (fun j => all_mono hmono j) (fun j v w g i _ _ h => all_keep hkeep j v w g _ h) ?_ ?_ ?_ rfl ?_
  · intro j hj hn a' w' hb OX DX K hK
    have hc : j = 0 ∨ j = 1 ∨ j = 2 ∨ j = 3 ∨ j = 4 ∨ j = 5 ∨ j = 6 ∨ j = 7 ∨ j = 8 ∨ j = 9 ∨ j = 10 ∨ j = 11 ∨ j = 12 ∨ j = 13 := by
      have h3 : j < 16 := hj
      have := normB_iff.1 hn
      omega
    clear hmono hj
    rcases hc with rfl | rfl | rfl | rfl | rfl | rfl | rfl | rfl | rfl | rfl | rfl | rfl | rfl | rfl
    · refine wpOp_of rfl rfl ?_
      have e6 := (OX 6 (by kernel_rfl)).trans o6
      replace hK : K (a'.put (some 28) (.int .i64 L)) w' := hK _ _ (Below.refl _ _) ((P0 _ _).mpr rfl)
      have e6' := tm_simp e6
      clear OX DX
      go_simp
      exact hK
    · refine wpOp_of rfl rfl ?_
      have e2 := (OX 2 (by kernel_rfl)).trans o2
      replace hK : K (a'.put (some 29) (.pointer (some ⟨c, 1, none⟩))) w' := hK _ _ (Below.refl _ _) ((P1 _ _).mpr rfl)
      have e2' := tm_simp e2
      clear OX DX
      go_simp
      exact hK
    · refine wpOp_of rfl rfl ?_
      have e29 : tm a' 29 = .pointer (some ⟨c, 1, none⟩) := (P1 _ _).mp (DX 1 29 (by kernel_rfl))
      replace hK : K (a'.put (some 30) (.int .i64 n)) w' := hK _ _ (Below.refl _ _) ((P2 _ _).mpr rfl)
      have e29' := tm_simp e29
      have q : w'.cell? ⟨c, 1, none⟩ = some (.int .i64 n) := (S2.out.below' hb).cell 1
      clear OX DX
      go_simp
      exact hK
    · refine wpOp_of rfl rfl ?_
      have e1 := (OX 1 (by kernel_rfl)).trans o1
      replace hK : K (a'.put (some 31) (.int .i64 k)) w' := hK _ _ (Below.refl _ _) ((P3 _ _).mpr rfl)
      have e1' := tm_simp e1
      clear OX DX
      go_simp
      exact hK
    · refine wpOp_of rfl rfl ?_
      have e30 : tm a' 30 = .int .i64 n := (P2 _ _).mp (DX 2 30 (by kernel_rfl))
      have e31 : tm a' 31 = .int .i64 k := (P3 _ _).mp (DX 3 31 (by kernel_rfl))
      replace hK : K (a'.put (some 32) (.int .i64 N)) w' := hK _ _ (Below.refl _ _) ((P4 _ _).mpr rfl)
      have e30' := tm_simp e30
      have e31' := tm_simp e31
      have hw := HW1.out
      clear OX DX
      go_simp
      exact hK
    · refine wpOp_of rfl rfl ?_
      have e2 := (OX 2 (by kernel_rfl)).trans o2
      replace hK : K (a'.put (some 33) (.pointer (some ⟨c, 2, none⟩))) w' := hK _ _ (Below.refl _ _) ((P5 _ _).mpr rfl)
      have e2' := tm_simp e2
      clear OX DX
      go_simp
      exact hK
    · refine wpOp_of rfl rfl ?_
      have e33 : tm a' 33 = .pointer (some ⟨c, 2, none⟩) := (P5 _ _).mp (DX 5 33 (by kernel_rfl))
      replace hK : K (a'.put (some 34) (.int .i64 h)) w' := hK _ _ (Below.refl _ _) ((P6 _ _).mpr rfl)
      have e33' := tm_simp e33
      have q : w'.cell? ⟨c, 2, none⟩ = some (.int .i64 h) := (S2.out.below' hb).cell 2
      clear OX DX
      go_simp
      exact hK
    · refine wpOp_of rfl rfl ?_
      have e2 := (OX 2 (by kernel_rfl)).trans o2
      replace hK : K (a'.put (some 35) (.pointer (some ⟨c, 3, none⟩))) w' := hK _ _ (Below.refl _ _) ((P7 _ _).mpr rfl)
      have e2' := tm_simp e2
      clear OX DX
      go_simp
      exact hK
    · refine wpOp_of rfl rfl ?_
      have e35 : tm a' 35 = .pointer (some ⟨c, 3, none⟩) := (P7 _ _).mp (DX 7 35 (by kernel_rfl))
      replace hK : K (a'.put (some 36) (.int .i64 t)) w' := hK _ _ (Below.refl _ _) ((P8 _ _).mpr rfl)
      have e35' := tm_simp e35
      have q : w'.cell? ⟨c, 3, none⟩ = some (.int .i64 t) := (S2.out.below' hb).cell 3
      clear OX DX
      go_simp
      exact hK
    · refine wpOp_of rfl rfl ?_
      have e2 := (OX 2 (by kernel_rfl)).trans o2
      replace hK : K (a'.put (some 37) (.pointer (some ⟨c, 4, none⟩))) w' := hK _ _ (Below.refl _ _) ((P9 _ _).mpr rfl)
      have e2' := tm_simp e2
      clear OX DX
      go_simp
      exact hK
    · refine wpOp_of rfl rfl ?_
      have e37 : tm a' 37 = .pointer (some ⟨c, 4, none⟩) := (P9 _ _).mp (DX 9 37 (by kernel_rfl))
      exact wp_loadD (S2.out.below' hb) _ rfl (eval_of e37) (hK _ _ (Below.refl _ _) ((P10 _ _).mpr rfl))
    · refine wpOp_of rfl rfl ?_
      have e1 := (OX 1 (by kernel_rfl)).trans o1
      replace hK : K (a'.put (some 39) (.int .i64 k)) w' := hK _ _ (Below.refl _ _) ((P11 _ _).mpr rfl)
      have e1' := tm_simp e1
      clear OX DX
      go_simp
      exact hK
    · refine wpOp_of rfl rfl ?_
      have e38 : tm a' 38 = .agg (dc d) := (P10 _ _).mp (DX 10 38 (by kernel_rfl))
      have e39 : tm a' 39 = .int .i64 k := (P11 _ _).mp (DX 11 39 (by kernel_rfl))
      replace hK : ∀ w'', Below w'.heap.size w' w'' → K (a'.put (some 40) (.agg (dc D))) w'' := fun w'' hb => hK _ _ hb ((P12 _ _).mpr rfl)
      have e38' := tm_simp e38
      have e39' := tm_simp e39
      clear OX DX
      go_simp
      go_at_call 41
      refine (CJ.out _).mono ?_
      rintro e w2 ⟨rfl, hb2⟩
      exact hK _ hb2
    · refine wpOp_of rfl rfl ?_
      have e28 : tm a' 28 = .int .i64 L := (P0 _ _).mp (DX 0 28 (by kernel_rfl))
      have e32 : tm a' 32 = .int .i64 N := (P4 _ _).mp (DX 4 32 (by kernel_rfl))
      have e34 : tm a' 34 = .int .i64 h := (P6 _ _).mp (DX 6 34 (by kernel_rfl))
      have e36 : tm a' 36 = .int .i64 t := (P8 _ _).mp (DX 8 36 (by kernel_rfl))
      have e40 : tm a' 40 = .agg (dc D) := (P12 _ _).mp (DX 12 40 (by kernel_rfl))
      replace hK : K (a'.put (some 41) (.agg (wc ⟨L, N, h, t, D⟩))) w' := hK _ _ (Below.refl _ _) ((P13 _ _).mpr rfl)
      have e28' := tm_simp e28
      have e32' := tm_simp e32
      have e34' := tm_simp e34
      have e36' := tm_simp e36
      have e40' := tm_simp e40
      clear OX DX
      go_simp
      exact hK
  · intro i hi a' w' K hK
    have hc : i = 0 := by omega
    rcases hc with rfl
    · refine wpOp_of rfl rfl ?_
      replace hK : K (a'.put (some 8) (.pointer (some ⟨w'.heap.size, 0, none⟩))) (w'.alloc (.cells (wc wZ) 27)) := hK
      go_simp
      exact hK
  · intro i hi a' w' g' d OX DX hd hg hrow K hK
    have hc : i = 0 := by omega
    rcases hc with rfl
    · obtain rfl : 8 = d := Option.some.inj hd
      have ev : tm a' 41 = .agg (wc ⟨L, N, h, t, D⟩) := (P13 _ _).mp (DX 13 41 (by kernel_rfl))
      exact wpOp_of rfl rfl (wp_storeR (c' := wc ⟨L, N, h, t, D⟩) aggW hrow rfl (wc_one _) _ _ rfl (eval_of hg) (eval_of ev) hK)
  · intro V G w5 hb5 hV hG hge
    have v0 : V 0 = .int .i64 L := (P0 _ _).mp (hV 0 rfl)
    have v1 : V 1 = .pointer (some ⟨c, 1, none⟩) := (P1 _ _).mp (hV 1 rfl)
    have v2 : V 2 = .int .i64 n := (P2 _ _).mp (hV 2 rfl)
    have v3 : V 3 = .int .i64 k := (P3 _ _).mp (hV 3 rfl)
    have v4 : V 4 = .int .i64 N := (P4 _ _).mp (hV 4 rfl)
    have v5 : V 5 = .pointer (some ⟨c, 2, none⟩) := (P5 _ _).mp (hV 5 rfl)
    have v6 : V 6 = .int .i64 h := (P6 _ _).mp (hV 6 rfl)
    have v7 : V 7 = .pointer (some ⟨c, 3, none⟩) := (P7 _ _).mp (hV 7 rfl)
    have v8 : V 8 = .int .i64 t := (P8 _ _).mp (hV 8 rfl)
    have v9 : V 9 = .pointer (some ⟨c, 4, none⟩) := (P9 _ _).mp (hV 9 rfl)
    have v10 : V 10 = .agg (dc d) := (P10 _ _).mp (hV 10 rfl)
    have v11 : V 11 = .int .i64 k := (P11 _ _).mp (hV 11 rfl)
    have v12 : V 12 = .agg (dc D) := (P12 _ _).mp (hV 12 rfl)
    have v13 : V 13 = .agg (wc ⟨L, N, h, t, D⟩) := (P13 _ _).mp (hV 13 rfl)
    have ge8 := hge 0 (by omega)
    have v14 := (hG 0 (by omega)).1
    have T8 := Lib.hid (show Row w5 (G 0) 27 (wc ⟨L, N, h, t, D⟩) from (hG 0 (by omega)).2)
    obtain ⟨g0, hg0⟩ : ∃ g, g = G 0 := ⟨_, rfl⟩
    rw [← hg0] at v14 T8 ge8
    show Exit.then _ _ _ (puts [some 28, some 29, some 30, some 31, some 32, some 33, some 34, some 35, some 36, some 37, some 38, some 39, some 40, some 41, some 8, none] V 0 fra) w5
    simp only [Nat.reduceAdd] at v14
    simp only [puts, Nat.zero_add, Nat.reduceAdd, v0, v1, v2, v3, v4, v5, v6, v7, v8, v9, v10, v11, v12, v13, v14]
    simp only [hfra]
    clear hV hG hge hmono hkeep hPL hfra sz v0 v1 v2 v3 v4 v5 v6 v7 v8 v9 v10 v11 v12 v13 v14 hg0
    clear P0 P1 P2 P3 P4 P5 P6 P7 P8 P9 P10 P11 P12 P13
    go_simp
    have lt8 : c + 1 < g0 := by have := S4.out.lt; omega
    have U2 := Lib.hid (S2.out.below' hb5)
    have U4 := Lib.hid (S4.out.below' hb5)
    have HB5 := Lib.hid (HB1.out.trans (hb5.mono (by have := HB1.out.size; have := HS.out; omega)))
    clear hb5 S2 S4 HB1 z0 o2 o1 o6 ge8 CJ HA HM
    have m3 : c + 1 ≠ g0 := by omega
    have y1 : w5.cell? ⟨c, 1, none⟩ = some (.int .i64 n) := U2.out.cell 1
    by_cases hn : n = 0
    · have en : (n == 0) = true := by simpa using hn
      have HE := Lib.hid (show X = ⟨L, N, L, L, D⟩ by rw [HV.out, if_pos hn, if_pos hn])
      clear hn
      have f0 : w5.frozen? ⟨g0, 2, none⟩ = false := T8.out.frozen 2
      have x0 : w5.cell? ⟨g0, 2, none⟩ = some (.int .i64 h) := T8.out.cell 2
      have f1 : (w5.setCell ⟨g0, 2, none⟩ (.int .i64 L)).frozen? ⟨g0, 3, none⟩ = false := (T8.out.set 2 _).frozen 3
      have x1 : (w5.setCell ⟨g0, 2, none⟩ (.int .i64 L)).cell? ⟨g0, 3, none⟩ = some (.int .i64 t) := (T8.out.set 2 _).cell 3
      have A8 := Lib.hid (show Row ((w5.setCell ⟨g0, 2, none⟩ (.int .i64 L)).setCell ⟨g0, 3, none⟩ (.int .i64 L)) g0 27 (wc ⟨L, N, L, L, D⟩) from ((T8.out.set 2 _).set 3 _).congr rfl)
      have A4 := Lib.hid ((U4.out.far (p := ⟨g0, 2, none⟩) m3 (.int .i64 L)).far (p := ⟨g0, 3, none⟩) m3 (.int .i64 L))
      have AB := Lib.hid ((HB5.out.setCell (p := ⟨g0, 2, none⟩) (by show c ≤ g0; omega) (.int .i64 L)).setCell (p := ⟨g0, 3, none⟩) (by show c ≤ g0; omega) (.int .i64 L))
      clear U2 U4 T8 HB5
      go_wp2_with (first | ((with_reducible refine wpList_loadR aggW A8.out rfl _ rfl ?_ ?_); (go_simp <;> fail); go_simp) | ((with_reducible refine wpList_storeR (c' := wc ⟨L, N, L, L, D⟩) aggW A4.out rfl (wc_one _) rfl _ _ rfl ?_ ?_ ?_); (go_simp <;> fail); (first | (go_simp <;> fail) | exact rfl); go_simp))
      refine bodyPost_ret (results_cellR2 (c := wc ⟨L, N, L, L, D⟩) aggW rfl _ (A4.out.setRow _) ?_) rfl ⟨by rw [HE.out]; rfl, ?_⟩
      · go_simp
      · rw [HS.out]; exact below_setRow AB.out (by omega) _
    · have en : (n == 0) = false := by simpa using hn
      have HE := Lib.hid (show X = ⟨L, N, h, t, D⟩ by rw [HV.out, if_neg hn, if_neg hn])
      clear hn
      go_wp2_with (first | ((with_reducible refine wpList_loadR aggW T8.out rfl _ rfl ?_ ?_); (go_simp <;> fail); go_simp) | ((with_reducible refine wpList_storeR (c' := wc ⟨L, N, h, t, D⟩) aggW U4.out rfl (wc_one _) rfl _ _ rfl ?_ ?_ ?_); (go_simp <;> fail); (first | (go_simp <;> fail) | exact rfl); go_simp))
      refine bodyPost_ret (results_cellR2 (c := wc ⟨L, N, h, t, D⟩) aggW rfl _ (U4.out.setRow _) ?_) rfl ⟨by rw [HE.out]; rfl, ?_⟩
      · go_simp
      · rw [HS.out]; exact below_setRow HB5.out (by omega) _
theorem w_repeat (a : Wt) (k : Int) (w : World) (ha : W64 a) (hk : I64 k) :
    Calls Try.prog 22 #[.agg (wc a), .int .i64 k] w fun e w' => e = .returned (.tuple #[.agg (wc (rV a k)), errv (rC a k)]) ∧ Below w.heap.size w w' := by
  unfold I64 at hk
  by_cases g : Good a
  · by_cases e : rC a k = 0
    · obtain ⟨_, h1, h2⟩ := rC_zero e
      rw [rV_ok e, e]
      by_cases h0 : k = 0
      · have := rep_none a k w g h0
        rw [h0] at this ⊢; exact this
      · exact rep_ok a k w g (by omega) (by omega) h2
    · rw [rV_bad e, errv_some e]
      exact rep_err a k w g _ e (by rw [rC_good g]; exact mulC_eq g.l0 g.l1)
  · rw [rV_bad (by rw [rC_bad (gb_false g)]; decide), rC_bad (gb_false g)]
    exact rep_bad a k w ha (gb_false g)
end Go.Proofs.Ytgjhlmmhpcbnaaa
