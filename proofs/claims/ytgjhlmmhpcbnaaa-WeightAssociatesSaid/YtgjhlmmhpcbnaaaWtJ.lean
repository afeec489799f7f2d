/-
  Package weight: Join.
-/
import Derived.Test.YtgjhlmmhpcbnaaaWtB
import Derived.Test.YtgjhlmmhpcbnaaaReg
namespace Go.Proofs.Ytgjhlmmhpcbnaaa
open Go.RowKit
theorem results_cellR2 {fn : Func} {p q : Tmp} {ty : TypeId} {c : Array Value} (ht : AggT ty c.size) (h : fn.results = #[.cell p ty, .tmp q]) (tmps : Array Value) {w : World} {g : Nat} {t : TypeId} (hr : Row w g t c) (hp : tmps.getD p undef = .pointer (some ⟨g, 0, none⟩)) :
    (results fn tmps).run Try.prog w = .ok (.tuple #[.agg c, tmps.getD q undef]) w := by
  obtain ⟨⟨d, hd, hm⟩, hi⟩ := ht
  have hl : (loadVar ty ⟨g, 0, none⟩).run Try.prog w = .ok (.agg c) w := run_loadVar_row _ g t ty c (0, 0) d hr hd (by cases d <;> first | exact hm | simp_all) hi
  have hp' : tmps[p]?.getD undef = .pointer (some ⟨g, 0, none⟩) := by simpa using hp
  simp [results, h, hp', asAddr, hl]
theorem i64_id {x : Int} (h0 : -9223372036854775808 ≤ x) (h1 : x < 9223372036854775808) : IntKind.i64.wrap x = x := by simp [IntKind.wrap, IntKind.bits, IntKind.signed]; omega
/-- Join's error, and its weight. -/
noncomputable def jC (a b : Wt) : Int := if gb a = true ∧ gb b = true then (if 1152921504606846976 < a.l + b.l then 2 else 0) else 4
noncomputable def jV (a b : Wt) : Wt := if jC a b = 0 then wj a b else wZ
theorem jC_bad {a b : Wt} (h : ¬ (gb a = true ∧ gb b = true)) : jC a b = 4 := by unfold jC; rw [if_neg h]
theorem jC_long {a b : Wt} (ha : Good a) (hb : Good b) (h : 1152921504606846976 < a.l + b.l) : jC a b = 2 := by unfold jC; rw [if_pos ⟨gb_true ha, gb_true hb⟩, if_pos h]
theorem jC_ok {a b : Wt} (ha : Good a) (hb : Good b) (h : a.l + b.l ≤ 1152921504606846976) : jC a b = 0 := by unfold jC; rw [if_pos ⟨gb_true ha, gb_true hb⟩, if_neg (by omega)]
theorem jV_ok {a b : Wt} (ha : Good a) (hb : Good b) (h : a.l + b.l ≤ 1152921504606846976) : jV a b = wj a b := by unfold jV; rw [jC_ok ha hb h, if_pos rfl]
theorem jV_bad {a b : Wt} (h : ¬ (gb a = true ∧ gb b = true)) : jV a b = wZ := by unfold jV; rw [jC_bad h, if_neg (by decide)]
theorem jV_long {a b : Wt} (ha : Good a) (hb : Good b) (h : 1152921504606846976 < a.l + b.l) : jV a b = wZ := by unfold jV; rw [jC_long ha hb h, if_neg (by decide)]
/-- The three variables that a Join lays. -/
theorem start3 (w : World) (a b : Wt) : Below w.heap.size w (((w.alloc (.cells (wc a) 27)).alloc (.cells (wc b) 27)).alloc (.cells (wc wZ) 27)) ∧
    Row (((w.alloc (.cells (wc a) 27)).alloc (.cells (wc b) 27)).alloc (.cells (wc wZ) 27)) w.heap.size 27 (wc a) ∧
    Row (((w.alloc (.cells (wc a) 27)).alloc (.cells (wc b) 27)).alloc (.cells (wc wZ) 27)) (w.heap.size + 1) 27 (wc b) ∧
    Row (((w.alloc (.cells (wc a) 27)).alloc (.cells (wc b) 27)).alloc (.cells (wc wZ) 27)) (w.heap.size + 1 + 1) 27 (wc wZ) := by
  refine ⟨(((Below.refl _ _).alloc (Nat.le_refl _) _).alloc (by simp) _).alloc (by simp; omega) _, ((Row.new _ _ _).alloc _).alloc _, ?_, ?_⟩
  · have := (Row.new (w.alloc (.cells (wc a) 27)) 27 (wc b)).alloc (.cells (wc wZ) 27)
    simpa using this
  · have := Row.new ((w.alloc (.cells (wc a) 27)).alloc (.cells (wc b) 27)) 27 (wc wZ)
    simpa using this
set_option maxRecDepth 20000 in
set_option maxHeartbeats 1600000 in
theorem join_bad1 (a b : Wt) (w : World) (ha : W64 a) (h : gb a = false) :
    Calls Try.prog 19 #[.agg (wc a), .agg (wc b)] w fun e w' => e = .returned (.tuple #[.agg (wc wZ), .iface 52 (.int .i64 4)]) ∧ Below w.heap.size w w' := by
  have HA := Lib.hid (fun w => h ▸ w_valid a w ha)
  have z0 := w_zero
  have hst := start3 w a b
  obtain ⟨c, hc⟩ : ∃ c, w.heap.size = c := ⟨_, rfl⟩
  rw [hc] at hst
  have HS := Lib.hid hc
  have R2 := Lib.hid hst.2.1
  have R3 := Lib.hid hst.2.2.1
  have R4 := Lib.hid hst.2.2.2
  have HB0 := Lib.hid hst.1
  clear hst
  clear h ha
  go_enter Try.func19, Try.ntmps19
  go_wp2_with (first | ((with_reducible refine wpList_loadR aggW R2.out rfl _ rfl ?_ ?_); (go_simp <;> fail); go_simp) | (go_at_call 14; (with_reducible refine (HA.out _).mono ?_); rintro e w1 ⟨rfl, hb⟩; have S2 := Lib.hid (R2.out.below' hb); have S3 := Lib.hid (R3.out.below' hb); have S4 := Lib.hid (R4.out.below' hb); have HB1 := Lib.hid (HB0.out.trans (hb.mono (by have := HB0.out.size; have := HS.out; omega))); clear hb HB0 R2 R3 R4) | ((with_reducible refine wpList_storeR (c' := wc wZ) aggW S4.out rfl (wc_one _) rfl _ _ rfl ?_ ?_ ?_); (go_simp <;> fail); (first | (go_simp <;> fail) | exact rfl); go_simp))
  refine bodyPost_ret (results_cellR2 (c := wc wZ) aggW rfl _ (S4.out.setRow _) ?_) rfl ⟨rfl, ?_⟩
  · go_simp
  · rw [HS.out]; exact below_setRow HB1.out (by omega) _
set_option maxRecDepth 20000 in
set_option maxHeartbeats 1600000 in
theorem join_bad2 (a b : Wt) (w : World) (ha : W64 a) (hb : W64 b) (h : gb a = true) (h2 : gb b = false) :
    Calls Try.prog 19 #[.agg (wc a), .agg (wc b)] w fun e w' => e = .returned (.tuple #[.agg (wc wZ), .iface 52 (.int .i64 4)]) ∧ Below w.heap.size w w' := by
  have HA := Lib.hid (fun w => h ▸ w_valid a w ha)
  have HV := Lib.hid (fun w => h2 ▸ w_valid b w hb)
  have z0 := w_zero
  have hst := start3 w a b
  obtain ⟨c, hc⟩ : ∃ c, w.heap.size = c := ⟨_, rfl⟩
  rw [hc] at hst
  have HS := Lib.hid hc
  have R2 := Lib.hid hst.2.1
  have R3 := Lib.hid hst.2.2.1
  have R4 := Lib.hid hst.2.2.2
  have HB0 := Lib.hid hst.1
  clear hst
  clear h ha h2 hb
  go_enter Try.func19, Try.ntmps19
  go_wp2_with (first | ((with_reducible refine wpList_loadR aggW R2.out rfl _ rfl ?_ ?_); (go_simp <;> fail); go_simp) | ((with_reducible refine wpList_loadR_g aggW S3.out ?_ _ rfl ?_ ?_); exact rfl; (go_simp <;> fail); go_simp) | (go_at_call 14; (with_reducible refine (HA.out _).mono ?_); rintro e w1 ⟨rfl, hb⟩; have S2 := Lib.hid (R2.out.below' hb); have S3 := Lib.hid (R3.out.below' hb); have S4 := Lib.hid (R4.out.below' hb); have HB1 := Lib.hid (HB0.out.trans (hb.mono (by have := HB0.out.size; have := HS.out; omega))); clear hb HB0 R2 R3 R4) | (go_at_call 14; (with_reducible refine (HV.out _).mono ?_); rintro e w2 ⟨rfl, hb⟩; have T2 := Lib.hid (S2.out.below' hb); have T3 := Lib.hid (S3.out.below' hb); have T4 := Lib.hid (S4.out.below' hb); have HB2 := Lib.hid (HB1.out.trans (hb.mono (by have := HB1.out.size; have := HS.out; omega))); clear hb HB1 S2 S3 S4) | ((with_reducible refine wpList_storeR (c' := wc wZ) aggW T4.out rfl (wc_one _) rfl _ _ rfl ?_ ?_ ?_); (go_simp <;> fail); (first | (go_simp <;> fail) | exact rfl); go_simp))
  refine bodyPost_ret (results_cellR2 (c := wc wZ) aggW rfl _ (T4.out.setRow _) ?_) rfl ⟨rfl, ?_⟩
  · go_simp
  · rw [HS.out]; exact below_setRow HB2.out (by omega) _
set_option maxRecDepth 20000 in
set_option maxHeartbeats 1600000 in
theorem join_long (a b : Wt) (w : World) (ga : Good a) (gb' : Good b) (h : 1152921504606846976 < a.l + b.l) :
    Calls Try.prog 19 #[.agg (wc a), .agg (wc b)] w fun e w' => e = .returned (.tuple #[.agg (wc wZ), .iface 52 (.int .i64 2)]) ∧ Below w.heap.size w w' := by
  have HA := Lib.hid (fun w => gb_true ga ▸ w_valid a w ga.w64)
  have HV := Lib.hid (fun w => gb_true gb' ▸ w_valid b w gb'.w64)
  have HL := Lib.hid (fun w => add_long a.l b.l w ga.l0 ga.l1 gb'.l0 gb'.l1 h)
  have z0 := w_zero
  have hst := start3 w a b
  obtain ⟨c, hc⟩ : ∃ c, w.heap.size = c := ⟨_, rfl⟩
  rw [hc] at hst
  have HS := Lib.hid hc
  have R2 := Lib.hid hst.2.1
  have R3 := Lib.hid hst.2.2.1
  have R4 := Lib.hid hst.2.2.2
  have HB0 := Lib.hid hst.1
  clear hst
  clear h ga gb'
  go_enter Try.func19, Try.ntmps19
  go_wp2_with (first | ((with_reducible refine wpList_loadR aggW R2.out rfl _ rfl ?_ ?_); (go_simp <;> fail); go_simp) | ((with_reducible refine wpList_loadR_g aggW S3.out ?_ _ rfl ?_ ?_); exact rfl; (go_simp <;> fail); go_simp) | (go_at_call 14; (with_reducible refine (HA.out _).mono ?_); rintro e w1 ⟨rfl, hb⟩; have S2 := Lib.hid (R2.out.below' hb); have S3 := Lib.hid (R3.out.below' hb); have S4 := Lib.hid (R4.out.below' hb); have HB1 := Lib.hid (HB0.out.trans (hb.mono (by have := HB0.out.size; have := HS.out; omega))); clear hb HB0 R2 R3 R4) | (go_at_call 14; (with_reducible refine (HV.out _).mono ?_); rintro e w2 ⟨rfl, hb⟩; have T2 := Lib.hid (S2.out.below' hb); have T3 := Lib.hid (S3.out.below' hb); have T4 := Lib.hid (S4.out.below' hb); have HB2 := Lib.hid (HB1.out.trans (hb.mono (by have := HB1.out.size; have := HS.out; omega))); clear hb HB1 S2 S3 S4; have p2 : w2.cell? ⟨c, 0, none⟩ = some (.int .i64 a.l) := T2.out.cell 0; have p3 : w2.cell? ⟨c + 1, 0, none⟩ = some (.int .i64 b.l) := T3.out.cell 0) | (go_at_call 37; with_reducible refine (HL.out _).mono ?_; rintro e w' ⟨rfl, rfl⟩) | ((with_reducible refine wpList_storeR (c' := wc wZ) aggW T4.out rfl (wc_one _) rfl _ _ rfl ?_ ?_ ?_); (go_simp <;> fail); (first | (go_simp <;> fail) | exact rfl); go_simp))
  refine bodyPost_ret (results_cellR2 (c := wc wZ) aggW rfl _ (T4.out.setRow _) ?_) rfl ⟨rfl, ?_⟩
  · go_simp
  · rw [HS.out]; exact below_setRow HB2.out (by omega) _
set_option maxRecDepth 20000 in
set_option maxHeartbeats 1600000 in
theorem join_ok (a b : Wt) (w : World) (ga : Good a) (gb' : Good b) (h : a.l + b.l ≤ 1152921504606846976) :
    Calls Try.prog 19 #[.agg (wc a), .agg (wc b)] w fun e w' => e = .returned (.tuple #[.agg (wc (wj a b)), .nilIface]) ∧ Below w.heap.size w w' := by
  have HA := Lib.hid (fun w => gb_true ga ▸ w_valid a w ga.w64)
  have HV := Lib.hid (fun w => gb_true gb' ▸ w_valid b w gb'.w64)
  have HL := Lib.hid (fun w => add_ok a.l b.l w ga.l0 ga.l1 gb'.l0 gb'.l1 h)
  have CJ := Lib.hid (fun w => dg_join a.d b.d w ga.wl.ir.in64 gb'.wl.ir.in64)
  have z0 := w_zero
  have hst := start3 w a b
  obtain ⟨c, hc⟩ : ∃ c, w.heap.size = c := ⟨_, rfl⟩
  rw [hc] at hst
  have HS := Lib.hid hc
  have R2 := Lib.hid hst.2.1
  have R3 := Lib.hid hst.2.2.1
  have R4 := Lib.hid hst.2.2.2
  have HB0 := Lib.hid hst.1
  clear hst
  obtain ⟨i1, i2, i3, i4, i5, i6⟩ := ga.in
  obtain ⟨k1, k2, k3, k4, k5, k6⟩ := gb'.in
  have i0 := ga.l0
  have i7 := ga.l1
  have k0 := gb'.l0
  have k7 := gb'.l1
  obtain ⟨al, an, ah, at1, ad⟩ := a
  obtain ⟨bl, bn, bh, bt, bd⟩ := b
  simp only [] at h i1 i2 i3 i4 i5 i6 i0 i7 k1 k2 k3 k4 k5 k6 k0 k7 HL CJ
  have g1 : an + bn ≤ 1152921504606846976 := by omega
  have g2 : al + bh ≤ 1152921504606846976 := by omega
  have g3 : bl + at1 ≤ 1152921504606846976 := by omega
  have HW1 := Lib.hid (i64_id (x := an + bn) (by omega) (by omega))
  have HW2 := Lib.hid (i64_id (x := al + bh) (by omega) (by omega))
  have HW3 := Lib.hid (i64_id (x := bl + at1) (by omega) (by omega))
  clear ga gb'
  go_enter Try.func19, Try.ntmps19
  go_wp2_with (first | ((with_reducible refine wpList_loadR aggW R2.out rfl _ rfl ?_ ?_); (go_simp <;> fail); go_simp) | ((with_reducible refine wpList_loadR_g aggW S3.out ?_ _ rfl ?_ ?_); exact rfl; (go_simp <;> fail); go_simp) | (go_at_call 14; (with_reducible refine (HA.out _).mono ?_); rintro e w1 ⟨rfl, hb⟩; have S2 := Lib.hid (R2.out.below' hb); have S3 := Lib.hid (R3.out.below' hb); have S4 := Lib.hid (R4.out.below' hb); have HB1 := Lib.hid (HB0.out.trans (hb.mono (by have := HB0.out.size; have := HS.out; omega))); clear hb HB0 R2 R3 R4) | (go_at_call 14; (with_reducible refine (HV.out _).mono ?_); rintro e w2 ⟨rfl, hb⟩; have T2 := Lib.hid (S2.out.below' hb); have T3 := Lib.hid (S3.out.below' hb); have T4 := Lib.hid (S4.out.below' hb); have HB2 := Lib.hid (HB1.out.trans (hb.mono (by have := HB1.out.size; have := HS.out; omega))); clear hb HB1 S2 S3 S4; have p2 : w2.cell? ⟨c, 0, none⟩ = some (.int .i64 al) := T2.out.cell 0; have p3 : w2.cell? ⟨c + 1, 0, none⟩ = some (.int .i64 bl) := T3.out.cell 0) | (go_at_call 37; with_reducible refine (HL.out _).mono ?_; rintro e w' ⟨rfl, rfl⟩))
  clear p2 p3
  have S2 := T2
  have S3 := T3
  refine wp_region_named fun fra hfra => ?_
  have o2 : tm fra 2 = .pointer (some ⟨c, 0, none⟩) := by rw [hfra]; rfl
  have o3 : tm fra 3 = .pointer (some ⟨c + 1, 0, none⟩) := by rw [hfra]; rfl
  have o6 : tm fra 6 = .int .i64 (al + bl) := by rw [hfra]; rfl
  have sz : fra.tmps.size = 66 := by rw [hfra]; rfl
  obtain ⟨PL, hPL⟩ : ∃ PL : List (Value → World → Prop), PL = [(fun v _ => v = .int .i64 (al + bl)), (fun v _ => v = .pointer (some ⟨c, 1, none⟩)), (fun v _ => v = .int .i64 an), (fun v _ => v = .pointer (some ⟨c + 1, 1, none⟩)), (fun v _ => v = .int .i64 bn), (fun v _ => v = .int .i64 (an + bn)), (fun v _ => v = .pointer (some ⟨c, 2, none⟩)), (fun v _ => v = .int .i64 ah), (fun v _ => v = .pointer (some ⟨c + 1, 3, none⟩)), (fun v _ => v = .int .i64 bt), (fun v _ => v = .pointer (some ⟨c, 4, none⟩)), (fun v _ => v = .agg (dc ad)), (fun v _ => v = .pointer (some ⟨c + 1, 4, none⟩)), (fun v _ => v = .agg (dc bd)), (fun v _ => v = .agg (dc (mDig.j ad bd))), (fun v _ => v = .agg (wc ⟨al + bl, an + bn, ah, bt, mDig.j ad bd⟩)), (fun _ _ => True), (fun _ _ => True)] := ⟨_, rfl⟩
  have hmono : AllMono PL := by rw [hPL]; exact ⟨mono_det _, mono_det _, mono_det _, mono_det _, mono_det _, mono_det _, mono_det _, mono_det _, mono_det _, mono_det _, mono_det _, mono_det _, mono_det _, mono_det _, mono_det _, mono_det _, mono_top, mono_top, trivial⟩
  have P0 : ∀ v w, PL.getD 0 (fun _ _ => True) v w = (fun v _ => v = .int .i64 (al + bl)) v w := fun v w => by rw [hPL]; rfl
  have P1 : ∀ v w, PL.getD 1 (fun _ _ => True) v w = (fun v _ => v = .pointer (some ⟨c, 1, none⟩)) v w := fun v w => by rw [hPL]; rfl
  have P2 : ∀ v w, PL.getD 2 (fun _ _ => True) v w = (fun v _ => v = .int .i64 an) v w := fun v w => by rw [hPL]; rfl
  have P3 : ∀ v w, PL.getD 3 (fun _ _ => True) v w = (fun v _ => v = .pointer (some ⟨c + 1, 1, none⟩)) v w := fun v w => by rw [hPL]; rfl
  have P4 : ∀ v w, PL.getD 4 (fun _ _ => True) v w = (fun v _ => v = .int .i64 bn) v w := fun v w => by rw [hPL]; rfl
  have P5 : ∀ v w, PL.getD 5 (fun _ _ => True) v w = (fun v _ => v = .int .i64 (an + bn)) v w := fun v w => by rw [hPL]; rfl
  have P6 : ∀ v w, PL.getD 6 (fun _ _ => True) v w = (fun v _ => v = .pointer (some ⟨c, 2, none⟩)) v w := fun v w => by rw [hPL]; rfl
  have P7 : ∀ v w, PL.getD 7 (fun _ _ => True) v w = (fun v _ => v = .int .i64 ah) v w := fun v w => by rw [hPL]; rfl
  have P8 : ∀ v w, PL.getD 8 (fun _ _ => True) v w = (fun v _ => v = .pointer (some ⟨c + 1, 3, none⟩)) v w := fun v w => by rw [hPL]; rfl
  have P9 : ∀ v w, PL.getD 9 (fun _ _ => True) v w = (fun v _ => v = .int .i64 bt) v w := fun v w => by rw [hPL]; rfl
  have P10 : ∀ v w, PL.getD 10 (fun _ _ => True) v w = (fun v _ => v = .pointer (some ⟨c, 4, none⟩)) v w := fun v w => by rw [hPL]; rfl
  have P11 : ∀ v w, PL.getD 11 (fun _ _ => True) v w = (fun v _ => v = .agg (dc ad)) v w := fun v w => by rw [hPL]; rfl
  have P12 : ∀ v w, PL.getD 12 (fun _ _ => True) v w = (fun v _ => v = .pointer (some ⟨c + 1, 4, none⟩)) v w := fun v w => by rw [hPL]; rfl
  have P13 : ∀ v w, PL.getD 13 (fun _ _ => True) v w = (fun v _ => v = .agg (dc bd)) v w := fun v w => by rw [hPL]; rfl
  have P14 : ∀ v w, PL.getD 14 (fun _ _ => True) v w = (fun v _ => v = .agg (dc (mDig.j ad bd))) v w := fun v w => by rw [hPL]; rfl
  have P15 : ∀ v w, PL.getD 15 (fun _ _ => True) v w = (fun v _ => v = .agg (wc ⟨al + bl, an + bn, ah, bt, mDig.j ad bd⟩)) v w := fun v w => by rw [hPL]; rfl
  have hkeep : AllKeep PL := by rw [hPL]; exact ⟨keep_det _, keep_det _, keep_det _, keep_det _, keep_det _, keep_det _, keep_det _, keep_det _, keep_det _, keep_det _, keep_det _, keep_det _, keep_det _, keep_det _, keep_det _, keep_det _, keep_top, keep_top, trivial⟩
  refine wp_region_by (by kernel_rfl) (fun j => PL.getD j (fun _ _ => True)) 16 17 1 (fun _ => 27) (fun _ => wc wZ) (fun i => [wc ⟨al + bl, an + bn, ah, bt, mDig.j ad bd⟩].getD i #[]) (by rw [sz]; kernel_rfl) (fun j => all_mono hmono j) (fun j v w g i _ _ h => all_keep hkeep j v w g _ h) ?_ ?_ ?_ rfl ?_
  · intro j hj hn a' w' hb OX DX K hK
    have hc : j = 0 ∨ j = 1 ∨ j = 2 ∨ j = 3 ∨ j = 4 ∨ j = 5 ∨ j = 6 ∨ j = 7 ∨ j = 8 ∨ j = 9 ∨ j = 10 ∨ j = 11 ∨ j = 12 ∨ j = 13 ∨ j = 14 ∨ j = 15 := by
      have h3 : j < 18 := hj
      have := normB_iff.1 hn
      omega
    clear hmono hj
    rcases hc with rfl | rfl | rfl | rfl | rfl | rfl | rfl | rfl | rfl | rfl | rfl | rfl | rfl | rfl | rfl | rfl
    · refine wpOp_of rfl rfl ?_
      have e6 := (OX 6 (by kernel_rfl)).trans o6
      replace hK : K (a'.put (some 31) (.int .i64 (al + bl))) w' := hK _ _ (Below.refl _ _) ((P0 _ _).mpr rfl)
      have e6' := tm_simp e6
      clear OX DX
      go_simp
      exact hK
    · refine wpOp_of rfl rfl ?_
      have e2 := (OX 2 (by kernel_rfl)).trans o2
      replace hK : K (a'.put (some 32) (.pointer (some ⟨c, 1, none⟩))) w' := hK _ _ (Below.refl _ _) ((P1 _ _).mpr rfl)
      have e2' := tm_simp e2
      clear OX DX
      go_simp
      exact hK
    · refine wpOp_of rfl rfl ?_
      have e32 : tm a' 32 = .pointer (some ⟨c, 1, none⟩) := (P1 _ _).mp (DX 1 32 (by kernel_rfl))
      replace hK : K (a'.put (some 33) (.int .i64 an)) w' := hK _ _ (Below.refl _ _) ((P2 _ _).mpr rfl)
      have e32' := tm_simp e32
      have q : w'.cell? ⟨c, 1, none⟩ = some (.int .i64 an) := (S2.out.below' hb).cell 1
      clear OX DX
      go_simp
      exact hK
    · refine wpOp_of rfl rfl ?_
      have e3 := (OX 3 (by kernel_rfl)).trans o3
      replace hK : K (a'.put (some 34) (.pointer (some ⟨c + 1, 1, none⟩))) w' := hK _ _ (Below.refl _ _) ((P3 _ _).mpr rfl)
      have e3' := tm_simp e3
      clear OX DX
      go_simp
      exact hK
    · refine wpOp_of rfl rfl ?_
      have e34 : tm a' 34 = .pointer (some ⟨c + 1, 1, none⟩) := (P3 _ _).mp (DX 3 34 (by kernel_rfl))
      replace hK : K (a'.put (some 35) (.int .i64 bn)) w' := hK _ _ (Below.refl _ _) ((P4 _ _).mpr rfl)
      have e34' := tm_simp e34
      have q : w'.cell? ⟨c + 1, 1, none⟩ = some (.int .i64 bn) := (S3.out.below' hb).cell 1
      clear OX DX
      go_simp
      exact hK
    · refine wpOp_of rfl rfl ?_
      have e33 : tm a' 33 = .int .i64 an := (P2 _ _).mp (DX 2 33 (by kernel_rfl))
      have e35 : tm a' 35 = .int .i64 bn := (P4 _ _).mp (DX 4 35 (by kernel_rfl))
      replace hK : K (a'.put (some 36) (.int .i64 (an + bn))) w' := hK _ _ (Below.refl _ _) ((P5 _ _).mpr rfl)
      have e33' := tm_simp e33
      have e35' := tm_simp e35
      have hw := HW1.out
      clear OX DX
      go_simp
      exact hK
    · refine wpOp_of rfl rfl ?_
      have e2 := (OX 2 (by kernel_rfl)).trans o2
      replace hK : K (a'.put (some 37) (.pointer (some ⟨c, 2, none⟩))) w' := hK _ _ (Below.refl _ _) ((P6 _ _).mpr rfl)
      have e2' := tm_simp e2
      clear OX DX
      go_simp
      exact hK
    · refine wpOp_of rfl rfl ?_
      have e37 : tm a' 37 = .pointer (some ⟨c, 2, none⟩) := (P6 _ _).mp (DX 6 37 (by kernel_rfl))
      replace hK : K (a'.put (some 38) (.int .i64 ah)) w' := hK _ _ (Below.refl _ _) ((P7 _ _).mpr rfl)
      have e37' := tm_simp e37
      have q : w'.cell? ⟨c, 2, none⟩ = some (.int .i64 ah) := (S2.out.below' hb).cell 2
      clear OX DX
      go_simp
      exact hK
    · refine wpOp_of rfl rfl ?_
      have e3 := (OX 3 (by kernel_rfl)).trans o3
      replace hK : K (a'.put (some 39) (.pointer (some ⟨c + 1, 3, none⟩))) w' := hK _ _ (Below.refl _ _) ((P8 _ _).mpr rfl)
      have e3' := tm_simp e3
      clear OX DX
      go_simp
      exact hK
    · refine wpOp_of rfl rfl ?_
      have e39 : tm a' 39 = .pointer (some ⟨c + 1, 3, none⟩) := (P8 _ _).mp (DX 8 39 (by kernel_rfl))
      replace hK : K (a'.put (some 40) (.int .i64 bt)) w' := hK _ _ (Below.refl _ _) ((P9 _ _).mpr rfl)
      have e39' := tm_simp e39
      have q : w'.cell? ⟨c + 1, 3, none⟩ = some (.int .i64 bt) := (S3.out.below' hb).cell 3
      clear OX DX
      go_simp
      exact hK
    · refine wpOp_of rfl rfl ?_
      have e2 := (OX 2 (by kernel_rfl)).trans o2
      replace hK : K (a'.put (some 41) (.pointer (some ⟨c, 4, none⟩))) w' := hK _ _ (Below.refl _ _) ((P10 _ _).mpr rfl)
      have e2' := tm_simp e2
      clear OX DX
      go_simp
      exact hK
    · refine wpOp_of rfl rfl ?_
      have e41 : tm a' 41 = .pointer (some ⟨c, 4, none⟩) := (P10 _ _).mp (DX 10 41 (by kernel_rfl))
      exact wp_loadD (S2.out.below' hb) _ rfl (eval_of e41) (hK _ _ (Below.refl _ _) ((P11 _ _).mpr rfl))
    · refine wpOp_of rfl rfl ?_
      have e3 := (OX 3 (by kernel_rfl)).trans o3
      replace hK : K (a'.put (some 43) (.pointer (some ⟨c + 1, 4, none⟩))) w' := hK _ _ (Below.refl _ _) ((P12 _ _).mpr rfl)
      have e3' := tm_simp e3
      clear OX DX
      go_simp
      exact hK
    · refine wpOp_of rfl rfl ?_
      have e43 : tm a' 43 = .pointer (some ⟨c + 1, 4, none⟩) := (P12 _ _).mp (DX 12 43 (by kernel_rfl))
      exact wp_loadD (S3.out.below' hb) _ rfl (eval_of e43) (hK _ _ (Below.refl _ _) ((P13 _ _).mpr rfl))
    · refine wpOp_of rfl rfl ?_
      have e42 : tm a' 42 = .agg (dc ad) := (P11 _ _).mp (DX 11 42 (by kernel_rfl))
      have e44 : tm a' 44 = .agg (dc bd) := (P13 _ _).mp (DX 13 44 (by kernel_rfl))
      replace hK : ∀ w'', Below w'.heap.size w' w'' → K (a'.put (some 45) (.agg (dc (mDig.j ad bd)))) w'' := fun w'' hb => hK _ _ hb ((P14 _ _).mpr rfl)
      have e42' := tm_simp e42
      have e44' := tm_simp e44
      clear OX DX
      go_simp
      go_at_call 38
      refine (CJ.out _).mono ?_
      rintro e w2 ⟨rfl, hb2⟩
      exact hK _ hb2
    · refine wpOp_of rfl rfl ?_
      have e31 : tm a' 31 = .int .i64 (al + bl) := (P0 _ _).mp (DX 0 31 (by kernel_rfl))
      have e36 : tm a' 36 = .int .i64 (an + bn) := (P5 _ _).mp (DX 5 36 (by kernel_rfl))
      have e38 : tm a' 38 = .int .i64 ah := (P7 _ _).mp (DX 7 38 (by kernel_rfl))
      have e40 : tm a' 40 = .int .i64 bt := (P9 _ _).mp (DX 9 40 (by kernel_rfl))
      have e45 : tm a' 45 = .agg (dc (mDig.j ad bd)) := (P14 _ _).mp (DX 14 45 (by kernel_rfl))
      replace hK : K (a'.put (some 46) (.agg (wc ⟨al + bl, an + bn, ah, bt, mDig.j ad bd⟩))) w' := hK _ _ (Below.refl _ _) ((P15 _ _).mpr rfl)
      have e31' := tm_simp e31
      have e36' := tm_simp e36
      have e38' := tm_simp e38
      have e40' := tm_simp e40
      have e45' := tm_simp e45
      clear OX DX
      go_simp
      exact hK
  · intro i hi a' w' K hK
    have hc : i = 0 := by omega
    rcases hc with rfl
    · refine wpOp_of rfl rfl ?_
      replace hK : K (a'.put (some 8) (.pointer (some ⟨w'.heap.size, 0, none⟩))) (w'.alloc (.cells (wc wZ) 27)) := hK
      go_simp
      exact hK
  · intro i hi a' w' g' d OX DX hd hg hrow K hK
    have hc : i = 0 := by omega
    rcases hc with rfl
    · obtain rfl : 8 = d := Option.some.inj hd
      have ev : tm a' 46 = .agg (wc ⟨al + bl, an + bn, ah, bt, mDig.j ad bd⟩) := (P15 _ _).mp (DX 15 46 (by kernel_rfl))
      exact wpOp_of rfl rfl (wp_storeR (c' := wc ⟨al + bl, an + bn, ah, bt, mDig.j ad bd⟩) aggW hrow rfl (wc_one _) _ _ rfl (eval_of hg) (eval_of ev) hK)
  · intro V G w5 hb5 hV hG hge
    have v0 : V 0 = .int .i64 (al + bl) := (P0 _ _).mp (hV 0 rfl)
    have v1 : V 1 = .pointer (some ⟨c, 1, none⟩) := (P1 _ _).mp (hV 1 rfl)
    have v2 : V 2 = .int .i64 an := (P2 _ _).mp (hV 2 rfl)
    have v3 : V 3 = .pointer (some ⟨c + 1, 1, none⟩) := (P3 _ _).mp (hV 3 rfl)
    have v4 : V 4 = .int .i64 bn := (P4 _ _).mp (hV 4 rfl)
    have v5 : V 5 = .int .i64 (an + bn) := (P5 _ _).mp (hV 5 rfl)
    have v6 : V 6 = .pointer (some ⟨c, 2, none⟩) := (P6 _ _).mp (hV 6 rfl)
    have v7 : V 7 = .int .i64 ah := (P7 _ _).mp (hV 7 rfl)
    have v8 : V 8 = .pointer (some ⟨c + 1, 3, none⟩) := (P8 _ _).mp (hV 8 rfl)
    have v9 : V 9 = .int .i64 bt := (P9 _ _).mp (hV 9 rfl)
    have v10 : V 10 = .pointer (some ⟨c, 4, none⟩) := (P10 _ _).mp (hV 10 rfl)
    have v11 : V 11 = .agg (dc ad) := (P11 _ _).mp (hV 11 rfl)
    have v12 : V 12 = .pointer (some ⟨c + 1, 4, none⟩) := (P12 _ _).mp (hV 12 rfl)
    have v13 : V 13 = .agg (dc bd) := (P13 _ _).mp (hV 13 rfl)
    have v14 : V 14 = .agg (dc (mDig.j ad bd)) := (P14 _ _).mp (hV 14 rfl)
    have v15 : V 15 = .agg (wc ⟨al + bl, an + bn, ah, bt, mDig.j ad bd⟩) := (P15 _ _).mp (hV 15 rfl)
    have ge8 := hge 0 (by omega)
    have v16 := (hG 0 (by omega)).1
    have T8 := Lib.hid (show Row w5 (G 0) 27 (wc ⟨al + bl, an + bn, ah, bt, mDig.j ad bd⟩) from (hG 0 (by omega)).2)
    obtain ⟨g0, hg0⟩ : ∃ g, g = G 0 := ⟨_, rfl⟩
    rw [← hg0] at v16 T8 ge8
    show Exit.then _ _ _ (puts [some 31, some 32, some 33, some 34, some 35, some 36, some 37, some 38, some 39, some 40, some 41, some 42, some 43, some 44, some 45, some 46, some 8, none] V 0 fra) w5
    simp only [Nat.reduceAdd] at v16
    simp only [puts, Nat.zero_add, Nat.reduceAdd, v0, v1, v2, v3, v4, v5, v6, v7, v8, v9, v10, v11, v12, v13, v14, v15, v16]
    simp only [hfra]
    clear hV hG hge hmono hkeep hPL hfra sz v0 v1 v2 v3 v4 v5 v6 v7 v8 v9 v10 v11 v12 v13 v14 v15 v16 hg0
    clear P0 P1 P2 P3 P4 P5 P6 P7 P8 P9 P10 P11 P12 P13 P14 P15
    go_simp
    have lt8 : c + 1 + 1 < g0 := by have := T4.out.lt; omega
    have U2 := Lib.hid (T2.out.below' hb5)
    have U3 := Lib.hid (T3.out.below' hb5)
    have U4 := Lib.hid (T4.out.below' hb5)
    have HB5 := Lib.hid (HB2.out.trans (hb5.mono (by have := HB2.out.size; have := HS.out; omega)))
    clear hb5 T2 T3 T4 S2 S3 HB2 z0 o2 o3 o6 ge8 CJ HL HA HV
    have hw1 := HW2.out
    have hw2 := HW3.out
    have m1 : c + 1 ≠ g0 := by omega
    have m2 : c ≠ g0 := by omega
    have m3 : c + 1 + 1 ≠ g0 := by omega
    have y0 : w5.cell? ⟨c, 0, none⟩ = some (.int .i64 al) := U2.out.cell 0
    have y1 : w5.cell? ⟨c, 1, none⟩ = some (.int .i64 an) := U2.out.cell 1
    have y3 : w5.cell? ⟨c, 3, none⟩ = some (.int .i64 at1) := U2.out.cell 3
    have t0 : w5.cell? ⟨c + 1, 0, none⟩ = some (.int .i64 bl) := U3.out.cell 0
    have t1 : w5.cell? ⟨c + 1, 1, none⟩ = some (.int .i64 bn) := U3.out.cell 1
    have t2 : w5.cell? ⟨c + 1, 2, none⟩ = some (.int .i64 bh) := U3.out.cell 2
    by_cases ha : an = 0
    · by_cases hb : bn = 0
      · have ea : (an == 0) = true := by simpa using ha
        have eb : (bn == 0) = true := by simpa using hb
        have HE := Lib.hid (show wj ⟨al, an, ah, at1, ad⟩ ⟨bl, bn, bh, bt, bd⟩ = ⟨al + bl, an + bn, al + bh, bl + at1, mDig.j ad bd⟩ by unfold wj; simp only []; rw [if_pos ha, if_pos hb])
        clear ha hb
        have f0 : w5.frozen? ⟨g0, 2, none⟩ = false := T8.out.frozen 2
        have x0 : w5.cell? ⟨g0, 2, none⟩ = some (.int .i64 ah) := T8.out.cell 2
        have A2 := Lib.hid (U2.out.far (p := ⟨g0, 2, none⟩) m2 (.int .i64 (al + bh)))
        have A3 := Lib.hid (U3.out.far (p := ⟨g0, 2, none⟩) m1 (.int .i64 (al + bh)))
        have A4 := Lib.hid (U4.out.far (p := ⟨g0, 2, none⟩) m3 (.int .i64 (al + bh)))
        have A8 := Lib.hid (show Row (w5.setCell ⟨g0, 2, none⟩ (.int .i64 (al + bh))) g0 27 (wc ⟨al + bl, an + bn, al + bh, bt, mDig.j ad bd⟩) from (T8.out.set 2 _).congr rfl)
        have AB := Lib.hid (show Below c w (w5.setCell ⟨g0, 2, none⟩ (.int .i64 (al + bh))) from HB5.out.setCell (by show c ≤ g0; omega) _)
        clear U2 U3 U4 T8 HB5
        have z1 : (w5.setCell ⟨g0, 2, none⟩ (.int .i64 (al + bh))).cell? ⟨c + 1, 1, none⟩ = some (.int .i64 bn) := A3.out.cell 1
        have z2 : (w5.setCell ⟨g0, 2, none⟩ (.int .i64 (al + bh))).cell? ⟨c + 1, 0, none⟩ = some (.int .i64 bl) := A3.out.cell 0
        have z3 : (w5.setCell ⟨g0, 2, none⟩ (.int .i64 (al + bh))).cell? ⟨c, 3, none⟩ = some (.int .i64 at1) := A2.out.cell 3
        have f1 : (w5.setCell ⟨g0, 2, none⟩ (.int .i64 (al + bh))).frozen? ⟨g0, 3, none⟩ = false := A8.out.frozen 3
        have x1 : (w5.setCell ⟨g0, 2, none⟩ (.int .i64 (al + bh))).cell? ⟨g0, 3, none⟩ = some (.int .i64 bt) := A8.out.cell 3
        have B2 := Lib.hid (A2.out.far (p := ⟨g0, 3, none⟩) m2 (.int .i64 (bl + at1)))
        have B3 := Lib.hid (A3.out.far (p := ⟨g0, 3, none⟩) m1 (.int .i64 (bl + at1)))
        have B4 := Lib.hid (A4.out.far (p := ⟨g0, 3, none⟩) m3 (.int .i64 (bl + at1)))
        have B8 := Lib.hid (show Row ((w5.setCell ⟨g0, 2, none⟩ (.int .i64 (al + bh))).setCell ⟨g0, 3, none⟩ (.int .i64 (bl + at1))) g0 27 (wc ⟨al + bl, an + bn, al + bh, bl + at1, mDig.j ad bd⟩) from (A8.out.set 3 _).congr rfl)
        have BB := Lib.hid (show Below c w ((w5.setCell ⟨g0, 2, none⟩ (.int .i64 (al + bh))).setCell ⟨g0, 3, none⟩ (.int .i64 (bl + at1))) from AB.out.setCell (by show c ≤ g0; omega) _)
        clear A2 A3 A4 A8 AB
        go_wp2_with (first | ((with_reducible refine wpList_loadR aggW B8.out rfl _ rfl ?_ ?_); (go_simp <;> fail); go_simp) | ((with_reducible refine wpList_storeR (c' := wc ⟨al + bl, an + bn, al + bh, bl + at1, mDig.j ad bd⟩) aggW B4.out rfl (wc_one _) rfl _ _ rfl ?_ ?_ ?_); (go_simp <;> fail); (first | (go_simp <;> fail) | exact rfl); go_simp))
        refine bodyPost_ret (results_cellR2 (c := wc ⟨al + bl, an + bn, al + bh, bl + at1, mDig.j ad bd⟩) aggW rfl _ (B4.out.setRow _) ?_) rfl ⟨by rw [HE.out]; rfl, ?_⟩
        · go_simp
        · rw [HS.out]; exact below_setRow BB.out (by omega) _
      · have ea : (an == 0) = true := by simpa using ha
        have eb : (bn == 0) = false := by simpa using hb
        have HE := Lib.hid (show wj ⟨al, an, ah, at1, ad⟩ ⟨bl, bn, bh, bt, bd⟩ = ⟨al + bl, an + bn, al + bh, bt, mDig.j ad bd⟩ by unfold wj; simp only []; rw [if_pos ha, if_neg hb])
        clear ha hb
        have f0 : w5.frozen? ⟨g0, 2, none⟩ = false := T8.out.frozen 2
        have x0 : w5.cell? ⟨g0, 2, none⟩ = some (.int .i64 ah) := T8.out.cell 2
        have A2 := Lib.hid (U2.out.far (p := ⟨g0, 2, none⟩) m2 (.int .i64 (al + bh)))
        have A3 := Lib.hid (U3.out.far (p := ⟨g0, 2, none⟩) m1 (.int .i64 (al + bh)))
        have A4 := Lib.hid (U4.out.far (p := ⟨g0, 2, none⟩) m3 (.int .i64 (al + bh)))
        have A8 := Lib.hid (show Row (w5.setCell ⟨g0, 2, none⟩ (.int .i64 (al + bh))) g0 27 (wc ⟨al + bl, an + bn, al + bh, bt, mDig.j ad bd⟩) from (T8.out.set 2 _).congr rfl)
        have AB := Lib.hid (show Below c w (w5.setCell ⟨g0, 2, none⟩ (.int .i64 (al + bh))) from HB5.out.setCell (by show c ≤ g0; omega) _)
        clear U2 U3 U4 T8 HB5
        have z1 : (w5.setCell ⟨g0, 2, none⟩ (.int .i64 (al + bh))).cell? ⟨c + 1, 1, none⟩ = some (.int .i64 bn) := A3.out.cell 1
        have z2 : (w5.setCell ⟨g0, 2, none⟩ (.int .i64 (al + bh))).cell? ⟨c + 1, 0, none⟩ = some (.int .i64 bl) := A3.out.cell 0
        have z3 : (w5.setCell ⟨g0, 2, none⟩ (.int .i64 (al + bh))).cell? ⟨c, 3, none⟩ = some (.int .i64 at1) := A2.out.cell 3
        go_wp2_with (first | ((with_reducible refine wpList_loadR aggW A8.out rfl _ rfl ?_ ?_); (go_simp <;> fail); go_simp) | ((with_reducible refine wpList_storeR (c' := wc ⟨al + bl, an + bn, al + bh, bt, mDig.j ad bd⟩) aggW A4.out rfl (wc_one _) rfl _ _ rfl ?_ ?_ ?_); (go_simp <;> fail); (first | (go_simp <;> fail) | exact rfl); go_simp))
        refine bodyPost_ret (results_cellR2 (c := wc ⟨al + bl, an + bn, al + bh, bt, mDig.j ad bd⟩) aggW rfl _ (A4.out.setRow _) ?_) rfl ⟨by rw [HE.out]; rfl, ?_⟩
        · go_simp
        · rw [HS.out]; exact below_setRow AB.out (by omega) _
    · by_cases hb : bn = 0
      · have ea : (an == 0) = false := by simpa using ha
        have eb : (bn == 0) = true := by simpa using hb
        have HE := Lib.hid (show wj ⟨al, an, ah, at1, ad⟩ ⟨bl, bn, bh, bt, bd⟩ = ⟨al + bl, an + bn, ah, bl + at1, mDig.j ad bd⟩ by unfold wj; simp only []; rw [if_neg ha, if_pos hb])
        clear ha hb
        have f1 : w5.frozen? ⟨g0, 3, none⟩ = false := T8.out.frozen 3
        have x1 : w5.cell? ⟨g0, 3, none⟩ = some (.int .i64 bt) := T8.out.cell 3
        have B2 := Lib.hid (U2.out.far (p := ⟨g0, 3, none⟩) m2 (.int .i64 (bl + at1)))
        have B3 := Lib.hid (U3.out.far (p := ⟨g0, 3, none⟩) m1 (.int .i64 (bl + at1)))
        have B4 := Lib.hid (U4.out.far (p := ⟨g0, 3, none⟩) m3 (.int .i64 (bl + at1)))
        have B8 := Lib.hid (show Row (w5.setCell ⟨g0, 3, none⟩ (.int .i64 (bl + at1))) g0 27 (wc ⟨al + bl, an + bn, ah, bl + at1, mDig.j ad bd⟩) from (T8.out.set 3 _).congr rfl)
        have BB := Lib.hid (show Below c w (w5.setCell ⟨g0, 3, none⟩ (.int .i64 (bl + at1))) from HB5.out.setCell (by show c ≤ g0; omega) _)
        clear U2 U3 U4 T8 HB5
        go_wp2_with (first | ((with_reducible refine wpList_loadR aggW B8.out rfl _ rfl ?_ ?_); (go_simp <;> fail); go_simp) | ((with_reducible refine wpList_storeR (c' := wc ⟨al + bl, an + bn, ah, bl + at1, mDig.j ad bd⟩) aggW B4.out rfl (wc_one _) rfl _ _ rfl ?_ ?_ ?_); (go_simp <;> fail); (first | (go_simp <;> fail) | exact rfl); go_simp))
        refine bodyPost_ret (results_cellR2 (c := wc ⟨al + bl, an + bn, ah, bl + at1, mDig.j ad bd⟩) aggW rfl _ (B4.out.setRow _) ?_) rfl ⟨by rw [HE.out]; rfl, ?_⟩
        · go_simp
        · rw [HS.out]; exact below_setRow BB.out (by omega) _
      · have ea : (an == 0) = false := by simpa using ha
        have eb : (bn == 0) = false := by simpa using hb
        have HE := Lib.hid (show wj ⟨al, an, ah, at1, ad⟩ ⟨bl, bn, bh, bt, bd⟩ = ⟨al + bl, an + bn, ah, bt, mDig.j ad bd⟩ by unfold wj; simp only []; rw [if_neg ha, if_neg hb])
        clear ha hb
        go_wp2_with (first | ((with_reducible refine wpList_loadR aggW T8.out rfl _ rfl ?_ ?_); (go_simp <;> fail); go_simp) | ((with_reducible refine wpList_storeR (c' := wc ⟨al + bl, an + bn, ah, bt, mDig.j ad bd⟩) aggW U4.out rfl (wc_one _) rfl _ _ rfl ?_ ?_ ?_); (go_simp <;> fail); (first | (go_simp <;> fail) | exact rfl); go_simp))
        refine bodyPost_ret (results_cellR2 (c := wc ⟨al + bl, an + bn, ah, bt, mDig.j ad bd⟩) aggW rfl _ (U4.out.setRow _) ?_) rfl ⟨by rw [HE.out]; rfl, ?_⟩
        · go_simp
        · rw [HS.out]; exact below_setRow HB5.out (by omega) _
end Go.Proofs.Ytgjhlmmhpcbnaaa
