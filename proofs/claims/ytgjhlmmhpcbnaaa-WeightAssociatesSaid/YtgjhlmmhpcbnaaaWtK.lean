/-
  Package weight: Join in one form; the reference's join and Join.
-/
import Derived.Test.YtgjhlmmhpcbnaaaWtJ
import Derived.Test.YtgjhlmmhpcbnaaaWtR
namespace Go.Proofs.Ytgjhlmmhpcbnaaa
open Go.RowKit
theorem w_join (a b : Wt) (w : World) (ha : W64 a) (hb : W64 b) :
    Calls Try.prog 19 #[.agg (wc a), .agg (wc b)] w fun e w' => e = .returned (.tuple #[.agg (wc (jV a b)), errv (jC a b)]) ∧ Below w.heap.size w w' := by
  by_cases ga : Good a
  · by_cases gb' : Good b
    · by_cases h : a.l + b.l ≤ 1152921504606846976
      · rw [jV_ok ga gb' h, jC_ok ga gb' h]; exact join_ok a b w ga gb' h
      · rw [jV_long ga gb' (by omega), jC_long ga gb' (by omega)]; exact join_long a b w ga gb' (by omega)
    · have h2 := gb_false gb'
      rw [jV_bad (fun h => by rw [h2] at h; exact Bool.false_ne_true h.2), jC_bad (fun h => by rw [h2] at h; exact Bool.false_ne_true h.2)]
      exact join_bad2 a b w ha hb (gb_true ga) h2
  · have h2 := gb_false ga
    rw [jV_bad (fun h => by rw [h2] at h; exact Bool.false_ne_true h.1), jC_bad (fun h => by rw [h2] at h; exact Bool.false_ne_true h.1)]
    exact join_bad1 a b w ha h2
set_option maxRecDepth 20000 in
set_option maxHeartbeats 12800000 in
theorem w_rjoin0 (a b : Wt) (w : World) (ga : WL a) (gb' : WL b) (h : a.l + b.l ≤ 1152921504606846976) :
    Calls Try.prog 39 #[.agg (wc a), .agg (wc b)] w fun e w' => e = .returned (.agg (wc (wj a b))) ∧ Below w.heap.size w w' := by
  have z0 := w_zero
  have hst := start3 w a b
  obtain ⟨c, hc⟩ : ∃ c, w.heap.size = c := ⟨_, rfl⟩
  rw [hc] at hst
  have HS := Lib.hid hc
  have R2 := Lib.hid hst.2.1
  have R3 := Lib.hid hst.2.2.1
  have R4 := Lib.hid hst.2.2.2
  have HB0 := Lib.hid hst.1
  clear hst
  obtain ⟨i1, i2, i3, i4, i5, i6⟩ := ga.ln.in ga.l0
  obtain ⟨k1, k2, k3, k4, k5, k6⟩ := gb'.ln.in gb'.l0
  have i0 := ga.l0
  have k0 := gb'.l0
  have ia := ga.ir
  have ib := gb'.ir
  obtain ⟨al, an, ah, at1, av, asc⟩ := a
  obtain ⟨bl, bn, bh, bt, bv, bs⟩ := b
  obtain ⟨ia1, ia2⟩ := ia
  obtain ⟨ib1, ib2⟩ := ib
  simp only [] at h i1 i2 i3 i4 i5 i6 i0 k1 k2 k3 k4 k5 k6 k0 ia1 ia2 ib1 ib2
  have j1 : 0 ≤ av := by rw [← ia1]; exact R_ge _
  have j2 : av < 2305843009213693951 := by rw [← ia1]; exact R_lt _
  have j3 : 0 ≤ asc := by rw [← ia2]; exact R_ge _
  have j4 : asc < 2305843009213693951 := by rw [← ia2]; exact R_lt _
  have j5 : 0 ≤ bv := by rw [← ib1]; exact R_ge _
  have j6 : bv < 2305843009213693951 := by rw [← ib1]; exact R_lt _
  have j7 : 0 ≤ bs := by rw [← ib2]; exact R_ge _
  have j8 : bs < 2305843009213693951 := by rw [← ib2]; exact R_lt _
  have g1 : an + bn ≤ 1152921504606846976 := by omega
  have g2 : al + bh ≤ 1152921504606846976 := by omega
  have g3 : bl + at1 ≤ 1152921504606846976 := by omega
  have hw0 := i64_id (x := al + bl) (by omega) (by omega)
  have hw1 := i64_id (x := an + bn) (by omega) (by omega)
  have hw2 := i64_id (x := al + bh) (by omega) (by omega)
  have hw3 := i64_id (x := bl + at1) (by omega) (by omega)
  have HM1 := Lib.hid (fun w => w_rmul av bs w j1 j2 j7 (by omega))
  have HM2 := Lib.hid (fun w => w_rmul asc bs w j3 j4 j7 (by omega))
  obtain ⟨P1, hP1⟩ : ∃ P1, P1 = mP av bs := ⟨_, rfl⟩
  obtain ⟨P2, hP2⟩ : ∃ P2, P2 = mP asc bs := ⟨_, rfl⟩
  have p1 : 0 ≤ P1 := by rw [hP1]; exact R_ge _
  have p2 : P1 < 2305843009213693951 := by rw [hP1]; exact R_lt _
  have HD := Lib.hid (show mDig.j (av, asc) (bv, bs) = (R (P1 + bv), P2) by rw [hP1, hP2]; rfl)
  rw [← hP1] at HM1
  rw [← hP2] at HM2
  clear ga gb' ia1 ia2 ib1 ib2 hP1 hP2
  have m1 : c + 1 ≠ c + 1 + 1 + 1 := by omega
  have m2 : c ≠ c + 1 + 1 + 1 := by omega
  have m3 : c + 1 + 1 ≠ c + 1 + 1 + 1 := by omega
  by_cases ha : an = 0
  · by_cases hb : bn = 0
    · have ea : (an == 0) = true := by simpa using ha
      have eb : (bn == 0) = true := by simpa using hb
      have HE := Lib.hid (show wj ⟨al, an, ah, at1, (av, asc)⟩ ⟨bl, bn, bh, bt, (bv, bs)⟩ = ⟨al + bl, an + bn, al + bh, bl + at1, (R (P1 + bv), P2)⟩ by unfold wj; simp only []; rw [if_pos ha, if_pos hb, HD.out])
      clear ha hb
      have y0 : (((w.alloc (.cells (wc ⟨al, an, ah, at1, (av, asc)⟩) 27)).alloc (.cells (wc ⟨bl, bn, bh, bt, (bv, bs)⟩) 27)).alloc (.cells (wc wZ) 27)).cell? ⟨c, 0, none⟩ = some (.int .i64 al) := R2.out.cell 0
      have y1 : (((w.alloc (.cells (wc ⟨al, an, ah, at1, (av, asc)⟩) 27)).alloc (.cells (wc ⟨bl, bn, bh, bt, (bv, bs)⟩) 27)).alloc (.cells (wc wZ) 27)).cell? ⟨c, 1, none⟩ = some (.int .i64 an) := R2.out.cell 1
      have y2 : (((w.alloc (.cells (wc ⟨al, an, ah, at1, (av, asc)⟩) 27)).alloc (.cells (wc ⟨bl, bn, bh, bt, (bv, bs)⟩) 27)).alloc (.cells (wc wZ) 27)).cell? ⟨c, 2, none⟩ = some (.int .i64 ah) := R2.out.cell 2
      have t0 : (((w.alloc (.cells (wc ⟨al, an, ah, at1, (av, asc)⟩) 27)).alloc (.cells (wc ⟨bl, bn, bh, bt, (bv, bs)⟩) 27)).alloc (.cells (wc wZ) 27)).cell? ⟨c + 1, 0, none⟩ = some (.int .i64 bl) := R3.out.cell 0
      have t1 : (((w.alloc (.cells (wc ⟨al, an, ah, at1, (av, asc)⟩) 27)).alloc (.cells (wc ⟨bl, bn, bh, bt, (bv, bs)⟩) 27)).alloc (.cells (wc wZ) 27)).cell? ⟨c + 1, 1, none⟩ = some (.int .i64 bn) := R3.out.cell 1
      have t3 : (((w.alloc (.cells (wc ⟨al, an, ah, at1, (av, asc)⟩) 27)).alloc (.cells (wc ⟨bl, bn, bh, bt, (bv, bs)⟩) 27)).alloc (.cells (wc wZ) 27)).cell? ⟨c + 1, 3, none⟩ = some (.int .i64 bt) := R3.out.cell 3
      have V5 := Lib.hid (show Row ((((w.alloc (.cells (wc ⟨al, an, ah, at1, (av, asc)⟩) 27)).alloc (.cells (wc ⟨bl, bn, bh, bt, (bv, bs)⟩) 27)).alloc (.cells (wc wZ) 27)).alloc (.cells (wc ⟨al + bl, an + bn, ah, bt, (0, 0)⟩) 27)) (c + 1 + 1 + 1) 27 (wc ⟨al + bl, an + bn, ah, bt, (0, 0)⟩) by have hn := Row.new (((w.alloc (.cells (wc ⟨al, an, ah, at1, (av, asc)⟩) 27)).alloc (.cells (wc ⟨bl, bn, bh, bt, (bv, bs)⟩) 27)).alloc (.cells (wc wZ) 27)) 27 (wc ⟨al + bl, an + bn, ah, bt, (0, 0)⟩); simp only [World.size_alloc] at hn; rw [HS.out] at hn; exact hn)
      have V2 := Lib.hid (R2.out.alloc (.cells (wc ⟨al + bl, an + bn, ah, bt, (0, 0)⟩) 27))
      have V3 := Lib.hid (R3.out.alloc (.cells (wc ⟨al + bl, an + bn, ah, bt, (0, 0)⟩) 27))
      have V4 := Lib.hid (R4.out.alloc (.cells (wc ⟨al + bl, an + bn, ah, bt, (0, 0)⟩) 27))
      have VB := Lib.hid (HB0.out.alloc (by have hs := HB0.out.size; have := HS.out; omega) (.cells (wc ⟨al + bl, an + bn, ah, bt, (0, 0)⟩) 27))
      clear R2 R3 R4 HB0
      go_enter Try.func39, Try.ntmps39
      go_wp2_with (first | ((with_reducible refine wpList_newR (c' := wc ⟨al + bl, an + bn, ah, bt, (0, 0)⟩) aggW rfl (wc_one _) rfl _ _ rfl ?_ ?_ ?_); (go_simp <;> fail); (first | (go_simp <;> fail) | exact rfl); go_simp; clear y0 y1 y2 t0 t1 t3; revert V2 V3 V4 V5 VB; generalize ((((w.alloc (.cells (wc ⟨al, an, ah, at1, (av, asc)⟩) 27)).alloc (.cells (wc ⟨bl, bn, bh, bt, (bv, bs)⟩) 27)).alloc (.cells (wc wZ) 27)).alloc (.cells (wc ⟨al + bl, an + bn, ah, bt, (0, 0)⟩) 27)) = w4; intro V5 V2 V3 V4 VB; have y0 : w4.cell? ⟨c, 0, none⟩ = some (.int .i64 al) := V2.out.cell 0; have y1 : w4.cell? ⟨c, 1, none⟩ = some (.int .i64 an) := V2.out.cell 1; have y3 : w4.cell? ⟨c, 3, none⟩ = some (.int .i64 at1) := V2.out.cell 3; have t0 : w4.cell? ⟨c + 1, 0, none⟩ = some (.int .i64 bl) := V3.out.cell 0; have t1 : w4.cell? ⟨c + 1, 1, none⟩ = some (.int .i64 bn) := V3.out.cell 1; have t2 : w4.cell? ⟨c + 1, 2, none⟩ = some (.int .i64 bh) := V3.out.cell 2; have f0 : w4.frozen? ⟨c + 1 + 1 + 1, 2, none⟩ = false := V5.out.frozen 2; have x0 : w4.cell? ⟨c + 1 + 1 + 1, 2, none⟩ = some (.int .i64 ah) := V5.out.cell 2; have A2 := Lib.hid (V2.out.far (p := ⟨c + 1 + 1 + 1, 2, none⟩) m2 (.int .i64 (al + bh))); have A3 := Lib.hid (V3.out.far (p := ⟨c + 1 + 1 + 1, 2, none⟩) m1 (.int .i64 (al + bh))); have A4 := Lib.hid (V4.out.far (p := ⟨c + 1 + 1 + 1, 2, none⟩) m3 (.int .i64 (al + bh))); have A8 := Lib.hid (show Row (w4.setCell ⟨c + 1 + 1 + 1, 2, none⟩ (.int .i64 (al + bh))) (c + 1 + 1 + 1) 27 (wc ⟨al + bl, an + bn, al + bh, bt, (0, 0)⟩) from (V5.out.set 2 _).congr rfl); have AB := Lib.hid (show Below c w (w4.setCell ⟨c + 1 + 1 + 1, 2, none⟩ (.int .i64 (al + bh))) by exact VB.out.setCell (p := ⟨c + 1 + 1 + 1, 2, none⟩) (by show c ≤ c + 1 + 1 + 1; omega) (.int .i64 (al + bh))); clear V2 V3 V4 V5 VB; have z1 : (w4.setCell ⟨c + 1 + 1 + 1, 2, none⟩ (.int .i64 (al + bh))).cell? ⟨c + 1, 1, none⟩ = some (.int .i64 bn) := A3.out.cell 1; have z2 : (w4.setCell ⟨c + 1 + 1 + 1, 2, none⟩ (.int .i64 (al + bh))).cell? ⟨c + 1, 0, none⟩ = some (.int .i64 bl) := A3.out.cell 0; have z3 : (w4.setCell ⟨c + 1 + 1 + 1, 2, none⟩ (.int .i64 (al + bh))).cell? ⟨c, 3, none⟩ = some (.int .i64 at1) := A2.out.cell 3; have f1 : (w4.setCell ⟨c + 1 + 1 + 1, 2, none⟩ (.int .i64 (al + bh))).frozen? ⟨c + 1 + 1 + 1, 3, none⟩ = false := A8.out.frozen 3; have x1 : (w4.setCell ⟨c + 1 + 1 + 1, 2, none⟩ (.int .i64 (al + bh))).cell? ⟨c + 1 + 1 + 1, 3, none⟩ = some (.int .i64 bt) := A8.out.cell 3; have B2 := Lib.hid (A2.out.far (p := ⟨c + 1 + 1 + 1, 3, none⟩) m2 (.int .i64 (bl + at1))); have B3 := Lib.hid (A3.out.far (p := ⟨c + 1 + 1 + 1, 3, none⟩) m1 (.int .i64 (bl + at1))); have B4 := Lib.hid (A4.out.far (p := ⟨c + 1 + 1 + 1, 3, none⟩) m3 (.int .i64 (bl + at1))); have B8 := Lib.hid (show Row ((w4.setCell ⟨c + 1 + 1 + 1, 2, none⟩ (.int .i64 (al + bh))).setCell ⟨c + 1 + 1 + 1, 3, none⟩ (.int .i64 (bl + at1))) (c + 1 + 1 + 1) 27 (wc ⟨al + bl, an + bn, al + bh, bl + at1, (0, 0)⟩) from (A8.out.set 3 _).congr rfl); have BB := Lib.hid (show Below c w ((w4.setCell ⟨c + 1 + 1 + 1, 2, none⟩ (.int .i64 (al + bh))).setCell ⟨c + 1 + 1 + 1, 3, none⟩ (.int .i64 (bl + at1))) by exact AB.out.setCell (p := ⟨c + 1 + 1 + 1, 3, none⟩) (by show c ≤ c + 1 + 1 + 1; omega) (.int .i64 (bl + at1))); clear A2 A3 A4 A8 AB))
      obtain ⟨W, hW⟩ : ∃ W, W = ((w4.setCell ⟨c + 1 + 1 + 1, 2, none⟩ (.int .i64 (al + bh))).setCell ⟨c + 1 + 1 + 1, 3, none⟩ (.int .i64 (bl + at1))) := ⟨_, rfl⟩
      rw [← hW] at B2 B3 B4 B8 BB ⊢
      clear hc z0 y0 y1 y3 t0 t1 t2 f0 x0 z1 z2 z3 f1 x1 hW
      have q1 : ∀ u, (later W u).cell? ⟨c, 4, none⟩ = some (.int .u64 av) := fun u => (B2.out.later u).cell 4
      have q2 : ∀ u, (later W u).cell? ⟨c + 1, 5, none⟩ = some (.int .u64 bs) := fun u => (B3.out.later u).cell 5
      have q3 : ∀ u, (later W u).cell? ⟨c + 1, 4, none⟩ = some (.int .u64 bv) := fun u => (B3.out.later u).cell 4
      refine wp_region_tail 14 (by kernel_rfl) (by kernel_rfl) ?_
      simp only [List.take_succ_cons, List.take_zero, List.drop_succ_cons, List.drop_zero]
      repeat (first | go_big_quiet_skip | (go_big_quiet_want; go_big_quiet_op; first | go_big_quiet_on | go_big_quiet_call (with_reducible exact calls_later_eq (HM1.out _))))
      refine wpQuiet_nil ?_
      rintro w5 ⟨u, rfl⟩
      have S2 := Lib.hid (B2.out.later u)
      have S3 := Lib.hid (B3.out.later u)
      have S4 := Lib.hid (B4.out.later u)
      have S5 := Lib.hid (B8.out.later u)
      have SB := Lib.hid (show Below c w (later W u) from BB.out.trans ((below_later W u).mono (by have := BB.out.size; have := HS.out; omega)))
      generalize later W u = w5 at S2 S3 S4 S5 SB ⊢
      clear q1 q2 q3 B2 B3 B4 B8 BB
      have f4 : w5.frozen? ⟨c + 1 + 1 + 1, 4, none⟩ = false := S5.out.frozen 4
      have x4 : w5.cell? ⟨c + 1 + 1 + 1, 4, none⟩ = some (.int .u64 0) := S5.out.cell 4
      have f5 : (w5.setCell ⟨c + 1 + 1 + 1, 4, none⟩ (.int .u64 ((P1 + bv) % 2305843009213693951))).frozen? ⟨c + 1 + 1 + 1, 5, none⟩ = false := (S5.out.set 4 (.int .u64 ((P1 + bv) % 2305843009213693951))).frozen 5
      have x5 : (w5.setCell ⟨c + 1 + 1 + 1, 4, none⟩ (.int .u64 ((P1 + bv) % 2305843009213693951))).cell? ⟨c + 1 + 1 + 1, 5, none⟩ = some (.int .u64 0) := (S5.out.set 4 (.int .u64 ((P1 + bv) % 2305843009213693951))).cell 5
      have x6 : (w5.setCell ⟨c + 1 + 1 + 1, 4, none⟩ (.int .u64 ((P1 + bv) % 2305843009213693951))).cell? ⟨c, 5, none⟩ = some (.int .u64 asc) := (S2.out.far (p := ⟨c + 1 + 1 + 1, 4, none⟩) m2 (.int .u64 ((P1 + bv) % 2305843009213693951))).cell 5
      have x7 : (w5.setCell ⟨c + 1 + 1 + 1, 4, none⟩ (.int .u64 ((P1 + bv) % 2305843009213693951))).cell? ⟨c + 1, 5, none⟩ = some (.int .u64 bs) := (S3.out.far (p := ⟨c + 1 + 1 + 1, 4, none⟩) m1 (.int .u64 ((P1 + bv) % 2305843009213693951))).cell 5
      have T5 := Lib.hid (show Row ((w5.setCell ⟨c + 1 + 1 + 1, 4, none⟩ (.int .u64 ((P1 + bv) % 2305843009213693951))).setCell ⟨c + 1 + 1 + 1, 5, none⟩ (.int .u64 P2)) (c + 1 + 1 + 1) 27 (wc ⟨al + bl, an + bn, al + bh, bl + at1, (R (P1 + bv), P2)⟩) from ((S5.out.set 4 (.int .u64 ((P1 + bv) % 2305843009213693951))).set 5 (.int .u64 P2)).congr rfl)
      have T4 := Lib.hid ((S4.out.far (p := ⟨c + 1 + 1 + 1, 4, none⟩) m3 (.int .u64 ((P1 + bv) % 2305843009213693951))).far (p := ⟨c + 1 + 1 + 1, 5, none⟩) m3 (.int .u64 P2))
      have TB := Lib.hid ((SB.out.setCell (p := ⟨c + 1 + 1 + 1, 4, none⟩) (by show c ≤ c + 1 + 1 + 1; omega) (.int .u64 ((P1 + bv) % 2305843009213693951))).setCell (p := ⟨c + 1 + 1 + 1, 5, none⟩) (by show c ≤ c + 1 + 1 + 1; omega) (.int .u64 P2))
      clear S2 S3 S4 S5 SB
      go_wp2_with (first | (go_at_call 31; with_reducible refine (HM2.out _).mono ?_; rintro e w' ⟨rfl, rfl⟩) | ((with_reducible refine wpList_loadR aggW T5.out rfl _ rfl ?_ ?_); (go_simp <;> fail); go_simp) | ((with_reducible refine wpList_storeR (c' := wc ⟨al + bl, an + bn, al + bh, bl + at1, (R (P1 + bv), P2)⟩) aggW T4.out rfl (wc_one _) rfl _ _ rfl ?_ ?_ ?_); (go_simp <;> fail); (first | (go_simp <;> fail) | exact rfl); go_simp))
      refine bodyPost_ret (results_cellR (c := wc ⟨al + bl, an + bn, al + bh, bl + at1, (R (P1 + bv), P2)⟩) aggW rfl _ (T4.out.setRow _) ?_) rfl ⟨by rw [HE.out], ?_⟩
      · go_simp
      · rw [HS.out]; exact below_setRow TB.out (by omega) _
    · have ea : (an == 0) = true := by simpa using ha
      have eb : (bn == 0) = false := by simpa using hb
      have HE := Lib.hid (show wj ⟨al, an, ah, at1, (av, asc)⟩ ⟨bl, bn, bh, bt, (bv, bs)⟩ = ⟨al + bl, an + bn, al + bh, bt, (R (P1 + bv), P2)⟩ by unfold wj; simp only []; rw [if_pos ha, if_neg hb, HD.out])
      clear ha hb
      have y0 : (((w.alloc (.cells (wc ⟨al, an, ah, at1, (av, asc)⟩) 27)).alloc (.cells (wc ⟨bl, bn, bh, bt, (bv, bs)⟩) 27)).alloc (.cells (wc wZ) 27)).cell? ⟨c, 0, none⟩ = some (.int .i64 al) := R2.out.cell 0
      have y1 : (((w.alloc (.cells (wc ⟨al, an, ah, at1, (av, asc)⟩) 27)).alloc (.cells (wc ⟨bl, bn, bh, bt, (bv, bs)⟩) 27)).alloc (.cells (wc wZ) 27)).cell? ⟨c, 1, none⟩ = some (.int .i64 an) := R2.out.cell 1
      have y2 : (((w.alloc (.cells (wc ⟨al, an, ah, at1, (av, asc)⟩) 27)).alloc (.cells (wc ⟨bl, bn, bh, bt, (bv, bs)⟩) 27)).alloc (.cells (wc wZ) 27)).cell? ⟨c, 2, none⟩ = some (.int .i64 ah) := R2.out.cell 2
      have t0 : (((w.alloc (.cells (wc ⟨al, an, ah, at1, (av, asc)⟩) 27)).alloc (.cells (wc ⟨bl, bn, bh, bt, (bv, bs)⟩) 27)).alloc (.cells (wc wZ) 27)).cell? ⟨c + 1, 0, none⟩ = some (.int .i64 bl) := R3.out.cell 0
      have t1 : (((w.alloc (.cells (wc ⟨al, an, ah, at1, (av, asc)⟩) 27)).alloc (.cells (wc ⟨bl, bn, bh, bt, (bv, bs)⟩) 27)).alloc (.cells (wc wZ) 27)).cell? ⟨c + 1, 1, none⟩ = some (.int .i64 bn) := R3.out.cell 1
      have t3 : (((w.alloc (.cells (wc ⟨al, an, ah, at1, (av, asc)⟩) 27)).alloc (.cells (wc ⟨bl, bn, bh, bt, (bv, bs)⟩) 27)).alloc (.cells (wc wZ) 27)).cell? ⟨c + 1, 3, none⟩ = some (.int .i64 bt) := R3.out.cell 3
      have V5 := Lib.hid (show Row ((((w.alloc (.cells (wc ⟨al, an, ah, at1, (av, asc)⟩) 27)).alloc (.cells (wc ⟨bl, bn, bh, bt, (bv, bs)⟩) 27)).alloc (.cells (wc wZ) 27)).alloc (.cells (wc ⟨al + bl, an + bn, ah, bt, (0, 0)⟩) 27)) (c + 1 + 1 + 1) 27 (wc ⟨al + bl, an + bn, ah, bt, (0, 0)⟩) by have hn := Row.new (((w.alloc (.cells (wc ⟨al, an, ah, at1, (av, asc)⟩) 27)).alloc (.cells (wc ⟨bl, bn, bh, bt, (bv, bs)⟩) 27)).alloc (.cells (wc wZ) 27)) 27 (wc ⟨al + bl, an + bn, ah, bt, (0, 0)⟩); simp only [World.size_alloc] at hn; rw [HS.out] at hn; exact hn)
      have V2 := Lib.hid (R2.out.alloc (.cells (wc ⟨al + bl, an + bn, ah, bt, (0, 0)⟩) 27))
      have V3 := Lib.hid (R3.out.alloc (.cells (wc ⟨al + bl, an + bn, ah, bt, (0, 0)⟩) 27))
      have V4 := Lib.hid (R4.out.alloc (.cells (wc ⟨al + bl, an + bn, ah, bt, (0, 0)⟩) 27))
      have VB := Lib.hid (HB0.out.alloc (by have hs := HB0.out.size; have := HS.out; omega) (.cells (wc ⟨al + bl, an + bn, ah, bt, (0, 0)⟩) 27))
      clear R2 R3 R4 HB0
      go_enter Try.func39, Try.ntmps39
      go_wp2_with (first | ((with_reducible refine wpList_newR (c' := wc ⟨al + bl, an + bn, ah, bt, (0, 0)⟩) aggW rfl (wc_one _) rfl _ _ rfl ?_ ?_ ?_); (go_simp <;> fail); (first | (go_simp <;> fail) | exact rfl); go_simp; clear y0 y1 y2 t0 t1 t3; revert V2 V3 V4 V5 VB; generalize ((((w.alloc (.cells (wc ⟨al, an, ah, at1, (av, asc)⟩) 27)).alloc (.cells (wc ⟨bl, bn, bh, bt, (bv, bs)⟩) 27)).alloc (.cells (wc wZ) 27)).alloc (.cells (wc ⟨al + bl, an + bn, ah, bt, (0, 0)⟩) 27)) = w4; intro V5 V2 V3 V4 VB; have y0 : w4.cell? ⟨c, 0, none⟩ = some (.int .i64 al) := V2.out.cell 0; have y1 : w4.cell? ⟨c, 1, none⟩ = some (.int .i64 an) := V2.out.cell 1; have y3 : w4.cell? ⟨c, 3, none⟩ = some (.int .i64 at1) := V2.out.cell 3; have t0 : w4.cell? ⟨c + 1, 0, none⟩ = some (.int .i64 bl) := V3.out.cell 0; have t1 : w4.cell? ⟨c + 1, 1, none⟩ = some (.int .i64 bn) := V3.out.cell 1; have t2 : w4.cell? ⟨c + 1, 2, none⟩ = some (.int .i64 bh) := V3.out.cell 2; have f0 : w4.frozen? ⟨c + 1 + 1 + 1, 2, none⟩ = false := V5.out.frozen 2; have x0 : w4.cell? ⟨c + 1 + 1 + 1, 2, none⟩ = some (.int .i64 ah) := V5.out.cell 2; have A2 := Lib.hid (V2.out.far (p := ⟨c + 1 + 1 + 1, 2, none⟩) m2 (.int .i64 (al + bh))); have A3 := Lib.hid (V3.out.far (p := ⟨c + 1 + 1 + 1, 2, none⟩) m1 (.int .i64 (al + bh))); have A4 := Lib.hid (V4.out.far (p := ⟨c + 1 + 1 + 1, 2, none⟩) m3 (.int .i64 (al + bh))); have A8 := Lib.hid (show Row (w4.setCell ⟨c + 1 + 1 + 1, 2, none⟩ (.int .i64 (al + bh))) (c + 1 + 1 + 1) 27 (wc ⟨al + bl, an + bn, al + bh, bt, (0, 0)⟩) from (V5.out.set 2 _).congr rfl); have AB := Lib.hid (show Below c w (w4.setCell ⟨c + 1 + 1 + 1, 2, none⟩ (.int .i64 (al + bh))) by exact VB.out.setCell (p := ⟨c + 1 + 1 + 1, 2, none⟩) (by show c ≤ c + 1 + 1 + 1; omega) (.int .i64 (al + bh))); clear V2 V3 V4 V5 VB; have z1 : (w4.setCell ⟨c + 1 + 1 + 1, 2, none⟩ (.int .i64 (al + bh))).cell? ⟨c + 1, 1, none⟩ = some (.int .i64 bn) := A3.out.cell 1; have z2 : (w4.setCell ⟨c + 1 + 1 + 1, 2, none⟩ (.int .i64 (al + bh))).cell? ⟨c + 1, 0, none⟩ = some (.int .i64 bl) := A3.out.cell 0; have z3 : (w4.setCell ⟨c + 1 + 1 + 1, 2, none⟩ (.int .i64 (al + bh))).cell? ⟨c, 3, none⟩ = some (.int .i64 at1) := A2.out.cell 3))
      obtain ⟨W, hW⟩ : ∃ W, W = (w4.setCell ⟨c + 1 + 1 + 1, 2, none⟩ (.int .i64 (al + bh))) := ⟨_, rfl⟩
      rw [← hW] at A2 A3 A4 A8 AB ⊢
      clear hc z0 y0 y1 y3 t0 t1 t2 f0 x0 z1 z2 z3 hW
      have q1 : ∀ u, (later W u).cell? ⟨c, 4, none⟩ = some (.int .u64 av) := fun u => (A2.out.later u).cell 4
      have q2 : ∀ u, (later W u).cell? ⟨c + 1, 5, none⟩ = some (.int .u64 bs) := fun u => (A3.out.later u).cell 5
      have q3 : ∀ u, (later W u).cell? ⟨c + 1, 4, none⟩ = some (.int .u64 bv) := fun u => (A3.out.later u).cell 4
      refine wp_region_tail 14 (by kernel_rfl) (by kernel_rfl) ?_
      simp only [List.take_succ_cons, List.take_zero, List.drop_succ_cons, List.drop_zero]
      repeat (first | go_big_quiet_skip | (go_big_quiet_want; go_big_quiet_op; first | go_big_quiet_on | go_big_quiet_call (with_reducible exact calls_later_eq (HM1.out _))))
      refine wpQuiet_nil ?_
      rintro w5 ⟨u, rfl⟩
      have S2 := Lib.hid (A2.out.later u)
      have S3 := Lib.hid (A3.out.later u)
      have S4 := Lib.hid (A4.out.later u)
      have S5 := Lib.hid (A8.out.later u)
      have SB := Lib.hid (show Below c w (later W u) from AB.out.trans ((below_later W u).mono (by have := AB.out.size; have := HS.out; omega)))
      generalize later W u = w5 at S2 S3 S4 S5 SB ⊢
      clear q1 q2 q3 A2 A3 A4 A8 AB
      have f4 : w5.frozen? ⟨c + 1 + 1 + 1, 4, none⟩ = false := S5.out.frozen 4
      have x4 : w5.cell? ⟨c + 1 + 1 + 1, 4, none⟩ = some (.int .u64 0) := S5.out.cell 4
      have f5 : (w5.setCell ⟨c + 1 + 1 + 1, 4, none⟩ (.int .u64 ((P1 + bv) % 2305843009213693951))).frozen? ⟨c + 1 + 1 + 1, 5, none⟩ = false := (S5.out.set 4 (.int .u64 ((P1 + bv) % 2305843009213693951))).frozen 5
      have x5 : (w5.setCell ⟨c + 1 + 1 + 1, 4, none⟩ (.int .u64 ((P1 + bv) % 2305843009213693951))).cell? ⟨c + 1 + 1 + 1, 5, none⟩ = some (.int .u64 0) := (S5.out.set 4 (.int .u64 ((P1 + bv) % 2305843009213693951))).cell 5
      have x6 : (w5.setCell ⟨c + 1 + 1 + 1, 4, none⟩ (.int .u64 ((P1 + bv) % 2305843009213693951))).cell? ⟨c, 5, none⟩ = some (.int .u64 asc) := (S2.out.far (p := ⟨c + 1 + 1 + 1, 4, none⟩) m2 (.int .u64 ((P1 + bv) % 2305843009213693951))).cell 5
      have x7 : (w5.setCell ⟨c + 1 + 1 + 1, 4, none⟩ (.int .u64 ((P1 + bv) % 2305843009213693951))).cell? ⟨c + 1, 5, none⟩ = some (.int .u64 bs) := (S3.out.far (p := ⟨c + 1 + 1 + 1, 4, none⟩) m1 (.int .u64 ((P1 + bv) % 2305843009213693951))).cell 5
      have T5 := Lib.hid (show Row ((w5.setCell ⟨c + 1 + 1 + 1, 4, none⟩ (.int .u64 ((P1 + bv) % 2305843009213693951))).setCell ⟨c + 1 + 1 + 1, 5, none⟩ (.int .u64 P2)) (c + 1 + 1 + 1) 27 (wc ⟨al + bl, an + bn, al + bh, bt, (R (P1 + bv), P2)⟩) from ((S5.out.set 4 (.int .u64 ((P1 + bv) % 2305843009213693951))).set 5 (.int .u64 P2)).congr rfl)
      have T4 := Lib.hid ((S4.out.far (p := ⟨c + 1 + 1 + 1, 4, none⟩) m3 (.int .u64 ((P1 + bv) % 2305843009213693951))).far (p := ⟨c + 1 + 1 + 1, 5, none⟩) m3 (.int .u64 P2))
      have TB := Lib.hid ((SB.out.setCell (p := ⟨c + 1 + 1 + 1, 4, none⟩) (by show c ≤ c + 1 + 1 + 1; omega) (.int .u64 ((P1 + bv) % 2305843009213693951))).setCell (p := ⟨c + 1 + 1 + 1, 5, none⟩) (by show c ≤ c + 1 + 1 + 1; omega) (.int .u64 P2))
      clear S2 S3 S4 S5 SB
      go_wp2_with (first | (go_at_call 31; with_reducible refine (HM2.out _).mono ?_; rintro e w' ⟨rfl, rfl⟩) | ((with_reducible refine wpList_loadR aggW T5.out rfl _ rfl ?_ ?_); (go_simp <;> fail); go_simp) | ((with_reducible refine wpList_storeR (c' := wc ⟨al + bl, an + bn, al + bh, bt, (R (P1 + bv), P2)⟩) aggW T4.out rfl (wc_one _) rfl _ _ rfl ?_ ?_ ?_); (go_simp <;> fail); (first | (go_simp <;> fail) | exact rfl); go_simp))
      refine bodyPost_ret (results_cellR (c := wc ⟨al + bl, an + bn, al + bh, bt, (R (P1 + bv), P2)⟩) aggW rfl _ (T4.out.setRow _) ?_) rfl ⟨by rw [HE.out], ?_⟩
      · go_simp
      · rw [HS.out]; exact below_setRow TB.out (by omega) _
  · by_cases hb : bn = 0
    · have ea : (an == 0) = false := by simpa using ha
      have eb : (bn == 0) = true := by simpa using hb
      have HE := Lib.hid (show wj ⟨al, an, ah, at1, (av, asc)⟩ ⟨bl, bn, bh, bt, (bv, bs)⟩ = ⟨al + bl, an + bn, ah, bl + at1, (R (P1 + bv), P2)⟩ by unfold wj; simp only []; rw [if_neg ha, if_pos hb, HD.out])
      clear ha hb
      have y0 : (((w.alloc (.cells (wc ⟨al, an, ah, at1, (av, asc)⟩) 27)).alloc (.cells (wc ⟨bl, bn, bh, bt, (bv, bs)⟩) 27)).alloc (.cells (wc wZ) 27)).cell? ⟨c, 0, none⟩ = some (.int .i64 al) := R2.out.cell 0
      have y1 : (((w.alloc (.cells (wc ⟨al, an, ah, at1, (av, asc)⟩) 27)).alloc (.cells (wc ⟨bl, bn, bh, bt, (bv, bs)⟩) 27)).alloc (.cells (wc wZ) 27)).cell? ⟨c, 1, none⟩ = some (.int .i64 an) := R2.out.cell 1
      have y2 : (((w.alloc (.cells (wc ⟨al, an, ah, at1, (av, asc)⟩) 27)).alloc (.cells (wc ⟨bl, bn, bh, bt, (bv, bs)⟩) 27)).alloc (.cells (wc wZ) 27)).cell? ⟨c, 2, none⟩ = some (.int .i64 ah) := R2.out.cell 2
      have t0 : (((w.alloc (.cells (wc ⟨al, an, ah, at1, (av, asc)⟩) 27)).alloc (.cells (wc ⟨bl, bn, bh, bt, (bv, bs)⟩) 27)).alloc (.cells (wc wZ) 27)).cell? ⟨c + 1, 0, none⟩ = some (.int .i64 bl) := R3.out.cell 0
      have t1 : (((w.alloc (.cells (wc ⟨al, an, ah, at1, (av, asc)⟩) 27)).alloc (.cells (wc ⟨bl, bn, bh, bt, (bv, bs)⟩) 27)).alloc (.cells (wc wZ) 27)).cell? ⟨c + 1, 1, none⟩ = some (.int .i64 bn) := R3.out.cell 1
      have t3 : (((w.alloc (.cells (wc ⟨al, an, ah, at1, (av, asc)⟩) 27)).alloc (.cells (wc ⟨bl, bn, bh, bt, (bv, bs)⟩) 27)).alloc (.cells (wc wZ) 27)).cell? ⟨c + 1, 3, none⟩ = some (.int .i64 bt) := R3.out.cell 3
      have V5 := Lib.hid (show Row ((((w.alloc (.cells (wc ⟨al, an, ah, at1, (av, asc)⟩) 27)).alloc (.cells (wc ⟨bl, bn, bh, bt, (bv, bs)⟩) 27)).alloc (.cells (wc wZ) 27)).alloc (.cells (wc ⟨al + bl, an + bn, ah, bt, (0, 0)⟩) 27)) (c + 1 + 1 + 1) 27 (wc ⟨al + bl, an + bn, ah, bt, (0, 0)⟩) by have hn := Row.new (((w.alloc (.cells (wc ⟨al, an, ah, at1, (av, asc)⟩) 27)).alloc (.cells (wc ⟨bl, bn, bh, bt, (bv, bs)⟩) 27)).alloc (.cells (wc wZ) 27)) 27 (wc ⟨al + bl, an + bn, ah, bt, (0, 0)⟩); simp only [World.size_alloc] at hn; rw [HS.out] at hn; exact hn)
      have V2 := Lib.hid (R2.out.alloc (.cells (wc ⟨al + bl, an + bn, ah, bt, (0, 0)⟩) 27))
      have V3 := Lib.hid (R3.out.alloc (.cells (wc ⟨al + bl, an + bn, ah, bt, (0, 0)⟩) 27))
      have V4 := Lib.hid (R4.out.alloc (.cells (wc ⟨al + bl, an + bn, ah, bt, (0, 0)⟩) 27))
      have VB := Lib.hid (HB0.out.alloc (by have hs := HB0.out.size; have := HS.out; omega) (.cells (wc ⟨al + bl, an + bn, ah, bt, (0, 0)⟩) 27))
      clear R2 R3 R4 HB0
      go_enter Try.func39, Try.ntmps39
      go_wp2_with (first | ((with_reducible refine wpList_newR (c' := wc ⟨al + bl, an + bn, ah, bt, (0, 0)⟩) aggW rfl (wc_one _) rfl _ _ rfl ?_ ?_ ?_); (go_simp <;> fail); (first | (go_simp <;> fail) | exact rfl); go_simp; clear y0 y1 y2 t0 t1 t3; revert V2 V3 V4 V5 VB; generalize ((((w.alloc (.cells (wc ⟨al, an, ah, at1, (av, asc)⟩) 27)).alloc (.cells (wc ⟨bl, bn, bh, bt, (bv, bs)⟩) 27)).alloc (.cells (wc wZ) 27)).alloc (.cells (wc ⟨al + bl, an + bn, ah, bt, (0, 0)⟩) 27)) = w4; intro V5 V2 V3 V4 VB; have y0 : w4.cell? ⟨c, 0, none⟩ = some (.int .i64 al) := V2.out.cell 0; have y1 : w4.cell? ⟨c, 1, none⟩ = some (.int .i64 an) := V2.out.cell 1; have y3 : w4.cell? ⟨c, 3, none⟩ = some (.int .i64 at1) := V2.out.cell 3; have t0 : w4.cell? ⟨c + 1, 0, none⟩ = some (.int .i64 bl) := V3.out.cell 0; have t1 : w4.cell? ⟨c + 1, 1, none⟩ = some (.int .i64 bn) := V3.out.cell 1; have t2 : w4.cell? ⟨c + 1, 2, none⟩ = some (.int .i64 bh) := V3.out.cell 2; have f1 : w4.frozen? ⟨c + 1 + 1 + 1, 3, none⟩ = false := V5.out.frozen 3; have x1 : w4.cell? ⟨c + 1 + 1 + 1, 3, none⟩ = some (.int .i64 bt) := V5.out.cell 3; have B2 := Lib.hid (V2.out.far (p := ⟨c + 1 + 1 + 1, 3, none⟩) m2 (.int .i64 (bl + at1))); have B3 := Lib.hid (V3.out.far (p := ⟨c + 1 + 1 + 1, 3, none⟩) m1 (.int .i64 (bl + at1))); have B4 := Lib.hid (V4.out.far (p := ⟨c + 1 + 1 + 1, 3, none⟩) m3 (.int .i64 (bl + at1))); have B8 := Lib.hid (show Row (w4.setCell ⟨c + 1 + 1 + 1, 3, none⟩ (.int .i64 (bl + at1))) (c + 1 + 1 + 1) 27 (wc ⟨al + bl, an + bn, ah, bl + at1, (0, 0)⟩) from (V5.out.set 3 _).congr rfl); have BB := Lib.hid (show Below c w (w4.setCell ⟨c + 1 + 1 + 1, 3, none⟩ (.int .i64 (bl + at1))) by exact VB.out.setCell (p := ⟨c + 1 + 1 + 1, 3, none⟩) (by show c ≤ c + 1 + 1 + 1; omega) (.int .i64 (bl + at1))); clear V2 V3 V4 V5 VB))
      obtain ⟨W, hW⟩ : ∃ W, W = (w4.setCell ⟨c + 1 + 1 + 1, 3, none⟩ (.int .i64 (bl + at1))) := ⟨_, rfl⟩
      rw [← hW] at B2 B3 B4 B8 BB ⊢
      clear hc z0 y0 y1 y3 t0 t1 t2 f1 x1 hW
      have q1 : ∀ u, (later W u).cell? ⟨c, 4, none⟩ = some (.int .u64 av) := fun u => (B2.out.later u).cell 4
      have q2 : ∀ u, (later W u).cell? ⟨c + 1, 5, none⟩ = some (.int .u64 bs) := fun u => (B3.out.later u).cell 5
      have q3 : ∀ u, (later W u).cell? ⟨c + 1, 4, none⟩ = some (.int .u64 bv) := fun u => (B3.out.later u).cell 4
      refine wp_region_tail 14 (by kernel_rfl) (by kernel_rfl) ?_
      simp only [List.take_succ_cons, List.take_zero, List.drop_succ_cons, List.drop_zero]
      repeat (first | go_big_quiet_skip | (go_big_quiet_want; go_big_quiet_op; first | go_big_quiet_on | go_big_quiet_call (with_reducible exact calls_later_eq (HM1.out _))))
      refine wpQuiet_nil ?_
      rintro w5 ⟨u, rfl⟩
      have S2 := Lib.hid (B2.out.later u)
      have S3 := Lib.hid (B3.out.later u)
      have S4 := Lib.hid (B4.out.later u)
      have S5 := Lib.hid (B8.out.later u)
      have SB := Lib.hid (show Below c w (later W u) from BB.out.trans ((below_later W u).mono (by have := BB.out.size; have := HS.out; omega)))
      generalize later W u = w5 at S2 S3 S4 S5 SB ⊢
      clear q1 q2 q3 B2 B3 B4 B8 BB
      have f4 : w5.frozen? ⟨c + 1 + 1 + 1, 4, none⟩ = false := S5.out.frozen 4
      have x4 : w5.cell? ⟨c + 1 + 1 + 1, 4, none⟩ = some (.int .u64 0) := S5.out.cell 4
      have f5 : (w5.setCell ⟨c + 1 + 1 + 1, 4, none⟩ (.int .u64 ((P1 + bv) % 2305843009213693951))).frozen? ⟨c + 1 + 1 + 1, 5, none⟩ = false := (S5.out.set 4 (.int .u64 ((P1 + bv) % 2305843009213693951))).frozen 5
      have x5 : (w5.setCell ⟨c + 1 + 1 + 1, 4, none⟩ (.int .u64 ((P1 + bv) % 2305843009213693951))).cell? ⟨c + 1 + 1 + 1, 5, none⟩ = some (.int .u64 0) := (S5.out.set 4 (.int .u64 ((P1 + bv) % 2305843009213693951))).cell 5
      have x6 : (w5.setCell ⟨c + 1 + 1 + 1, 4, none⟩ (.int .u64 ((P1 + bv) % 2305843009213693951))).cell? ⟨c, 5, none⟩ = some (.int .u64 asc) := (S2.out.far (p := ⟨c + 1 + 1 + 1, 4, none⟩) m2 (.int .u64 ((P1 + bv) % 2305843009213693951))).cell 5
      have x7 : (w5.setCell ⟨c + 1 + 1 + 1, 4, none⟩ (.int .u64 ((P1 + bv) % 2305843009213693951))).cell? ⟨c + 1, 5, none⟩ = some (.int .u64 bs) := (S3.out.far (p := ⟨c + 1 + 1 + 1, 4, none⟩) m1 (.int .u64 ((P1 + bv) % 2305843009213693951))).cell 5
      have T5 := Lib.hid (show Row ((w5.setCell ⟨c + 1 + 1 + 1, 4, none⟩ (.int .u64 ((P1 + bv) % 2305843009213693951))).setCell ⟨c + 1 + 1 + 1, 5, none⟩ (.int .u64 P2)) (c + 1 + 1 + 1) 27 (wc ⟨al + bl, an + bn, ah, bl + at1, (R (P1 + bv), P2)⟩) from ((S5.out.set 4 (.int .u64 ((P1 + bv) % 2305843009213693951))).set 5 (.int .u64 P2)).congr rfl)
      have T4 := Lib.hid ((S4.out.far (p := ⟨c + 1 + 1 + 1, 4, none⟩) m3 (.int .u64 ((P1 + bv) % 2305843009213693951))).far (p := ⟨c + 1 + 1 + 1, 5, none⟩) m3 (.int .u64 P2))
      have TB := Lib.hid ((SB.out.setCell (p := ⟨c + 1 + 1 + 1, 4, none⟩) (by show c ≤ c + 1 + 1 + 1; omega) (.int .u64 ((P1 + bv) % 2305843009213693951))).setCell (p := ⟨c + 1 + 1 + 1, 5, none⟩) (by show c ≤ c + 1 + 1 + 1; omega) (.int .u64 P2))
      clear S2 S3 S4 S5 SB
      go_wp2_with (first | (go_at_call 31; with_reducible refine (HM2.out _).mono ?_; rintro e w' ⟨rfl, rfl⟩) | ((with_reducible refine wpList_loadR aggW T5.out rfl _ rfl ?_ ?_); (go_simp <;> fail); go_simp) | ((with_reducible refine wpList_storeR (c' := wc ⟨al + bl, an + bn, ah, bl + at1, (R (P1 + bv), P2)⟩) aggW T4.out rfl (wc_one _) rfl _ _ rfl ?_ ?_ ?_); (go_simp <;> fail); (first | (go_simp <;> fail) | exact rfl); go_simp))
      refine bodyPost_ret (results_cellR (c := wc ⟨al + bl, an + bn, ah, bl + at1, (R (P1 + bv), P2)⟩) aggW rfl _ (T4.out.setRow _) ?_) rfl ⟨by rw [HE.out], ?_⟩
      · go_simp
      · rw [HS.out]; exact below_setRow TB.out (by omega) _
    · have ea : (an == 0) = false := by simpa using ha
      have eb : (bn == 0) = false := by simpa using hb
      have HE := Lib.hid (show wj ⟨al, an, ah, at1, (av, asc)⟩ ⟨bl, bn, bh, bt, (bv, bs)⟩ = ⟨al + bl, an + bn, ah, bt, (R (P1 + bv), P2)⟩ by unfold wj; simp only []; rw [if_neg ha, if_neg hb, HD.out])
      clear ha hb
      have y0 : (((w.alloc (.cells (wc ⟨al, an, ah, at1, (av, asc)⟩) 27)).alloc (.cells (wc ⟨bl, bn, bh, bt, (bv, bs)⟩) 27)).alloc (.cells (wc wZ) 27)).cell? ⟨c, 0, none⟩ = some (.int .i64 al) := R2.out.cell 0
      have y1 : (((w.alloc (.cells (wc ⟨al, an, ah, at1, (av, asc)⟩) 27)).alloc (.cells (wc ⟨bl, bn, bh, bt, (bv, bs)⟩) 27)).alloc (.cells (wc wZ) 27)).cell? ⟨c, 1, none⟩ = some (.int .i64 an) := R2.out.cell 1
      have y2 : (((w.alloc (.cells (wc ⟨al, an, ah, at1, (av, asc)⟩) 27)).alloc (.cells (wc ⟨bl, bn, bh, bt, (bv, bs)⟩) 27)).alloc (.cells (wc wZ) 27)).cell? ⟨c, 2, none⟩ = some (.int .i64 ah) := R2.out.cell 2
      have t0 : (((w.alloc (.cells (wc ⟨al, an, ah, at1, (av, asc)⟩) 27)).alloc (.cells (wc ⟨bl, bn, bh, bt, (bv, bs)⟩) 27)).alloc (.cells (wc wZ) 27)).cell? ⟨c + 1, 0, none⟩ = some (.int .i64 bl) := R3.out.cell 0
      have t1 : (((w.alloc (.cells (wc ⟨al, an, ah, at1, (av, asc)⟩) 27)).alloc (.cells (wc ⟨bl, bn, bh, bt, (bv, bs)⟩) 27)).alloc (.cells (wc wZ) 27)).cell? ⟨c + 1, 1, none⟩ = some (.int .i64 bn) := R3.out.cell 1
      have t3 : (((w.alloc (.cells (wc ⟨al, an, ah, at1, (av, asc)⟩) 27)).alloc (.cells (wc ⟨bl, bn, bh, bt, (bv, bs)⟩) 27)).alloc (.cells (wc wZ) 27)).cell? ⟨c + 1, 3, none⟩ = some (.int .i64 bt) := R3.out.cell 3
      have V5 := Lib.hid (show Row ((((w.alloc (.cells (wc ⟨al, an, ah, at1, (av, asc)⟩) 27)).alloc (.cells (wc ⟨bl, bn, bh, bt, (bv, bs)⟩) 27)).alloc (.cells (wc wZ) 27)).alloc (.cells (wc ⟨al + bl, an + bn, ah, bt, (0, 0)⟩) 27)) (c + 1 + 1 + 1) 27 (wc ⟨al + bl, an + bn, ah, bt, (0, 0)⟩) by have hn := Row.new (((w.alloc (.cells (wc ⟨al, an, ah, at1, (av, asc)⟩) 27)).alloc (.cells (wc ⟨bl, bn, bh, bt, (bv, bs)⟩) 27)).alloc (.cells (wc wZ) 27)) 27 (wc ⟨al + bl, an + bn, ah, bt, (0, 0)⟩); simp only [World.size_alloc] at hn; rw [HS.out] at hn; exact hn)
      have V2 := Lib.hid (R2.out.alloc (.cells (wc ⟨al + bl, an + bn, ah, bt, (0, 0)⟩) 27))
      have V3 := Lib.hid (R3.out.alloc (.cells (wc ⟨al + bl, an + bn, ah, bt, (0, 0)⟩) 27))
      have V4 := Lib.hid (R4.out.alloc (.cells (wc ⟨al + bl, an + bn, ah, bt, (0, 0)⟩) 27))
      have VB := Lib.hid (HB0.out.alloc (by have hs := HB0.out.size; have := HS.out; omega) (.cells (wc ⟨al + bl, an + bn, ah, bt, (0, 0)⟩) 27))
      clear R2 R3 R4 HB0
      go_enter Try.func39, Try.ntmps39
      go_wp2_with (first | ((with_reducible refine wpList_newR (c' := wc ⟨al + bl, an + bn, ah, bt, (0, 0)⟩) aggW rfl (wc_one _) rfl _ _ rfl ?_ ?_ ?_); (go_simp <;> fail); (first | (go_simp <;> fail) | exact rfl); go_simp; clear y0 y1 y2 t0 t1 t3; revert V2 V3 V4 V5 VB; generalize ((((w.alloc (.cells (wc ⟨al, an, ah, at1, (av, asc)⟩) 27)).alloc (.cells (wc ⟨bl, bn, bh, bt, (bv, bs)⟩) 27)).alloc (.cells (wc wZ) 27)).alloc (.cells (wc ⟨al + bl, an + bn, ah, bt, (0, 0)⟩) 27)) = w4; intro V5 V2 V3 V4 VB; have y0 : w4.cell? ⟨c, 0, none⟩ = some (.int .i64 al) := V2.out.cell 0; have y1 : w4.cell? ⟨c, 1, none⟩ = some (.int .i64 an) := V2.out.cell 1; have y3 : w4.cell? ⟨c, 3, none⟩ = some (.int .i64 at1) := V2.out.cell 3; have t0 : w4.cell? ⟨c + 1, 0, none⟩ = some (.int .i64 bl) := V3.out.cell 0; have t1 : w4.cell? ⟨c + 1, 1, none⟩ = some (.int .i64 bn) := V3.out.cell 1; have t2 : w4.cell? ⟨c + 1, 2, none⟩ = some (.int .i64 bh) := V3.out.cell 2))
      obtain ⟨W, hW⟩ : ∃ W, W = w4 := ⟨_, rfl⟩
      rw [← hW] at V2 V3 V4 V5 VB ⊢
      clear hc z0 y0 y1 y3 t0 t1 t2 hW
      have q1 : ∀ u, (later W u).cell? ⟨c, 4, none⟩ = some (.int .u64 av) := fun u => (V2.out.later u).cell 4
      have q2 : ∀ u, (later W u).cell? ⟨c + 1, 5, none⟩ = some (.int .u64 bs) := fun u => (V3.out.later u).cell 5
      have q3 : ∀ u, (later W u).cell? ⟨c + 1, 4, none⟩ = some (.int .u64 bv) := fun u => (V3.out.later u).cell 4
      refine wp_region_tail 14 (by kernel_rfl) (by kernel_rfl) ?_
      simp only [List.take_succ_cons, List.take_zero, List.drop_succ_cons, List.drop_zero]
      repeat (first | go_big_quiet_skip | (go_big_quiet_want; go_big_quiet_op; first | go_big_quiet_on | go_big_quiet_call (with_reducible exact calls_later_eq (HM1.out _))))
      refine wpQuiet_nil ?_
      rintro w5 ⟨u, rfl⟩
      have S2 := Lib.hid (V2.out.later u)
      have S3 := Lib.hid (V3.out.later u)
      have S4 := Lib.hid (V4.out.later u)
      have S5 := Lib.hid (V5.out.later u)
      have SB := Lib.hid (show Below c w (later W u) from VB.out.trans ((below_later W u).mono (by have := VB.out.size; have := HS.out; omega)))
      generalize later W u = w5 at S2 S3 S4 S5 SB ⊢
      clear q1 q2 q3 V2 V3 V4 V5 VB
      have f4 : w5.frozen? ⟨c + 1 + 1 + 1, 4, none⟩ = false := S5.out.frozen 4
      have x4 : w5.cell? ⟨c + 1 + 1 + 1, 4, none⟩ = some (.int .u64 0) := S5.out.cell 4
      have f5 : (w5.setCell ⟨c + 1 + 1 + 1, 4, none⟩ (.int .u64 ((P1 + bv) % 2305843009213693951))).frozen? ⟨c + 1 + 1 + 1, 5, none⟩ = false := (S5.out.set 4 (.int .u64 ((P1 + bv) % 2305843009213693951))).frozen 5
      have x5 : (w5.setCell ⟨c + 1 + 1 + 1, 4, none⟩ (.int .u64 ((P1 + bv) % 2305843009213693951))).cell? ⟨c + 1 + 1 + 1, 5, none⟩ = some (.int .u64 0) := (S5.out.set 4 (.int .u64 ((P1 + bv) % 2305843009213693951))).cell 5
      have x6 : (w5.setCell ⟨c + 1 + 1 + 1, 4, none⟩ (.int .u64 ((P1 + bv) % 2305843009213693951))).cell? ⟨c, 5, none⟩ = some (.int .u64 asc) := (S2.out.far (p := ⟨c + 1 + 1 + 1, 4, none⟩) m2 (.int .u64 ((P1 + bv) % 2305843009213693951))).cell 5
      have x7 : (w5.setCell ⟨c + 1 + 1 + 1, 4, none⟩ (.int .u64 ((P1 + bv) % 2305843009213693951))).cell? ⟨c + 1, 5, none⟩ = some (.int .u64 bs) := (S3.out.far (p := ⟨c + 1 + 1 + 1, 4, none⟩) m1 (.int .u64 ((P1 + bv) % 2305843009213693951))).cell 5
      have T5 := Lib.hid (show Row ((w5.setCell ⟨c + 1 + 1 + 1, 4, none⟩ (.int .u64 ((P1 + bv) % 2305843009213693951))).setCell ⟨c + 1 + 1 + 1, 5, none⟩ (.int .u64 P2)) (c + 1 + 1 + 1) 27 (wc ⟨al + bl, an + bn, ah, bt, (R (P1 + bv), P2)⟩) from ((S5.out.set 4 (.int .u64 ((P1 + bv) % 2305843009213693951))).set 5 (.int .u64 P2)).congr rfl)
      have T4 := Lib.hid ((S4.out.far (p := ⟨c + 1 + 1 + 1, 4, none⟩) m3 (.int .u64 ((P1 + bv) % 2305843009213693951))).far (p := ⟨c + 1 + 1 + 1, 5, none⟩) m3 (.int .u64 P2))
      have TB := Lib.hid ((SB.out.setCell (p := ⟨c + 1 + 1 + 1, 4, none⟩) (by show c ≤ c + 1 + 1 + 1; omega) (.int .u64 ((P1 + bv) % 2305843009213693951))).setCell (p := ⟨c + 1 + 1 + 1, 5, none⟩) (by show c ≤ c + 1 + 1 + 1; omega) (.int .u64 P2))
      clear S2 S3 S4 S5 SB
      go_wp2_with (first | (go_at_call 31; with_reducible refine (HM2.out _).mono ?_; rintro e w' ⟨rfl, rfl⟩) | ((with_reducible refine wpList_loadR aggW T5.out rfl _ rfl ?_ ?_); (go_simp <;> fail); go_simp) | ((with_reducible refine wpList_storeR (c' := wc ⟨al + bl, an + bn, ah, bt, (R (P1 + bv), P2)⟩) aggW T4.out rfl (wc_one _) rfl _ _ rfl ?_ ?_ ?_); (go_simp <;> fail); (first | (go_simp <;> fail) | exact rfl); go_simp))
      refine bodyPost_ret (results_cellR (c := wc ⟨al + bl, an + bn, ah, bt, (R (P1 + bv), P2)⟩) aggW rfl _ (T4.out.setRow _) ?_) rfl ⟨by rw [HE.out], ?_⟩
      · go_simp
      · rw [HS.out]; exact below_setRow TB.out (by omega) _
end Go.Proofs.Ytgjhlmmhpcbnaaa
