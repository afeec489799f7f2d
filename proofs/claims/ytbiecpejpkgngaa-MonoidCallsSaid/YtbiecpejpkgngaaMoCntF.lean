/-
  MonoidCalls: Fold, Prefixes, Window and Power over the counting monoid.
-/
import Derived.Test.YtbiecpejpkgngaaMoCntE
namespace Go.Proofs.Ytbiecpejpkgngaa
open Go.RowKit
/-- Some value is returned, and at most d joins have been counted. -/
def RetC (q C d : Nat) (w : World) (e : Ending) (w' : World) : Prop := ∃ v, e = .returned v ∧ G2 q q w w' ∧ ∃ C', Cnt w' q C' ∧ C ≤ C' ∧ C' ≤ C + d
theorem G2.new {g q : Nat} {w u v : World} (h : G2 q q w u) (k : G2 g q u v) (hg : w.heap.size ≤ g) : G2 q q w v :=
  ⟨k.os.trans h.os, k.tape.trans h.tape, k.output.trans h.output, Nat.le_trans h.size k.size, fun i hi a b => (k.block i (Nat.lt_of_lt_of_le hi h.size) (by omega) b).trans (h.block i hi a b)⟩
set_option maxRecDepth 20000 in
set_option maxHeartbeats 1600000 in
theorem cnt_fold (B q C : Nat) (A : Option Addr) (n cp : Nat) (z : Nat → Int) (w : World) (hBq : B ≤ q) (hBw : B ≤ w.heap.size) (hz : Rd B w A n fun k => .int .i64 (z k)) (hq : Cnt w q C) (hn : n ≤ 100000) (hC : C ≤ 1000000000) :
    Calls Try.prog 33 #[.agg (mc q), .slice A n cp] w (RetC q C n w) := by
  have hqs := hq.lt
  have HZ := Lib.hid hz
  have hB0 : Below w.heap.size w (w.alloc (.cells (mc q) 74)) := (Below.refl _ _).alloc (Nat.le_refl _) _
  have HX := Lib.hid (Row.new w 74 (mc q))
  have HQ0 := Lib.hid (show Cnt (w.alloc (.cells (mc q) 74)) q C from hq.alloc _)
  have HG0 := Lib.hid (G2.of_below (g := q) (q := q) hB0)
  have HU := Lib.hid (cntUnit q)
  have HJ := Lib.hid (cntJoin q)
  have hm1 := cnt_method q
  obtain ⟨mq, hmq⟩ : ∃ mq, mc q = mq := ⟨_, rfl⟩
  have HAG := Lib.hid (show AggT 74 mq.size by rw [← hmq]; exact aggCnt)
  rw [hmq] at HX HQ0 HG0 HU HJ hm1 ⊢
  clear hz hq hmq hB0
  go_enter Try.func33, Try.ntmps33
  go_wp2_with (first | ((with_reducible refine wpList_loadR HAG.out HX.out rfl _ rfl ?_ ?_); (go_simp <;> fail); go_simp) | (go_at_call 74; (with_reducible refine (HU.out _).mono ?_); rintro e w1 ⟨rfl, hb1⟩; have HB1 := Lib.hid hb1; clear hb1))
  have HG1 := Lib.hid (HG0.out.trans (G2.of_below HB1.out))
  have HX1 := Lib.hid (HX.out.below' HB1.out)
  have HQ1 := Lib.hid (show Cnt w1 q C from Row.below' HQ0.out HB1.out)
  clear HX HQ0 HG0 HB1
  go_loopw [5, 13] (fun r i wr => ∃ (k : Nat) (E : Int) (C1 : Nat), k ≤ n ∧ i = .int .i64 k ∧ r = .int .i64 E ∧ Hid (G2 q q w1 wr) ∧ Hid (Cnt wr q C1) ∧ C ≤ C1 ∧ C1 ≤ C + k) (fun _ i _ => n - (intOf i).toNat)
  case atStart => exact ⟨0, 0, C, Nat.zero_le _, rfl, rfl, Lib.hid (G2.refl _ _ _), HQ1, Nat.le_refl _, by omega⟩
  case round =>
    obtain ⟨k, E, C1, hk, rfl, rfl, HG, HQ, hC1, hC2⟩ := hrel
    have hsq : w.heap.size ≠ q := by omega
    have HX2 := Lib.hid (HX1.out.g2 HG.out hsq hsq)
    by_cases hlt : k < n
    · obtain ⟨b, o, rfl, hbB, hc⟩ := HZ.out.some (k := 0) (by omega)
      have hck : wr.cell? ⟨b, o + k, none⟩ = some (.int .i64 (z k)) := (((HG1.out.trans HG.out).below hBq hBq hBw).cell (p := ⟨b, o + k, none⟩) hbB).trans (hc k hlt)
      have hc1b : C1 ≤ 4611686018427387904 := by omega
      obtain ⟨x, hx⟩ : ∃ x, z k = x := ⟨_, rfl⟩
      rw [hx] at hck
      clear hc hx
      go_wp2_with (first | ((with_reducible refine wpList_loadR HAG.out HX2.out rfl _ rfl ?_ ?_); (go_simp <;> fail); go_simp) | (go_at_call 73; (with_reducible refine (HJ.out C1 E x wr HQ.out hc1b).mono ?_); rintro e w2 ⟨rfl, hg2, hq2⟩; have HG2 := Lib.hid hg2; have HQ2 := Lib.hid hq2; clear hg2 hq2))
      go_roundw
      case rel => exact ⟨k + 1, _, C1 + 1, by omega, by go_num, rfl, Lib.hid (HG.out.trans HG2.out), HQ2, by omega, by omega⟩
      case measure => simp [intOf]; try omega
    · obtain rfl : k = n := by omega
      go_wp2
      go_ret
      exact ⟨_, rfl, HG1.out.trans HG.out, C1, HQ.out, hC1, hC2⟩
set_option maxRecDepth 20000 in
set_option maxHeartbeats 1600000 in
theorem cnt_pre (B q C : Nat) (A : Option Addr) (n cp : Nat) (z : Nat → Int) (w : World) (hBq : B ≤ q) (hBw : B ≤ w.heap.size) (hz : Rd B w A n fun k => .int .i64 (z k)) (hq : Cnt w q C) (hn : n ≤ 100000) (hC : C ≤ 1000000000) :
    Calls Try.prog 34 #[.agg (mc q), .slice A n cp] w (RetC q C n w) := by
  obtain ⟨i0, hi, hz0, hz1, hz2⟩ := info_parts max_info
  obtain ⟨L, hL⟩ : ∃ L, L = n + 1 := ⟨_, rfl⟩
  have HL := Lib.hid hL
  have hLi : (n : Int) + 1 = (L : Int) := by omega
  have hLb : L ≤ 100001 := by omega
  have hL1 : 0 < L := by omega
  have hqs := hq.lt
  have HZ := Lib.hid hz
  have HX0 := Lib.hid (Row.new w 74 (mc q))
  have HQ0 := Lib.hid (show Cnt (w.alloc (.cells (mc q) 74)) q C from hq.alloc _)
  have HB0 := Lib.hid (show Below w.heap.size w (w.alloc (.cells (mc q) 74)) from (Below.refl _ _).alloc (Nat.le_refl _) _)
  have HU := Lib.hid (cntUnit q)
  have HJ := Lib.hid (cntJoin q)
  have hm1 := cnt_method q
  obtain ⟨mq, hmq⟩ : ∃ mq, mc q = mq := ⟨_, rfl⟩
  have HAG := Lib.hid (show AggT 74 mq.size by rw [← hmq]; exact aggCnt)
  rw [hmq] at HX0 HQ0 HB0 HU HJ hm1 ⊢
  have HXM := Lib.hid (HX0.out.alloc (.cells (madeCells #[.int .i64 0] L) 3))
  clear hz hq hmq hL
  go_enter Try.func34, Try.ntmps34
  go_wp2_with (first | (at_make; refine wpList_make_row _ rfl _ _ 22 rfl 3 i0 (.int .i64 0) Try.underlying22 hi hz0 hz1 rfl .i64 .i64 L rfl rfl (by rw [hz2]; omega) (by omega) ?_) | ((with_reducible refine wpList_loadR HAG.out HXM.out rfl _ rfl ?_ ?_); (go_simp <;> fail); go_simp))
  refine (HU.out _).mono ?_
  rintro e wu ⟨rfl, hbu⟩
  obtain ⟨w1, hw1⟩ : ∃ w1, w1 = w.alloc (.cells mq 74) := ⟨_, rfl⟩
  have hg1 : w1.heap.size = w.heap.size + 1 := by rw [hw1]; simp
  have hr2 : Row wu (w.heap.size + 1) 3 (madeCells #[.int .i64 0] L) := Row.below' (by rw [← hg1, ← hw1]; exact Row.new _ _ _) hbu
  have hx2 : Row wu w.heap.size 74 mq := Row.below' HXM.out hbu
  have hq2 : Cnt wu q C := Row.below' (show Row _ q 3 _ from Row.alloc HQ0.out _) hbu
  have hgw : G2 q q w wu := (G2.of_below (HB0.out.alloc (by simp) _)).trans (G2.of_below hbu)
  have hc0 : wu.cell? ⟨w.heap.size + 1, 0, none⟩ = some (.int .i64 0) := (hr2.cell 0).trans (made_at _ _ _ hL1)
  have hf0 := hr2.frozen 0
  have HR2 := Lib.hid hr2
  have HX2 := Lib.hid hx2
  have HQ2 := Lib.hid hq2
  have HG2 := Lib.hid hgw
  clear hw1 hg1 hr2 hx2 hq2 hgw HX0 HB0 HXM HQ0 hi hz0 hz1 hz2 hbu
  clear w1
  go_wp2
  obtain ⟨w2, hw2⟩ : ∃ w2, w2 = wu.setCell ⟨w.heap.size + 1, 0, none⟩ (.int .i64 0) := ⟨_, rfl⟩
  have HR3 := Lib.hid (show Row w2 (w.heap.size + 1) 3 _ by rw [hw2]; exact HR2.out.set 0 _)
  have HX3 := Lib.hid (show Row w2 w.heap.size 74 mq by rw [hw2]; exact HX2.out.far (by simp) _)
  have HQ3 := Lib.hid (show Cnt w2 q C by rw [hw2]; exact Row.far HQ2.out (by show q ≠ w.heap.size + 1; omega) _)
  have HG3 := Lib.hid (show G2 q q w w2 by rw [hw2]; exact HG2.out.new ((G2.refl (w.heap.size + 1) q wu).setCell (.inl rfl) _) (by omega))
  rw [← hw2]
  clear hw2 hc0 hf0 HR2 HX2 HG2 HQ2
  obtain ⟨g, hg⟩ : ∃ g, w.heap.size + 1 = g := ⟨_, rfl⟩
  have hgs : w.heap.size ≤ g := by omega
  have hgq : g ≠ q := by omega
  have hsg : w.heap.size ≠ g := by omega
  have hsq : w.heap.size ≠ q := by omega
  rw [hg] at HR3 ⊢
  clear hg
  go_loopw [19] (fun i wr => ∃ k : Nat, k ≤ n ∧ i = .int .i64 k ∧ Hid (G2 g q w2 wr) ∧ ∃ c1 C1, Hid (Row wr g 3 c1) ∧ Hid (c1.size = L) ∧ Hid (AllI c1) ∧ Hid (Cnt wr q C1) ∧ C ≤ C1 ∧ C1 ≤ C + k) (fun i _ => n - (intOf i).toNat)
  case atStart => exact ⟨0, Nat.zero_le _, rfl, Lib.hid (G2.refl _ _ _), _, C, HR3, Lib.hid (by simp [size_madeCells]), Lib.hid (AllI.set (fun k hk => ⟨0, made_at _ _ _ (by rw [size_madeCells] at hk; exact hk)⟩) _ _), HQ3, Nat.le_refl _, by omega⟩
  case round =>
    obtain ⟨k, hk, rfl, HG, c1, C1, HR, HSz, HAI, HQ, hC1, hC2⟩ := hrel
    by_cases hlt : k < n
    · have HX1 := Lib.hid (HX3.out.g2 HG.out hsg hsq)
      obtain ⟨b, o, rfl, hbB, hcell0⟩ := HZ.out.some (k := 0) (by omega)
      obtain ⟨x, hx⟩ : ∃ x, z k = x := ⟨_, rfl⟩
      have hck : wr.cell? ⟨b, o + k, none⟩ = some (.int .i64 x) := by
        rw [← hx]
        exact (((HG3.out.new HG.out hgs).below hBq hBq hBw).cell (p := ⟨b, o + k, none⟩) hbB).trans (hcell0 k hlt)
      obtain ⟨y, hy⟩ : ∃ y : Int, c1[k]? = some (.int .i64 y) := HAI.out _ (by have := HSz.out; have := HL.out; omega)
      have HY := Lib.hid hy
      obtain ⟨y2, hy2⟩ : ∃ y2 : Int, c1[k + 1]? = some (.int .i64 y2) := HAI.out _ (by have := HSz.out; have := HL.out; omega)
      have HY2 := Lib.hid hy2
      have hcr : wr.drew.cell? ⟨g, k, none⟩ = some (.int .i64 y) := (HR.out.drew.cell k).trans HY.out
      have hk1L : k + 1 < L := by have := HL.out; omega
      have hw1' : IntKind.i64.wrap ((k : Int) + 1) = (k : Int) + 1 := by simp [IntKind.wrap, IntKind.bits, IntKind.signed]; omega
      have hc1b : C1 ≤ 4611686018427387904 := by omega
      have hDR := Lib.hid (G2.of_below (g := g) (q := q) (Below.refl wr.heap.size wr).drew)
      clear hcell0 hx hy hy2
      go_wp2
      refine wp_region_mix (S := fun w' => ∃ u, w' = gr g q wr u) (f := 4) [0, 1, 2, 3, 4, 5, 6, 7, 9] (by kernel_rfl) (by kernel_rfl) (by kernel_rfl) (fun c a d v w h => by cases d <;> exact h) ⟨_, (gr_of hDR.out).symm⟩ (by kernel_rfl) ?_
      simp only [pickL, List.flatMap_cons, List.flatMap_nil, List.drop_succ_cons, List.drop_zero, List.take_succ_cons, List.take_zero, List.append_nil, List.cons_append, List.nil_append]
      repeat (first | go_big_quiet_skip | (go_big_quiet_want; first | (with_reducible refine quiet_loadG HAG.out HX1.out hsg hsq _ rfl ?_ ?_; (go_simp <;> fail); go_simp; go_big_quiet_on) | (go_big_quiet_op; go_big_quiet_on)))
      refine wpQuiet_nil ?_
      refine wpAnyH_one (i := 8) (by kernel_rfl) ?_
      refine wpOp_val (v := .int .i64 y) (w' := wr.drew) 32 rfl rfl (by kernel_rfl) (by go_simp) ?_
      refine ⟨⟨_, (gr_of hDR.out).symm⟩, ?_⟩
      simp only [Act.put, List.setIfInBounds_toArray, List.set_cons_succ, List.set_cons_zero]
      refine wpAnyH_one (i := 10) (by kernel_rfl) ?_
      refine wpOp_enter (f := 73) (args := #[.agg mq, .int .i64 y, .int .i64 x]) 34 rfl rfl (by kernel_rfl) (by go_simp) (HJ.out C1 y x wr.drew HQ.out hc1b) ?_
      rintro w5 ⟨hg5, hq5⟩
      have HGs := Lib.hid (show G2 q q wr w5 from (G2.of_below (Below.refl wr.heap.size wr).drew).trans hg5)
      have HGw := Lib.hid (HG.out.trans (HGs.out.wide g))
      have HRw := Lib.hid (HR.out.g2 HGs.out hgq hgq)
      have HQw := Lib.hid hq5
      clear hg5 hq5 hcr hck
      refine ⟨⟨_, (gr_of (HGs.out.wide g)).symm⟩, ?_⟩
      have hcell := (HRw.out.cell (k + 1)).trans HY2.out
      have hfr := HRw.out.frozen (k + 1)
      refine wpAnyH_seg (f := 1) (by kernel_rfl) (fun c a d v w h => by cases d <;> exact h) ⟨_, (gr_of (HGs.out.wide g)).symm⟩ [11] _ _ (by kernel_rfl) ?_
      simp only [pickL, List.flatMap_cons, List.flatMap_nil, List.drop_succ_cons, List.drop_zero, List.take_succ_cons, List.take_zero, List.append_nil, List.cons_append, List.nil_append]
      simp only [Act.put, List.setIfInBounds_toArray, List.set_cons_succ, List.set_cons_zero]
      repeat (first | go_big_quiet_skip | (go_big_quiet_want; first | (with_reducible refine quiet_loadG HAG.out HX1.out hsg hsq _ rfl ?_ ?_; (go_simp <;> fail); go_simp; go_big_quiet_on) | (go_big_quiet_op; go_big_quiet_on)))
      refine wpQuiet_nil ?_
      refine wpAnyH_one (i := 12) (by kernel_rfl) ?_
      refine wpOp_skip' (w' := w5.setCell ⟨g, k + 1, none⟩ (.int .i64 (wrap64 (y + x)))) rfl rfl (by kernel_rfl) (by go_simp) ?_
      refine ⟨⟨_, (gr_of ((HGs.out.wide g).setCell (.inl rfl) _)).symm⟩, ?_⟩
      refine wpAnyH_done (by kernel_rfl) ?_ _
      clear hcell hfr hm1 hw1'
      go_wp2
      go_roundw
      case rel => exact ⟨k + 1, by omega, by go_num, Lib.hid (HGw.out.setCell (.inl rfl) _), _, C1 + 1, Lib.hid (HRw.out.set (k + 1) _), Lib.hid (by have := HSz.out; simpa using this), Lib.hid (HAI.out.set _ _), Lib.hid (Row.far HQw.out (fun e => hgq e.symm) _), by omega, by omega⟩
      case measure => simp [intOf]; try omega
    · obtain rfl : k = n := by omega
      go_wp2
      go_ret
      exact ⟨_, rfl, HG3.out.new HG.out hgs, C1, HQ.out, hC1, hC2⟩
theorem cnt_win_none (q C : Nat) (A : Option Addr) (nl cl : Nat) (n : Int) (w : World) (hq : Cnt w q C) (hn : n < 1 ∨ (nl : Int) < n) :
    Calls Try.prog 35 #[.agg (mc q), .slice A nl cl, .int .i64 n] w (RetC q C 0 w) := by
  have HQ0 := Lib.hid hq
  clear hq
  by_cases h1 : n < 1
  all_goals
    go_enter Try.func35, Try.ntmps35
    go_wp2
    go_ret
    exact ⟨_, rfl, G2.of_below ((Below.refl _ _).alloc (Nat.le_refl _) _), C, Row.alloc HQ0.out _, Nat.le_refl _, Nat.le_refl _⟩
set_option maxRecDepth 20000 in
set_option maxHeartbeats 3200000 in
theorem cnt_win (B q C : Nat) (A : Option Addr) (nl cl N : Nat) (z : Nat → Int) (w : World) (h1 : 1 ≤ N) (hN : N ≤ nl) (hnl : nl ≤ 10000) (hcl : nl ≤ cl) (hBq : B ≤ q) (hBw : B ≤ w.heap.size) (hz : Rd B w A nl fun k => .int .i64 (z k)) (hq : Cnt w q C) (hC : C ≤ 1000000) :
    Calls Try.prog 35 #[.agg (mc q), .slice A nl cl, .int .i64 N] w (RetC q C (4 * nl) w) := by
  obtain ⟨i0, hi, hz0, hz1, hz2⟩ := info_parts max_info
  obtain ⟨L, hL⟩ : ∃ L, L = nl - N + 1 := ⟨_, rfl⟩
  have hLN : L + N = nl + 1 := by omega
  have HLN := Lib.hid hLN
  have hLi : (nl : Int) - (N : Int) + 1 = (L : Int) := by omega
  have hLb : L ≤ 10000 := by omega
  have hLp : 1 ≤ L := by omega
  have hqs := hq.lt
  have HZ := Lib.hid hz
  have HX0 := Lib.hid (Row.new w 74 (mc q))
  have HQ0 := Lib.hid (show Cnt (w.alloc (.cells (mc q) 74)) q C from hq.alloc _)
  have HG0 := Lib.hid (G2.of_below (g := q) (q := q) ((Below.refl w.heap.size w).alloc (Nat.le_refl _) (.cells (mc q) 74)))
  obtain ⟨mq, hmq⟩ : ∃ mq, mc q = mq := ⟨_, rfl⟩
  have HMQ := Lib.hid hmq
  have HAG := Lib.hid (show AggT 74 mq.size by rw [← hmq]; exact aggCnt)
  rw [hmq] at HX0 HQ0 HG0 ⊢
  clear hz hq hmq hL hLN
  go_enter Try.func35, Try.ntmps35
  go_wp2_with (at_make; refine wpList_make_row _ rfl _ _ 22 rfl 3 i0 (.int .i64 0) Try.underlying22 hi hz0 hz1 rfl .i64 .i64 L rfl rfl (by rw [hz2]; omega) (by omega) ?_)
  obtain ⟨w1, hw1⟩ : ∃ w1, w1 = w.alloc (.cells mq 74) := ⟨_, rfl⟩
  obtain ⟨w2, hw2⟩ : ∃ w2, w2 = w1.alloc (.cells (madeCells #[.int .i64 0] L) 3) := ⟨_, rfl⟩
  have hg1 : w1.heap.size = w.heap.size + 1 := by rw [hw1]; simp
  have hr2 : Row w2 (w.heap.size + 1) 3 (madeCells #[.int .i64 0] L) := by rw [hw2, ← hg1]; exact Row.new _ _ _
  have hx2 : Row w2 w.heap.size 74 mq := by rw [hw2, hw1]; exact HX0.out.alloc _
  have hq2 : Cnt w2 q C := by rw [hw2, hw1]; exact Row.alloc HQ0.out _
  have hgw : G2 q q w w2 := by rw [hw2, hw1]; exact HG0.out.trans (G2.of_below ((Below.refl _ _).alloc (Nat.le_refl _) _))
  rw [← hw1, ← hw2]
  have HR3 := Lib.hid hr2
  have HX3 := Lib.hid hx2
  have HQ3 := Lib.hid hq2
  have HG3 := Lib.hid hgw
  clear hw1 hw2 hg1 hr2 hx2 hq2 hgw HX0 HQ0 HG0 hi hz0 hz1 hz2
  clear w1
  obtain ⟨g, hg⟩ : ∃ g, w.heap.size + 1 = g := ⟨_, rfl⟩
  have hgs : w.heap.size ≤ g := by omega
  have hgq : g ≠ q := by omega
  have hsg : w.heap.size ≠ g := by omega
  have hsq : w.heap.size ≠ q := by omega
  have hBg : B ≤ g := by omega
  rw [hg] at HR3 ⊢
  clear hg
  go_loopw [8] (fun i wr => ∃ s : Nat, s ≤ nl ∧ i = .int .i64 s ∧ Hid (G2 g q w2 wr) ∧ ∃ c1 C1, Hid (Row wr g 3 c1) ∧ Hid (c1.size = L) ∧ Hid (AllI c1) ∧ Hid (Cnt wr q C1) ∧ C ≤ C1 ∧ C1 ≤ C + s + 2 * min s L) (fun i _ => L - (intOf i).toNat)
  case atStart => exact ⟨0, Nat.zero_le _, rfl, Lib.hid (G2.refl _ _ _), _, C, HR3, Lib.hid (size_madeCells _ _), Lib.hid (fun k hk => ⟨0, made_at _ _ _ (by rw [size_madeCells] at hk; exact hk)⟩), HQ3, Nat.le_refl _, by omega⟩
  case round =>
    obtain ⟨s, hs, rfl, HG, c1, C1, HR, HSz, HAI, HQ, hC1, hC2⟩ := hrel
    by_cases hlt : s < L
    · have HX1 := Lib.hid (HX3.out.g2 HG.out hsg hsq)
      obtain ⟨q0, hq0⟩ : ∃ q0, s + N = q0 := ⟨_, rfl⟩
      have hqi : (s : Int) + (N : Int) = (q0 : Int) := by omega
      have hqn : q0 ≤ nl := by have := HLN.out; omega
      have hsq0 : s < q0 := by omega
      have hwq : IntKind.i64.wrap (q0 : Int) = (q0 : Int) := by simp [IntKind.wrap, IntKind.bits, IntKind.signed]; omega
      have hws : IntKind.i64.wrap ((s : Int) + 1) = (s : Int) + 1 := by simp [IntKind.wrap, IntKind.bits, IntKind.signed]; omega
      have hqc : q0 ≤ cl := by omega
      have HQN := Lib.hid hq0
      have hDR := Lib.hid (G2.of_below (g := g) (q := q) (Below.refl wr.heap.size wr).drew)
      clear hq0
      by_cases hqL : q0 ≤ L
      · have hqL' : ¬ (L < q0) := by omega
        go_wp2
        refine wp_region_mix (S := fun w' => ∃ u, w' = gr g q wr u) (f := 1) [0, 1, 2, 3, 4, 5, 6, 7, 8, 9, 10] (by kernel_rfl) (by kernel_rfl) (by kernel_rfl) (fun c a d v w h => by cases d <;> exact h) ⟨_, (gr_of hDR.out).symm⟩ (by kernel_rfl) ?_
        simp only [pickL, List.flatMap_cons, List.flatMap_nil, List.drop_succ_cons, List.drop_zero, List.take_succ_cons, List.take_zero, List.append_nil, List.cons_append, List.nil_append]
        repeat (first | go_big_quiet_skip | (go_big_quiet_want; first | (with_reducible refine quiet_loadG HAG.out HX1.out hsg hsq _ rfl ?_ ?_; (go_simp <;> fail); go_simp; go_big_quiet_on) | (go_big_quiet_op; go_big_quiet_on)))
        refine wpQuiet_nil ?_
        have HB3 := Lib.hid (show Below B w wr.drew from ((HG3.out.new HG.out hgs).below hBq hBq hBw).drew)
        have hE : Calls Try.prog 44 #[.agg mq, .slice (A.map (fun x => x.add s)) (q0 - s) (cl - s), .slice (some ⟨g, s, none⟩) (q0 - s) (L - s)] wr.drew (fun e w' => e = .returned (.tuple #[]) ∧ (G2 g q wr.drew w' ∧ ∃ c' C', Row w' g 3 c' ∧ c'.size = L ∧ AllI c' ∧ Cnt w' q C' ∧ C1 ≤ C' ∧ C' ≤ C1 + (q0 - s - 1))) := by
          have h := cnt_ends B g q s C1 c1 (A.map (fun x => x.add s)) (q0 - s) (cl - s) (q0 - s) (L - s) (fun k => z (s + k)) wr.drew hBg hBq (by have := HB3.out.size; omega) hgq ((HZ.out.later HB3.out).part' s (q0 - s) (by omega)) HR.out HAI.out HQ.out (by omega) (by omega) (by omega) (by have := HSz.out; omega) (by omega)
          rw [HMQ.out, HSz.out] at h
          exact h
        refine wpAnyH_one (i := 11) (by kernel_rfl) ?_
        refine wpOp_enter (f := 44) (args := #[.agg mq, .slice (A.map (fun x => x.add s)) (q0 - s) (cl - s), .slice (some ⟨g, s, none⟩) (q0 - s) (L - s)]) 48 rfl rfl (by kernel_rfl) (by go_simp) hE ?_
        clear hE
        rintro w4 ⟨hg4, c2, C2, hr4, hsz4, hai4, hq4, hc4, hd4⟩
        have HG4 := Lib.hid (hDR.out.trans hg4)
        have HR4 := Lib.hid hr4
        have HSz4 := Lib.hid hsz4
        have HAI4 := Lib.hid hai4
        have HQ4 := Lib.hid hq4
        clear hg4 hr4 hsz4 hai4 hq4
        refine ⟨⟨_, (gr_of HG4.out).symm⟩, ?_⟩
        refine wpAnyH_done (by kernel_rfl) ?_ _
        have HX4 := Lib.hid (HX1.out.g2 HG4.out hsg hsq)
        have hDR4 := Lib.hid (G2.of_below (g := g) (q := q) (Below.refl w4.heap.size w4).drew)
        simp only [Act.put, List.setIfInBounds_toArray, List.set_cons_succ, List.set_cons_zero]
        go_wp2_with fail
        refine wp_region_mix (S := fun w' => ∃ u, w' = gr g q w4 u) (f := 1) [0, 1, 2, 3, 4, 5, 6, 7, 8, 9, 10] (by kernel_rfl) (by kernel_rfl) (by kernel_rfl) (fun c a d v w h => by cases d <;> exact h) ⟨_, (gr_of hDR4.out).symm⟩ (by kernel_rfl) ?_
        simp only [pickL, List.flatMap_cons, List.flatMap_nil, List.drop_succ_cons, List.drop_zero, List.take_succ_cons, List.take_zero, List.append_nil, List.cons_append, List.nil_append]
        repeat (first | go_big_quiet_skip | (go_big_quiet_want; first | (with_reducible refine quiet_loadG HAG.out HX4.out hsg hsq _ rfl ?_ ?_; (go_simp <;> fail); go_simp; go_big_quiet_on) | (go_big_quiet_op; go_big_quiet_on)))
        refine wpQuiet_nil ?_
        have HB5 := Lib.hid (show Below B w w4.drew from (((HG3.out.new HG.out hgs).new HG4.out hgs).below hBq hBq hBw).drew)
        have hE : Calls Try.prog 45 #[.agg mq, .slice (if cl = q0 then A else A.map (fun x => x.add q0)) (nl - q0) (cl - q0), .slice (if L = s + 1 then some ⟨g, 0, none⟩ else some ⟨g, s + 1, none⟩) (q0 - (s + 1)) (L - (s + 1))] w4.drew (fun e w' => e = .returned (.tuple #[]) ∧ (G2 g q w4.drew w' ∧ ∃ c' C', Row w' g 3 c' ∧ c'.size = L ∧ AllI c' ∧ Cnt w' q C' ∧ C2 ≤ C' ∧ C' ≤ C2 + 2 * (q0 - (s + 1)))) := by
          have h := cnt_begs B g q (s + 1) C2 c2 (if cl = q0 then A else A.map (fun x => x.add q0)) (if L = s + 1 then some ⟨g, 0, none⟩ else some ⟨g, s + 1, none⟩) (nl - q0) (cl - q0) (q0 - (s + 1)) (L - (s + 1)) (fun k => z (q0 + k)) w4.drew hBg hBq (by have := HB5.out.size; omega) hgq ((HZ.out.later HB5.out).part hcl q0 (nl - q0) (by omega)) HR4.out HAI4.out HQ4.out (by omega) (by have := HLN.out; have := HQN.out; omega) (by
            by_cases h : L = s + 1
            · exact .inl (by omega)
            · exact .inr (if_neg h)) (by have := HSz4.out; omega) (by omega)
          rw [HMQ.out, HSz4.out] at h
          exact h
        refine wpAnyH_one (i := 11) (by kernel_rfl) ?_
        refine wpOp_enter (f := 45) (args := #[.agg mq, .slice (if cl = q0 then A else A.map (fun x => x.add q0)) (nl - q0) (cl - q0), .slice (if L = s + 1 then some ⟨g, 0, none⟩ else some ⟨g, s + 1, none⟩) (q0 - (s + 1)) (L - (s + 1))]) 60 rfl rfl (by kernel_rfl) (by go_simp) hE ?_
        clear hE
        rintro w6 ⟨hg6, c3, C3, hr6, hsz6, hai6, hq6, hc6, hd6⟩
        have HG6 := Lib.hid (hDR4.out.trans hg6)
        have HR6 := Lib.hid hr6
        have HSz6 := Lib.hid hsz6
        have HAI6 := Lib.hid hai6
        have HQ6 := Lib.hid hq6
        clear hg6 hr6 hsz6 hai6 hq6
        refine ⟨⟨_, (gr_of HG6.out).symm⟩, ?_⟩
        refine wpAnyH_done (by kernel_rfl) ?_ _
        simp only [Act.put, List.setIfInBounds_toArray, List.set_cons_succ, List.set_cons_zero]
        go_wp2
        all_goals
          go_roundw
          case rel => exact ⟨q0, by have := HQN.out; have := HLN.out; omega, rfl, Lib.hid ((HG.out.trans HG4.out).trans HG6.out), c3, C3, HR6, HSz6, HAI6, HQ6, by omega, by have := HQN.out; omega⟩
          case measure => simp [intOf]; try omega
      · have hqL' : L < q0 := by omega
        go_wp2
        refine wp_region_mix (S := fun w' => ∃ u, w' = gr g q wr u) (f := 1) [0, 1, 2, 3, 4, 5, 6, 7, 8, 9, 10] (by kernel_rfl) (by kernel_rfl) (by kernel_rfl) (fun c a d v w h => by cases d <;> exact h) ⟨_, (gr_of hDR.out).symm⟩ (by kernel_rfl) ?_
        simp only [pickL, List.flatMap_cons, List.flatMap_nil, List.drop_succ_cons, List.drop_zero, List.take_succ_cons, List.take_zero, List.append_nil, List.cons_append, List.nil_append]
        repeat (first | go_big_quiet_skip | (go_big_quiet_want; first | (with_reducible refine quiet_loadG HAG.out HX1.out hsg hsq _ rfl ?_ ?_; (go_simp <;> fail); go_simp; go_big_quiet_on) | (go_big_quiet_op; go_big_quiet_on)))
        refine wpQuiet_nil ?_
        have HB3 := Lib.hid (show Below B w wr.drew from ((HG3.out.new HG.out hgs).below hBq hBq hBw).drew)
        have hE : Calls Try.prog 44 #[.agg mq, .slice (A.map (fun x => x.add s)) (q0 - s) (cl - s), .slice (some ⟨g, s, none⟩) (L - s) (L - s)] wr.drew (fun e w' => e = .returned (.tuple #[]) ∧ (G2 g q wr.drew w' ∧ ∃ c' C', Row w' g 3 c' ∧ c'.size = L ∧ AllI c' ∧ Cnt w' q C' ∧ C1 ≤ C' ∧ C' ≤ C1 + (q0 - s - 1))) := by
          have h := cnt_ends B g q s C1 c1 (A.map (fun x => x.add s)) (q0 - s) (cl - s) (L - s) (L - s) (fun k => z (s + k)) wr.drew hBg hBq (by have := HB3.out.size; omega) hgq ((HZ.out.later HB3.out).part' s (q0 - s) (by omega)) HR.out HAI.out HQ.out (by omega) (by omega) (by omega) (by have := HSz.out; omega) (by omega)
          rw [HMQ.out, HSz.out] at h
          exact h
        refine wpAnyH_one (i := 11) (by kernel_rfl) ?_
        refine wpOp_enter (f := 44) (args := #[.agg mq, .slice (A.map (fun x => x.add s)) (q0 - s) (cl - s), .slice (some ⟨g, s, none⟩) (L - s) (L - s)]) 48 rfl rfl (by kernel_rfl) (by go_simp) hE ?_
        clear hE
        rintro w4 ⟨hg4, c2, C2, hr4, hsz4, hai4, hq4, hc4, hd4⟩
        have HG4 := Lib.hid (hDR.out.trans hg4)
        have HR4 := Lib.hid hr4
        have HSz4 := Lib.hid hsz4
        have HAI4 := Lib.hid hai4
        have HQ4 := Lib.hid hq4
        clear hg4 hr4 hsz4 hai4 hq4
        refine ⟨⟨_, (gr_of HG4.out).symm⟩, ?_⟩
        refine wpAnyH_done (by kernel_rfl) ?_ _
        have HX4 := Lib.hid (HX1.out.g2 HG4.out hsg hsq)
        have hDR4 := Lib.hid (G2.of_below (g := g) (q := q) (Below.refl w4.heap.size w4).drew)
        simp only [Act.put, List.setIfInBounds_toArray, List.set_cons_succ, List.set_cons_zero]
        go_wp2_with fail
        refine wp_region_mix (S := fun w' => ∃ u, w' = gr g q w4 u) (f := 1) [0, 1, 2, 3, 4, 5, 6, 7, 8, 9, 10] (by kernel_rfl) (by kernel_rfl) (by kernel_rfl) (fun c a d v w h => by cases d <;> exact h) ⟨_, (gr_of hDR4.out).symm⟩ (by kernel_rfl) ?_
        simp only [pickL, List.flatMap_cons, List.flatMap_nil, List.drop_succ_cons, List.drop_zero, List.take_succ_cons, List.take_zero, List.append_nil, List.cons_append, List.nil_append]
        repeat (first | go_big_quiet_skip | (go_big_quiet_want; first | (with_reducible refine quiet_loadG HAG.out HX4.out hsg hsq _ rfl ?_ ?_; (go_simp <;> fail); go_simp; go_big_quiet_on) | (go_big_quiet_op; go_big_quiet_on)))
        refine wpQuiet_nil ?_
        have HB5 := Lib.hid (show Below B w w4.drew from (((HG3.out.new HG.out hgs).new HG4.out hgs).below hBq hBq hBw).drew)
        have hE : Calls Try.prog 45 #[.agg mq, .slice (if cl = q0 then A else A.map (fun x => x.add q0)) (nl - q0) (cl - q0), .slice (if L = s + 1 then some ⟨g, 0, none⟩ else some ⟨g, s + 1, none⟩) (L - (s + 1)) (L - (s + 1))] w4.drew (fun e w' => e = .returned (.tuple #[]) ∧ (G2 g q w4.drew w' ∧ ∃ c' C', Row w' g 3 c' ∧ c'.size = L ∧ AllI c' ∧ Cnt w' q C' ∧ C2 ≤ C' ∧ C' ≤ C2 + 2 * (L - (s + 1)))) := by
          have h := cnt_begs B g q (s + 1) C2 c2 (if cl = q0 then A else A.map (fun x => x.add q0)) (if L = s + 1 then some ⟨g, 0, none⟩ else some ⟨g, s + 1, none⟩) (nl - q0) (cl - q0) (L - (s + 1)) (L - (s + 1)) (fun k => z (q0 + k)) w4.drew hBg hBq (by have := HB5.out.size; omega) hgq ((HZ.out.later HB5.out).part hcl q0 (nl - q0) (by omega)) HR4.out HAI4.out HQ4.out (by omega) (by have := HLN.out; have := HQN.out; omega) (by
            by_cases h : L = s + 1
            · exact .inl (by omega)
            · exact .inr (if_neg h)) (by have := HSz4.out; omega) (by omega)
          rw [HMQ.out, HSz4.out] at h
          exact h
        refine wpAnyH_one (i := 11) (by kernel_rfl) ?_
        refine wpOp_enter (f := 45) (args := #[.agg mq, .slice (if cl = q0 then A else A.map (fun x => x.add q0)) (nl - q0) (cl - q0), .slice (if L = s + 1 then some ⟨g, 0, none⟩ else some ⟨g, s + 1, none⟩) (L - (s + 1)) (L - (s + 1))]) 60 rfl rfl (by kernel_rfl) (by go_simp) hE ?_
        clear hE
        rintro w6 ⟨hg6, c3, C3, hr6, hsz6, hai6, hq6, hc6, hd6⟩
        have HG6 := Lib.hid (hDR4.out.trans hg6)
        have HR6 := Lib.hid hr6
        have HSz6 := Lib.hid hsz6
        have HAI6 := Lib.hid hai6
        have HQ6 := Lib.hid hq6
        clear hg6 hr6 hsz6 hai6 hq6
        refine ⟨⟨_, (gr_of HG6.out).symm⟩, ?_⟩
        refine wpAnyH_done (by kernel_rfl) ?_ _
        simp only [Act.put, List.setIfInBounds_toArray, List.set_cons_succ, List.set_cons_zero]
        go_wp2
        all_goals
          go_roundw
          case rel => exact ⟨q0, by have := HQN.out; have := HLN.out; omega, rfl, Lib.hid ((HG.out.trans HG4.out).trans HG6.out), c3, C3, HR6, HSz6, HAI6, HQ6, by omega, by have := HQN.out; omega⟩
          case measure => simp [intOf]; try omega
    · go_wp2
      go_ret
      exact ⟨_, rfl, HG3.out.new HG.out hgs, C1, HQ.out, hC1, by have := HLN.out; omega⟩
theorem log_half {k : Nat} (h : 2 ≤ k) : (k / 2).log2 + 1 = k.log2 := by rw [Nat.log2_def k, if_pos h]
theorem cnt_pow_none (q C : Nat) (x n : Int) (w : World) (hq : Cnt w q C) (hn : n < 1) :
    Calls Try.prog 36 #[.agg (mc q), .int .i64 x, .int .i64 n] w (RetC q C 128 w) := by
  have HX := Lib.hid (Row.new w 74 (mc q))
  have HQ0 := Lib.hid (show Cnt (w.alloc (.cells (mc q) 74)) q C from Row.alloc hq _)
  have HG0 := Lib.hid (G2.of_below (g := q) (q := q) ((Below.refl w.heap.size w).alloc (Nat.le_refl _) (.cells (mc q) 74)))
  have HU := Lib.hid (cntUnit q)
  obtain ⟨mq, hmq⟩ : ∃ mq, mc q = mq := ⟨_, rfl⟩
  have HAG := Lib.hid (show AggT 74 mq.size by rw [← hmq]; exact aggCnt)
  rw [hmq] at HX HQ0 HG0 HU ⊢
  clear hq hmq
  go_enter Try.func36, Try.ntmps36
  go_wp2_with (first | ((with_reducible refine wpList_loadR HAG.out HX.out rfl _ rfl ?_ ?_); (go_simp <;> fail); go_simp) | (go_at_call 74; (with_reducible refine (HU.out _).mono ?_); rintro e w1 ⟨rfl, hb1⟩; have HB1 := Lib.hid hb1; clear hb1))
  go_ret
  exact ⟨_, rfl, HG0.out.trans (G2.of_below HB1.out), C, Row.below' HQ0.out HB1.out, Nat.le_refl _, by omega⟩
set_option maxRecDepth 20000 in
set_option maxHeartbeats 3200000 in
theorem cnt_pow (q C K : Nat) (x : Int) (w : World) (hq : Cnt w q C) (h1 : 1 ≤ K) (hK : (K : Int) ≤ 9223372036854775807) (hC : C ≤ 1000000000) :
    Calls Try.prog 36 #[.agg (mc q), .int .i64 x, .int .i64 K] w (RetC q C 128 w) := by
  have hlog : K.log2 < 63 := (Nat.log2_lt (by omega)).2 (by omega)
  obtain ⟨b, hb⟩ : ∃ b, b = K.log2 := ⟨_, rfl⟩
  have HBL := Lib.hid hb
  rw [← hb] at hlog
  have hqs := hq.lt
  have HX := Lib.hid (Row.new w 74 (mc q))
  have HQ0 := Lib.hid (show Cnt (w.alloc (.cells (mc q) 74)) q C from hq.alloc _)
  have HG0 := Lib.hid (G2.of_below (g := q) (q := q) ((Below.refl w.heap.size w).alloc (Nat.le_refl _) (.cells (mc q) 74)))
  have HJ := Lib.hid (cntJoin q)
  have hm1 := cnt_method q
  obtain ⟨mq, hmq⟩ : ∃ mq, mc q = mq := ⟨_, rfl⟩
  have HAG := Lib.hid (show AggT 74 mq.size by rw [← hmq]; exact aggCnt)
  rw [hmq] at HX HQ0 HG0 HJ hm1 ⊢
  clear hq hmq hb
  have hsq : w.heap.size ≠ q := by omega
  go_enter Try.func36, Try.ntmps36
  go_wp2_with fail
  obtain ⟨w1, hw1⟩ : ∃ w1, w1 = w.alloc (.cells mq 74) := ⟨_, rfl⟩
  rw [← hw1] at HX HQ0 HG0 ⊢
  clear hw1
  go_loopw [1, 2] (fun a i wr => ∃ (k : Nat) (E : Int) (C1 : Nat), 1 ≤ k ∧ k ≤ K ∧ i = .int .i64 k ∧ a = .int .i64 E ∧ Hid (G2 q q w1 wr) ∧ Hid (Cnt wr q C1) ∧ C ≤ C1 ∧ Hid (C1 + 2 * k.log2 ≤ C + 2 * b) ∧ C1 ≤ C + 2 * b) (fun _ i _ => (intOf i).toNat)
  case atStart => exact ⟨K, x, C, h1, Nat.le_refl _, rfl, rfl, Lib.hid (G2.refl _ _ _), HQ0, Nat.le_refl _, Lib.hid (by rw [HBL.out]; omega), by omega⟩
  case round =>
    obtain ⟨k, E, C1, hk, hkK, rfl, rfl, HG, HQ, hC1, HCL, hC2⟩ := hrel
    have HX1 := Lib.hid (HX.out.g2 HG.out hsq hsq)
    have hc1b1 : C1 ≤ 4611686018427387904 := by omega
    by_cases he : k % 2 = 0
    · have he' : ((k : Int) % 2 == 0) = true := by simp; omega
      have HL := Lib.hid (log_half (k := k) (by omega))
      have A1 := Lib.hid (show 1 ≤ k / 2 ∧ k / 2 ≤ K by omega)
      clear he
      go_wp2_with (first | ((with_reducible refine wpList_loadR HAG.out HX1.out rfl _ rfl ?_ ?_); (go_simp <;> fail); go_simp) | (go_at_call 73; (with_reducible refine (HJ.out C1 E E wr HQ.out hc1b1).mono ?_); rintro e w12 ⟨rfl, hg2, hq2⟩; have HG12 := Lib.hid hg2; have HQ12 := Lib.hid hq2; have HX12 := Lib.hid (HX1.out.g2 HG12.out hsq hsq); clear hg2 hq2))
      go_roundw
      case rel => exact ⟨k / 2, _, C1 + 1, A1.out.1, A1.out.2, by go_num, rfl, Lib.hid (HG.out.trans HG12.out), HQ12, by omega, Lib.hid (by have := HL.out; have := HCL.out; omega), by have := HL.out; have := HCL.out; omega⟩
      case measure => simp [intOf]; try omega
    · have he' : ((k : Int) % 2 == 0) = false := by simp; omega
      clear he
      go_wp2_with fail
      go_loopw [1, 2, 7] (fun a i r wr => ∃ (k : Nat) (E F : Int) (C1 : Nat), 1 ≤ k ∧ k ≤ K ∧ i = .int .i64 k ∧ a = .int .i64 E ∧ r = .int .i64 F ∧ Hid (G2 q q w1 wr) ∧ Hid (Cnt wr q C1) ∧ C ≤ C1 ∧ Hid (C1 + 2 * k.log2 ≤ C + 2 * b) ∧ C1 ≤ C + 2 * b) (fun _ i _ _ => (intOf i).toNat)
      case atStart => exact ⟨k, E, E, C1, hk, hkK, rfl, rfl, rfl, HG, HQ, hC1, HCL, hC2⟩
      case round =>
        clear HX1 hk hkK HG HQ hC1 HCL hC2 hc1b1 he'
        obtain ⟨k, E, F, C1, hk, hkK, rfl, rfl, rfl, HG, HQ, hC1, HCL, hC2⟩ := hrel
        have HX1 := Lib.hid (HX.out.g2 HG.out hsq hsq)
        have hc1b1 : C1 ≤ 4611686018427387904 := by omega
        have hc1b2 : C1 + 1 ≤ 4611686018427387904 := by omega
        by_cases h2 : 2 ≤ k
        · have HL := Lib.hid (log_half h2)
          have A1 := Lib.hid (show 1 ≤ k / 2 ∧ k / 2 ≤ K by omega)
          by_cases he : k / 2 % 2 = 1
          · have he' : ((k : Int) / 2 % 2 == 1) = true := by simp; omega
            clear he
            go_wp2_with (first | ((with_reducible refine wpList_loadR HAG.out HX1.out rfl _ rfl ?_ ?_); (go_simp <;> fail); go_simp) | ((with_reducible refine wpList_loadR HAG.out HX12.out rfl _ rfl ?_ ?_); (go_simp <;> fail); go_simp) | (go_at_call 73; (with_reducible refine (HJ.out C1 E E wr HQ.out hc1b1).mono ?_); rintro e w12 ⟨rfl, hg2, hq2⟩; have HG12 := Lib.hid hg2; have HQ12 := Lib.hid hq2; have HX12 := Lib.hid (HX1.out.g2 HG12.out hsq hsq); clear hg2 hq2) | (go_at_call 73; (with_reducible refine (HJ.out (C1 + 1) F _ w12 HQ12.out hc1b2).mono ?_); rintro e w22 ⟨rfl, hg2, hq2⟩; have HG22 := Lib.hid hg2; have HQ22 := Lib.hid hq2; have HX22 := Lib.hid (HX12.out.g2 HG22.out hsq hsq); clear hg2 hq2))
            go_roundw
            case rel => exact ⟨k / 2, _, _, C1 + 1 + 1, A1.out.1, A1.out.2, by go_num, rfl, rfl, Lib.hid ((HG.out.trans HG12.out).trans HG22.out), HQ22, by omega, Lib.hid (by have := HL.out; have := HCL.out; omega), by have := HL.out; have := HCL.out; omega⟩
            case measure => simp [intOf]; try omega
          · have he' : ((k : Int) / 2 % 2 == 1) = false := by simp; omega
            clear he
            go_wp2_with (first | ((with_reducible refine wpList_loadR HAG.out HX1.out rfl _ rfl ?_ ?_); (go_simp <;> fail); go_simp) | (go_at_call 73; (with_reducible refine (HJ.out C1 E E wr HQ.out hc1b1).mono ?_); rintro e w12 ⟨rfl, hg2, hq2⟩; have HG12 := Lib.hid hg2; have HQ12 := Lib.hid hq2; have HX12 := Lib.hid (HX1.out.g2 HG12.out hsq hsq); clear hg2 hq2))
            go_roundw
            case rel => exact ⟨k / 2, _, _, C1 + 1, A1.out.1, A1.out.2, by go_num, rfl, rfl, Lib.hid (HG.out.trans HG12.out), HQ12, by omega, Lib.hid (by have := HL.out; have := HCL.out; omega), by have := HL.out; have := HCL.out; omega⟩
            case measure => simp [intOf]; try omega
        · obtain rfl : k = 1 := by omega
          go_wp2
          go_ret
          exact ⟨_, rfl, HG0.out.trans HG.out, C1, HQ.out, hC1, by omega⟩
end Go.Proofs.Ytbiecpejpkgngaa
