/-
  MonoidCalls: foldEnds and joinBeginnings over the counting monoid.
-/
import Derived.Test.YtbiecpejpkgngaaMoCnt
namespace Go.Proofs.Ytbiecpejpkgngaa
open Go.RowKit
/-- Integers have been written into block g, and at most d joins have been counted. -/
def WroteC (g q C d size : Nat) (w : World) (e : Ending) (w' : World) : Prop :=
  e = .returned (.tuple #[]) ∧ G2 g q w w' ∧ ∃ c' C', Row w' g 3 c' ∧ c'.size = size ∧ AllI c' ∧ Cnt w' q C' ∧ C ≤ C' ∧ C' ≤ C + d
set_option maxRecDepth 20000 in
set_option maxHeartbeats 1600000 in
theorem cnt_ends (B g q off C : Nat) (c : Array Value) (A : Option Addr) (nb cb nr cr : Nat) (z : Nat → Int) (w : World)
    (hB : B ≤ g) (hBq : B ≤ q) (hBw : B ≤ w.heap.size) (hgq : g ≠ q) (hz : Rd B w A nb fun k => .int .i64 (z k)) (hr : Row w g 3 c) (hI : AllI c) (hq : Cnt w q C) (h1 : 1 ≤ nb) (hnb : nb ≤ 100000) (hnr : nr ≤ nb) (hc : off + nr ≤ c.size) (hC : C ≤ 1000000000) :
    Calls Try.prog 44 #[.agg (mc q), .slice A nb cb, .slice (some ⟨g, off, none⟩) nr cr] w (WroteC g q C (nb - 1) c.size w) := by
  obtain ⟨b, o, rfl, hlt, hcell⟩ := hz.some (k := 0) (by omega)
  have hg := hr.lt
  have hqs := hq.lt
  have HC := Lib.hid (fun (u : World) (hb : Below B w u) k (hk : k < nb) => (hb.cell (p := ⟨b, o + k, none⟩) hlt).trans (hcell k hk))
  have HR1 := Lib.hid (hr.alloc (.cells (mc q) 74))
  have HQ1 := Lib.hid (show Cnt (w.alloc (.cells (mc q) 74)) q C from hq.alloc _)
  have HX := Lib.hid (Row.new w 74 (mc q))
  have HG0 := Lib.hid (G2.of_below (g := g) (q := q) ((Below.refl w.heap.size w).alloc (Nat.le_refl _) (.cells (mc q) 74)))
  have HI := Lib.hid hI
  have c0 := HC.out _ ((Below.refl _ _).alloc hBw (.cells (mc q) 74)) (nb - 1) (by omega)
  have hsub : (nb : Int) - 1 = ((nb - 1 : Nat) : Int) := by omega
  obtain ⟨mq, hmq⟩ : ∃ mq, mc q = mq := ⟨_, rfl⟩
  have HMQ := Lib.hid hmq
  have HAG := Lib.hid (show AggT 74 mq.size by rw [← hmq]; exact aggCnt)
  rw [hmq] at HR1 HQ1 HX HG0 c0 ⊢
  clear hz hcell hr hq hI hmq
  go_enter Try.func44, Try.ntmps44
  go_wp2_with fail
  obtain ⟨w1, hw1⟩ : ∃ w1, w1 = w.alloc (.cells mq 74) := ⟨_, rfl⟩
  rw [← hw1] at HX HG0 HR1 HQ1 ⊢
  clear hw1 c0 hsub
  go_loopw [7, 8] (fun e i wr => ∃ (k : Nat) (E : Int), k ≤ nb ∧ i = .int .i64 ((k : Int) - 1) ∧ e = .int .i64 E ∧ Hid (G2 g q w1 wr) ∧ ∃ c1 C1, Hid (Row wr g 3 c1) ∧ Hid (c1.size = c.size) ∧ Hid (AllI c1) ∧ Hid (Cnt wr q C1) ∧ C ≤ C1 ∧ C1 ≤ C + (nb - 1 - min k (nb - 1))) (fun _ i _ => (intOf i + 1).toNat)
  case atStart => exact ⟨nb, z (nb - 1), Nat.le_refl _, by congr 1; omega, rfl, Lib.hid (G2.refl _ _ _), c, C, HR1, Lib.hid rfl, HI, HQ1, Nat.le_refl _, by omega⟩
  case round =>
    obtain ⟨k, E, hk, hi, rfl, HG, c1, C1, HR, HSz, HAI, HQ, hC1, hC2⟩ := hrel
    rcases k with _ | k
    · obtain rfl : u8 = .int .i64 (-1) := by rw [hi]; rfl
      go_wp2
      refine bodyPost_end (results_none rfl _ _ _) rfl ⟨rfl, HG0.out.trans HG.out, c1, C1, HR.out, HSz.out, HAI.out, HQ.out, hC1, by omega⟩
    · obtain rfl : u8 = .int .i64 k := by rw [hi]; congr 1; omega
      have HX1 := Lib.hid (HX.out.g2 HG.out (by omega) (by omega))
      have hsq : w.heap.size ≠ q := by omega
      clear hi
      by_cases hkn : k + 1 < nb
      · have hm1 := cnt_method q
        rw [HMQ.out] at hm1
        obtain ⟨x, hx⟩ : ∃ x, z k = x := ⟨_, rfl⟩
        have hck : ∀ u, (gr q q wr u).cell? ⟨b, o + k, none⟩ = some (.int .i64 x) := fun u => by
          rw [← hx]
          exact HC.out _ ((HG0.out.trans HG.out).trans ((g2_gr q q wr u).wide g) |>.below hB hBq hBw) k (by omega)
        have HJ := Lib.hid (cntJoin q C1 x E)
        have hc1b : C1 ≤ 4611686018427387904 := by omega
        rw [HMQ.out] at HJ
        clear hx
        go_wp2
        refine wp_region_mix (S := fun w' => ∃ u, w' = gr q q wr u) (f := 2) [0, 1, 2, 3, 4, 5, 6] (by kernel_rfl) (by kernel_rfl) (by kernel_rfl) (fun c a d v w h => by cases d <;> exact h) ⟨_, (gr_of (G2.of_below (Below.refl wr.heap.size wr).drew)).symm⟩ (by kernel_rfl) ?_
        simp only [pickL, List.flatMap_cons, List.flatMap_nil, List.drop_succ_cons, List.drop_zero, List.take_succ_cons, List.take_zero, List.append_nil, List.cons_append, List.nil_append]
        repeat (first | go_big_quiet_skip | (go_big_quiet_want; first | (with_reducible refine quiet_loadG HAG.out HX1.out hsq hsq _ rfl ?_ ?_; (go_simp <;> fail); go_simp; go_big_quiet_on) | (go_big_quiet_op; go_big_quiet_on)))
        refine wpQuiet_nil ?_
        refine wpAnyH_one (i := 7) (by kernel_rfl) ?_
        refine wpOp_enter (f := 73) (args := #[.agg mq, .int .i64 x, .int .i64 E]) 31 rfl rfl (by kernel_rfl) (by go_simp) (HJ.out wr.drew HQ.out hc1b) ?_
        rintro w4 ⟨hg4, hq4⟩
        have HGr := Lib.hid (show G2 q q wr w4 from (G2.of_below (Below.refl wr.heap.size wr).drew).trans hg4)
        have HGv := Lib.hid (HG.out.trans (HGr.out.wide g))
        have HRv := Lib.hid (HR.out.g2 HGr.out hgq hgq)
        have HQv := Lib.hid hq4
        clear hg4 hq4 hck hm1
        refine ⟨⟨_, (gr_of HGr.out).symm⟩, ?_⟩
        refine wpAnyH_seg (f := 0) (by kernel_rfl) (fun c a d v w h => by cases d <;> exact h) ⟨_, (gr_of HGr.out).symm⟩ [8] _ _ (by kernel_rfl) ?_
        simp only [pickL, List.flatMap_cons, List.flatMap_nil, List.drop_succ_cons, List.drop_zero, List.take_succ_cons, List.take_zero, List.append_nil, List.cons_append, List.nil_append]
        simp only [Act.put, List.setIfInBounds_toArray, List.set_cons_succ, List.set_cons_zero]
        repeat (first | go_big_quiet_skip | (go_big_quiet_want; first | (with_reducible refine quiet_loadG HAG.out HX1.out hsq hsq _ rfl ?_ ?_; (go_simp <;> fail); go_simp; go_big_quiet_on) | (go_big_quiet_op; go_big_quiet_on)))
        refine wpQuiet_nil ?_
        refine wpAnyH_done (by kernel_rfl) ?_ _
        by_cases hkr : k < nr
        · obtain ⟨v0, hv0⟩ : ∃ v0, c1[off + k]? = some v0 := ⟨_, Array.getElem?_eq_getElem (by have := HSz.out; omega)⟩
          have hcell := (HRv.out.cell (off + k)).trans hv0
          have hfr := HRv.out.frozen (off + k)
          clear hv0
          go_wp2
          go_roundw
          case rel => exact ⟨k, (wrap64 (x + E)), by omega, rfl, rfl, Lib.hid (HGv.out.setCell (.inl rfl) _), _, (C1 + 1), Lib.hid (HRv.out.set (off + k) _), Lib.hid (by have := HSz.out; simpa using this), Lib.hid (HAI.out.set _ _), Lib.hid (Row.far HQv.out (fun e => hgq e.symm) _), by omega, by omega⟩
          case measure => simp [intOf]; try omega
        · go_wp2
          go_roundw
          case rel => exact ⟨k, (wrap64 (x + E)), by omega, rfl, rfl, HGv, _, (C1 + 1), HRv, HSz, HAI, HQv, by omega, by omega⟩
          case measure => simp [intOf]; try omega
      · have hl : ¬ k < nb - 1 := by omega
        by_cases hkr : k < nr
        · obtain ⟨v0, hv0⟩ : ∃ v0, c1[off + k]? = some v0 := ⟨_, Array.getElem?_eq_getElem (by have := HSz.out; omega)⟩
          have hcell := (HR.out.cell (off + k)).trans hv0
          have hfr := HR.out.frozen (off + k)
          clear hv0
          go_wp2
          go_roundw
          case rel => exact ⟨k, E, by omega, rfl, rfl, Lib.hid (HG.out.setCell (.inl rfl) _), _, C1, Lib.hid (HR.out.set (off + k) _), Lib.hid (by have := HSz.out; simpa using this), Lib.hid (HAI.out.set _ _), Lib.hid (Row.far HQ.out (fun e => hgq e.symm) _), by omega, by omega⟩
          case measure => simp [intOf]; try omega
        · go_wp2
          go_roundw
          case rel => exact ⟨k, E, by omega, rfl, rfl, HG, _, C1, HR, HSz, HAI, HQ, by omega, by omega⟩
          case measure => simp [intOf]; try omega

set_option maxRecDepth 20000 in
set_option maxHeartbeats 1600000 in
theorem cnt_begs (B g q off C : Nat) (c : Array Value) (A R : Option Addr) (nl cl nr cr : Nat) (z : Nat → Int) (w : World)
    (hB : B ≤ g) (hBq : B ≤ q) (hBw : B ≤ w.heap.size) (hgq : g ≠ q) (hz : Rd B w A nl fun k => .int .i64 (z k)) (hr : Row w g 3 c) (hI : AllI c) (hq : Cnt w q C) (hnl : nl ≤ 100000) (hnr : nr ≤ nl) (hR : nr = 0 ∨ R = some ⟨g, off, none⟩) (hc : off + nr ≤ c.size) (hC : C ≤ 1000000000) :
    Calls Try.prog 45 #[.agg (mc q), .slice A nl cl, .slice R nr cr] w (WroteC g q C (2 * nr) c.size w) := by
  have hg := hr.lt
  have hqs := hq.lt
  have HZ := Lib.hid hz
  have HRR := Lib.hid hR
  have HR1 := Lib.hid (hr.alloc (.cells (mc q) 74))
  have HQ1 := Lib.hid (show Cnt (w.alloc (.cells (mc q) 74)) q C from hq.alloc _)
  have HX := Lib.hid (Row.new w 74 (mc q))
  have HG0 := Lib.hid (G2.of_below (g := g) (q := q) ((Below.refl w.heap.size w).alloc (Nat.le_refl _) (.cells (mc q) 74)))
  have HI := Lib.hid hI
  obtain ⟨mq, hmq⟩ : ∃ mq, mc q = mq := ⟨_, rfl⟩
  have HMQ := Lib.hid hmq
  have HAG := Lib.hid (show AggT 74 mq.size by rw [← hmq]; exact aggCnt)
  rw [hmq] at HR1 HQ1 HX HG0 ⊢
  clear hz hr hq hI hmq hR
  go_enter Try.func45, Try.ntmps45
  go_wp2_with fail
  obtain ⟨w1, hw1⟩ : ∃ w1, w1 = w.alloc (.cells mq 74) := ⟨_, rfl⟩
  rw [← hw1] at HX HG0 HR1 HQ1 ⊢
  clear hw1
  go_loopw [6, 10] (fun e i wr => ∃ (k : Nat) (E : Int), k ≤ nr ∧ i = .int .i64 k ∧ e = .int .i64 E ∧ Hid (G2 g q w1 wr) ∧ ∃ c1 C1, Hid (Row wr g 3 c1) ∧ Hid (c1.size = c.size) ∧ Hid (AllI c1) ∧ Hid (Cnt wr q C1) ∧ C ≤ C1 ∧ C1 ≤ C + 2 * k) (fun _ i _ => nr - (intOf i).toNat)
  case atStart => exact ⟨0, 0, Nat.zero_le _, rfl, rfl, Lib.hid (G2.refl _ _ _), c, C, HR1, Lib.hid rfl, HI, HQ1, Nat.le_refl _, by omega⟩
  case round =>
    obtain ⟨k, E, hk, rfl, rfl, HG, c1, C1, HR, HSz, HAI, HQ, hC1, hC2⟩ := hrel
    by_cases hlt : k < nr
    · obtain rfl : R = some ⟨g, off, none⟩ := HRR.out.resolve_left (by omega)
      obtain ⟨b, o, rfl, hbB, hcell⟩ := HZ.out.some (k := 0) (by omega)
      have hsq : w.heap.size ≠ q := by omega
      have HX1 := Lib.hid (HX.out.g2 HG.out (by omega) hsq)
      have HC := Lib.hid (fun (u : World) (hb : Below B w u) k (hk : k < nl) => (hb.cell (p := ⟨b, o + k, none⟩) hbB).trans (hcell k hk))
      have hm1 := cnt_method q
      rw [HMQ.out] at hm1
      obtain ⟨y, hy⟩ : ∃ y : Int, c1[off + k]? = some (.int .i64 y) := HAI.out _ (by have := HSz.out; omega)
      have HY := Lib.hid hy
      clear hcell hy
      by_cases hk0 : k = 0
      · have hcl : wr.cell? ⟨b, o, none⟩ = some (.int .i64 (z 0)) := HC.out _ ((HG0.out.trans HG.out).below hB hBq hBw) 0 (by omega)
        obtain ⟨F, hF⟩ : ∃ F, z 0 = F := ⟨_, rfl⟩
        rw [hF] at hcl
        have ht : ((k : Int) == 0) = true := by rw [hk0]; rfl
        have HGv := HG
        have HRv := HR
        have HQv := HQ
        have HXv := HX1
        obtain ⟨C2, hC2'⟩ : ∃ C2, C2 = C1 := ⟨_, rfl⟩
        rw [← hC2'] at HQv
        have hC3 : C2 ≤ C + 2 * k + 1 := by omega
        have hC4 : C ≤ C2 := by omega
        clear hF hk0 hC2'
        have hcr : (wr).drew.cell? ⟨g, off + k, none⟩ = some (.int .i64 y) := (HRv.out.drew.cell (off + k)).trans HY.out
        have HJ2 := Lib.hid (cntJoin q C2 y F)
        have hc2b : C2 ≤ 4611686018427387904 := by omega
        have hsg : w.heap.size ≠ g := by omega
        have hDR := Lib.hid (G2.of_below (g := g) (q := q) (Below.refl (wr).heap.size wr).drew)
        rw [HMQ.out] at HJ2
        go_wp2_with fail
        refine wp_region_mix (S := fun w' => ∃ u, w' = gr g q wr u) (f := 4) [0, 1, 2, 3, 4, 5, 6, 8] (by kernel_rfl) (by kernel_rfl) (by kernel_rfl) (fun c a d v w h => by cases d <;> exact h) ⟨_, (gr_of hDR.out).symm⟩ (by kernel_rfl) ?_
        simp only [pickL, List.flatMap_cons, List.flatMap_nil, List.drop_succ_cons, List.drop_zero, List.take_succ_cons, List.take_zero, List.append_nil, List.cons_append, List.nil_append]
        repeat (first | go_big_quiet_skip | (go_big_quiet_want; first | (with_reducible refine quiet_loadG HAG.out HXv.out hsg hsq _ rfl ?_ ?_; (go_simp <;> fail); go_simp; go_big_quiet_on) | (go_big_quiet_op; go_big_quiet_on)))
        refine wpQuiet_nil ?_
        refine wpAnyH_one (i := 7) (by kernel_rfl) ?_
        refine wpOp_val (v := .int .i64 y) (w' := (wr).drew) 33 rfl rfl (by kernel_rfl) (by go_simp) ?_
        refine ⟨⟨_, (gr_of hDR.out).symm⟩, ?_⟩
        simp only [Act.put, List.setIfInBounds_toArray, List.set_cons_succ, List.set_cons_zero]
        refine wpAnyH_one (i := 9) (by kernel_rfl) ?_
        refine wpOp_enter (f := 73) (args := #[.agg mq, .int .i64 y, .int .i64 F]) 35 rfl rfl (by kernel_rfl) (by go_simp) (HJ2.out (wr).drew HQv.out hc2b) ?_
        rintro w5 ⟨hg5, hq5⟩
        have HGs := Lib.hid (show G2 q q wr w5 from (G2.of_below (Below.refl (wr).heap.size wr).drew).trans hg5)
        have HGw := Lib.hid (HGv.out.trans (HGs.out.wide g))
        have HRw := Lib.hid (HRv.out.g2 HGs.out hgq hgq)
        have HQw := Lib.hid hq5
        clear hg5 hq5 hcr
        refine ⟨⟨_, (gr_of (HGs.out.wide g)).symm⟩, ?_⟩
        have hcell := (HRw.out.cell (off + k)).trans HY.out
        have hfr := HRw.out.frozen (off + k)
        refine wpAnyH_seg (f := 1) (by kernel_rfl) (fun c a d v w h => by cases d <;> exact h) ⟨_, (gr_of (HGs.out.wide g)).symm⟩ [10] _ _ (by kernel_rfl) ?_
        simp only [pickL, List.flatMap_cons, List.flatMap_nil, List.drop_succ_cons, List.drop_zero, List.take_succ_cons, List.take_zero, List.append_nil, List.cons_append, List.nil_append]
        simp only [Act.put, List.setIfInBounds_toArray, List.set_cons_succ, List.set_cons_zero]
        repeat (first | go_big_quiet_skip | (go_big_quiet_want; first | (with_reducible refine quiet_loadG HAG.out HXv.out hsg hsq _ rfl ?_ ?_; (go_simp <;> fail); go_simp; go_big_quiet_on) | (go_big_quiet_op; go_big_quiet_on)))
        refine wpQuiet_nil ?_
        refine wpAnyH_one (i := 11) (by kernel_rfl) ?_
        refine wpOp_skip' (w' := w5.setCell ⟨g, off + k, none⟩ (.int .i64 (wrap64 (y + F)))) rfl rfl (by kernel_rfl) (by go_simp) ?_
        refine ⟨⟨_, (gr_of ((HGs.out.wide g).setCell (.inl rfl) _)).symm⟩, ?_⟩
        refine wpAnyH_done (by kernel_rfl) ?_ _
        clear hcell hfr hm1
        go_wp2
        go_roundw
        case rel => exact ⟨k + 1, F, by omega, by go_num, rfl, Lib.hid (HGw.out.setCell (.inl rfl) _), _, C2 + 1, Lib.hid (HRw.out.set (off + k) _), Lib.hid (by have := HSz.out; simpa using this), Lib.hid (HAI.out.set _ _), Lib.hid (Row.far HQw.out (fun e => hgq e.symm) _), by omega, by omega⟩
        case measure => simp [intOf]; try omega
      · have ht : ((k : Int) == 0) = false := by simp; omega
        obtain ⟨x, hx⟩ : ∃ x, z k = x := ⟨_, rfl⟩
        have hck : ∀ u, (gr q q wr u).cell? ⟨b, o + k, none⟩ = some (.int .i64 x) := fun u => by
          rw [← hx]
          exact HC.out _ ((HG0.out.trans HG.out).trans ((g2_gr q q wr u).wide g) |>.below hB hBq hBw) k (by omega)
        have HJ := Lib.hid (cntJoin q C1 E x)
        have hc1b : C1 ≤ 4611686018427387904 := by omega
        rw [HMQ.out] at HJ
        clear hx
        go_wp2
        refine wp_region_mix (S := fun w' => ∃ u, w' = gr q q wr u) (f := 2) [0, 1, 2, 3, 4, 5, 6] (by kernel_rfl) (by kernel_rfl) (by kernel_rfl) (fun c a d v w h => by cases d <;> exact h) ⟨_, (gr_of (G2.of_below (Below.refl wr.heap.size wr).drew)).symm⟩ (by kernel_rfl) ?_
        simp only [pickL, List.flatMap_cons, List.flatMap_nil, List.drop_succ_cons, List.drop_zero, List.take_succ_cons, List.take_zero, List.append_nil, List.cons_append, List.nil_append]
        repeat (first | go_big_quiet_skip | (go_big_quiet_want; first | (with_reducible refine quiet_loadG HAG.out HX1.out hsq hsq _ rfl ?_ ?_; (go_simp <;> fail); go_simp; go_big_quiet_on) | (go_big_quiet_op; go_big_quiet_on)))
        refine wpQuiet_nil ?_
        refine wpAnyH_one (i := 7) (by kernel_rfl) ?_
        refine wpOp_enter (f := 73) (args := #[.agg mq, .int .i64 E, .int .i64 x]) 25 rfl rfl (by kernel_rfl) (by go_simp) (HJ.out wr.drew HQ.out hc1b) ?_
        rintro w4 ⟨hg4, hq4⟩
        have HGr := Lib.hid (show G2 q q wr w4 from (G2.of_below (Below.refl wr.heap.size wr).drew).trans hg4)
        have HGv := Lib.hid (HG.out.trans (HGr.out.wide g))
        have HRv := Lib.hid (HR.out.g2 HGr.out hgq hgq)
        have HQv := Lib.hid hq4
        have HXv := Lib.hid (HX1.out.g2 HGr.out hsq hsq)
        clear hg4 hq4 hck
        refine ⟨⟨_, (gr_of HGr.out).symm⟩, ?_⟩
        refine wpAnyH_seg (f := 0) (by kernel_rfl) (fun c a d v w h => by cases d <;> exact h) ⟨_, (gr_of HGr.out).symm⟩ [8] _ _ (by kernel_rfl) ?_
        simp only [pickL, List.flatMap_cons, List.flatMap_nil, List.drop_succ_cons, List.drop_zero, List.take_succ_cons, List.take_zero, List.append_nil, List.cons_append, List.nil_append]
        simp only [Act.put, List.setIfInBounds_toArray, List.set_cons_succ, List.set_cons_zero]
        repeat (first | go_big_quiet_skip | (go_big_quiet_want; first | (with_reducible refine quiet_loadG HAG.out HX1.out hsq hsq _ rfl ?_ ?_; (go_simp <;> fail); go_simp; go_big_quiet_on) | (go_big_quiet_op; go_big_quiet_on)))
        refine wpQuiet_nil ?_
        refine wpAnyH_done (by kernel_rfl) ?_ _
        obtain ⟨C2, hC2'⟩ : ∃ C2, C2 = C1 + 1 := ⟨_, rfl⟩
        rw [← hC2'] at HQv
        obtain ⟨F, hF⟩ : ∃ F, wrap64 (E + x) = F := ⟨_, rfl⟩
        rw [hF]
        have hC3 : C2 ≤ C + 2 * k + 1 := by omega
        have hC4 : C ≤ C2 := by omega
        clear hF hC2' HJ
        have hcr : (w4).drew.cell? ⟨g, off + k, none⟩ = some (.int .i64 y) := (HRv.out.drew.cell (off + k)).trans HY.out
        have HJ2 := Lib.hid (cntJoin q C2 y F)
        have hc2b : C2 ≤ 4611686018427387904 := by omega
        have hsg : w.heap.size ≠ g := by omega
        have hDR := Lib.hid (G2.of_below (g := g) (q := q) (Below.refl (w4).heap.size w4).drew)
        rw [HMQ.out] at HJ2
        go_wp2_with fail
        refine wp_region_mix (S := fun w' => ∃ u, w' = gr g q w4 u) (f := 4) [0, 1, 2, 3, 4, 5, 6, 8] (by kernel_rfl) (by kernel_rfl) (by kernel_rfl) (fun c a d v w h => by cases d <;> exact h) ⟨_, (gr_of hDR.out).symm⟩ (by kernel_rfl) ?_
        simp only [pickL, List.flatMap_cons, List.flatMap_nil, List.drop_succ_cons, List.drop_zero, List.take_succ_cons, List.take_zero, List.append_nil, List.cons_append, List.nil_append]
        repeat (first | go_big_quiet_skip | (go_big_quiet_want; first | (with_reducible refine quiet_loadG HAG.out HXv.out hsg hsq _ rfl ?_ ?_; (go_simp <;> fail); go_simp; go_big_quiet_on) | (go_big_quiet_op; go_big_quiet_on)))
        refine wpQuiet_nil ?_
        refine wpAnyH_one (i := 7) (by kernel_rfl) ?_
        refine wpOp_val (v := .int .i64 y) (w' := (w4).drew) 33 rfl rfl (by kernel_rfl) (by go_simp) ?_
        refine ⟨⟨_, (gr_of hDR.out).symm⟩, ?_⟩
        simp only [Act.put, List.setIfInBounds_toArray, List.set_cons_succ, List.set_cons_zero]
        refine wpAnyH_one (i := 9) (by kernel_rfl) ?_
        refine wpOp_enter (f := 73) (args := #[.agg mq, .int .i64 y, .int .i64 F]) 35 rfl rfl (by kernel_rfl) (by go_simp) (HJ2.out (w4).drew HQv.out hc2b) ?_
        rintro w5 ⟨hg5, hq5⟩
        have HGs := Lib.hid (show G2 q q w4 w5 from (G2.of_below (Below.refl (w4).heap.size w4).drew).trans hg5)
        have HGw := Lib.hid (HGv.out.trans (HGs.out.wide g))
        have HRw := Lib.hid (HRv.out.g2 HGs.out hgq hgq)
        have HQw := Lib.hid hq5
        clear hg5 hq5 hcr
        refine ⟨⟨_, (gr_of (HGs.out.wide g)).symm⟩, ?_⟩
        have hcell := (HRw.out.cell (off + k)).trans HY.out
        have hfr := HRw.out.frozen (off + k)
        refine wpAnyH_seg (f := 1) (by kernel_rfl) (fun c a d v w h => by cases d <;> exact h) ⟨_, (gr_of (HGs.out.wide g)).symm⟩ [10] _ _ (by kernel_rfl) ?_
        simp only [pickL, List.flatMap_cons, List.flatMap_nil, List.drop_succ_cons, List.drop_zero, List.take_succ_cons, List.take_zero, List.append_nil, List.cons_append, List.nil_append]
        simp only [Act.put, List.setIfInBounds_toArray, List.set_cons_succ, List.set_cons_zero]
        repeat (first | go_big_quiet_skip | (go_big_quiet_want; first | (with_reducible refine quiet_loadG HAG.out HXv.out hsg hsq _ rfl ?_ ?_; (go_simp <;> fail); go_simp; go_big_quiet_on) | (go_big_quiet_op; go_big_quiet_on)))
        refine wpQuiet_nil ?_
        refine wpAnyH_one (i := 11) (by kernel_rfl) ?_
        refine wpOp_skip' (w' := w5.setCell ⟨g, off + k, none⟩ (.int .i64 (wrap64 (y + F)))) rfl rfl (by kernel_rfl) (by go_simp) ?_
        refine ⟨⟨_, (gr_of ((HGs.out.wide g).setCell (.inl rfl) _)).symm⟩, ?_⟩
        refine wpAnyH_done (by kernel_rfl) ?_ _
        clear hcell hfr hm1
        go_wp2
        go_roundw
        case rel => exact ⟨k + 1, F, by omega, by go_num, rfl, Lib.hid (HGw.out.setCell (.inl rfl) _), _, C2 + 1, Lib.hid (HRw.out.set (off + k) _), Lib.hid (by have := HSz.out; simpa using this), Lib.hid (HAI.out.set _ _), Lib.hid (Row.far HQw.out (fun e => hgq e.symm) _), by omega, by omega⟩
        case measure => simp [intOf]; try omega
    · obtain rfl : k = nr := by omega
      go_wp2
      refine bodyPost_end (results_none rfl _ _ _) rfl ⟨rfl, HG0.out.trans HG.out, c1, C1, HR.out, HSz.out, HAI.out, HQ.out, hC1, by omega⟩
end Go.Proofs.Ytbiecpejpkgngaa
