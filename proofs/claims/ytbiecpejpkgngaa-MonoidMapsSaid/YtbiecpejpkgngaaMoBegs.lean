/-
  Package monoid: joinBeginnings.
-/
import Derived.Test.YtbiecpejpkgngaaMoEnds
import Derived.Test.YtbiecpejpkgngaaRTail
namespace Go.Proofs.Ytbiecpejpkgngaa
open Go.RowKit

set_option maxHeartbeats 800000 in
theorem max_begs (B g off : Nat) (t : TypeId) (c : Array Value) (A R : Option Addr) (nl cl nr cr m : Nat) (z y : Nat → Int) (w : World)
    (hB : B ≤ g) (hBw : B ≤ w.heap.size) (hz : Rd B w A nl fun k => .int .i64 (z k)) (hr : Row w g t c) (hnl : nl ≤ 140737488355328) (hnr : nr ≤ nl) (hR : nr = 0 ∨ R = some ⟨g, off, none⟩) (hc : off + nr ≤ c.size)
    (hy : ∀ k, off ≤ k → k < off + nr → c[k]? = some (.int .i64 (y k)))
    (hs : ∀ k, (mMax).sz (z k) ≤ m) (hm : m * (nl + 1) ≤ 4611686018427387903) (ho : ∀ k d, d < nr → (mMax).sz (y k) + (mMax).sz (gl mMax z 0 d) ≤ 9223372036854775807) :
    Calls Try.prog 49 #[.agg #[], .slice A nl cl, .slice R nr cr] w
      (Wrote g t c off (off + nr) (fun k => .int .i64 ((mMax).j (y k) (gl mMax z 0 (k - off)))) w) := by
  have hg := hr.lt
  have HS := Lib.hid hs
  have HZ := Lib.hid hz
  have HM := Lib.hid hm
  have HO := Lib.hid ho
  have HY := Lib.hid hy
  have HR0 := Lib.hid (hr.alloc (.cells #[] 28))
  have below_w0 := Lib.hid (show Below B w (w.alloc (.cells #[] 28)) from (Below.refl _ _).alloc hBw _)
  have HG0 := Lib.hid (World.grownBy_alloc w (.cells #[] 28) (some g))
  have HX := Lib.hid (Row.new w 28 #[])
  have HRR := Lib.hid hR
  clear hz hs hm ho hy hr hR
  go_enter Try.func49, Try.ntmps49
  go_wp2_with fail
  obtain ⟨w1, hw1⟩ : ∃ w1, w1 = w.alloc (.cells #[] 28) := ⟨_, rfl⟩
  rw [← hw1] at HX HG0 below_w0 HR0 ⊢
  clear hw1
  go_loopw [6, 10] (fun b i wr => ∃ k : Nat, k ≤ nr ∧ i = .int .i64 k ∧ (0 < k → b = .int .i64 (gl mMax z 0 (k - 1))) ∧ Hid (w1.grownBy wr (some g)) ∧ ∃ c1, Hid (Row wr g t c1) ∧ Hid (Upd c c1 off (off + k) (fun k => .int .i64 ((mMax).j (y k) (gl mMax z 0 (k - off)))))) (fun _ i _ => nr - (intOf i).toNat)
  case atStart => exact ⟨0, Nat.zero_le _, rfl, fun h => absurd h (by omega), Lib.hid (World.grownBy.refl _ _), c, HR0, Lib.hid (Upd.none _ _ _ (by omega) _)⟩
  case round =>
    obtain ⟨k, hk, rfl, hb, HG, c1, HR1, HU⟩ := hrel
    by_cases hlt : k < nr
    · obtain rfl : R = some ⟨g, off, none⟩ := HRR.out.resolve_left (by omega)
      obtain ⟨b, o, rfl, hbB, hcell⟩ := HZ.out.some (k := 0) (by omega)
      have HC := Lib.hid (fun (u : World) (hb : Below B w u) k (hk : k < nl) => (hb.cell (p := ⟨b, o + k, none⟩) hbB).trans (hcell k hk))
      have HBw := Lib.hid (below_w0.out.grown HG.out (by have := below_w0.out.size; omega) (fun k h => by cases h; exact hB))
      clear hcell
      have HX1 := Lib.hid (HX.out.grown HG.out (by intro e; injection e with e; omega))
      have hm1 := max_method
      by_cases hk0 : k = 0
      · have hcl : wr.cell? ⟨b, o, none⟩ = some (.int .i64 (z 0)) := HC.out _ HBw.out 0 (by omega)
        obtain ⟨E, hE⟩ : ∃ E, E = gl mMax z 0 k := ⟨_, rfl⟩
        rw [show z 0 = E by rw [hE, hk0]; rfl] at hcl
        have HE := Lib.hid hE
        have ht : ((k : Int) == 0) = true := by rw [hk0]; rfl
        have HGv := HG
        have HRv := HR1
        have HXv := HX1
        clear hb hE hk0
        have HX2 := Lib.hid (HXv.out)
        have hcr : ∀ u, (later wr u).cell? ⟨g, off + k, none⟩ = some (.int .i64 (y (off + k))) := fun u => ((HRv.out.later u).cell (off + k)).trans ((HU.out.2.2 (off + k) (by omega)).trans (HY.out _ (by omega) (by omega)))
        have HJ2 := Lib.hid (fun u => maxJoin (y (off + k)) E u (by rw [HE.out]; exact HO.out _ _ hlt))
        go_wp2_with fail
        refine wp_region_tail 11 (by kernel_rfl) (by kernel_rfl) ?_
        simp only [List.take_succ_cons, List.take_zero, List.drop_succ_cons, List.drop_zero]
        repeat (first | go_big_quiet_skip | (go_big_quiet_want; first | (with_reducible refine quiet_loadR aggMax HX2.out _ rfl ?_ ?_; go_simp; go_simp; go_big_quiet_on) | (go_big_quiet_op; first | go_big_quiet_on | go_big_quiet_call (with_reducible exact calls_later (HJ2.out _)))))
        refine wpQuiet_nil ?_
        rintro w5 ⟨u2, rfl⟩
        have hcell := hcr u2
        have HRw := Lib.hid (HRv.out.later u2)
        have hfr := HRw.out.frozen (off + k)
        have HGw := Lib.hid (grown_below HGv.out (below_later wr u2))
        clear hcr hm1
        go_wp2
        go_roundw
        case rel => exact ⟨k + 1, by omega, by go_num, fun _ => by rw [HE.out]; rfl, Lib.hid (grown_set HGw.out rfl _), _, Lib.hid (HRw.out.set (off + k) _), Lib.hid (HU.out.up (by omega) (by omega) (by simp only [Nat.add_sub_cancel_left]; rw [HE.out]))⟩
        case measure => simp [intOf]; try omega
      · obtain ⟨E0, hE0⟩ : ∃ E0, E0 = gl mMax z 0 (k - 1) := ⟨_, rfl⟩
        have hb' := hb (by omega)
        rw [← hE0] at hb'
        subst hb'
        obtain ⟨E, hE⟩ : ∃ E, E = gl mMax z 0 k := ⟨_, rfl⟩
        have hj : (mMax).j E0 (z k) = E := by
          obtain ⟨d, rfl⟩ : ∃ d, k = d + 1 := ⟨k - 1, by omega⟩
          rw [hE0, hE, gl, Nat.zero_add, Nat.add_sub_cancel]
        have HE := Lib.hid hE
        have hck : ∀ u, (later wr u).cell? ⟨b, o + k, none⟩ = some (.int .i64 (z k)) := fun u => HC.out _ (HBw.out.trans ((below_later wr u).mono (Nat.le_trans hBw HBw.out.size))) _ (by omega)
        have HJ := Lib.hid (fun u => maxJoin E0 (z k) u (by rw [hE0]; exact gl_room (d' := 0) HS.out HM.out (by omega) (by omega) 0 k))
        rw [hj] at HJ
        have ht : ((k : Int) == 0) = false := by simp; omega
        clear hb hE0 hE hj
        go_wp2
        refine wp_region_later (by kernel_rfl) (by kernel_rfl) ?_
        repeat (first | go_big_quiet_skip | (go_big_quiet_want; first | (with_reducible refine quiet_loadR aggMax HX1.out _ rfl ?_ ?_; go_simp; go_simp; go_big_quiet_on) | (go_big_quiet_op; first | go_big_quiet_on | go_big_quiet_call (with_reducible exact calls_later (HJ.out _)))))
        refine wpQuiet_nil ?_
        rintro w4 ⟨u1, rfl⟩
        have HGv := Lib.hid (grown_below HG.out (below_later wr u1))
        have HRv := Lib.hid (HR1.out.later u1)
        have HXv := Lib.hid (HX1.out.later u1)
        clear hck HJ
        have HX2 := Lib.hid (HXv.out)
        have hcr : ∀ u, (later (later wr u1) u).cell? ⟨g, off + k, none⟩ = some (.int .i64 (y (off + k))) := fun u => ((HRv.out.later u).cell (off + k)).trans ((HU.out.2.2 (off + k) (by omega)).trans (HY.out _ (by omega) (by omega)))
        have HJ2 := Lib.hid (fun u => maxJoin (y (off + k)) E u (by rw [HE.out]; exact HO.out _ _ hlt))
        go_wp2_with fail
        refine wp_region_tail 11 (by kernel_rfl) (by kernel_rfl) ?_
        simp only [List.take_succ_cons, List.take_zero, List.drop_succ_cons, List.drop_zero]
        repeat (first | go_big_quiet_skip | (go_big_quiet_want; first | (with_reducible refine quiet_loadR aggMax HX2.out _ rfl ?_ ?_; go_simp; go_simp; go_big_quiet_on) | (go_big_quiet_op; first | go_big_quiet_on | go_big_quiet_call (with_reducible exact calls_later (HJ2.out _)))))
        refine wpQuiet_nil ?_
        rintro w5 ⟨u2, rfl⟩
        have hcell := hcr u2
        have HRw := Lib.hid (HRv.out.later u2)
        have hfr := HRw.out.frozen (off + k)
        have HGw := Lib.hid (grown_below HGv.out (below_later (later wr u1) u2))
        clear hcr hm1
        go_wp2
        go_roundw
        case rel => exact ⟨k + 1, by omega, by go_num, fun _ => by rw [HE.out]; rfl, Lib.hid (grown_set HGw.out rfl _), _, Lib.hid (HRw.out.set (off + k) _), Lib.hid (HU.out.up (by omega) (by omega) (by simp only [Nat.add_sub_cancel_left]; rw [HE.out]))⟩
        case measure => simp [intOf]; try omega
    · obtain rfl : k = nr := by omega
      go_wp2
      refine bodyPost_end (results_none rfl _ _ _) rfl ⟨rfl, HG0.out.trans HG.out, c1, HR1.out, HU.out⟩
set_option maxHeartbeats 800000 in
theorem add_begs (B g off : Nat) (t : TypeId) (c : Array Value) (A R : Option Addr) (nl cl nr cr m : Nat) (z y : Nat → Int) (w : World)
    (hB : B ≤ g) (hBw : B ≤ w.heap.size) (hz : Rd B w A nl fun k => .int .i64 (z k)) (hr : Row w g t c) (hnl : nl ≤ 140737488355328) (hnr : nr ≤ nl) (hR : nr = 0 ∨ R = some ⟨g, off, none⟩) (hc : off + nr ≤ c.size)
    (hy : ∀ k, off ≤ k → k < off + nr → c[k]? = some (.int .i64 (y k)))
    (hs : ∀ k, (mAdd).sz (z k) ≤ m) (hm : m * (nl + 1) ≤ 4611686018427387903) (ho : ∀ k d, d < nr → (mAdd).sz (y k) + (mAdd).sz (gl mAdd z 0 d) ≤ 9223372036854775807) :
    Calls Try.prog 47 #[.agg #[], .slice A nl cl, .slice R nr cr] w
      (Wrote g t c off (off + nr) (fun k => .int .i64 ((mAdd).j (y k) (gl mAdd z 0 (k - off)))) w) := by
  have hg := hr.lt
  have HS := Lib.hid hs
  have HZ := Lib.hid hz
  have HM := Lib.hid hm
  have HO := Lib.hid ho
  have HY := Lib.hid hy
  have HR0 := Lib.hid (hr.alloc (.cells #[] 26))
  have below_w0 := Lib.hid (show Below B w (w.alloc (.cells #[] 26)) from (Below.refl _ _).alloc hBw _)
  have HG0 := Lib.hid (World.grownBy_alloc w (.cells #[] 26) (some g))
  have HX := Lib.hid (Row.new w 26 #[])
  have HRR := Lib.hid hR
  clear hz hs hm ho hy hr hR
  go_enter Try.func47, Try.ntmps47
  go_wp2_with fail
  obtain ⟨w1, hw1⟩ : ∃ w1, w1 = w.alloc (.cells #[] 26) := ⟨_, rfl⟩
  rw [← hw1] at HX HG0 below_w0 HR0 ⊢
  clear hw1
  go_loopw [6, 10] (fun b i wr => ∃ k : Nat, k ≤ nr ∧ i = .int .i64 k ∧ (0 < k → b = .int .i64 (gl mAdd z 0 (k - 1))) ∧ Hid (w1.grownBy wr (some g)) ∧ ∃ c1, Hid (Row wr g t c1) ∧ Hid (Upd c c1 off (off + k) (fun k => .int .i64 ((mAdd).j (y k) (gl mAdd z 0 (k - off)))))) (fun _ i _ => nr - (intOf i).toNat)
  case atStart => exact ⟨0, Nat.zero_le _, rfl, fun h => absurd h (by omega), Lib.hid (World.grownBy.refl _ _), c, HR0, Lib.hid (Upd.none _ _ _ (by omega) _)⟩
  case round =>
    obtain ⟨k, hk, rfl, hb, HG, c1, HR1, HU⟩ := hrel
    by_cases hlt : k < nr
    · obtain rfl : R = some ⟨g, off, none⟩ := HRR.out.resolve_left (by omega)
      obtain ⟨b, o, rfl, hbB, hcell⟩ := HZ.out.some (k := 0) (by omega)
      have HC := Lib.hid (fun (u : World) (hb : Below B w u) k (hk : k < nl) => (hb.cell (p := ⟨b, o + k, none⟩) hbB).trans (hcell k hk))
      have HBw := Lib.hid (below_w0.out.grown HG.out (by have := below_w0.out.size; omega) (fun k h => by cases h; exact hB))
      clear hcell
      have HX1 := Lib.hid (HX.out.grown HG.out (by intro e; injection e with e; omega))
      have hm1 := add_method
      by_cases hk0 : k = 0
      · have hcl : wr.cell? ⟨b, o, none⟩ = some (.int .i64 (z 0)) := HC.out _ HBw.out 0 (by omega)
        obtain ⟨E, hE⟩ : ∃ E, E = gl mAdd z 0 k := ⟨_, rfl⟩
        rw [show z 0 = E by rw [hE, hk0]; rfl] at hcl
        have HE := Lib.hid hE
        have ht : ((k : Int) == 0) = true := by rw [hk0]; rfl
        have HGv := HG
        have HRv := HR1
        have HXv := HX1
        clear hb hE hk0
        have HX2 := Lib.hid (HXv.out)
        have hcr : ∀ u, (later wr u).cell? ⟨g, off + k, none⟩ = some (.int .i64 (y (off + k))) := fun u => ((HRv.out.later u).cell (off + k)).trans ((HU.out.2.2 (off + k) (by omega)).trans (HY.out _ (by omega) (by omega)))
        have HJ2 := Lib.hid (fun u => addJoin (y (off + k)) E u (by rw [HE.out]; exact HO.out _ _ hlt))
        go_wp2_with fail
        refine wp_region_tail 11 (by kernel_rfl) (by kernel_rfl) ?_
        simp only [List.take_succ_cons, List.take_zero, List.drop_succ_cons, List.drop_zero]
        repeat (first | go_big_quiet_skip | (go_big_quiet_want; first | (with_reducible refine quiet_loadR aggAdd HX2.out _ rfl ?_ ?_; go_simp; go_simp; go_big_quiet_on) | (go_big_quiet_op; first | go_big_quiet_on | go_big_quiet_call (with_reducible exact calls_later (HJ2.out _)))))
        refine wpQuiet_nil ?_
        rintro w5 ⟨u2, rfl⟩
        have hcell := hcr u2
        have HRw := Lib.hid (HRv.out.later u2)
        have hfr := HRw.out.frozen (off + k)
        have HGw := Lib.hid (grown_below HGv.out (below_later wr u2))
        clear hcr hm1
        go_wp2
        go_roundw
        case rel => exact ⟨k + 1, by omega, by go_num, fun _ => by rw [HE.out]; rfl, Lib.hid (grown_set HGw.out rfl _), _, Lib.hid (HRw.out.set (off + k) _), Lib.hid (HU.out.up (by omega) (by omega) (by simp only [Nat.add_sub_cancel_left]; rw [HE.out]))⟩
        case measure => simp [intOf]; try omega
      · obtain ⟨E0, hE0⟩ : ∃ E0, E0 = gl mAdd z 0 (k - 1) := ⟨_, rfl⟩
        have hb' := hb (by omega)
        rw [← hE0] at hb'
        subst hb'
        obtain ⟨E, hE⟩ : ∃ E, E = gl mAdd z 0 k := ⟨_, rfl⟩
        have hj : (mAdd).j E0 (z k) = E := by
          obtain ⟨d, rfl⟩ : ∃ d, k = d + 1 := ⟨k - 1, by omega⟩
          rw [hE0, hE, gl, Nat.zero_add, Nat.add_sub_cancel]
        have HE := Lib.hid hE
        have hck : ∀ u, (later wr u).cell? ⟨b, o + k, none⟩ = some (.int .i64 (z k)) := fun u => HC.out _ (HBw.out.trans ((below_later wr u).mono (Nat.le_trans hBw HBw.out.size))) _ (by omega)
        have HJ := Lib.hid (fun u => addJoin E0 (z k) u (by rw [hE0]; exact gl_room (d' := 0) HS.out HM.out (by omega) (by omega) 0 k))
        rw [hj] at HJ
        have ht : ((k : Int) == 0) = false := by simp; omega
        clear hb hE0 hE hj
        go_wp2
        refine wp_region_later (by kernel_rfl) (by kernel_rfl) ?_
        repeat (first | go_big_quiet_skip | (go_big_quiet_want; first | (with_reducible refine quiet_loadR aggAdd HX1.out _ rfl ?_ ?_; go_simp; go_simp; go_big_quiet_on) | (go_big_quiet_op; first | go_big_quiet_on | go_big_quiet_call (with_reducible exact calls_later (HJ.out _)))))
        refine wpQuiet_nil ?_
        rintro w4 ⟨u1, rfl⟩
        have HGv := Lib.hid (grown_below HG.out (below_later wr u1))
        have HRv := Lib.hid (HR1.out.later u1)
        have HXv := Lib.hid (HX1.out.later u1)
        clear hck HJ
        have HX2 := Lib.hid (HXv.out)
        have hcr : ∀ u, (later (later wr u1) u).cell? ⟨g, off + k, none⟩ = some (.int .i64 (y (off + k))) := fun u => ((HRv.out.later u).cell (off + k)).trans ((HU.out.2.2 (off + k) (by omega)).trans (HY.out _ (by omega) (by omega)))
        have HJ2 := Lib.hid (fun u => addJoin (y (off + k)) E u (by rw [HE.out]; exact HO.out _ _ hlt))
        go_wp2_with fail
        refine wp_region_tail 11 (by kernel_rfl) (by kernel_rfl) ?_
        simp only [List.take_succ_cons, List.take_zero, List.drop_succ_cons, List.drop_zero]
        repeat (first | go_big_quiet_skip | (go_big_quiet_want; first | (with_reducible refine quiet_loadR aggAdd HX2.out _ rfl ?_ ?_; go_simp; go_simp; go_big_quiet_on) | (go_big_quiet_op; first | go_big_quiet_on | go_big_quiet_call (with_reducible exact calls_later (HJ2.out _)))))
        refine wpQuiet_nil ?_
        rintro w5 ⟨u2, rfl⟩
        have hcell := hcr u2
        have HRw := Lib.hid (HRv.out.later u2)
        have hfr := HRw.out.frozen (off + k)
        have HGw := Lib.hid (grown_below HGv.out (below_later (later wr u1) u2))
        clear hcr hm1
        go_wp2
        go_roundw
        case rel => exact ⟨k + 1, by omega, by go_num, fun _ => by rw [HE.out]; rfl, Lib.hid (grown_set HGw.out rfl _), _, Lib.hid (HRw.out.set (off + k) _), Lib.hid (HU.out.up (by omega) (by omega) (by simp only [Nat.add_sub_cancel_left]; rw [HE.out]))⟩
        case measure => simp [intOf]; try omega
    · obtain rfl : k = nr := by omega
      go_wp2
      refine bodyPost_end (results_none rfl _ _ _) rfl ⟨rfl, HG0.out.trans HG.out, c1, HR1.out, HU.out⟩
set_option maxHeartbeats 800000 in
theorem words_begs (B g off : Nat) (t : TypeId) (c : Array Value) (A R : Option Addr) (nl cl nr cr m : Nat) (z y : Nat → ByteArray) (w : World)
    (hB : B ≤ g) (hBw : B ≤ w.heap.size) (hz : Rd B w A nl fun k => .string (z k)) (hr : Row w g t c) (hnl : nl ≤ 140737488355328) (hnr : nr ≤ nl) (hR : nr = 0 ∨ R = some ⟨g, off, none⟩) (hc : off + nr ≤ c.size)
    (hy : ∀ k, off ≤ k → k < off + nr → c[k]? = some (.string (y k)))
    (hs : ∀ k, (mWords).sz (z k) ≤ m) (hm : m * (nl + 1) ≤ 4611686018427387903) (ho : ∀ k d, d < nr → (mWords).sz (y k) + (mWords).sz (gl mWords z 0 d) ≤ 9223372036854775807) :
    Calls Try.prog 43 #[.agg #[], .slice A nl cl, .slice R nr cr] w
      (Wrote g t c off (off + nr) (fun k => .string ((mWords).j (y k) (gl mWords z 0 (k - off)))) w) := by
  have hg := hr.lt
  have HS := Lib.hid hs
  have HZ := Lib.hid hz
  have HM := Lib.hid hm
  have HO := Lib.hid ho
  have HY := Lib.hid hy
  have HR0 := Lib.hid (hr.alloc (.cells #[] 61))
  have below_w0 := Lib.hid (show Below B w (w.alloc (.cells #[] 61)) from (Below.refl _ _).alloc hBw _)
  have HG0 := Lib.hid (World.grownBy_alloc w (.cells #[] 61) (some g))
  have HX := Lib.hid (Row.new w 61 #[])
  have HRR := Lib.hid hR
  clear hz hs hm ho hy hr hR
  go_enter Try.func43, Try.ntmps43
  go_wp2_with fail
  obtain ⟨w1, hw1⟩ : ∃ w1, w1 = w.alloc (.cells #[] 61) := ⟨_, rfl⟩
  rw [← hw1] at HX HG0 below_w0 HR0 ⊢
  clear hw1
  go_loopw [6, 10] (fun b i wr => ∃ k : Nat, k ≤ nr ∧ i = .int .i64 k ∧ (0 < k → b = .string (gl mWords z 0 (k - 1))) ∧ Hid (w1.grownBy wr (some g)) ∧ ∃ c1, Hid (Row wr g t c1) ∧ Hid (Upd c c1 off (off + k) (fun k => .string ((mWords).j (y k) (gl mWords z 0 (k - off)))))) (fun _ i _ => nr - (intOf i).toNat)
  case atStart => exact ⟨0, Nat.zero_le _, rfl, fun h => absurd h (by omega), Lib.hid (World.grownBy.refl _ _), c, HR0, Lib.hid (Upd.none _ _ _ (by omega) _)⟩
  case round =>
    obtain ⟨k, hk, rfl, hb, HG, c1, HR1, HU⟩ := hrel
    by_cases hlt : k < nr
    · obtain rfl : R = some ⟨g, off, none⟩ := HRR.out.resolve_left (by omega)
      obtain ⟨b, o, rfl, hbB, hcell⟩ := HZ.out.some (k := 0) (by omega)
      have HC := Lib.hid (fun (u : World) (hb : Below B w u) k (hk : k < nl) => (hb.cell (p := ⟨b, o + k, none⟩) hbB).trans (hcell k hk))
      have HBw := Lib.hid (below_w0.out.grown HG.out (by have := below_w0.out.size; omega) (fun k h => by cases h; exact hB))
      clear hcell
      have HX1 := Lib.hid (HX.out.grown HG.out (by intro e; injection e with e; omega))
      have hm1 := words_method
      by_cases hk0 : k = 0
      · have hcl : wr.cell? ⟨b, o, none⟩ = some (.string (z 0)) := HC.out _ HBw.out 0 (by omega)
        obtain ⟨E, hE⟩ : ∃ E, E = gl mWords z 0 k := ⟨_, rfl⟩
        rw [show z 0 = E by rw [hE, hk0]; rfl] at hcl
        have HE := Lib.hid hE
        have ht : ((k : Int) == 0) = true := by rw [hk0]; rfl
        have HGv := HG
        have HRv := HR1
        have HXv := HX1
        clear hb hE hk0
        have HX2 := Lib.hid (HXv.out)
        have hcr : ∀ u, (later wr u).cell? ⟨g, off + k, none⟩ = some (.string (y (off + k))) := fun u => ((HRv.out.later u).cell (off + k)).trans ((HU.out.2.2 (off + k) (by omega)).trans (HY.out _ (by omega) (by omega)))
        have HJ2 := Lib.hid (fun u => wordsJoin (y (off + k)) E u (by rw [HE.out]; exact HO.out _ _ hlt))
        go_wp2_with fail
        refine wp_region_tail 11 (by kernel_rfl) (by kernel_rfl) ?_
        simp only [List.take_succ_cons, List.take_zero, List.drop_succ_cons, List.drop_zero]
        repeat (first | go_big_quiet_skip | (go_big_quiet_want; first | (with_reducible refine quiet_loadR aggWords HX2.out _ rfl ?_ ?_; go_simp; go_simp; go_big_quiet_on) | (go_big_quiet_op; first | go_big_quiet_on | go_big_quiet_call (with_reducible exact calls_later (HJ2.out _)))))
        refine wpQuiet_nil ?_
        rintro w5 ⟨u2, rfl⟩
        have hcell := hcr u2
        have HRw := Lib.hid (HRv.out.later u2)
        have hfr := HRw.out.frozen (off + k)
        have HGw := Lib.hid (grown_below HGv.out (below_later wr u2))
        clear hcr hm1
        go_wp2
        go_roundw
        case rel => exact ⟨k + 1, by omega, by go_num, fun _ => by rw [HE.out]; rfl, Lib.hid (grown_set HGw.out rfl _), _, Lib.hid (HRw.out.set (off + k) _), Lib.hid (HU.out.up (by omega) (by omega) (by simp only [Nat.add_sub_cancel_left]; rw [HE.out]))⟩
        case measure => simp [intOf]; try omega
      · obtain ⟨E0, hE0⟩ : ∃ E0, E0 = gl mWords z 0 (k - 1) := ⟨_, rfl⟩
        have hb' := hb (by omega)
        rw [← hE0] at hb'
        subst hb'
        obtain ⟨E, hE⟩ : ∃ E, E = gl mWords z 0 k := ⟨_, rfl⟩
        have hj : (mWords).j E0 (z k) = E := by
          obtain ⟨d, rfl⟩ : ∃ d, k = d + 1 := ⟨k - 1, by omega⟩
          rw [hE0, hE, gl, Nat.zero_add, Nat.add_sub_cancel]
        have HE := Lib.hid hE
        have hck : ∀ u, (later wr u).cell? ⟨b, o + k, none⟩ = some (.string (z k)) := fun u => HC.out _ (HBw.out.trans ((below_later wr u).mono (Nat.le_trans hBw HBw.out.size))) _ (by omega)
        have HJ := Lib.hid (fun u => wordsJoin E0 (z k) u (by rw [hE0]; exact gl_room (d' := 0) HS.out HM.out (by omega) (by omega) 0 k))
        rw [hj] at HJ
        have ht : ((k : Int) == 0) = false := by simp; omega
        clear hb hE0 hE hj
        go_wp2
        refine wp_region_later (by kernel_rfl) (by kernel_rfl) ?_
        repeat (first | go_big_quiet_skip | (go_big_quiet_want; first | (with_reducible refine quiet_loadR aggWords HX1.out _ rfl ?_ ?_; go_simp; go_simp; go_big_quiet_on) | (go_big_quiet_op; first | go_big_quiet_on | go_big_quiet_call (with_reducible exact calls_later (HJ.out _)))))
        refine wpQuiet_nil ?_
        rintro w4 ⟨u1, rfl⟩
        have HGv := Lib.hid (grown_below HG.out (below_later wr u1))
        have HRv := Lib.hid (HR1.out.later u1)
        have HXv := Lib.hid (HX1.out.later u1)
        clear hck HJ
        have HX2 := Lib.hid (HXv.out)
        have hcr : ∀ u, (later (later wr u1) u).cell? ⟨g, off + k, none⟩ = some (.string (y (off + k))) := fun u => ((HRv.out.later u).cell (off + k)).trans ((HU.out.2.2 (off + k) (by omega)).trans (HY.out _ (by omega) (by omega)))
        have HJ2 := Lib.hid (fun u => wordsJoin (y (off + k)) E u (by rw [HE.out]; exact HO.out _ _ hlt))
        go_wp2_with fail
        refine wp_region_tail 11 (by kernel_rfl) (by kernel_rfl) ?_
        simp only [List.take_succ_cons, List.take_zero, List.drop_succ_cons, List.drop_zero]
        repeat (first | go_big_quiet_skip | (go_big_quiet_want; first | (with_reducible refine quiet_loadR aggWords HX2.out _ rfl ?_ ?_; go_simp; go_simp; go_big_quiet_on) | (go_big_quiet_op; first | go_big_quiet_on | go_big_quiet_call (with_reducible exact calls_later (HJ2.out _)))))
        refine wpQuiet_nil ?_
        rintro w5 ⟨u2, rfl⟩
        have hcell := hcr u2
        have HRw := Lib.hid (HRv.out.later u2)
        have hfr := HRw.out.frozen (off + k)
        have HGw := Lib.hid (grown_below HGv.out (below_later (later wr u1) u2))
        clear hcr hm1
        go_wp2
        go_roundw
        case rel => exact ⟨k + 1, by omega, by go_num, fun _ => by rw [HE.out]; rfl, Lib.hid (grown_set HGw.out rfl _), _, Lib.hid (HRw.out.set (off + k) _), Lib.hid (HU.out.up (by omega) (by omega) (by simp only [Nat.add_sub_cancel_left]; rw [HE.out]))⟩
        case measure => simp [intOf]; try omega
    · obtain rfl : k = nr := by omega
      go_wp2
      refine bodyPost_end (results_none rfl _ _ _) rfl ⟨rfl, HG0.out.trans HG.out, c1, HR1.out, HU.out⟩
end Go.Proofs.Ytbiecpejpkgngaa
