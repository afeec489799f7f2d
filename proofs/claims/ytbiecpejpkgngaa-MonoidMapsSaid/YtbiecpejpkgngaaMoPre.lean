/-
  Package monoid: Prefixes.
-/
import Derived.Test.YtbiecpejpkgngaaMoWin
namespace Go.Proofs.Ytbiecpejpkgngaa
open Go.RowKit
set_option maxHeartbeats 1600000 in
theorem add_pre (A : Option Addr) (n cl m : Nat) (z : Nat → Int) (w : World) (hn : n ≤ 100000)
    (hz : Rd w.heap.size w A n fun k => .int .i64 (z k)) (hs : ∀ k, (mAdd).sz (z k) ≤ m) (hm : m * (n + 1) ≤ 4611686018427387903) :
    Calls Try.prog 38 #[.agg #[], .slice A n cl] w (Made 3 (n + 1) (fun k => .int .i64 (fo mAdd z k)) w) := by
  obtain ⟨i0, hi, hz0, hz1, hz2⟩ := info_parts add_info
  obtain ⟨L, hL⟩ : ∃ L, L = n + 1 := ⟨_, rfl⟩
  rw [← hL]
  have HL := Lib.hid hL
  have hLi : (n : Int) + 1 = (L : Int) := by omega
  have hLb : L ≤ 100001 := by omega
  have hL1 : 0 < L := by omega
  have HZ := Lib.hid hz
  have HS := Lib.hid hs
  have HM := Lib.hid hm
  have HX0 := Lib.hid (Row.new w 26 #[])
  have HB0 := Lib.hid (show Below w.heap.size w (w.alloc (.cells #[] 26)) from (Below.refl _ _).alloc (Nat.le_refl _) _)
  clear hz hs hm hL
  go_enter Try.func38, Try.ntmps38
  go_wp2_with (at_make; refine wpList_make_row _ rfl _ _ 22 rfl 3 i0 (.int .i64 0) Try.underlying22 hi hz0 hz1 rfl .i64 .i64 L rfl rfl (by rw [hz2]; omega) (by omega) ?_)
  refine (addUnit _).mono ?_
  rintro e wu ⟨rfl, hbu⟩
  obtain ⟨w1, hw1⟩ : ∃ w1, w1 = w.alloc (.cells #[] 26) := ⟨_, rfl⟩
  have hg1 : w1.heap.size = w.heap.size + 1 := by rw [hw1]; simp
  have hr2 : Row wu (w.heap.size + 1) 3 (madeCells #[.int .i64 0] L) := Row.below' (by rw [← hg1, ← hw1]; exact Row.new _ _ _) hbu
  have hx2 : Row wu w.heap.size 26 #[] := Row.below' ((Row.new _ _ _).alloc _) hbu
  have hb2 : Below w.heap.size w wu := (HB0.out.alloc (by simp) _).trans (hbu.mono (by simp; omega))
  have hc0 : wu.cell? ⟨w.heap.size + 1, 0, none⟩ = some (.int .i64 0) := (hr2.cell 0).trans (made_at _ _ _ hL1)
  have hf0 := hr2.frozen 0
  have HR2 := Lib.hid hr2
  have HX2 := Lib.hid hx2
  have HB2 := Lib.hid hb2
  clear hw1 hg1 hr2 hx2 hb2 HX0 HB0 hi hz0 hz1 hz2 hbu
  clear w1
  go_wp2
  obtain ⟨w2, hw2⟩ : ∃ w2, w2 = wu.setCell ⟨w.heap.size + 1, 0, none⟩ (.int .i64 ((mAdd).e)) := ⟨_, rfl⟩
  have HR3 := Lib.hid (show Row w2 (w.heap.size + 1) 3 _ by rw [hw2]; exact HR2.out.set 0 _)
  have HX3 := Lib.hid (show Row w2 w.heap.size 26 #[] by rw [hw2]; exact HX2.out.far (by simp) _)
  have HB3 := Lib.hid (show Below w.heap.size w w2 by rw [hw2]; exact HB2.out.setCell (by simp) _)
  change Code.wp _ _ _ _ (wu.setCell ⟨w.heap.size + 1, 0, none⟩ (.int .i64 ((mAdd).e)))
  rw [← hw2]
  clear hw2 hc0 hf0 HR2 HX2 HB2
  clear wu
  go_loopw [19] (fun i wr => ∃ k : Nat, k ≤ n ∧ i = .int .i64 k ∧ Hid (w2.grownBy wr (some (w.heap.size + 1))) ∧ ∃ c1, Hid (Row wr (w.heap.size + 1) 3 c1) ∧ Hid (Upd (madeCells #[.int .i64 0] L) c1 0 (k + 1) (fun k => .int .i64 (fo mAdd z k)))) (fun i _ => n - (intOf i).toNat)
  case atStart => exact ⟨0, Nat.zero_le _, rfl, Lib.hid (World.grownBy.refl _ _), _, HR3, Lib.hid ((Upd.none _ 0 0 (by omega) _).up (by omega) (by rw [size_madeCells]; omega) rfl)⟩
  case round =>
    obtain ⟨k, hk, rfl, HG, c1, HR1, HU⟩ := hrel
    by_cases hlt : k < n
    · have HX1 := Lib.hid (HX3.out.grown HG.out (by intro e; injection e with e; omega))
      have HBw := Lib.hid (HB3.out.grown HG.out HB3.out.size (fun k h => by cases h; omega))
      obtain ⟨b, o, rfl, hbB, hcell⟩ := HZ.out.some (k := 0) (by omega)
      have hck : wr.cell? ⟨b, o + k, none⟩ = some (.int .i64 (z k)) := (HBw.out.cell (p := ⟨b, o + k, none⟩) hbB).trans (hcell k hlt)
      clear hcell
      obtain ⟨E0, hE0⟩ : ∃ E0, E0 = fo mAdd z k := ⟨_, rfl⟩
      have hcr : ∀ u, (later wr u).cell? ⟨w.heap.size + 1, k, none⟩ = some (.int .i64 (E0)) := fun u => ((HR1.out.later u).cell k).trans (by rw [HU.out.2.1 k (by omega) (by omega), hE0])
      have HJ := Lib.hid (fun u => addJoin E0 (z k) u (by rw [hE0]; exact fo_room HS.out HM.out hlt k))
      have HE := Lib.hid (show (mAdd).j E0 (z k) = fo mAdd z (k + 1) by rw [hE0, fo])
      have hm1 := add_method
      have hk1L : k + 1 < L := by have := HL.out; omega
      have hw1' : IntKind.i64.wrap ((k : Int) + 1) = (k : Int) + 1 := by simp [IntKind.wrap, IntKind.bits, IntKind.signed]; omega
      have hsz : k + 1 < c1.size := by rw [HU.out.1, size_madeCells]; exact hk1L
      have HSZ := Lib.hid hsz
      clear hE0 hsz
      go_wp2
      refine wp_region_tail 12 (by kernel_rfl) (by kernel_rfl) ?_
      simp only [List.take_succ_cons, List.take_zero, List.drop_succ_cons, List.drop_zero]
      repeat (first | go_big_quiet_skip | (go_big_quiet_want; first | (with_reducible refine quiet_loadR aggAdd HX1.out _ rfl ?_ ?_; go_simp; go_simp; go_big_quiet_on) | (go_big_quiet_op; first | go_big_quiet_on | go_big_quiet_call (with_reducible exact calls_later (HJ.out _)))))
      refine wpQuiet_nil ?_
      rintro w5 ⟨u2, rfl⟩
      have HRw := Lib.hid (HR1.out.later u2)
      obtain ⟨v0, hv0⟩ : ∃ v0, c1[k + 1]? = some v0 := ⟨_, Array.getElem?_eq_getElem HSZ.out⟩
      have hcell := (HRw.out.cell (k + 1)).trans hv0
      have hfr := HRw.out.frozen (k + 1)
      have HGw := Lib.hid (grown_below HG.out (below_later wr u2))
      clear hcr hm1 hv0 hck hw1'
      go_wp2
      go_roundw
      case rel => exact ⟨k + 1, by omega, by go_num, Lib.hid (grown_set HGw.out rfl _), _, Lib.hid (HRw.out.set (k + 1) _), Lib.hid (HU.out.up (by omega) (by rw [size_madeCells]; have := HL.out; omega) (by rw [HE.out]))⟩
      case measure => simp [intOf]; try omega
    · obtain rfl : k = n := by omega
      go_wp2
      go_ret
      exact ⟨_, c1, by omega, rfl, HB3.out.grown HG.out HB3.out.size (fun k h => by cases h; omega), HR1.out, by rw [HU.out.1, size_madeCells], fun j hj => HU.out.2.1 j (by omega) (by have := HL.out; omega)⟩
set_option maxHeartbeats 1600000 in
theorem words_pre (A : Option Addr) (n cl m : Nat) (z : Nat → ByteArray) (w : World) (hn : n ≤ 100000)
    (hz : Rd w.heap.size w A n fun k => .string (z k)) (hs : ∀ k, (mWords).sz (z k) ≤ m) (hm : m * (n + 1) ≤ 4611686018427387903) :
    Calls Try.prog 27 #[.agg #[], .slice A n cl] w (Made 9 (n + 1) (fun k => .string (fo mWords z k)) w) := by
  obtain ⟨i0, hi, hz0, hz1, hz2⟩ := info_parts words_info
  obtain ⟨L, hL⟩ : ∃ L, L = n + 1 := ⟨_, rfl⟩
  rw [← hL]
  have HL := Lib.hid hL
  have hLi : (n : Int) + 1 = (L : Int) := by omega
  have hLb : L ≤ 100001 := by omega
  have hL1 : 0 < L := by omega
  have HZ := Lib.hid hz
  have HS := Lib.hid hs
  have HM := Lib.hid hm
  have HX0 := Lib.hid (Row.new w 61 #[])
  have HB0 := Lib.hid (show Below w.heap.size w (w.alloc (.cells #[] 61)) from (Below.refl _ _).alloc (Nat.le_refl _) _)
  clear hz hs hm hL
  go_enter Try.func27, Try.ntmps27
  go_wp2_with (at_make; refine wpList_make_row _ rfl _ _ 58 rfl 9 i0 (.string ByteArray.empty) Try.underlying58 hi hz0 hz1 rfl .i64 .i64 L rfl rfl (by rw [hz2]; omega) (by omega) ?_)
  refine (wordsUnit _).mono ?_
  rintro e wu ⟨rfl, hbu⟩
  obtain ⟨w1, hw1⟩ : ∃ w1, w1 = w.alloc (.cells #[] 61) := ⟨_, rfl⟩
  have hg1 : w1.heap.size = w.heap.size + 1 := by rw [hw1]; simp
  have hr2 : Row wu (w.heap.size + 1) 9 (madeCells #[.string ByteArray.empty] L) := Row.below' (by rw [← hg1, ← hw1]; exact Row.new _ _ _) hbu
  have hx2 : Row wu w.heap.size 61 #[] := Row.below' ((Row.new _ _ _).alloc _) hbu
  have hb2 : Below w.heap.size w wu := (HB0.out.alloc (by simp) _).trans (hbu.mono (by simp; omega))
  have hc0 : wu.cell? ⟨w.heap.size + 1, 0, none⟩ = some (.string ByteArray.empty) := (hr2.cell 0).trans (made_at _ _ _ hL1)
  have hf0 := hr2.frozen 0
  have HR2 := Lib.hid hr2
  have HX2 := Lib.hid hx2
  have HB2 := Lib.hid hb2
  clear hw1 hg1 hr2 hx2 hb2 HX0 HB0 hi hz0 hz1 hz2 hbu
  clear w1
  go_wp2
  obtain ⟨w2, hw2⟩ : ∃ w2, w2 = wu.setCell ⟨w.heap.size + 1, 0, none⟩ (.string ((mWords).e)) := ⟨_, rfl⟩
  have HR3 := Lib.hid (show Row w2 (w.heap.size + 1) 9 _ by rw [hw2]; exact HR2.out.set 0 _)
  have HX3 := Lib.hid (show Row w2 w.heap.size 61 #[] by rw [hw2]; exact HX2.out.far (by simp) _)
  have HB3 := Lib.hid (show Below w.heap.size w w2 by rw [hw2]; exact HB2.out.setCell (by simp) _)
  change Code.wp _ _ _ _ (wu.setCell ⟨w.heap.size + 1, 0, none⟩ (.string ((mWords).e)))
  rw [← hw2]
  clear hw2 hc0 hf0 HR2 HX2 HB2
  clear wu
  go_loopw [19] (fun i wr => ∃ k : Nat, k ≤ n ∧ i = .int .i64 k ∧ Hid (w2.grownBy wr (some (w.heap.size + 1))) ∧ ∃ c1, Hid (Row wr (w.heap.size + 1) 9 c1) ∧ Hid (Upd (madeCells #[.string ByteArray.empty] L) c1 0 (k + 1) (fun k => .string (fo mWords z k)))) (fun i _ => n - (intOf i).toNat)
  case atStart => exact ⟨0, Nat.zero_le _, rfl, Lib.hid (World.grownBy.refl _ _), _, HR3, Lib.hid ((Upd.none _ 0 0 (by omega) _).up (by omega) (by rw [size_madeCells]; omega) rfl)⟩
  case round =>
    obtain ⟨k, hk, rfl, HG, c1, HR1, HU⟩ := hrel
    by_cases hlt : k < n
    · have HX1 := Lib.hid (HX3.out.grown HG.out (by intro e; injection e with e; omega))
      have HBw := Lib.hid (HB3.out.grown HG.out HB3.out.size (fun k h => by cases h; omega))
      obtain ⟨b, o, rfl, hbB, hcell⟩ := HZ.out.some (k := 0) (by omega)
      have hck : wr.cell? ⟨b, o + k, none⟩ = some (.string (z k)) := (HBw.out.cell (p := ⟨b, o + k, none⟩) hbB).trans (hcell k hlt)
      clear hcell
      obtain ⟨E0, hE0⟩ : ∃ E0, E0 = fo mWords z k := ⟨_, rfl⟩
      have hcr : ∀ u, (later wr u).cell? ⟨w.heap.size + 1, k, none⟩ = some (.string (E0)) := fun u => ((HR1.out.later u).cell k).trans (by rw [HU.out.2.1 k (by omega) (by omega), hE0])
      have HJ := Lib.hid (fun u => wordsJoin E0 (z k) u (by rw [hE0]; exact fo_room HS.out HM.out hlt k))
      have HE := Lib.hid (show (mWords).j E0 (z k) = fo mWords z (k + 1) by rw [hE0, fo])
      have hm1 := words_method
      have hk1L : k + 1 < L := by have := HL.out; omega
      have hw1' : IntKind.i64.wrap ((k : Int) + 1) = (k : Int) + 1 := by simp [IntKind.wrap, IntKind.bits, IntKind.signed]; omega
      have hsz : k + 1 < c1.size := by rw [HU.out.1, size_madeCells]; exact hk1L
      have HSZ := Lib.hid hsz
      clear hE0 hsz
      go_wp2
      refine wp_region_tail 12 (by kernel_rfl) (by kernel_rfl) ?_
      simp only [List.take_succ_cons, List.take_zero, List.drop_succ_cons, List.drop_zero]
      repeat (first | go_big_quiet_skip | (go_big_quiet_want; first | (with_reducible refine quiet_loadR aggWords HX1.out _ rfl ?_ ?_; go_simp; go_simp; go_big_quiet_on) | (go_big_quiet_op; first | go_big_quiet_on | go_big_quiet_call (with_reducible exact calls_later (HJ.out _)))))
      refine wpQuiet_nil ?_
      rintro w5 ⟨u2, rfl⟩
      have HRw := Lib.hid (HR1.out.later u2)
      obtain ⟨v0, hv0⟩ : ∃ v0, c1[k + 1]? = some v0 := ⟨_, Array.getElem?_eq_getElem HSZ.out⟩
      have hcell := (HRw.out.cell (k + 1)).trans hv0
      have hfr := HRw.out.frozen (k + 1)
      have HGw := Lib.hid (grown_below HG.out (below_later wr u2))
      clear hcr hm1 hv0 hck hw1'
      go_wp2
      go_roundw
      case rel => exact ⟨k + 1, by omega, by go_num, Lib.hid (grown_set HGw.out rfl _), _, Lib.hid (HRw.out.set (k + 1) _), Lib.hid (HU.out.up (by omega) (by rw [size_madeCells]; have := HL.out; omega) (by rw [HE.out]))⟩
      case measure => simp [intOf]; try omega
    · obtain rfl : k = n := by omega
      go_wp2
      go_ret
      exact ⟨_, c1, by omega, rfl, HB3.out.grown HG.out HB3.out.size (fun k h => by cases h; omega), HR1.out, by rw [HU.out.1, size_madeCells], fun j hj => HU.out.2.1 j (by omega) (by have := HL.out; omega)⟩
end Go.Proofs.Ytbiecpejpkgngaa
