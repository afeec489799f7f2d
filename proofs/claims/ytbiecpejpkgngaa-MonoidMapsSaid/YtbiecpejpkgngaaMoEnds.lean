/-
  Package monoid: foldEnds and joinBeginnings, whose result is written into a block.
-/
import Derived.Test.YtbiecpejpkgngaaMoJ
namespace Go.Proofs.Ytbiecpejpkgngaa
open Go.RowKit

/-- The block g is the row c', of which all but the written part is as in c; nothing else has changed. -/
def Wrote (g : Nat) (t : TypeId) (c : Array Value) (lo hi : Nat) (f : Nat → Value) (w : World) (e : Ending) (w' : World) : Prop :=
  e = .returned (.tuple #[]) ∧ w.grownBy w' (some g) ∧ ∃ c', Row w' g t c' ∧ Upd c c' lo hi f
set_option maxHeartbeats 800000 in
theorem max_ends (B g off : Nat) (t : TypeId) (c : Array Value) (A : Option Addr) (nb cb nr cr m : Nat) (z : Nat → Int) (w : World)
    (hB : B ≤ g) (hz : Rd B w A nb fun k => .int .i64 (z k)) (hr : Row w g t c) (h1 : 1 ≤ nb) (hnb : nb ≤ 140737488355328) (hnr : nr ≤ nb) (hc : off + nr ≤ c.size)
    (hs : ∀ k, (mMax).sz (z k) ≤ m) (hm : m * (nb + 1) ≤ 4611686018427387903) :
    Calls Try.prog 48 #[.agg #[], .slice A nb cb, .slice (some ⟨g, off, none⟩) nr cr] w
      (Wrote g t c off (off + nr) (fun k => .int .i64 (gl mMax z (k - off) (nb - 1 - (k - off)))) w) := by
  obtain ⟨b, o, rfl, hlt, hcell⟩ := hz.some (k := 0) (by omega)
  have hg := hr.lt
  have HS := Lib.hid hs
  have HC := Lib.hid (fun (u : World) (hb : Below B w u) k (hk : k < nb) => (hb.cell (p := ⟨b, o + k, none⟩) hlt).trans (hcell k hk))
  have HM := Lib.hid hm
  have HR1 := Lib.hid (hr.alloc (.cells #[] 28))
  have hw0 : Below B w (w.alloc (.cells #[] 28)) := (Below.refl _ _).alloc (by omega) _
  have c0 := HC.out _ hw0 (nb - 1) (by omega)
  have HG0 := Lib.hid (World.grownBy_alloc w (.cells #[] 28) (some g))
  have below_w0 := Lib.hid hw0
  clear hz hcell hs hm hr hw0
  have HX := Lib.hid (Row.new w 28 #[])
  have hsub : (nb : Int) - 1 = ((nb - 1 : Nat) : Int) := by omega
  go_enter Try.func48, Try.ntmps48
  go_wp2_with fail
  obtain ⟨w1, hw1⟩ : ∃ w1, w1 = w.alloc (.cells #[] 28) := ⟨_, rfl⟩
  rw [← hw1] at HX HG0 below_w0 HR1 ⊢
  clear hw1 c0 hsub
  go_loopw [7, 8] (fun e i wr => ∃ k : Nat, k ≤ nb ∧ i = .int .i64 ((k : Int) - 1) ∧ e = .int .i64 (gl mMax z (min k (nb - 1)) (nb - 1 - min k (nb - 1))) ∧ Hid (w1.grownBy wr (some g)) ∧ ∃ c1, Hid (Row wr g t c1) ∧ Hid (Upd c c1 (off + min k nr) (off + nr) (fun k => .int .i64 (gl mMax z (k - off) (nb - 1 - (k - off)))))) (fun _ i _ => (intOf i + 1).toNat)
  case atStart => exact ⟨nb, Nat.le_refl _, by congr 1; omega, by rw [show min nb (nb - 1) = nb - 1 by omega, show nb - 1 - (nb - 1) = 0 by omega]; rfl, Lib.hid (World.grownBy.refl _ _), c, HR1, Lib.hid (Upd.none _ _ _ (by omega) _)⟩
  case round =>
    obtain ⟨k, hk, hi, he, HG, c1, HR1, HU⟩ := hrel
    rcases k with _ | k
    · obtain rfl : u8 = .int .i64 (-1) := by rw [hi]; rfl
      go_wp2
      refine bodyPost_end (results_none rfl _ _ _) rfl ⟨rfl, HG0.out.trans HG.out, c1, HR1.out, ?_⟩
      rw [show off = off + min 0 nr by simp]
      exact HU.out
    · obtain rfl : u8 = .int .i64 k := by rw [hi]; congr 1; omega
      have HX1 := Lib.hid (HX.out.grown HG.out (by intro e; injection e with e; omega))
      have hm1 := max_method
      by_cases hkn : k + 1 < nb
      · obtain ⟨d, hd⟩ : ∃ d, nb - 1 - (k + 1) = d := ⟨_, rfl⟩
        have hd2 : nb - 1 - k = d + 1 := by omega
        have HD2 := Lib.hid hd2
        clear hd2
        rw [show min (k + 1) (nb - 1) = k + 1 by omega, hd] at he
        obtain ⟨E, hE⟩ : ∃ E, gl mMax z (k + 1) d = E := ⟨_, rfl⟩
        rw [hE] at he
        have HE := Lib.hid (show (mMax).j (z k) E = gl mMax z k (d + 1) by rw [← hE, gl_left])
        have hck : ∀ u, (later wr u).cell? ⟨b, o + k, none⟩ = some (.int .i64 (z k)) := fun u => by
          have hb1 := (below_w0.out.grown HG.out (by have := below_w0.out.size; omega) (fun k h => by cases h; exact hB)).trans ((below_later wr u).mono (by have := (below_w0.out.grown HG.out (by have := below_w0.out.size; omega) (fun k h => by cases h; exact hB)).size; omega))
          exact HC.out _ hb1 k (by omega)
        have HJ := Lib.hid (fun u => maxJoin (z k) E u (by rw [← hE]; exact gl_room (d := 0) HS.out HM.out (by omega) (by omega) k (k + 1)))
        subst he
        clear hi hE hd
        go_wp2
        refine wp_region_later (by kernel_rfl) (by kernel_rfl) ?_
        repeat (first | go_big_quiet_skip | (go_big_quiet_want; first | (with_reducible refine quiet_loadR aggMax HX1.out _ rfl ?_ ?_; go_simp; go_simp; go_big_quiet_on) | (go_big_quiet_op; first | go_big_quiet_on | go_big_quiet_call (with_reducible exact calls_later (HJ.out _)))))
        refine wpQuiet_nil ?_
        rintro w4 ⟨u, rfl⟩
        have HGv := Lib.hid (grown_below HG.out (below_later wr u))
        have HRv := Lib.hid (HR1.out.later u)
        clear hck hm1
        by_cases hkr : k < nr
        · obtain ⟨v0, hv0⟩ : ∃ v0, c1[off + k]? = some v0 := ⟨_, Array.getElem?_eq_getElem (by rw [HU.out.1]; omega)⟩
          have hcell := (HRv.out.cell (off + k)).trans hv0
          have hfr := HRv.out.frozen (off + k)
          clear hv0
          go_wp2
          go_roundw
          case rel => exact ⟨k, by omega, rfl, by rw [show min k (nb - 1) = k by omega, HD2.out]; exact congrArg _ HE.out, Lib.hid (grown_set HGv.out rfl _), _, Lib.hid (HRv.out.set (off + k) _), Lib.hid (by
            rw [show off + min k nr = off + k by omega]
            have hu := HU.out
            rw [show off + min (k + 1) nr = off + k + 1 by omega] at hu
            exact hu.down (by omega) (by omega) (by simp only [Nat.add_sub_cancel_left]; rw [HD2.out]; exact congrArg _ HE.out))⟩
          case measure => simp [intOf]; try omega
        · go_wp2
          go_roundw
          case rel => exact ⟨k, by omega, rfl, by rw [show min k (nb - 1) = k by omega, HD2.out]; exact congrArg _ HE.out, HGv, _, HRv, Lib.hid (by
            rw [show off + min k nr = off + min (k + 1) nr by omega]; exact HU.out)⟩
          case measure => simp [intOf]; try omega
      · have hl : nb - 1 - k = 0 := by omega
        have HD2 := Lib.hid hl
        rw [show min (k + 1) (nb - 1) = k by omega, hl] at he
        clear hl
        have HGv := HG
        have HRv := HR1
        subst he
        clear hi hm1
        by_cases hkr : k < nr
        · obtain ⟨v0, hv0⟩ : ∃ v0, c1[off + k]? = some v0 := ⟨_, Array.getElem?_eq_getElem (by rw [HU.out.1]; omega)⟩
          have hcell := (HRv.out.cell (off + k)).trans hv0
          have hfr := HRv.out.frozen (off + k)
          clear hv0
          go_wp2
          go_roundw
          case rel => exact ⟨k, by omega, rfl, by rw [show min k (nb - 1) = k by omega, HD2.out]; try exact rfl, Lib.hid (grown_set HGv.out rfl _), _, Lib.hid (HRv.out.set (off + k) _), Lib.hid (by
            rw [show off + min k nr = off + k by omega]
            have hu := HU.out
            rw [show off + min (k + 1) nr = off + k + 1 by omega] at hu
            exact hu.down (by omega) (by omega) (by simp only [Nat.add_sub_cancel_left]; rw [HD2.out]; try exact rfl))⟩
          case measure => simp [intOf]; try omega
        · go_wp2
          go_roundw
          case rel => exact ⟨k, by omega, rfl, by rw [show min k (nb - 1) = k by omega, HD2.out]; try exact rfl, HGv, _, HRv, Lib.hid (by
            rw [show off + min k nr = off + min (k + 1) nr by omega]; exact HU.out)⟩
          case measure => simp [intOf]; try omega
set_option maxHeartbeats 800000 in
theorem add_ends (B g off : Nat) (t : TypeId) (c : Array Value) (A : Option Addr) (nb cb nr cr m : Nat) (z : Nat → Int) (w : World)
    (hB : B ≤ g) (hz : Rd B w A nb fun k => .int .i64 (z k)) (hr : Row w g t c) (h1 : 1 ≤ nb) (hnb : nb ≤ 140737488355328) (hnr : nr ≤ nb) (hc : off + nr ≤ c.size)
    (hs : ∀ k, (mAdd).sz (z k) ≤ m) (hm : m * (nb + 1) ≤ 4611686018427387903) :
    Calls Try.prog 46 #[.agg #[], .slice A nb cb, .slice (some ⟨g, off, none⟩) nr cr] w
      (Wrote g t c off (off + nr) (fun k => .int .i64 (gl mAdd z (k - off) (nb - 1 - (k - off)))) w) := by
  obtain ⟨b, o, rfl, hlt, hcell⟩ := hz.some (k := 0) (by omega)
  have hg := hr.lt
  have HS := Lib.hid hs
  have HC := Lib.hid (fun (u : World) (hb : Below B w u) k (hk : k < nb) => (hb.cell (p := ⟨b, o + k, none⟩) hlt).trans (hcell k hk))
  have HM := Lib.hid hm
  have HR1 := Lib.hid (hr.alloc (.cells #[] 26))
  have hw0 : Below B w (w.alloc (.cells #[] 26)) := (Below.refl _ _).alloc (by omega) _
  have c0 := HC.out _ hw0 (nb - 1) (by omega)
  have HG0 := Lib.hid (World.grownBy_alloc w (.cells #[] 26) (some g))
  have below_w0 := Lib.hid hw0
  clear hz hcell hs hm hr hw0
  have HX := Lib.hid (Row.new w 26 #[])
  have hsub : (nb : Int) - 1 = ((nb - 1 : Nat) : Int) := by omega
  go_enter Try.func46, Try.ntmps46
  go_wp2_with fail
  obtain ⟨w1, hw1⟩ : ∃ w1, w1 = w.alloc (.cells #[] 26) := ⟨_, rfl⟩
  rw [← hw1] at HX HG0 below_w0 HR1 ⊢
  clear hw1 c0 hsub
  go_loopw [7, 8] (fun e i wr => ∃ k : Nat, k ≤ nb ∧ i = .int .i64 ((k : Int) - 1) ∧ e = .int .i64 (gl mAdd z (min k (nb - 1)) (nb - 1 - min k (nb - 1))) ∧ Hid (w1.grownBy wr (some g)) ∧ ∃ c1, Hid (Row wr g t c1) ∧ Hid (Upd c c1 (off + min k nr) (off + nr) (fun k => .int .i64 (gl mAdd z (k - off) (nb - 1 - (k - off)))))) (fun _ i _ => (intOf i + 1).toNat)
  case atStart => exact ⟨nb, Nat.le_refl _, by congr 1; omega, by rw [show min nb (nb - 1) = nb - 1 by omega, show nb - 1 - (nb - 1) = 0 by omega]; rfl, Lib.hid (World.grownBy.refl _ _), c, HR1, Lib.hid (Upd.none _ _ _ (by omega) _)⟩
  case round =>
    obtain ⟨k, hk, hi, he, HG, c1, HR1, HU⟩ := hrel
    rcases k with _ | k
    · obtain rfl : u8 = .int .i64 (-1) := by rw [hi]; rfl
      go_wp2
      refine bodyPost_end (results_none rfl _ _ _) rfl ⟨rfl, HG0.out.trans HG.out, c1, HR1.out, ?_⟩
      rw [show off = off + min 0 nr by simp]
      exact HU.out
    · obtain rfl : u8 = .int .i64 k := by rw [hi]; congr 1; omega
      have HX1 := Lib.hid (HX.out.grown HG.out (by intro e; injection e with e; omega))
      have hm1 := add_method
      by_cases hkn : k + 1 < nb
      · obtain ⟨d, hd⟩ : ∃ d, nb - 1 - (k + 1) = d := ⟨_, rfl⟩
        have hd2 : nb - 1 - k = d + 1 := by omega
        have HD2 := Lib.hid hd2
        clear hd2
        rw [show min (k + 1) (nb - 1) = k + 1 by omega, hd] at he
        obtain ⟨E, hE⟩ : ∃ E, gl mAdd z (k + 1) d = E := ⟨_, rfl⟩
        rw [hE] at he
        have HE := Lib.hid (show (mAdd).j (z k) E = gl mAdd z k (d + 1) by rw [← hE, gl_left])
        have hck : ∀ u, (later wr u).cell? ⟨b, o + k, none⟩ = some (.int .i64 (z k)) := fun u => by
          have hb1 := (below_w0.out.grown HG.out (by have := below_w0.out.size; omega) (fun k h => by cases h; exact hB)).trans ((below_later wr u).mono (by have := (below_w0.out.grown HG.out (by have := below_w0.out.size; omega) (fun k h => by cases h; exact hB)).size; omega))
          exact HC.out _ hb1 k (by omega)
        have HJ := Lib.hid (fun u => addJoin (z k) E u (by rw [← hE]; exact gl_room (d := 0) HS.out HM.out (by omega) (by omega) k (k + 1)))
        subst he
        clear hi hE hd
        go_wp2
        refine wp_region_later (by kernel_rfl) (by kernel_rfl) ?_
        repeat (first | go_big_quiet_skip | (go_big_quiet_want; first | (with_reducible refine quiet_loadR aggAdd HX1.out _ rfl ?_ ?_; go_simp; go_simp; go_big_quiet_on) | (go_big_quiet_op; first | go_big_quiet_on | go_big_quiet_call (with_reducible exact calls_later (HJ.out _)))))
        refine wpQuiet_nil ?_
        rintro w4 ⟨u, rfl⟩
        have HGv := Lib.hid (grown_below HG.out (below_later wr u))
        have HRv := Lib.hid (HR1.out.later u)
        clear hck hm1
        by_cases hkr : k < nr
        · obtain ⟨v0, hv0⟩ : ∃ v0, c1[off + k]? = some v0 := ⟨_, Array.getElem?_eq_getElem (by rw [HU.out.1]; omega)⟩
          have hcell := (HRv.out.cell (off + k)).trans hv0
          have hfr := HRv.out.frozen (off + k)
          clear hv0
          go_wp2
          go_roundw
          case rel => exact ⟨k, by omega, rfl, by rw [show min k (nb - 1) = k by omega, HD2.out]; exact congrArg _ HE.out, Lib.hid (grown_set HGv.out rfl _), _, Lib.hid (HRv.out.set (off + k) _), Lib.hid (by
            rw [show off + min k nr = off + k by omega]
            have hu := HU.out
            rw [show off + min (k + 1) nr = off + k + 1 by omega] at hu
            exact hu.down (by omega) (by omega) (by simp only [Nat.add_sub_cancel_left]; rw [HD2.out]; exact congrArg _ HE.out))⟩
          case measure => simp [intOf]; try omega
        · go_wp2
          go_roundw
          case rel => exact ⟨k, by omega, rfl, by rw [show min k (nb - 1) = k by omega, HD2.out]; exact congrArg _ HE.out, HGv, _, HRv, Lib.hid (by
            rw [show off + min k nr = off + min (k + 1) nr by omega]; exact HU.out)⟩
          case measure => simp [intOf]; try omega
      · have hl : nb - 1 - k = 0 := by omega
        have HD2 := Lib.hid hl
        rw [show min (k + 1) (nb - 1) = k by omega, hl] at he
        clear hl
        have HGv := HG
        have HRv := HR1
        subst he
        clear hi hm1
        by_cases hkr : k < nr
        · obtain ⟨v0, hv0⟩ : ∃ v0, c1[off + k]? = some v0 := ⟨_, Array.getElem?_eq_getElem (by rw [HU.out.1]; omega)⟩
          have hcell := (HRv.out.cell (off + k)).trans hv0
          have hfr := HRv.out.frozen (off + k)
          clear hv0
          go_wp2
          go_roundw
          case rel => exact ⟨k, by omega, rfl, by rw [show min k (nb - 1) = k by omega, HD2.out]; try exact rfl, Lib.hid (grown_set HGv.out rfl _), _, Lib.hid (HRv.out.set (off + k) _), Lib.hid (by
            rw [show off + min k nr = off + k by omega]
            have hu := HU.out
            rw [show off + min (k + 1) nr = off + k + 1 by omega] at hu
            exact hu.down (by omega) (by omega) (by simp only [Nat.add_sub_cancel_left]; rw [HD2.out]; try exact rfl))⟩
          case measure => simp [intOf]; try omega
        · go_wp2
          go_roundw
          case rel => exact ⟨k, by omega, rfl, by rw [show min k (nb - 1) = k by omega, HD2.out]; try exact rfl, HGv, _, HRv, Lib.hid (by
            rw [show off + min k nr = off + min (k + 1) nr by omega]; exact HU.out)⟩
          case measure => simp [intOf]; try omega
set_option maxHeartbeats 800000 in
theorem words_ends (B g off : Nat) (t : TypeId) (c : Array Value) (A : Option Addr) (nb cb nr cr m : Nat) (z : Nat → ByteArray) (w : World)
    (hB : B ≤ g) (hz : Rd B w A nb fun k => .string (z k)) (hr : Row w g t c) (h1 : 1 ≤ nb) (hnb : nb ≤ 140737488355328) (hnr : nr ≤ nb) (hc : off + nr ≤ c.size)
    (hs : ∀ k, (mWords).sz (z k) ≤ m) (hm : m * (nb + 1) ≤ 4611686018427387903) :
    Calls Try.prog 42 #[.agg #[], .slice A nb cb, .slice (some ⟨g, off, none⟩) nr cr] w
      (Wrote g t c off (off + nr) (fun k => .string (gl mWords z (k - off) (nb - 1 - (k - off)))) w) := by
  obtain ⟨b, o, rfl, hlt, hcell⟩ := hz.some (k := 0) (by omega)
  have hg := hr.lt
  have HS := Lib.hid hs
  have HC := Lib.hid (fun (u : World) (hb : Below B w u) k (hk : k < nb) => (hb.cell (p := ⟨b, o + k, none⟩) hlt).trans (hcell k hk))
  have HM := Lib.hid hm
  have HR1 := Lib.hid (hr.alloc (.cells #[] 61))
  have hw0 : Below B w (w.alloc (.cells #[] 61)) := (Below.refl _ _).alloc (by omega) _
  have c0 := HC.out _ hw0 (nb - 1) (by omega)
  have HG0 := Lib.hid (World.grownBy_alloc w (.cells #[] 61) (some g))
  have below_w0 := Lib.hid hw0
  clear hz hcell hs hm hr hw0
  have HX := Lib.hid (Row.new w 61 #[])
  have hsub : (nb : Int) - 1 = ((nb - 1 : Nat) : Int) := by omega
  go_enter Try.func42, Try.ntmps42
  go_wp2_with fail
  obtain ⟨w1, hw1⟩ : ∃ w1, w1 = w.alloc (.cells #[] 61) := ⟨_, rfl⟩
  rw [← hw1] at HX HG0 below_w0 HR1 ⊢
  clear hw1 c0 hsub
  go_loopw [7, 8] (fun e i wr => ∃ k : Nat, k ≤ nb ∧ i = .int .i64 ((k : Int) - 1) ∧ e = .string (gl mWords z (min k (nb - 1)) (nb - 1 - min k (nb - 1))) ∧ Hid (w1.grownBy wr (some g)) ∧ ∃ c1, Hid (Row wr g t c1) ∧ Hid (Upd c c1 (off + min k nr) (off + nr) (fun k => .string (gl mWords z (k - off) (nb - 1 - (k - off)))))) (fun _ i _ => (intOf i + 1).toNat)
  case atStart => exact ⟨nb, Nat.le_refl _, by congr 1; omega, by rw [show min nb (nb - 1) = nb - 1 by omega, show nb - 1 - (nb - 1) = 0 by omega]; rfl, Lib.hid (World.grownBy.refl _ _), c, HR1, Lib.hid (Upd.none _ _ _ (by omega) _)⟩
  case round =>
    obtain ⟨k, hk, hi, he, HG, c1, HR1, HU⟩ := hrel
    rcases k with _ | k
    · obtain rfl : u8 = .int .i64 (-1) := by rw [hi]; rfl
      go_wp2
      refine bodyPost_end (results_none rfl _ _ _) rfl ⟨rfl, HG0.out.trans HG.out, c1, HR1.out, ?_⟩
      rw [show off = off + min 0 nr by simp]
      exact HU.out
    · obtain rfl : u8 = .int .i64 k := by rw [hi]; congr 1; omega
      have HX1 := Lib.hid (HX.out.grown HG.out (by intro e; injection e with e; omega))
      have hm1 := words_method
      by_cases hkn : k + 1 < nb
      · obtain ⟨d, hd⟩ : ∃ d, nb - 1 - (k + 1) = d := ⟨_, rfl⟩
        have hd2 : nb - 1 - k = d + 1 := by omega
        have HD2 := Lib.hid hd2
        clear hd2
        rw [show min (k + 1) (nb - 1) = k + 1 by omega, hd] at he
        obtain ⟨E, hE⟩ : ∃ E, gl mWords z (k + 1) d = E := ⟨_, rfl⟩
        rw [hE] at he
        have HE := Lib.hid (show (mWords).j (z k) E = gl mWords z k (d + 1) by rw [← hE, gl_left])
        have hck : ∀ u, (later wr u).cell? ⟨b, o + k, none⟩ = some (.string (z k)) := fun u => by
          have hb1 := (below_w0.out.grown HG.out (by have := below_w0.out.size; omega) (fun k h => by cases h; exact hB)).trans ((below_later wr u).mono (by have := (below_w0.out.grown HG.out (by have := below_w0.out.size; omega) (fun k h => by cases h; exact hB)).size; omega))
          exact HC.out _ hb1 k (by omega)
        have HJ := Lib.hid (fun u => wordsJoin (z k) E u (by rw [← hE]; exact gl_room (d := 0) HS.out HM.out (by omega) (by omega) k (k + 1)))
        subst he
        clear hi hE hd
        go_wp2
        refine wp_region_later (by kernel_rfl) (by kernel_rfl) ?_
        repeat (first | go_big_quiet_skip | (go_big_quiet_want; first | (with_reducible refine quiet_loadR aggWords HX1.out _ rfl ?_ ?_; go_simp; go_simp; go_big_quiet_on) | (go_big_quiet_op; first | go_big_quiet_on | go_big_quiet_call (with_reducible exact calls_later (HJ.out _)))))
        refine wpQuiet_nil ?_
        rintro w4 ⟨u, rfl⟩
        have HGv := Lib.hid (grown_below HG.out (below_later wr u))
        have HRv := Lib.hid (HR1.out.later u)
        clear hck hm1
        by_cases hkr : k < nr
        · obtain ⟨v0, hv0⟩ : ∃ v0, c1[off + k]? = some v0 := ⟨_, Array.getElem?_eq_getElem (by rw [HU.out.1]; omega)⟩
          have hcell := (HRv.out.cell (off + k)).trans hv0
          have hfr := HRv.out.frozen (off + k)
          clear hv0
          go_wp2
          go_roundw
          case rel => exact ⟨k, by omega, rfl, by rw [show min k (nb - 1) = k by omega, HD2.out]; exact congrArg _ HE.out, Lib.hid (grown_set HGv.out rfl _), _, Lib.hid (HRv.out.set (off + k) _), Lib.hid (by
            rw [show off + min k nr = off + k by omega]
            have hu := HU.out
            rw [show off + min (k + 1) nr = off + k + 1 by omega] at hu
            exact hu.down (by omega) (by omega) (by simp only [Nat.add_sub_cancel_left]; rw [HD2.out]; exact congrArg _ HE.out))⟩
          case measure => simp [intOf]; try omega
        · go_wp2
          go_roundw
          case rel => exact ⟨k, by omega, rfl, by rw [show min k (nb - 1) = k by omega, HD2.out]; exact congrArg _ HE.out, HGv, _, HRv, Lib.hid (by
            rw [show off + min k nr = off + min (k + 1) nr by omega]; exact HU.out)⟩
          case measure => simp [intOf]; try omega
      · have hl : nb - 1 - k = 0 := by omega
        have HD2 := Lib.hid hl
        rw [show min (k + 1) (nb - 1) = k by omega, hl] at he
        clear hl
        have HGv := HG
        have HRv := HR1
        subst he
        clear hi hm1
        by_cases hkr : k < nr
        · obtain ⟨v0, hv0⟩ : ∃ v0, c1[off + k]? = some v0 := ⟨_, Array.getElem?_eq_getElem (by rw [HU.out.1]; omega)⟩
          have hcell := (HRv.out.cell (off + k)).trans hv0
          have hfr := HRv.out.frozen (off + k)
          clear hv0
          go_wp2
          go_roundw
          case rel => exact ⟨k, by omega, rfl, by rw [show min k (nb - 1) = k by omega, HD2.out]; try exact rfl, Lib.hid (grown_set HGv.out rfl _), _, Lib.hid (HRv.out.set (off + k) _), Lib.hid (by
            rw [show off + min k nr = off + k by omega]
            have hu := HU.out
            rw [show off + min (k + 1) nr = off + k + 1 by omega] at hu
            exact hu.down (by omega) (by omega) (by simp only [Nat.add_sub_cancel_left]; rw [HD2.out]; try exact rfl))⟩
          case measure => simp [intOf]; try omega
        · go_wp2
          go_roundw
          case rel => exact ⟨k, by omega, rfl, by rw [show min k (nb - 1) = k by omega, HD2.out]; try exact rfl, HGv, _, HRv, Lib.hid (by
            rw [show off + min k nr = off + min (k + 1) nr by omega]; exact HU.out)⟩
          case measure => simp [intOf]; try omega
end Go.Proofs.Ytbiecpejpkgngaa
