/-
  Package monoid: maps: valid and Unit.
-/
import Derived.Test.YtbiecpejpkgngaaMoMapA
import Derived.Test.YtbiecpejpkgngaaMoPre
namespace Go.Proofs.Ytbiecpejpkgngaa
open Go.RowKit
theorem aggMaps : AggT 48 1 := ⟨⟨_, Try.underlying48, rfl⟩, by kernel_rfl⟩
def ValidEndB (N m : Nat) (z : Nat → Int) (w : World) (e : Ending) (w' : World) : Prop := ∃ b : Bool, e = .returned (.bool b) ∧ (b = true ↔ isMap N m z) ∧ Below w.heap.size w w'
set_option maxHeartbeats 800000 in
theorem mapsValid (A : Option Addr) (m c : Nat) (n : Int) (z : Nat → Int) (w : World) (hm : m ≤ 140737488355328) (hN : n.toNat ≤ 140737488355328)
    (hz : Rd w.heap.size w A m fun k => .int .i64 (z k)) :
    Calls Try.prog 40 #[.agg #[.int .i64 n], .slice A m c] w (ValidEndB n.toNat m z w) := by
  have HZ := Lib.hid hz
  obtain ⟨N, hNd⟩ : ∃ N, n.toNat = N := ⟨_, rfl⟩
  rw [hNd] at hN ⊢
  have hmax : (if n < 0 then (0 : Int) else n) = (N : Int) := by split <;> omega
  have HD := Lib.hid hNd
  clear hz hNd
  by_cases hne : m = N
  · have HN := Lib.hid hne
    have hnn : ((m : Int) == (N : Int)) = true := by simp; omega
    have hnn2 : ((m : Int) != (N : Int)) = false := by simp; omega
    clear hne
    go_enter Try.func40, Try.ntmps40
    go_wp2
    go_loopw [15] (fun i wr => ∃ k : Nat, k ≤ m ∧ i = .int .i64 k ∧ Hid (∀ j, j < k → 0 ≤ z j ∧ z j < (N : Int)) ∧ wr = w.alloc (.cells #[.int .i64 n] 48)) (fun i _ => m - (intOf i).toNat)
    case atStart => exact ⟨0, Nat.zero_le _, rfl, Lib.hid (fun j hj => absurd hj (by omega)), rfl⟩
    case round =>
      obtain ⟨k, hk, rfl, HE, hw⟩ := hrel
      subst wr
      have HB := Lib.hid (show Below w.heap.size w (w.alloc (.cells #[.int .i64 n] 48)) from (Below.refl _ _).alloc (Nat.le_refl _) _)
      by_cases hlt : k < m
      · obtain ⟨b, o, rfl, hbB, hc⟩ := HZ.out.some hlt
        have h1 : (w.alloc (.cells #[.int .i64 n] 48)).cell? ⟨b, o + k, none⟩ = some (.int .i64 (z k)) := (HB.out.cell (p := ⟨b, o + k, none⟩) hbB).trans (hc k hlt)
        obtain ⟨x, hx⟩ : ∃ x, z k = x := ⟨_, rfl⟩
        rw [hx] at h1
        have HX := Lib.hid hx
        clear hx hc
        by_cases hx0 : x < 0
        · go_wp2
          go_ret
          exact ⟨false, rfl, ⟨fun h => Bool.noConfusion h, fun h => by have := (h.2 k hlt).1; rw [HX.out] at this; have := HD.out; have := HN.out; omega⟩, HB.out⟩
        · by_cases hxn : (m : Int) ≤ x
          · go_wp2
            go_ret
            exact ⟨false, rfl, ⟨fun h => Bool.noConfusion h, fun h => by have := (h.2 k hlt).2; rw [HX.out] at this; have := HD.out; have := HN.out; omega⟩, HB.out⟩
          · go_wp2
            go_roundw
            case rel => exact ⟨k + 1, by omega, by go_num, Lib.hid (fun j hj => by
              by_cases e : j = k
              · rw [e, HX.out]; have := HD.out; have := HN.out; omega
              · exact HE.out j (by omega)), trivial⟩
            case measure => simp [intOf]; try omega
      · obtain rfl : k = m := by omega
        go_wp2
        go_ret
        exact ⟨true, rfl, ⟨fun _ => ⟨HN.out, HE.out⟩, fun _ => rfl⟩, HB.out⟩
  · have hnn : ((m : Int) == (N : Int)) = false := by simp; omega
    have hnn2 : ((m : Int) != (N : Int)) = true := by simp; omega
    have HN := Lib.hid hne
    clear hne
    go_enter Try.func40, Try.ntmps40
    go_wp2
    go_ret
    exact ⟨false, rfl, ⟨fun h => Bool.noConfusion h, fun h => absurd h.1 HN.out⟩, (Below.refl _ _).alloc (Nat.le_refl _) _⟩
theorem map_info : (Try.prog.info? 3).map (fun i => (i.zero, i.size, i.bytes)) = some (some (.int .i64 0), 1, 8) := by kernel_rfl
set_option maxHeartbeats 800000 in
theorem mapsUnit (n : Int) (N : Nat) (w : World) (hn : n.toNat = N) (hN : N ≤ 100000) :
    Calls Try.prog 20 #[.agg #[.int .i64 n]] w (Made 3 N (fun k => .int .i64 (k : Int)) w) := by
  obtain ⟨i0, hi, hz0, hz1, hz2⟩ := info_parts map_info
  have hmax : (if n < 0 then (0 : Int) else n) = (N : Int) := by split <;> omega
  have HB0 := Lib.hid (show Below w.heap.size w (w.alloc (.cells #[.int .i64 n] 48)) from (Below.refl _ _).alloc (Nat.le_refl _) _)
  clear hn
  go_enter Try.func20, Try.ntmps20
  go_wp2_with (at_make; refine wpList_make_row _ rfl _ _ 50 rfl 3 i0 (.int .i64 0) Try.underlying50 hi hz0 hz1 rfl .i64 .i64 N rfl rfl (by rw [hz2]; omega) (by omega) ?_)
  obtain ⟨w1, hw1⟩ : ∃ w1, w1 = (w.alloc (.cells #[.int .i64 n] 48)).alloc (.cells (madeCells #[.int .i64 0] N) 3) := ⟨_, rfl⟩
  have HR3 := Lib.hid (show Row w1 (w.heap.size + 1) 3 (madeCells #[.int .i64 0] N) by rw [hw1]; have h := Row.new (w.alloc (.cells #[.int .i64 n] 48)) 3 (madeCells #[.int .i64 0] N); simpa using h)
  have HB3 := Lib.hid (show Below w.heap.size w w1 by rw [hw1]; exact HB0.out.alloc (by simp) _)
  change Code.wp _ _ _ _ ((w.alloc (.cells #[.int .i64 n] 48)).alloc (.cells (madeCells #[.int .i64 0] N) 3))
  rw [← hw1]
  clear hw1 HB0
  go_loopw [11] (fun i wr => ∃ k : Nat, k ≤ N ∧ i = .int .i64 k ∧ Hid (w1.grownBy wr (some (w.heap.size + 1))) ∧ ∃ c1, Hid (Row wr (w.heap.size + 1) 3 c1) ∧ Hid (Upd (madeCells #[.int .i64 0] N) c1 0 k (fun k => .int .i64 (k : Int)))) (fun i _ => N - (intOf i).toNat)
  case atStart => exact ⟨0, Nat.zero_le _, rfl, Lib.hid (World.grownBy.refl _ _), _, HR3, Lib.hid (Upd.none _ 0 0 (by omega) _)⟩
  case round =>
    obtain ⟨k, hk, rfl, HG, c1, HR1, HU⟩ := hrel
    by_cases hlt : k < N
    · have HSZ := Lib.hid (show k < c1.size by rw [HU.out.1, size_madeCells]; exact hlt)
      obtain ⟨v0, hv0⟩ : ∃ v0, c1[k]? = some v0 := ⟨_, Array.getElem?_eq_getElem HSZ.out⟩
      have hcell := (HR1.out.cell k).trans hv0
      have hfr := HR1.out.frozen k
      clear hv0
      go_wp2
      go_roundw
      case rel => exact ⟨k + 1, by omega, by go_num, Lib.hid (grown_set HG.out rfl _), _, Lib.hid (HR1.out.set k _), Lib.hid (HU.out.up (by omega) (by rw [size_madeCells]; exact hlt) rfl)⟩
      case measure => simp [intOf]; try omega
    · obtain rfl : k = N := by omega
      go_wp2
      go_ret
      exact ⟨_, c1, by omega, rfl, HB3.out.grown HG.out HB3.out.size (fun k h => by cases h; omega), HR1.out, by rw [HU.out.1, size_madeCells], fun j hj => HU.out.2.1 j (by omega) hj⟩
end Go.Proofs.Ytbiecpejpkgngaa
