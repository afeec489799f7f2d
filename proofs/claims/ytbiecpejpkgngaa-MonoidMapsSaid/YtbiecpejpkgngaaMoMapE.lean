/-
  Package monoid: maps: the fold.
-/
import Derived.Test.YtbiecpejpkgngaaMoMapD
namespace Go.Proofs.Ytbiecpejpkgngaa
open Go.RowKit
theorem cm_join {N L k : Nat} {S : Nat → Option Addr × Nat × Nat} {Z : Nat → Nat → Int} {x : Nat} (h : x < N) : asMap N (S k).2.1 (Z k) (asMap N N (fun x => cm N S Z x k) x).toNat = cm N S Z x (k + 1) := by
  have hv : isMap N N (fun x => cm N S Z x k) := ⟨rfl, fun x hx => by obtain ⟨j, hj, e⟩ := cm_get (S := S) (Z := Z) hx k; show 0 ≤ cm N S Z x k ∧ cm N S Z x k < _; omega⟩
  rw [show asMap N N (fun x => cm N S Z x k) x = cm N S Z x k from if_pos hv, cm]
theorem RowsEnd.congr {N : Nat} {f f' : Nat → Value} {w : World} {e : Ending} {w' : World} (h : RowsEnd N f w e w') (hf : ∀ k, k < N → f k = f' k) : RowsEnd N f' w e w' := by
  obtain ⟨A', c', he, hb, hr⟩ := h
  exact ⟨A', c', he, hb, hr.congr hf⟩
/-- Join, over one more map. -/
theorem cmJoin (n : Int) (N k : Nat) (S : Nat → Option Addr × Nat × Nat) (Z : Nat → Nat → Int) (A' : Option Addr) (c' : Nat) (w : World) (hn : n.toNat = N) (hN : N ≤ 100000) (hm : (S k).2.1 ≤ 140737488355328)
    (hr : Rd w.heap.size w A' N fun x => .int .i64 (cm N S Z x k)) (hz : Rd w.heap.size w (S k).1 (S k).2.1 fun x => .int .i64 (Z k x)) :
    Calls Try.prog 21 #[.agg #[.int .i64 n], .slice A' N c', .slice (S k).1 (S k).2.1 (S k).2.2] w (RowsEnd N (fun x => .int .i64 (cm N S Z x (k + 1))) w) := by
  refine (mapsJoin n N A' (S k).1 N (S k).2.1 c' (S k).2.2 (fun x => cm N S Z x k) (Z k) w hn hN (by omega) hm hr hz).mono ?_
  intro e w' h
  refine h.rows.congr fun x hx => ?_
  rw [cm_join (L := 0) hx]
set_option maxRecDepth 20000 in
set_option maxHeartbeats 1600000 in
theorem mapsFold (A : Option Addr) (L c N : Nat) (n : Int) (S : Nat → Option Addr × Nat × Nat) (Z : Nat → Nat → Int) (w : World) (hn : n.toNat = N) (hN : N ≤ 100000) (hL : L ≤ 140737488355328) (hl : Lists w A L S Z) :
    Calls Try.prog 25 #[.agg #[.int .i64 n], .slice A L c] w (RowsEnd N (fun k => .int .i64 (cm N S Z k L)) w) := by
  have HZ := Lib.hid hl
  have HNn := Lib.hid hn
  clear hl hn
  have HB0 := Lib.hid (show Below w.heap.size w (w.alloc (.cells #[.int .i64 n] 48)) from (Below.refl _ _).alloc (Nat.le_refl _) _)
  have HX0 := Lib.hid (Row.new w 48 #[.int .i64 n])
  go_enter Try.func25, Try.ntmps25
  go_wp2_with (first | ((with_reducible refine wpList_loadR aggMaps HX0.out rfl _ rfl ?_ ?_); (go_simp <;> fail); go_simp) | fail)
  refine (mapsUnit n N _ HNn.out hN).mono ?_
  intro e w2 h
  obtain ⟨A2, c2, rfl, hb, hr⟩ := h.rows
  obtain ⟨w1, hw1⟩ : ∃ w1, w1 = w.alloc (.cells #[.int .i64 n] 48) := ⟨_, rfl⟩
  rw [← hw1] at hb HX0 HB0
  clear hw1 h
  have HX2 := Lib.hid (HX0.out.below' hb)
  have HB2 := Lib.hid (HB0.out.trans (hb.mono HB0.out.size))
  have HR2 := Lib.hid hr
  have hd : w.heap.size < w2.heap.size := HX2.out.lt
  clear hb hr HX0 HB0
  go_wp2
  go_loopw [5, 13] (fun r i wr => ∃ k : Nat, k ≤ L ∧ i = .int .i64 k ∧ ∃ A' c', r = .slice A' N c' ∧ Hid (Below w2.heap.size w2 wr) ∧ Hid (Rd wr.heap.size wr A' N fun x => .int .i64 (cm N S Z x k))) (fun _ i _ => L - (intOf i).toNat)
  case atStart => exact ⟨0, Nat.zero_le _, rfl, A2, c2, rfl, Lib.hid (Below.refl _ _), HR2⟩
  case round =>
    obtain ⟨k, hk, rfl, A', c', rfl, HB, HR⟩ := hrel
    by_cases hlt : k < L
    · have HBr := Lib.hid (HB2.out.trans (HB.out.mono HB2.out.size))
      have HZr := Lib.hid (HZ.out.later HBr.out)
      have HXr := Lib.hid (HX2.out.below' HB.out)
      obtain ⟨b, o, rfl, hbB, hc⟩ := HZr.out.1.some hlt
      obtain ⟨hm1, hz1⟩ := HZr.out.2 k hlt
      have C := Lib.hid (cmJoin n N k S Z A' c' wr HNn.out hN hm1 HR.out hz1)
      have hcq := hc k hlt
      obtain ⟨s1, hs1⟩ : ∃ s1, (S k).1 = s1 := ⟨_, rfl⟩
      obtain ⟨s2, hs2⟩ : ∃ s2, (S k).2.1 = s2 := ⟨_, rfl⟩
      obtain ⟨s3, hs3⟩ : ∃ s3, (S k).2.2 = s3 := ⟨_, rfl⟩
      simp only [hs1, hs2, hs3] at hcq C
      clear hm1 hz1 hs1 hs2 hs3 hc
      go_wp2_with (first | ((with_reducible refine wpList_loadR aggMaps HXr.out rfl _ rfl ?_ ?_); (go_simp <;> fail); go_simp) | fail)
      refine C.out.mono ?_
      rintro e w3 ⟨A3, c3, rfl, hb3, hr3⟩
      have HB3 := Lib.hid (HB.out.trans (hb3.mono HB.out.size))
      have HR3 := Lib.hid hr3
      clear hb3 hr3
      go_wp2
      go_roundw
      case rel => exact ⟨k + 1, by omega, by go_num, A3, c3, rfl, HB3, HR3⟩
      case measure => simp [intOf]; try omega
    · obtain rfl : k = L := by omega
      go_wp2
      go_ret
      exact ⟨A', c', rfl, HB2.out.trans (HB.out.mono HB2.out.size), HR.out⟩
end Go.Proofs.Ytbiecpejpkgngaa
