/-
  Package monoid: the powers of digests.
-/
import Derived.Test.YtgjhlmmhpcbnaaaDgB
import Derived.Test.YtgjhlmmhpcbnaaaDgMoP
namespace Go.Proofs.Ytgjhlmmhpcbnaaa
open Go.RowKit
theorem ds_method (W : World) : (method 210 73 (.agg #[]) "Join").run Try.prog W = .ok (80, .agg #[]) W := rfl
theorem inR_cw {f : Int × Int} (h : InR f) (k : Nat) : InR (cw mDig f k) := by
  unfold cw
  by_cases h0 : k = 0
  · rw [if_pos h0]; exact inR_e
  · rw [if_neg h0]
    rcases Nat.eq_zero_or_pos (k - 1) with h1 | h1
    · rw [h1]; exact h
    · obtain ⟨d, hd⟩ : ∃ d, k - 1 = d + 1 := ⟨k - 2, by omega⟩
      rw [hd, gl]; exact inR_j _ _
/-- The three variables that Power lays: the monoid, the base and the result. -/
def PowV (s : Nat) (w wr : World) (x r : Int × Int) : Prop := Below s w wr ∧ Row wr s 73 #[] ∧ Row wr (s + 1) 25 (dc x) ∧ Row wr (s + 1 + 1) 25 (dc r)
theorem PowV.below {s : Nat} {w wr w2 : World} {x r : Int × Int} (h : PowV s w wr x r) (hs : s ≤ w.heap.size) (hb : Below wr.heap.size wr w2) : PowV s w w2 x r :=
  ⟨h.1.trans (hb.mono (Nat.le_trans hs h.1.size)), h.2.1.below' hb, h.2.2.1.below' hb, h.2.2.2.below' hb⟩
theorem PowV.setX {s : Nat} {w wr : World} {x r x' : Int × Int} (h : PowV s w wr x r) : PowV s w (wr.setRow (s + 1) (dc x')) x' r :=
  ⟨below_setRow h.1 (by omega) _, h.2.1.setRow_far (by omega) _, h.2.2.1.setRow _, h.2.2.2.setRow_far (by omega) _⟩
theorem PowV.setR {s : Nat} {w wr : World} {x r r' : Int × Int} (h : PowV s w wr x r) : PowV s w (wr.setRow (s + 1 + 1) (dc r')) x r' :=
  ⟨below_setRow h.1 (by omega) _, h.2.1.setRow_far (by omega) _, h.2.2.1.setRow_far (by omega) _, h.2.2.2.setRow _⟩
theorem PowV.far {s : Nat} {w wr : World} {x r : Int × Int} (h : PowV s w wr x r) {g : Nat} (hg : s + 1 + 1 < g) (c : Array Value) : PowV s w (wr.setRow g c) x r :=
  ⟨below_setRow h.1 (by omega) _, h.2.1.setRow_far (by omega) _, h.2.2.1.setRow_far (by omega) _, h.2.2.2.setRow_far (by omega) _⟩
theorem powV_start (w : World) (x : Int × Int) : PowV w.heap.size w (((w.alloc (.cells #[] 73)).alloc (.cells (dc x) 25)).alloc (.cells (dc (0, 0)) 25)) x (0, 0) := by
  refine ⟨((Below.refl _ _).alloc (Nat.le_refl _) _).alloc (by simp) _ |>.alloc (by simp; omega) _, ((Row.new _ _ _).alloc _).alloc _, ?_, ?_⟩
  · have := (Row.new (w.alloc (.cells #[] 73)) 25 (dc x)).alloc (.cells (dc (0, 0)) 25)
    simpa using this
  · have := Row.new ((w.alloc (.cells #[] 73)).alloc (.cells (dc x) 25)) 25 (dc (0, 0))
    simpa using this
set_option maxRecDepth 20000 in
set_option maxHeartbeats 1600000 in
theorem dg_pow (x : Int × Int) (K : Nat) (w : World) (hx : InR x) (h1 : 1 ≤ K) (hK : (K : Int) ≤ 9223372036854775807) :
    Calls Try.prog 53 #[.agg #[], .agg (dc x), .int .i64 K] w fun e w' => e = .returned (.agg (dc (cw mDig x K))) ∧ Below w.heap.size w w' := by
  obtain ⟨s, hs⟩ : ∃ s, w.heap.size = s := ⟨_, rfl⟩
  have z0 := dg_zero
  have hm1 := ds_method
  have HI := Lib.hid (fun k => (inR_cw hx k).in64)
  clear hx
  have HV0 := Lib.hid (powV_start w x)
  rw [hs] at HV0
  obtain ⟨X, hX⟩ : ∃ X, dc x = X := ⟨_, rfl⟩
  rw [hX] at HV0 ⊢
  have HXX := Lib.hid hX
  clear hX
  go_enter Try.func53, Try.ntmps53
  go_wp2_with fail
  obtain ⟨w1, hw1⟩ : ∃ w1, w1 = (((w.alloc (.cells #[] 73)).alloc (.cells X 25)).alloc (.cells (dc (0, 0)) 25)) := ⟨_, rfl⟩
  rw [← hw1] at HV0 ⊢
  have HS := Lib.hid hs
  clear hw1 hs
  go_loopw [2] (fun i wr => ∃ k t : Nat, 1 ≤ k ∧ 1 ≤ t ∧ Hid (k * t = K) ∧ k ≤ K ∧ i = .int .i64 k ∧ Hid (PowV s w wr (cw mDig x t) (0, 0))) (fun i _ => (intOf i).toNat)
  case atStart => exact ⟨K, 1, h1, Nat.le_refl _, Lib.hid (Nat.mul_one _), Nat.le_refl _, rfl, HV0⟩
  case round =>
    obtain ⟨k, t, hk, ht, HKT, hkK, rfl, HB⟩ := hrel
    have r0 := Lib.hid HB.out.2.1
    have r1 := Lib.hid HB.out.2.2.1
    by_cases he : k % 2 = 0
    · have he' : ((k : Int) % 2 == 0) = true := by simp; omega
      have HJ := Lib.hid (fun u => ds_join (cw mDig x t) (cw mDig x t) u (HI.out _) (HI.out _))
      rw [cw_add ht ht] at HJ
      have HE := Lib.hid he
      clear he z0
      go_wp2_with (first | ((with_reducible refine wpList_loadR aggDs r0.out rfl _ rfl ?_ ?_); (go_simp <;> fail); go_simp) | ((with_reducible refine wpList_loadR aggD r1.out rfl _ rfl ?_ ?_); (go_simp <;> fail); go_simp) | ((with_reducible refine wpList_storeR (c' := dc (cw mDig x (t + t))) aggD r3.out rfl (dc_one _) rfl _ _ rfl ?_ ?_ ?_); (go_simp <;> fail); (go_simp <;> fail); go_simp) | (go_at_call 80; (with_reducible refine (HJ.out _).mono ?_); rintro e w2 ⟨rfl, hb2⟩; have HB2 := Lib.hid hb2; clear hb2; have r3 := Lib.hid (r1.out.below' HB2.out)))
      go_roundw
      case rel => exact ⟨k / 2, t + t, by have := HE.out; omega, by omega, Lib.hid (half_even HKT.out HE.out), by omega, by go_num, Lib.hid ((HB.out.below (by have := HS.out; omega) HB2.out).setX)⟩
      case measure => simp [intOf]; try omega
    · have he' : ((k : Int) % 2 == 0) = false := by simp; omega
      have HR0 := Lib.hid (show t + (k - k % 2) * t = K by
        have h := HKT.out
        obtain ⟨q, rfl⟩ : ∃ q, k = q + 1 := ⟨k - 1, by omega⟩
        rw [show q + 1 - (q + 1) % 2 = q by omega]
        rw [Nat.add_mul, Nat.one_mul] at h; omega)
      clear he
      go_wp2_with (first | ((with_reducible refine wpList_loadR aggD r1.out rfl _ rfl ?_ ?_); (go_simp <;> fail); go_simp) | ((with_reducible refine wpList_newR (c' := dc (cw mDig x t)) aggD rfl (dc_one _) rfl _ _ rfl ?_ ?_ ?_); (go_simp <;> fail); (go_simp <;> fail); go_simp))
      obtain ⟨g7, hg7⟩ : ∃ g7, g7 = wr.heap.size := ⟨_, rfl⟩
      obtain ⟨w7, hw7⟩ : ∃ w7, w7 = wr.alloc (Obj.cells (dc (cw mDig x t)) 25) := ⟨_, rfl⟩
      have hlt7 : s + 1 + 1 < g7 := by rw [hg7]; exact HB.out.2.2.2.lt
      have HB7 := Lib.hid (show PowV s w w7 (cw mDig x t) (0, 0) by rw [hw7]; exact HB.out.below (by have := HS.out; omega) ((Below.refl _ _).alloc (Nat.le_refl _) _))
      have HR7 := Lib.hid (show Row w7 g7 25 (dc (cw mDig x t)) by rw [hw7, hg7]; exact Row.new _ _ _)
      rw [← hw7, ← hg7]
      clear hw7 hg7 r0 r1 HB
      go_loopw [2] (fun i wr => ∃ k t q : Nat, 1 ≤ k ∧ 1 ≤ t ∧ 1 ≤ q ∧ Hid (q + (k - k % 2) * t = K) ∧ k ≤ K ∧ i = .int .i64 k ∧ Hid (PowV s w wr (cw mDig x t) (0, 0)) ∧ Hid (Row wr g7 25 (dc (cw mDig x q)))) (fun i _ => (intOf i).toNat)
      case atStart => exact ⟨k, t, t, hk, ht, ht, HR0, hkK, rfl, HB7, HR7⟩
      case round =>
        clear HR0 HKT HB7 HR7 ht hk hkK he'
        obtain ⟨k, t, q, hk, ht, hq, HKT, hkK, rfl, HB, HQ⟩ := hrel
        have r0 := Lib.hid HB.out.2.1
        have r1 := Lib.hid HB.out.2.2.1
        by_cases h2 : 2 ≤ k
        · have HJ := Lib.hid (fun u => ds_join (cw mDig x t) (cw mDig x t) u (HI.out _) (HI.out _))
          have HJ2 := Lib.hid (fun u => ds_join (cw mDig x q) (cw mDig x (t + t)) u (HI.out _) (HI.out _))
          rw [cw_add ht ht] at HJ
          rw [cw_add hq (by omega)] at HJ2
          have A1 := Lib.hid (show 1 ≤ k / 2 ∧ 1 ≤ t + t ∧ 1 ≤ q + (t + t) ∧ k / 2 ≤ K by omega)
          by_cases he : k / 2 % 2 = 1
          · have he' : ((k : Int) / 2 % 2 == 1) = true := by simp; omega
            have HE := Lib.hid he
            clear he z0
            go_wp2_with (first | ((with_reducible refine wpList_loadR aggDs r0.out rfl _ rfl ?_ ?_); (go_simp <;> fail); go_simp) | ((with_reducible refine wpList_loadR aggD r1.out rfl _ rfl ?_ ?_); (go_simp <;> fail); go_simp) | ((with_reducible refine wpList_loadR aggDs r4.out rfl _ rfl ?_ ?_); (go_simp <;> fail); go_simp) | ((with_reducible refine wpList_loadR aggD r5.out rfl _ rfl ?_ ?_); (go_simp <;> fail); go_simp) | ((with_reducible refine wpList_loadR aggD HQ3.out rfl _ rfl ?_ ?_); (go_simp <;> fail); go_simp) | ((with_reducible refine wpList_storeR (c' := dc (cw mDig x (t + t))) aggD r3.out rfl (dc_one _) rfl _ _ rfl ?_ ?_ ?_); (go_simp <;> fail); (go_simp <;> fail); go_simp) | ((with_reducible refine wpList_storeR (c' := dc (cw mDig x (q + (t + t)))) aggD r7.out rfl (dc_one _) rfl _ _ rfl ?_ ?_ ?_); (go_simp <;> fail); (go_simp <;> fail); go_simp) | (go_at_call 80; first | ((with_reducible refine (HJ.out _).mono ?_); rintro e w2 ⟨rfl, hb2⟩; have HB2 := Lib.hid (HB.out.below (by have := HS.out; omega) hb2); have HQ2 := Lib.hid ((HQ.out.below' hb2)); clear hb2; have r3 := Lib.hid HB2.out.2.2.1; have HB3 := Lib.hid (HB2.out.setX (x' := cw mDig x (t + t))); have HQ3 := Lib.hid (HQ2.out.setRow_far (g' := s + 1) (by omega) (dc (cw mDig x (t + t)))); have r4 := Lib.hid HB3.out.2.1; have r5 := Lib.hid HB3.out.2.2.1) | ((with_reducible refine (HJ2.out _).mono ?_); rintro e w4 ⟨rfl, hb4⟩; have HB4 := Lib.hid (HB3.out.below (by have := HS.out; omega) hb4); have r7 := Lib.hid (HQ3.out.below' hb4); clear hb4)))
            go_roundw
            case rel => exact ⟨k / 2, t + t, q + (t + t), A1.out.1, A1.out.2.1, A1.out.2.2.1, Lib.hid (half_odd HKT.out h2 HE.out), A1.out.2.2.2, by go_num, Lib.hid (HB4.out.far hlt7 _), Lib.hid (r7.out.setRow _)⟩
            case measure => simp [intOf]; try omega
          · have he' : ((k : Int) / 2 % 2 == 1) = false := by simp; omega
            have HE := Lib.hid (show k / 2 % 2 = 0 by omega)
            clear he z0
            go_wp2_with (first | ((with_reducible refine wpList_loadR aggDs r0.out rfl _ rfl ?_ ?_); (go_simp <;> fail); go_simp) | ((with_reducible refine wpList_loadR aggD r1.out rfl _ rfl ?_ ?_); (go_simp <;> fail); go_simp) | ((with_reducible refine wpList_storeR (c' := dc (cw mDig x (t + t))) aggD r3.out rfl (dc_one _) rfl _ _ rfl ?_ ?_ ?_); (go_simp <;> fail); (go_simp <;> fail); go_simp) | (go_at_call 80; ((with_reducible refine (HJ.out _).mono ?_); rintro e w2 ⟨rfl, hb2⟩; have HB2 := Lib.hid (HB.out.below (by have := HS.out; omega) hb2); have HQ2 := Lib.hid ((HQ.out.below' hb2)); clear hb2; have r3 := Lib.hid HB2.out.2.2.1)))
            go_roundw
            case rel => exact ⟨k / 2, t + t, q, A1.out.1, A1.out.2.1, hq, Lib.hid (half_ev HKT.out h2 HE.out), A1.out.2.2.2, by go_num, Lib.hid HB2.out.setX, Lib.hid (HQ2.out.setRow_far (by omega) _)⟩
            case measure => simp [intOf]; try omega
        · obtain rfl : k = 1 := by omega
          have hq : q = K := by have := HKT.out; simp at this; exact this
          have r8 := Lib.hid HB.out.2.2.2
          have HQK := Lib.hid hq
          clear hq z0
          go_wp2_with (first | ((with_reducible refine wpList_loadR aggD HQ.out rfl _ rfl ?_ ?_); (go_simp <;> fail); go_simp) | ((with_reducible refine wpList_storeR (c' := dc (cw mDig x q)) aggD r8.out rfl (dc_one _) rfl _ _ rfl ?_ ?_ ?_); (go_simp <;> fail); (go_simp <;> fail); go_simp))
          refine bodyPost_ret (results_cellR (c := dc (cw mDig x q)) aggD rfl _ (r8.out.setRow _) ?_) rfl ⟨by rw [HQK.out], ?_⟩
          · go_simp
          · rw [HS.out]; exact below_setRow HB.out.1 (by omega) _
set_option maxHeartbeats 800000 in
theorem dg_pow_none (x : Int × Int) (n : Int) (w : World) (h1 : n < 1) :
    Calls Try.prog 53 #[.agg #[], .agg (dc x), .int .i64 n] w fun e w' => e = .returned (.agg (dc mDig.e)) ∧ Below w.heap.size w w' := by
  obtain ⟨s, hs⟩ : ∃ s, w.heap.size = s := ⟨_, rfl⟩
  have z0 := dg_zero
  have HV0 := Lib.hid (powV_start w x)
  rw [hs] at HV0
  have r0 := Lib.hid HV0.out.2.1
  have HU := Lib.hid ds_unit
  have HS := Lib.hid hs
  go_enter Try.func53, Try.ntmps53
  go_wp2_with (first | ((with_reducible refine wpList_loadR aggDs r0.out rfl _ rfl ?_ ?_); (go_simp <;> fail); go_simp) | ((with_reducible refine wpList_storeR (c' := dc (mDig.e)) aggD r9.out rfl (dc_one _) rfl _ _ rfl ?_ ?_ ?_); (go_simp <;> fail); (go_simp <;> fail); go_simp) | (go_at_call 81; (with_reducible refine (HU.out _).mono ?_); rintro e w2 ⟨rfl, hb2⟩; have HB2 := Lib.hid (HV0.out.below (by omega) hb2); have r9 := Lib.hid HB2.out.2.2.2; clear hb2 z0))
  refine bodyPost_ret (results_cellR (c := dc mDig.e) aggD rfl _ (r9.out.setRow _) ?_) rfl ⟨rfl, ?_⟩
  · go_simp
  · rw [HS.out]; exact below_setRow HB2.out.1 (by omega) _
end Go.Proofs.Ytgjhlmmhpcbnaaa
