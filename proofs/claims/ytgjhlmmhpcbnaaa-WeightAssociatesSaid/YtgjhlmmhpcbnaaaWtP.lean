/-
  Package weight: Of, Letter.
-/
import Derived.Test.YtgjhlmmhpcbnaaaWtO
namespace Go.Proofs.Ytgjhlmmhpcbnaaa
open Go.RowKit
set_option maxRecDepth 20000 in
set_option maxHeartbeats 1600000 in
theorem w_of (A : Option Addr) (n c : Nat) (z : Nat → Int) (w : World) (hn : n ≤ 140737488355328) (hA : A = none → n = 0 ∧ c = 0) (hz : Rd w.heap.size w A n (u8 z)) (hb : InB z n) :
    Calls Try.prog 11 #[.slice A n c] w fun e w' => e = .returned (.agg (wc (wx z n))) ∧ Below w.heap.size w w' := by
  have z0 := w_zero
  obtain ⟨s, hs⟩ : ∃ s, w.heap.size = s := ⟨_, rfl⟩
  obtain ⟨w1, hw1⟩ : ∃ w1, w1 = (w.alloc (Obj.cells (wc wZ) 27)).alloc (Obj.cells #[.int .u8 10] 5) := ⟨_, rfl⟩
  have HB0 := Lib.hid (show Below w.heap.size w w1 by rw [hw1]; exact ((Below.refl w.heap.size w).alloc (Nat.le_refl _) _).alloc (by simp) _)
  have R2 := Lib.hid (show Row w1 s 27 (wc wZ) by rw [hw1, ← hs]; exact (Row.new w _ _).alloc _)
  have R3 := Lib.hid (show Row w1 (s + 1) 5 #[.int .u8 10] by
    have := Row.new (w.alloc (Obj.cells (wc wZ) 27)) 5 #[.int .u8 10]
    simp only [World.size_alloc] at this
    rw [hw1, ← hs]; exact this)
  have hz1 : Rd w1.heap.size w1 A n (u8 z) := (hz.later HB0.out).mono HB0.out.size
  have HC := Lib.hid (w_count A n c (s + 1) z w1 hA hz1 hb (R3.out.cell 0))
  have HH := Lib.hid (w_head A n c z w1 hA hz1 hb)
  have HL := Lib.hid (w_last A n c z w1 hn hz1)
  have HD := Lib.hid (dg_of A n c z w1 hn hz1 hb)
  have HE := Lib.hid (wx_eq z n)
  have hl := li_in z n
  obtain ⟨X, hX⟩ : ∃ X, X = wx z n := ⟨_, rfl⟩
  obtain ⟨q, hq⟩ : ∃ q, q = cn z n := ⟨_, rfl⟩
  obtain ⟨f, hf⟩ : ∃ f, f = (if fi z n < 0 then (n : Int) else fi z n) := ⟨_, rfl⟩
  obtain ⟨l, hll⟩ : ∃ l, l = li z n := ⟨_, rfl⟩
  obtain ⟨D, hD⟩ : ∃ D, D = tx z n := ⟨_, rfl⟩
  rw [← hX, ← hq, ← hf, ← hll, ← hD] at HE
  rw [← hX]
  rw [← hq] at HC
  rw [← hf] at HH
  rw [← hll] at HL hl
  rw [← hD] at HD
  have hw2 : IntKind.i64.wrap ((n : Int) - 1 - l) = (n : Int) - 1 - l := i64_id (by omega) (by omega)
  have hw3 : IntKind.i64.wrap ((n : Int) - 1) = (n : Int) - 1 := i64_id (by omega) (by omega)
  have hd2 : (dc D).size = 2 := rfl
  have HS := Lib.hid hs
  clear hz hz1 hb hX hq hf hll hD
  go_enter Try.func11, Try.ntmps11
  go_wp2_with fail
  rw [← hw1]
  clear hw1 hs R3
  refine HC.out.mono ?_
  rintro e w' ⟨rfl, rfl⟩
  go_wp2_with (first | (go_at_call 28; with_reducible refine HH.out.mono ?_; rintro e w' ⟨rfl, rfl⟩) | (go_at_call 29; with_reducible refine HL.out.mono ?_; rintro e w' ⟨rfl, rfl⟩) | (go_at_call 30; with_reducible refine HD.out.mono ?_; rintro e w2 ⟨rfl, hb2⟩; have S2 := Lib.hid (R2.out.below' hb2); have HB2 := Lib.hid (HB0.out.trans (hb2.mono HB0.out.size)); clear hb2) | ((with_reducible refine wpList_storeR (c' := wc ⟨n, q, f, (n : Int) - 1 - l, D⟩) aggW S2.out rfl (wc_one _) rfl _ _ rfl ?_ ?_ ?_); (go_simp <;> fail); (first | (go_simp <;> fail) | exact rfl); go_simp))
  refine bodyPost_ret (results_cellR (c := wc ⟨n, q, f, (n : Int) - 1 - l, D⟩) aggW rfl _ (S2.out.setRow _) ?_) rfl ⟨by rw [HE.out], ?_⟩
  · go_simp
  · exact below_setRow HB2.out (by rw [HS.out]; omega) _
theorem w_letter (b : Int) (w : World) (h0 : 0 ≤ b) (h1 : b < 256) :
    Calls Try.prog 15 #[.int .u8 b] w fun e w' => e = .returned (.agg (wc (lw b))) ∧ Below w.heap.size w w' := by
  have z0 := w_zero
  obtain ⟨s, hs⟩ : ∃ s, w.heap.size = s := ⟨_, rfl⟩
  obtain ⟨w1, hw1⟩ : ∃ w1, w1 = (w.alloc (Obj.cells (wc wZ) 27)).alloc (Obj.cells #[.int .u8 b] 5) := ⟨_, rfl⟩
  have HB0 := Lib.hid (show Below w.heap.size w w1 by rw [hw1]; exact ((Below.refl w.heap.size w).alloc (Nat.le_refl _) _).alloc (by simp) _)
  have R2 := Lib.hid (show Row w1 s 27 (wc wZ) by rw [hw1, ← hs]; exact (Row.new w _ _).alloc _)
  have R3 := Lib.hid (show Row w1 (s + 1) 5 #[.int .u8 b] by
    have := Row.new (w.alloc (Obj.cells (wc wZ) 27)) 5 #[.int .u8 b]
    simp only [World.size_alloc] at this
    rw [hw1, ← hs]; exact this)
  have HO := Lib.hid (w_of (some ⟨s + 1, 0, none⟩) 1 1 (fun _ => b) w1 (by omega) (fun h => by cases h) (.inr ⟨s + 1, 0, rfl, R3.out.lt, fun k hk => by
    obtain rfl : k = 0 := by omega
    exact R3.out.cell 0⟩) (fun _ _ => ⟨h0, h1⟩))
  rw [show wx (fun _ => b) 1 = lw b from wj_left (wl_lw h0 h1)] at HO
  obtain ⟨X, hX⟩ : ∃ X, X = lw b := ⟨_, rfl⟩
  rw [← hX] at HO ⊢
  have HS := Lib.hid hs
  clear hX h0 h1 R3
  go_enter Try.func15, Try.ntmps15
  go_wp2_with fail
  rw [← hw1]
  clear hw1 hs
  refine HO.out.mono ?_
  rintro e w2 ⟨rfl, hb2⟩
  have S2 := Lib.hid (R2.out.below' hb2)
  have HB2 := Lib.hid (HB0.out.trans (hb2.mono HB0.out.size))
  clear hb2
  go_wp2_with (first | ((with_reducible refine wpList_storeR (c' := wc X) aggW S2.out rfl (wc_one _) rfl _ _ rfl ?_ ?_ ?_); (go_simp <;> fail); (first | (go_simp <;> fail) | exact rfl); go_simp))
  refine bodyPost_ret (results_cellR (c := wc X) aggW rfl _ (S2.out.setRow _) ?_) rfl ⟨rfl, ?_⟩
  · go_simp
  · exact below_setRow HB2.out (by rw [HS.out]; omega) _
end Go.Proofs.Ytgjhlmmhpcbnaaa
