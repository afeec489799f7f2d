/-
  Package digest: the reference's Of.
-/
import Derived.Test.YtlhennbimgjohaaDgC
namespace Go.Proofs.Ytlhennbimgjohaa
open Go.RowKit
set_option maxHeartbeats 800000 in
theorem dg_rof (A : Option Addr) (n c : Nat) (z : Nat → Int) (w : World) (hn : n ≤ 140737488355328) (hz : Rd w.heap.size w A n (u8 z)) (hb : InB z n) :
    Calls Try.prog 14 #[.slice A n c] w fun e w' => e = .returned (.agg (dc (tx z n))) ∧ Below w.heap.size w w' := by
  have HZ := Lib.hid hz
  have HB := Lib.hid hb
  have z0 := dg_zero
  obtain ⟨s, hs⟩ : ∃ s, w.heap.size = s := ⟨_, rfl⟩
  have hb1 := Lib.hid (((Below.refl w.heap.size w).alloc (Nat.le_refl _) (Obj.cells (dc (0, 0)) 26)).alloc (by simp) (Obj.cells (dc (0, 1)) 26))
  have r2 := Lib.hid ((Row.new w 26 (dc (0, 0))).alloc (Obj.cells (dc (0, 1)) 26))
  have r3 := Lib.hid (Row.new (w.alloc (Obj.cells (dc (0, 0)) 26)) 26 (dc (0, 1)))
  simp only [World.size_alloc] at r3
  rw [hs] at hb1 r2 r3
  have HS := Lib.hid hs
  clear hz hb
  go_enter Try.func14, Try.ntmps14
  go_wp2_with (first | ((with_reducible refine wpList_newR (c' := dc (0, 1)) aggD rfl (dc_one _) rfl _ _ rfl ?_ ?_ ?_); (go_simp <;> fail); exact rfl; go_simp))
  obtain ⟨w1, hw1⟩ : ∃ w1, w1 = (w.alloc (Obj.cells (dc (0, 0)) 26)).alloc (Obj.cells (dc (0, 1)) 26) := ⟨_, rfl⟩
  rw [← hw1] at hb1 r2 r3 ⊢
  clear hw1 hs z0
  go_loopw [4] (fun i wr => ∃ (k : Nat), k ≤ n ∧ i = .int .i64 ((k : Int) - 1) ∧ Hid (Below s w wr) ∧ Hid (Row wr s 26 (dc (0, 0))) ∧ Hid (Row wr (s + 1) 26 (dc (bk z n k)))) (fun i _ => (intOf i + 1).toNat)
  case atStart => exact ⟨n, Nat.le_refl _, rfl, hb1, r2, by rw [bk_end]; exact r3⟩
  case round =>
    clear hb1 r2 r3
    obtain ⟨k, hk, rfl, hbw, r2, r3⟩ := hrel
    rcases Nat.eq_zero_or_pos k with rfl | hpos
    · go_wp2_with (first | ((with_reducible refine wpList_loadR aggD r3.out rfl _ rfl ?_ ?_); (go_simp <;> fail); go_simp) | ((with_reducible refine wpList_storeR (c' := dc (bk z n 0)) aggD r2.out rfl (dc_one _) rfl _ _ rfl ?_ ?_ ?_); (go_simp <;> fail); (go_simp <;> fail); go_simp))
      refine bodyPost_ret (results_cellR (c := dc (bk z n 0)) aggD rfl _ (r2.out.setRow _) ?_) rfl ⟨by rw [bk_start], ?_⟩
      · go_simp
      · rw [HS.out]; exact below_setRow hbw.out (by omega) _
    · obtain ⟨j, rfl⟩ : ∃ j, k = j + 1 := ⟨k - 1, by omega⟩
      have hi : (((j + 1 : Nat) : Int) - 1) = (j : Int) := by omega
      rw [hi]
      obtain ⟨b, off, rfl, hbl, hc⟩ := HZ.out.some (show j < n by omega)
      have hcell : wr.cell? ⟨b, off + j, none⟩ = some (.int .u8 (z j)) := (hbw.out.cell (by show b < s; have := HS.out; omega)).trans (hc j (by omega))
      obtain ⟨c0, c1⟩ := HB.out j (by omega)
      obtain ⟨x, hx⟩ : ∃ x, x = z j := ⟨_, rfl⟩
      rw [← hx] at c0 c1 hcell
      have HST := Lib.hid (show bk z n j = mDig.j (lt x) (bk z n (j + 1)) by rw [hx]; exact bk_step (by omega) (by rw [← hx]; exact c0) (by rw [← hx]; exact c1))
      have hI : InR (bk z n (j + 1)) := inR_tx _ _
      obtain ⟨⟨v, sc⟩, hvs⟩ : ∃ f, f = bk z n (j + 1) := ⟨_, rfl⟩
      rw [← hvs] at HST hI r3
      rw [bk_next] at HST
      have e1 : R v = v := hI.1
      have e2 : R sc = sc := hI.2
      have i1 : 0 ≤ v := by rw [← e1]; exact R_ge _
      have i2 : v < 2305843009213693951 := by rw [← e1]; exact R_lt _
      have i3 : 0 ≤ sc := by rw [← e2]; exact R_ge _
      have i4 : sc < 2305843009213693951 := by rw [← e2]; exact R_lt _
      have H1 := Lib.hid (fun w => md_rmul (x + 1) sc w (by omega) (by omega) i3 (by omega))
      have H2 := Lib.hid (fun w => md_radd v (mP (x + 1) sc) w i1 i2 (R_ge _) (R_lt _))
      have H3 := Lib.hid (fun w => md_rmul sc 1103515245 w i3 (by omega) (by omega) (by omega))
      have q0 : ∀ u, (later wr u).cell? ⟨s + 1, 0, none⟩ = some (.int .u64 v) := fun u => (r3.out.later u).cell 0
      have q1 : ∀ u, (later wr u).cell? ⟨s + 1, 1, none⟩ = some (.int .u64 sc) := fun u => (r3.out.later u).cell 1
      have hblk : b < wr.heap.size := by have := hbw.out.size; have := HS.out; omega
      have q2 : ∀ u, (later wr u).cell? ⟨b, off + j, none⟩ = some (.int .u8 x) := fun u => ((below_later wr u).cell hblk).trans hcell
      have b1 : (0 : Int) ≤ (j : Int) := by omega
      have b2 : (j : Int) < (n : Int) := by omega
      clear hc hI hvs hx e1 e2 i1 i2 i3 i4 hi hcell
      go_wp2
      refine wp_region_tail 13 (by kernel_rfl) (by kernel_rfl) ?_
      simp only [List.take_succ_cons, List.take_zero, List.drop_succ_cons, List.drop_zero]
      repeat (first | go_big_quiet_skip | (go_big_quiet_want; go_big_quiet_op; first | go_big_quiet_on | go_big_quiet_call (first | with_reducible exact calls_later_eq (H1.out _) | with_reducible exact calls_later_eq (H2.out _))))
      refine wpQuiet_nil ?_
      rintro w4 ⟨u, rfl⟩
      have r4 := Lib.hid (r3.out.later u)
      have r5 := Lib.hid (r2.out.later u)
      have hb4 := Lib.hid (hbw.out.trans ((below_later wr u).mono (by have := hbw.out.size; have := HS.out; omega)))
      have p0 := q0 u
      have f0 := r4.out.frozen 0
      have f1 := (set0 (x := aP v (mP (x + 1) sc)) r4.out).frozen 1
      have p1 : ((later wr u).setCell ⟨s + 1, 0, none⟩ (.int .u64 (aP v (mP (x + 1) sc)))).cell? ⟨s + 1, 1, none⟩ = some (.int .u64 sc) := (set0 r4.out).cell 1
      clear q0 q1 q2
      go_wp2_with (first | (go_at_call 31; with_reducible refine (H3.out _).mono ?_; rintro e w' ⟨rfl, rfl⟩))
      go_roundw
      case rel =>
        refine ⟨j, by omega, by go_num, Lib.hid ((hb4.out.setCell (by simp) _).setCell (by simp) _), Lib.hid ((r5.out.far (by simp) _).far (by simp) _), Lib.hid ?_⟩
        rw [HST.out]
        exact set1 (set0 r4.out)
      case measure => simp [intOf]; try omega
end Go.Proofs.Ytlhennbimgjohaa
