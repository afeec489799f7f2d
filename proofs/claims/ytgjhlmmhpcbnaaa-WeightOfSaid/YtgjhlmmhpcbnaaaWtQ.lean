/-
  Package weight: the reference's Of.
-/
import Derived.Test.YtgjhlmmhpcbnaaaWtP
namespace Go.Proofs.Ytgjhlmmhpcbnaaa
open Go.RowKit
/-- The reference's state behind k letters. -/
def rs (z : Nat → Int) (n k : Nat) : Wt := ⟨n, (wx z k).n, if (wx z k).n = 0 then (n : Int) else (wx z k).h, (n : Int) - k + (wx z k).t, tx z k⟩
theorem rs_zero (z : Nat → Int) (n : Nat) : rs z n 0 = ⟨n, 0, n, n, mDig.e⟩ := Wt.ext' rfl rfl rfl (by show (n : Int) - ((0 : Nat) : Int) + 0 = n; omega) rfl
theorem rs_end {z : Nat → Int} {n : Nat} (hb : InB z n) : rs z n n = wx z n := by
  have h := (wl_wx hb).ln
  unfold Lines at h
  rw [wx_l] at h
  refine Wt.ext' (wx_l z n).symm rfl ?_ ?_ (wx_d z n).symm
  · show (if (wx z n).n = 0 then (n : Int) else (wx z n).h) = _
    by_cases e : (wx z n).n = 0
    · rw [if_pos e]; omega
    · rw [if_neg e]
  · show (n : Int) - n + (wx z n).t = _
    omega
theorem rs_ten {z : Nat → Int} {n k : Nat} (h : z k = 10) (h0 : 0 ≤ (wx z k).n) : rs z n (k + 1) = ⟨n, (rs z n k).n + 1, if (rs z n k).n = 0 then (k : Int) else (rs z n k).h, (n : Int) - k - 1, mDig.j (tx z k) (lt (z k))⟩ := by
  have e1 : (wx z (k + 1)).n = (wx z k).n + 1 := by show (wx z k).n + (lw (z k)).n = _; rw [lw_n, if_pos h]
  have e2 : (wx z (k + 1)).h = if (wx z k).n = 0 then (k : Int) else (wx z k).h := by
    show (if (wx z k).n = 0 then (wx z k).l + (lw (z k)).h else (wx z k).h) = _
    rw [lw_h, if_pos h, wx_l, Int.add_zero]
  have e3 : (wx z (k + 1)).t = 0 := by
    show (if (lw (z k)).n = 0 then (lw (z k)).l + (wx z k).t else (lw (z k)).t) = _
    rw [lw_n, if_pos h, if_neg (by decide), lw_t, if_pos h]
  refine Wt.ext' rfl e1 ?_ ?_ rfl
  · show (if (wx z (k + 1)).n = 0 then (n : Int) else (wx z (k + 1)).h) = if (wx z k).n = 0 then (k : Int) else (if (wx z k).n = 0 then (n : Int) else (wx z k).h)
    rw [e1, e2, if_neg (by omega)]
    by_cases e : (wx z k).n = 0
    · rw [if_pos e, if_pos e]
    · rw [if_neg e, if_neg e, if_neg e]
  · show (n : Int) - ((k + 1 : Nat) : Int) + (wx z (k + 1)).t = (n : Int) - k - 1
    rw [e3]; omega
theorem rs_other {z : Nat → Int} {n k : Nat} (h : ¬ z k = 10) : rs z n (k + 1) = ⟨n, (rs z n k).n, (rs z n k).h, (rs z n k).t, mDig.j (tx z k) (lt (z k))⟩ := by
  have e1 : (wx z (k + 1)).n = (wx z k).n := by show (wx z k).n + (lw (z k)).n = _; rw [lw_n, if_neg h, Int.add_zero]
  have e2 : (wx z k).n ≠ 0 → (wx z (k + 1)).h = (wx z k).h := fun hn => by
    show (if (wx z k).n = 0 then (wx z k).l + (lw (z k)).h else (wx z k).h) = _
    rw [if_neg hn]
  have e3 : (wx z (k + 1)).t = 1 + (wx z k).t := by
    show (if (lw (z k)).n = 0 then (lw (z k)).l + (wx z k).t else (lw (z k)).t) = _
    rw [lw_n, if_neg h, if_pos rfl, lw_l]
  refine Wt.ext' rfl e1 ?_ ?_ rfl
  · show (if (wx z (k + 1)).n = 0 then (n : Int) else (wx z (k + 1)).h) = if (wx z k).n = 0 then (n : Int) else (wx z k).h
    rw [e1]
    by_cases e : (wx z k).n = 0
    · rw [if_pos e, if_pos e]
    · rw [if_neg e, if_neg e, e2 e]
  · show (n : Int) - ((k + 1 : Nat) : Int) + (wx z (k + 1)).t = (n : Int) - k + (wx z k).t
    rw [e3]; omega
theorem cell_far {w : World} {g b i j : Nat} (h : b ≠ g) (v : Value) : (w.setCell ⟨g, i, none⟩ v).cell? ⟨b, j, none⟩ = w.cell? ⟨b, j, none⟩ := World.cell?_setCell_other _ _ _ _ (fun e => h (by cases e; rfl))
theorem set6 {w : World} {g : Nat} {t : TypeId} {r r' : Wt} {i : Nat} {v : Value} (h : Row w g t (wc r)) (e : (wc r).setIfInBounds i v = wc r') : Row (w.setCell ⟨g, i, none⟩ v) g t (wc r') := (h.set i v).congr e
set_option maxRecDepth 20000 in
set_option maxHeartbeats 12800000 in
theorem w_rof (A : Option Addr) (n c : Nat) (z : Nat → Int) (w : World) (hn : n ≤ 140737488355328) (hz : Rd w.heap.size w A n (u8 z)) (hb : InB z n) :
    Calls Try.prog 13 #[.slice A n c] w fun e w' => e = .returned (.agg (wc (wx z n))) ∧ Below w.heap.size w w' := by
  have HZ := Lib.hid hz
  have HB := Lib.hid hb
  have HU := Lib.hid w_runit
  have HEND := Lib.hid (rs_end hb)
  obtain ⟨X, hX⟩ : ∃ X, X = wx z n := ⟨_, rfl⟩
  rw [← hX] at HEND ⊢
  clear hX
  have z0 := w_zero
  obtain ⟨s, hs⟩ : ∃ s, w.heap.size = s := ⟨_, rfl⟩
  have HB0 := Lib.hid (show Below s w (w.alloc (Obj.cells (wc wZ) 27)) by rw [← hs]; exact (Below.refl w.heap.size w).alloc (Nat.le_refl _) _)
  have R2 := Lib.hid (show Row (w.alloc (Obj.cells (wc wZ) 27)) s 27 (wc wZ) by rw [← hs]; exact Row.new w _ _)
  have HS := Lib.hid hs
  clear hz hb
  go_enter Try.func13, Try.ntmps13
  go_wp2_with (first | (go_at_call 17; (with_reducible refine (HU.out _).mono ?_); rintro e w1 ⟨rfl, hb⟩; have S2 := Lib.hid (R2.out.below' hb); have HB1 := Lib.hid (HB0.out.trans (hb.mono (by have := HB0.out.size; have := HS.out; omega))); clear hb R2 HB0) | ((with_reducible refine wpList_newR (c' := wc wU) aggW rfl (wc_one _) rfl _ _ rfl ?_ ?_ ?_); (go_simp <;> fail); (first | (go_simp <;> fail) | exact rfl); go_simp; have T3 := Lib.hid (Row.new w1 27 (wc wU)); have T2 := Lib.hid (S2.out.alloc (.cells (wc wU) 27)); have TB := Lib.hid (HB1.out.alloc (by have hh := HB1.out.size; have := HS.out; omega) (.cells (wc wU) 27)); have L3 := Lib.hid (show s < w1.heap.size from S2.out.lt); clear S2 HB1; revert T3 T2 TB L3; generalize w1.alloc (.cells (wc wU) 27) = w2; generalize w1.heap.size = g3; intro T3 T2 TB L3; have m1 : s ≠ g3 := (by have := L3.out; omega); have f0 : w2.frozen? ⟨g3, 0, none⟩ = false := T3.out.frozen 0; have x0 : w2.cell? ⟨g3, 0, none⟩ = some (.int .i64 0) := T3.out.cell 0; have B3 := Lib.hid (show Row (w2.setCell ⟨g3, 0, none⟩ (.int .i64 (n : Int))) g3 27 (wc ⟨n, 0, 0, 0, mDig.e⟩) from set6 T3.out rfl); have B2 := Lib.hid (T2.out.far (p := ⟨g3, 0, none⟩) m1 (.int .i64 (n : Int))); have BB := Lib.hid (show Below s w (w2.setCell ⟨g3, 0, none⟩ (.int .i64 (n : Int))) from TB.out.setCell (by show s ≤ g3; have := L3.out; omega) _); clear T3 T2 TB; have f1 : (w2.setCell ⟨g3, 0, none⟩ (.int .i64 (n : Int))).frozen? ⟨g3, 2, none⟩ = false := B3.out.frozen 2; have x1 : (w2.setCell ⟨g3, 0, none⟩ (.int .i64 (n : Int))).cell? ⟨g3, 2, none⟩ = some (.int .i64 0) := B3.out.cell 2; have C3 := Lib.hid (show Row ((w2.setCell ⟨g3, 0, none⟩ (.int .i64 (n : Int))).setCell ⟨g3, 2, none⟩ (.int .i64 (n : Int))) g3 27 (wc ⟨n, 0, n, 0, mDig.e⟩) from set6 B3.out rfl); have C2 := Lib.hid (B2.out.far (p := ⟨g3, 2, none⟩) m1 (.int .i64 (n : Int))); have CB := Lib.hid (show Below s w ((w2.setCell ⟨g3, 0, none⟩ (.int .i64 (n : Int))).setCell ⟨g3, 2, none⟩ (.int .i64 (n : Int))) from BB.out.setCell (by show s ≤ g3; have := L3.out; omega) _); clear B3 B2 BB; have f2 : ((w2.setCell ⟨g3, 0, none⟩ (.int .i64 (n : Int))).setCell ⟨g3, 2, none⟩ (.int .i64 (n : Int))).frozen? ⟨g3, 3, none⟩ = false := C3.out.frozen 3; have x2 : ((w2.setCell ⟨g3, 0, none⟩ (.int .i64 (n : Int))).setCell ⟨g3, 2, none⟩ (.int .i64 (n : Int))).cell? ⟨g3, 3, none⟩ = some (.int .i64 0) := C3.out.cell 3; have D3 := Lib.hid (show Row (((w2.setCell ⟨g3, 0, none⟩ (.int .i64 (n : Int))).setCell ⟨g3, 2, none⟩ (.int .i64 (n : Int))).setCell ⟨g3, 3, none⟩ (.int .i64 (n : Int))) g3 27 (wc ⟨n, 0, n, n, mDig.e⟩) from set6 C3.out rfl); have D2 := Lib.hid (C2.out.far (p := ⟨g3, 3, none⟩) m1 (.int .i64 (n : Int))); have DB := Lib.hid (show Below s w (((w2.setCell ⟨g3, 0, none⟩ (.int .i64 (n : Int))).setCell ⟨g3, 2, none⟩ (.int .i64 (n : Int))).setCell ⟨g3, 3, none⟩ (.int .i64 (n : Int))) from CB.out.setCell (by show s ≤ g3; have := L3.out; omega) _); clear C3 C2 CB))
  go_loopw [4] (fun i wr => ∃ (k : Nat), k ≤ n ∧ i = .int .i64 k ∧ Hid (Below s w wr) ∧ Hid (Row wr s 27 (wc wZ)) ∧ Hid (Row wr g3 27 (wc (rs z n k)))) (fun i _ => n - (intOf i).toNat)
  case atStart => exact ⟨0, Nat.zero_le _, rfl, DB, D2, by rw [rs_zero]; exact D3⟩
  case round =>
    clear DB D2 D3 f0 x0 f1 x1 f2 x2
    obtain ⟨k, hk, rfl, hbw, r2, r3⟩ := hrel
    by_cases hlt : k < n
    · obtain ⟨b, off, rfl, hbl, hc⟩ := HZ.out.some hlt
      have hcell : wr.cell? ⟨b, off + k, none⟩ = some (.int .u8 (z k)) := (hbw.out.cell (by show b < s; have := HS.out; omega)).trans (hc k hlt)
      obtain ⟨c0, c1⟩ := HB.out k hlt
      have hI : InR (tx z k) := inR_tx _ _
      have hq := (wl_wx (z := z) (n := k) (fun i hi => HB.out i (by omega))).ln.in (wl_wx (z := z) (n := k) (fun i hi => HB.out i (by omega))).l0
      rw [wx_l] at hq
      obtain ⟨q0, q1, -, -, -, -⟩ := hq
      have H10 := fun h => rs_ten (z := z) (n := n) (k := k) h q0
      have HNE := fun h => rs_other (z := z) (n := n) (k := k) h
      have e9 : rs z n k = ⟨n, (wx z k).n, (rs z n k).h, (rs z n k).t, tx z k⟩ := rfl
      obtain ⟨q, hqq⟩ : ∃ q, q = (wx z k).n := ⟨_, rfl⟩
      obtain ⟨H, hH⟩ : ∃ H, H = (rs z n k).h := ⟨_, rfl⟩
      obtain ⟨T, hT⟩ : ∃ T, T = (rs z n k).t := ⟨_, rfl⟩
      have e10 : (rs z n k).n = q := hqq.symm
      rw [← hqq] at q0 q1 e9
      rw [e10, ← hH] at H10
      rw [e10, ← hH, ← hT] at HNE
      rw [← hH, ← hT] at e9
      rw [e9] at r3
      obtain ⟨x, hx⟩ : ∃ x, x = z k := ⟨_, rfl⟩
      rw [← hx] at c0 c1 hcell H10 HNE
      obtain ⟨⟨v, sc⟩, hvs⟩ : ∃ f, f = tx z k := ⟨_, rfl⟩
      rw [← hvs] at hI r3 H10 HNE
      have e1 : R v = v := hI.1
      have e2 : R sc = sc := hI.2
      have i1 : 0 ≤ v := by rw [← e1]; exact R_ge _
      have i2 : v < 2305843009213693951 := by rw [← e1]; exact R_lt _
      have i3 : 0 ≤ sc := by rw [← e2]; exact R_ge _
      have i4 : sc < 2305843009213693951 := by rw [← e2]; exact R_lt _
      have H1 := Lib.hid (fun w => w_rmul v 1103515245 w i1 i2 (by omega) (by omega))
      have H3 := Lib.hid (fun w => w_rmul sc 1103515245 w i3 i4 (by omega) (by omega))
      obtain ⟨P1, hP1⟩ : ∃ P1, P1 = mP v 1103515245 := ⟨_, rfl⟩
      obtain ⟨P2, hP2⟩ : ∃ P2, P2 = mP sc 1103515245 := ⟨_, rfl⟩
      have p1 : 0 ≤ P1 := by rw [hP1]; exact R_ge _
      have p2 : P1 < 2305843009213693951 := by rw [hP1]; exact R_lt _
      have HD : mDig.j (v, sc) (lt x) = ((P1 + x + 1) % 2305843009213693951, P2) := by rw [hP1, hP2, Int.add_assoc]; rfl
      rw [HD] at H10 HNE
      rw [← hP1] at H1
      rw [← hP2] at H3
      have hblk : b < wr.heap.size := by have := hbw.out.size; have := HS.out; omega
      have b1 : (0 : Int) ≤ (k : Int) := by omega
      have b2 : (k : Int) < (n : Int) := by omega
      have y1 : wr.cell? ⟨g3, 1, none⟩ = some (.int .i64 q) := r3.out.cell 1
      have hw1 : IntKind.i64.wrap (q + 1) = q + 1 := i64_id (by omega) (by omega)
      have hw2 : IntKind.i64.wrap ((n : Int) - k) = (n : Int) - k := i64_id (by omega) (by omega)
      have hw3 : IntKind.i64.wrap ((n : Int) - k - 1) = (n : Int) - k - 1 := i64_id (by omega) (by omega)
      have G10 := Lib.hid H10
      have GNE := Lib.hid HNE
      have lt3 : s < g3 := by have := L3.out; omega
      clear hI hc hvs hx hqq hH hT e1 e2 e9 e10 HD hP1 hP2 H10 HNE i1 i2 i3 i4 HEND HU
      by_cases hx10 : x = 10
      · by_cases hq0 : q = 0
        · have ex : (x == 10) = true := by simpa using hx10
          have eq0 : (q == 0) = true := by simpa using hq0
          have HE := Lib.hid (show rs z n (k + 1) = ⟨n, q + 1, (k : Int), (n : Int) - k - 1, ((P1 + x + 1) % 2305843009213693951, P2)⟩ by rw [G10.out hx10, if_pos hq0])
          clear hx10 hq0 G10 GNE
          have f0 : wr.frozen? ⟨g3, 2, none⟩ = false := r3.out.frozen 2
          have x0 : wr.cell? ⟨g3, 2, none⟩ = some (.int .i64 H) := r3.out.cell 2
          have B3 := Lib.hid (show Row (wr.setCell ⟨g3, 2, none⟩ (.int .i64 ((k : Int)))) g3 27 (wc ⟨n, q, (k : Int), T, (v, sc)⟩) from set6 r3.out rfl)
          have B2 := Lib.hid (r2.out.far (p := ⟨g3, 2, none⟩) m1 (.int .i64 ((k : Int))))
          have BB := Lib.hid (show Below s w (wr.setCell ⟨g3, 2, none⟩ (.int .i64 ((k : Int)))) from hbw.out.setCell (by show s ≤ g3; omega) _)
          clear r3 r2 hbw
          have f1 : (wr.setCell ⟨g3, 2, none⟩ (.int .i64 ((k : Int)))).frozen? ⟨g3, 1, none⟩ = false := B3.out.frozen 1
          have x1 : (wr.setCell ⟨g3, 2, none⟩ (.int .i64 ((k : Int)))).cell? ⟨g3, 1, none⟩ = some (.int .i64 q) := B3.out.cell 1
          have y2 : (wr.setCell ⟨g3, 2, none⟩ (.int .i64 ((k : Int)))).cell? ⟨g3, 1, none⟩ = some (.int .i64 q) := B3.out.cell 1
          have C3 := Lib.hid (show Row ((wr.setCell ⟨g3, 2, none⟩ (.int .i64 ((k : Int)))).setCell ⟨g3, 1, none⟩ (.int .i64 (q + 1))) g3 27 (wc ⟨n, q + 1, (k : Int), T, (v, sc)⟩) from set6 B3.out rfl)
          have C2 := Lib.hid (B2.out.far (p := ⟨g3, 1, none⟩) m1 (.int .i64 (q + 1)))
          have CB := Lib.hid (show Below s w ((wr.setCell ⟨g3, 2, none⟩ (.int .i64 ((k : Int)))).setCell ⟨g3, 1, none⟩ (.int .i64 (q + 1))) from BB.out.setCell (by show s ≤ g3; omega) _)
          clear B3 B2 BB
          have f2 : ((wr.setCell ⟨g3, 2, none⟩ (.int .i64 ((k : Int)))).setCell ⟨g3, 1, none⟩ (.int .i64 (q + 1))).frozen? ⟨g3, 3, none⟩ = false := C3.out.frozen 3
          have x2 : ((wr.setCell ⟨g3, 2, none⟩ (.int .i64 ((k : Int)))).setCell ⟨g3, 1, none⟩ (.int .i64 (q + 1))).cell? ⟨g3, 3, none⟩ = some (.int .i64 T) := C3.out.cell 3
          have D3 := Lib.hid (show Row (((wr.setCell ⟨g3, 2, none⟩ (.int .i64 ((k : Int)))).setCell ⟨g3, 1, none⟩ (.int .i64 (q + 1))).setCell ⟨g3, 3, none⟩ (.int .i64 ((n : Int) - k - 1))) g3 27 (wc ⟨n, q + 1, (k : Int), (n : Int) - k - 1, (v, sc)⟩) from set6 C3.out rfl)
          have D2 := Lib.hid (C2.out.far (p := ⟨g3, 3, none⟩) m1 (.int .i64 ((n : Int) - k - 1)))
          have DB := Lib.hid (show Below s w (((wr.setCell ⟨g3, 2, none⟩ (.int .i64 ((k : Int)))).setCell ⟨g3, 1, none⟩ (.int .i64 (q + 1))).setCell ⟨g3, 3, none⟩ (.int .i64 ((n : Int) - k - 1))) from CB.out.setCell (by show s ≤ g3; omega) _)
          clear C3 C2 CB
          go_wp2
          obtain ⟨W, hW⟩ : ∃ W, W = (((wr.setCell ⟨g3, 2, none⟩ (.int .i64 ((k : Int)))).setCell ⟨g3, 1, none⟩ (.int .i64 (q + 1))).setCell ⟨g3, 3, none⟩ (.int .i64 ((n : Int) - k - 1))) := ⟨_, rfl⟩
          rw [← hW] at D3 D2 DB ⊢
          have hcW : W.cell? ⟨b, off + k, none⟩ = some (.int .u8 x) := by rw [hW]; exact (cell_far (show b ≠ g3 by have := hbl; have := HS.out; omega) _).trans ((cell_far (show b ≠ g3 by have := hbl; have := HS.out; omega) _).trans ((cell_far (show b ≠ g3 by have := hbl; have := HS.out; omega) _).trans (hcell)))
          have hblW : b < W.heap.size := by have := DB.out.size; have := HS.out; omega
          clear hW y1 hcell f0 x0 f1 x1 f2 x2 y2
          have q2 : ∀ u, (later W u).cell? ⟨b, off + k, none⟩ = some (.int .u8 x) := fun u => ((below_later W u).cell hblW).trans hcW
          have q4 : ∀ u, (later W u).cell? ⟨g3, 4, none⟩ = some (.int .u64 v) := fun u => (D3.out.later u).cell 4
          refine wp_region_tail 14 (by kernel_rfl) (by kernel_rfl) ?_
          simp only [List.take_succ_cons, List.take_zero, List.drop_succ_cons, List.drop_zero]
          repeat (first | go_big_quiet_skip | (go_big_quiet_want; go_big_quiet_op; first | go_big_quiet_on | go_big_quiet_call (with_reducible exact calls_later_eq (H1.out _))))
          refine wpQuiet_nil ?_
          rintro w5 ⟨u, rfl⟩
          have S3 := Lib.hid (D3.out.later u)
          have S2 := Lib.hid (D2.out.later u)
          have SB := Lib.hid (DB.out.trans ((below_later W u).mono (by have := DB.out.size; have := HS.out; omega)))
          generalize later W u = w5 at S3 S2 SB ⊢
          clear q2 q4 hcW D3 D2 DB
          have f4 : w5.frozen? ⟨g3, 4, none⟩ = false := S3.out.frozen 4
          have x4 : w5.cell? ⟨g3, 4, none⟩ = some (.int .u64 v) := S3.out.cell 4
          have f5 : (w5.setCell ⟨g3, 4, none⟩ (.int .u64 ((P1 + x + 1) % 2305843009213693951))).frozen? ⟨g3, 5, none⟩ = false := (S3.out.set 4 (.int .u64 ((P1 + x + 1) % 2305843009213693951))).frozen 5
          have x5 : (w5.setCell ⟨g3, 4, none⟩ (.int .u64 ((P1 + x + 1) % 2305843009213693951))).cell? ⟨g3, 5, none⟩ = some (.int .u64 sc) := (S3.out.set 4 (.int .u64 ((P1 + x + 1) % 2305843009213693951))).cell 5
          go_wp2_with (go_at_call 31; with_reducible refine (H3.out _).mono ?_; rintro e w' ⟨rfl, rfl⟩)
          go_roundw
          case rel =>
            refine ⟨k + 1, by omega, by go_num, Lib.hid ((SB.out.setCell (by show s ≤ g3; omega) _).setCell (by show s ≤ g3; omega) _), Lib.hid ((S2.out.far (by show s ≠ g3; omega) _).far (by show s ≠ g3; omega) _), Lib.hid ?_⟩
            rw [HE.out]
            exact set6 (set6 S3.out (r' := ⟨n, q + 1, (k : Int), (n : Int) - k - 1, (((P1 + x + 1) % 2305843009213693951), sc)⟩) rfl) rfl
          case measure => simp [intOf]; try omega
        · have ex : (x == 10) = true := by simpa using hx10
          have eq0 : (q == 0) = false := by simpa using hq0
          have HE := Lib.hid (show rs z n (k + 1) = ⟨n, q + 1, H, (n : Int) - k - 1, ((P1 + x + 1) % 2305843009213693951, P2)⟩ by rw [G10.out hx10, if_neg hq0])
          clear hx10 hq0 G10 GNE
          have f0 : wr.frozen? ⟨g3, 1, none⟩ = false := r3.out.frozen 1
          have x0 : wr.cell? ⟨g3, 1, none⟩ = some (.int .i64 q) := r3.out.cell 1
          have B3 := Lib.hid (show Row (wr.setCell ⟨g3, 1, none⟩ (.int .i64 (q + 1))) g3 27 (wc ⟨n, q + 1, H, T, (v, sc)⟩) from set6 r3.out rfl)
          have B2 := Lib.hid (r2.out.far (p := ⟨g3, 1, none⟩) m1 (.int .i64 (q + 1)))
          have BB := Lib.hid (show Below s w (wr.setCell ⟨g3, 1, none⟩ (.int .i64 (q + 1))) from hbw.out.setCell (by show s ≤ g3; omega) _)
          clear r3 r2 hbw
          have f1 : (wr.setCell ⟨g3, 1, none⟩ (.int .i64 (q + 1))).frozen? ⟨g3, 3, none⟩ = false := B3.out.frozen 3
          have x1 : (wr.setCell ⟨g3, 1, none⟩ (.int .i64 (q + 1))).cell? ⟨g3, 3, none⟩ = some (.int .i64 T) := B3.out.cell 3
          have C3 := Lib.hid (show Row ((wr.setCell ⟨g3, 1, none⟩ (.int .i64 (q + 1))).setCell ⟨g3, 3, none⟩ (.int .i64 ((n : Int) - k - 1))) g3 27 (wc ⟨n, q + 1, H, (n : Int) - k - 1, (v, sc)⟩) from set6 B3.out rfl)
          have C2 := Lib.hid (B2.out.far (p := ⟨g3, 3, none⟩) m1 (.int .i64 ((n : Int) - k - 1)))
          have CB := Lib.hid (show Below s w ((wr.setCell ⟨g3, 1, none⟩ (.int .i64 (q + 1))).setCell ⟨g3, 3, none⟩ (.int .i64 ((n : Int) - k - 1))) from BB.out.setCell (by show s ≤ g3; omega) _)
          clear B3 B2 BB
          go_wp2
          obtain ⟨W, hW⟩ : ∃ W, W = ((wr.setCell ⟨g3, 1, none⟩ (.int .i64 (q + 1))).setCell ⟨g3, 3, none⟩ (.int .i64 ((n : Int) - k - 1))) := ⟨_, rfl⟩
          rw [← hW] at C3 C2 CB ⊢
          have hcW : W.cell? ⟨b, off + k, none⟩ = some (.int .u8 x) := by rw [hW]; exact (cell_far (show b ≠ g3 by have := hbl; have := HS.out; omega) _).trans ((cell_far (show b ≠ g3 by have := hbl; have := HS.out; omega) _).trans (hcell))
          have hblW : b < W.heap.size := by have := CB.out.size; have := HS.out; omega
          clear hW y1 hcell f0 x0 f1 x1
          have q2 : ∀ u, (later W u).cell? ⟨b, off + k, none⟩ = some (.int .u8 x) := fun u => ((below_later W u).cell hblW).trans hcW
          have q4 : ∀ u, (later W u).cell? ⟨g3, 4, none⟩ = some (.int .u64 v) := fun u => (C3.out.later u).cell 4
          refine wp_region_tail 14 (by kernel_rfl) (by kernel_rfl) ?_
          simp only [List.take_succ_cons, List.take_zero, List.drop_succ_cons, List.drop_zero]
          repeat (first | go_big_quiet_skip | (go_big_quiet_want; go_big_quiet_op; first | go_big_quiet_on | go_big_quiet_call (with_reducible exact calls_later_eq (H1.out _))))
          refine wpQuiet_nil ?_
          rintro w5 ⟨u, rfl⟩
          have S3 := Lib.hid (C3.out.later u)
          have S2 := Lib.hid (C2.out.later u)
          have SB := Lib.hid (CB.out.trans ((below_later W u).mono (by have := CB.out.size; have := HS.out; omega)))
          generalize later W u = w5 at S3 S2 SB ⊢
          clear q2 q4 hcW C3 C2 CB
          have f4 : w5.frozen? ⟨g3, 4, none⟩ = false := S3.out.frozen 4
          have x4 : w5.cell? ⟨g3, 4, none⟩ = some (.int .u64 v) := S3.out.cell 4
          have f5 : (w5.setCell ⟨g3, 4, none⟩ (.int .u64 ((P1 + x + 1) % 2305843009213693951))).frozen? ⟨g3, 5, none⟩ = false := (S3.out.set 4 (.int .u64 ((P1 + x + 1) % 2305843009213693951))).frozen 5
          have x5 : (w5.setCell ⟨g3, 4, none⟩ (.int .u64 ((P1 + x + 1) % 2305843009213693951))).cell? ⟨g3, 5, none⟩ = some (.int .u64 sc) := (S3.out.set 4 (.int .u64 ((P1 + x + 1) % 2305843009213693951))).cell 5
          go_wp2_with (go_at_call 31; with_reducible refine (H3.out _).mono ?_; rintro e w' ⟨rfl, rfl⟩)
          go_roundw
          case rel =>
            refine ⟨k + 1, by omega, by go_num, Lib.hid ((SB.out.setCell (by show s ≤ g3; omega) _).setCell (by show s ≤ g3; omega) _), Lib.hid ((S2.out.far (by show s ≠ g3; omega) _).far (by show s ≠ g3; omega) _), Lib.hid ?_⟩
            rw [HE.out]
            exact set6 (set6 S3.out (r' := ⟨n, q + 1, H, (n : Int) - k - 1, (((P1 + x + 1) % 2305843009213693951), sc)⟩) rfl) rfl
          case measure => simp [intOf]; try omega
      · have ex : (x == 10) = false := by simpa using hx10
        have HE := Lib.hid (show rs z n (k + 1) = ⟨n, q, H, T, ((P1 + x + 1) % 2305843009213693951, P2)⟩ from GNE.out hx10)
        clear hx10 G10 GNE
        go_wp2
        obtain ⟨W, hW⟩ : ∃ W, W = wr := ⟨_, rfl⟩
        rw [← hW] at r3 r2 hbw ⊢
        have hcW : W.cell? ⟨b, off + k, none⟩ = some (.int .u8 x) := by rw [hW]; exact hcell
        have hblW : b < W.heap.size := by have := hbw.out.size; have := HS.out; omega
        clear hW y1 hcell
        have q2 : ∀ u, (later W u).cell? ⟨b, off + k, none⟩ = some (.int .u8 x) := fun u => ((below_later W u).cell hblW).trans hcW
        have q4 : ∀ u, (later W u).cell? ⟨g3, 4, none⟩ = some (.int .u64 v) := fun u => (r3.out.later u).cell 4
        refine wp_region_tail 14 (by kernel_rfl) (by kernel_rfl) ?_
        simp only [List.take_succ_cons, List.take_zero, List.drop_succ_cons, List.drop_zero]
        repeat (first | go_big_quiet_skip | (go_big_quiet_want; go_big_quiet_op; first | go_big_quiet_on | go_big_quiet_call (with_reducible exact calls_later_eq (H1.out _))))
        refine wpQuiet_nil ?_
        rintro w5 ⟨u, rfl⟩
        have S3 := Lib.hid (r3.out.later u)
        have S2 := Lib.hid (r2.out.later u)
        have SB := Lib.hid (hbw.out.trans ((below_later W u).mono (by have := hbw.out.size; have := HS.out; omega)))
        generalize later W u = w5 at S3 S2 SB ⊢
        clear q2 q4 hcW r3 r2 hbw
        have f4 : w5.frozen? ⟨g3, 4, none⟩ = false := S3.out.frozen 4
        have x4 : w5.cell? ⟨g3, 4, none⟩ = some (.int .u64 v) := S3.out.cell 4
        have f5 : (w5.setCell ⟨g3, 4, none⟩ (.int .u64 ((P1 + x + 1) % 2305843009213693951))).frozen? ⟨g3, 5, none⟩ = false := (S3.out.set 4 (.int .u64 ((P1 + x + 1) % 2305843009213693951))).frozen 5
        have x5 : (w5.setCell ⟨g3, 4, none⟩ (.int .u64 ((P1 + x + 1) % 2305843009213693951))).cell? ⟨g3, 5, none⟩ = some (.int .u64 sc) := (S3.out.set 4 (.int .u64 ((P1 + x + 1) % 2305843009213693951))).cell 5
        go_wp2_with (go_at_call 31; with_reducible refine (H3.out _).mono ?_; rintro e w' ⟨rfl, rfl⟩)
        go_roundw
        case rel =>
          refine ⟨k + 1, by omega, by go_num, Lib.hid ((SB.out.setCell (by show s ≤ g3; omega) _).setCell (by show s ≤ g3; omega) _), Lib.hid ((S2.out.far (by show s ≠ g3; omega) _).far (by show s ≠ g3; omega) _), Lib.hid ?_⟩
          rw [HE.out]
          exact set6 (set6 S3.out (r' := ⟨n, q, H, T, (((P1 + x + 1) % 2305843009213693951), sc)⟩) rfl) rfl
        case measure => simp [intOf]; try omega
    · obtain rfl : k = n := by omega
      clear hlt
      rw [HEND.out] at r3
      clear HEND
      go_wp2_with (first | ((with_reducible refine wpList_loadR aggW r3.out rfl _ rfl ?_ ?_); (go_simp <;> fail); go_simp) | ((with_reducible refine wpList_storeR (c' := wc X) aggW r2.out rfl (wc_one _) rfl _ _ rfl ?_ ?_ ?_); (go_simp <;> fail); (first | (go_simp <;> fail) | exact rfl); go_simp))
      refine bodyPost_ret (results_cellR (c := wc X) aggW rfl _ (r2.out.setRow _) ?_) rfl ⟨rfl, ?_⟩
      · go_simp
      · rw [HS.out]; exact below_setRow hbw.out (by omega) _
end Go.Proofs.Ytgjhlmmhpcbnaaa
