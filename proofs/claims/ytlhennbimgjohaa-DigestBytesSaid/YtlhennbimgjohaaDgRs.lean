/-
  DigestRests: the walk.
-/
import Derived.Test.YtlhennbimgjohaaDgW0
namespace Go.Proofs.Ytlhennbimgjohaa
open Go.RowKit
abbrev zd : Obj := .cells (dc (0, 0)) 26
theorem three_rows (w : World) : Row (((w.alloc zd).alloc zd).alloc zd) w.heap.size 26 (dc (0, 0)) ∧ Row (((w.alloc zd).alloc zd).alloc zd) (w.heap.size + 1) 26 (dc (0, 0)) ∧ Row (((w.alloc zd).alloc zd).alloc zd) (w.heap.size + 1 + 1) 26 (dc (0, 0)) ∧ Below w.heap.size w (((w.alloc zd).alloc zd).alloc zd) := by
  refine ⟨((Row.new _ _ _).alloc _).alloc _, ?_, ?_, (((Below.refl _ _).alloc (Nat.le_refl _) _).alloc (by simp) _).alloc (by simp; omega) _⟩
  · have := (Row.new (w.alloc zd) 26 (dc (0, 0))).alloc zd
    simpa using this
  · have := Row.new ((w.alloc zd).alloc zd) 26 (dc (0, 0))
    simpa using this
theorem wpList_loadR_g {ops : Array Oper} {rest : List Oper} {o : Oper} {a : Act} {w : World} {Q : Exit → Act → World → Prop} {g : Nat} {t ty : TypeId} {c : Array Value} (ht : AggT ty c.size) (hr : Row w g t c) (hw : Region.wanted o (yielded ops a.tmps) = true) (x : Operand) (ho : o.op = .load ty x) (hx : a.eval x = .pointer (some ⟨g, 0, none⟩)) (h : wpList Try.prog ops Q rest (a.put o.dst (.agg c)) w) : wpList Try.prog ops Q (o :: rest) a w := by
  rw [wpList, if_pos hw]
  exact .inl (wp_loadR ht hr x ho hx h)
set_option maxRecDepth 20000 in
set_option maxHeartbeats 1600000 in
theorem rests_walk (s t : ByteArray) (w : World) (hs : s.size ≤ maxLen) (ht : t.size ≤ maxLen) :
    Calls Try.prog 7 #[.string s, .string t] w fun e w' => e = .returned (.bool true) ∧ Below w.heap.size w w' := by
  have HA := Lib.hid awake_true
  have HC := Lib.hid (fun w => cut_any s w hs)
  have HD := Lib.hid (fun w => cut_any t w ht)
  obtain ⟨x, hx⟩ : ∃ x, x = cutS s := ⟨_, rfl⟩
  obtain ⟨y, hy⟩ : ∃ y, y = cutS t := ⟨_, rfl⟩
  have hxs : x.size ≤ 300 := by rw [hx]; exact cutS_size s
  have hys : y.size ≤ 300 := by rw [hy]; exact cutS_size t
  rw [← hx] at HC
  rw [← hy] at HD
  have hcat : ¬ 9223372036854775807 < x.size + y.size := by omega
  obtain ⟨z, hz⟩ : ∃ z, z = x ++ y := ⟨_, rfl⟩
  have hzs : z.size ≤ 600 := by rw [hz, ByteArray.size_append]; omega
  have hT : txs z = mDig.j (txs x) (txs y) := by rw [hz, txs_append]
  have C3 := Lib.hid (fun w => dg_rest (txs z) (txs x) w (inR_txs z).in64 (inR_txs x).in64 (txs_ne z) (txs_ne x))
  have C4 := Lib.hid (fun w => dg_front (txs z) (txs y) w (inR_txs z).in64 (inR_txs y).in64 (txs_ne z) (txs_ne y))
  rw [show rs (txs z) (txs x) = txs y by rw [hT]; exact rs_join (inR_txs x).in64 (inR_txs y) (txs_ne x)] at C3
  rw [show fr (txs z) (txs y) = txs x by rw [hT]; exact fr_join (inR_txs y).in64 (inR_txs x) (txs_ne y)] at C4
  have G1 := Lib.hid (fun w => of_str z _ (grownCap w z.size 0 5) _ (by omega) (bytes_rd w z))
  have G2 := Lib.hid (fun w => of_str x _ (grownCap w x.size 0 5) _ (by omega) (bytes_rd w x))
  have G3 := Lib.hid (fun w => of_str y _ (grownCap w y.size 0 5) _ (by omega) (bytes_rd w y))
  have GB := Lib.hid (fun x w => bytesWorld_below w 5 x)
  have cv := fun x w => run_bytes w x
  obtain ⟨X, hX⟩ : ∃ X, X = txs x := ⟨_, rfl⟩
  obtain ⟨Y, hY⟩ : ∃ Y, Y = txs y := ⟨_, rfl⟩
  obtain ⟨Z, hZ⟩ : ∃ Z, Z = txs z := ⟨_, rfl⟩
  rw [← hX] at G2 C3 C4
  rw [← hY] at G3 C3 C4
  rw [← hZ] at G1 C3 C4
  have ge := guard_dg
  have ee := equal_dg
  have z0 := dg_zero
  have HT3 := Lib.hid three_rows
  rw [hz] at G1
  simp only [ByteArray.size_append] at G1
  obtain ⟨c, hc⟩ : ∃ c, w.heap.size = c := ⟨_, rfl⟩
  have HS := Lib.hid hc
  clear hs ht hx hy hz hT hX hY hZ hzs hc
  go_enter Try.func7, Try.ntmps7
  go_wp2_with (first | (go_at_call 11; (with_reducible refine (HA.out _).mono ?_); rintro e w1 ⟨rfl, hb1⟩; have HB1 := Lib.hid hb1; clear hb1) | (go_at_call 12; (first | with_reducible refine (HC.out _).mono ?_ | with_reducible refine (HD.out _).mono ?_); rintro e w1' ⟨rfl, rfl⟩) | (go_at_call 15; (with_reducible refine (G1.out _).mono ?_); rintro e w2 ⟨rfl, hb⟩; have HB2 := Lib.hid ((HB1.out.trans ((GB.out (x ++ y) w1).mono HB1.out.size)).trans (hb.mono (Nat.le_trans HB1.out.size (GB.out (x ++ y) w1).size))); clear hb) | (go_at_call 15; (with_reducible refine (G2.out _).mono ?_); rintro e w3 ⟨rfl, hb⟩; have HB3 := Lib.hid ((HB2.out.trans ((GB.out x w2).mono HB2.out.size)).trans (hb.mono (Nat.le_trans HB2.out.size (GB.out x w2).size))); clear hb) | (go_at_call 15; (with_reducible refine (G3.out _).mono ?_); rintro e w4 ⟨rfl, hb⟩; have HB4 := Lib.hid ((HB3.out.trans ((GB.out y w3).mono HB3.out.size)).trans (hb.mono (Nat.le_trans HB3.out.size (GB.out y w3).size))); have R5 := Lib.hid (HT3.out w4).1; have R6 := Lib.hid (HT3.out w4).2.1; have R7 := Lib.hid (HT3.out w4).2.2.1; have HB5 := Lib.hid (HB4.out.trans ((HT3.out w4).2.2.2.mono HB4.out.size)); clear hb) | ((with_reducible refine wpList_storeR (c' := dc Z) aggD R5.out rfl (dc_one _) rfl _ _ rfl ?_ ?_ ?_); (go_simp <;> fail); (go_simp <;> fail); have R6 := Lib.hid (R6.out.setRow_far (g' := w4.heap.size) (by omega) (dc Z)); have R7 := Lib.hid (R7.out.setRow_far (g' := w4.heap.size) (by omega) (dc Z)); have R5 := Lib.hid (R5.out.setRow (dc Z)); have HB6 := Lib.hid (below_setRow HB5.out HB4.out.size (dc Z)); go_simp) | ((with_reducible refine wpList_storeR (c' := dc X) aggD R6.out rfl (dc_one _) rfl _ _ rfl ?_ ?_ ?_); (go_simp <;> fail); (go_simp <;> fail); have R7 := Lib.hid (R7.out.setRow_far (g' := w4.heap.size + 1) (by omega) (dc X)); have R5 := Lib.hid (R5.out.setRow_far (g' := w4.heap.size + 1) (by omega) (dc X)); have R6 := Lib.hid (R6.out.setRow (dc X)); have HB7 := Lib.hid (below_setRow HB6.out (Nat.le_trans HB4.out.size (Nat.le_succ _)) (dc X)); go_simp) | ((with_reducible refine wpList_storeR (c' := dc Y) aggD R7.out rfl (dc_one _) rfl _ _ rfl ?_ ?_ ?_); (go_simp <;> fail); (go_simp <;> fail); have R5 := Lib.hid (R5.out.setRow_far (g' := w4.heap.size + 1 + 1) (by omega) (dc Y)); have R6 := Lib.hid (R6.out.setRow_far (g' := w4.heap.size + 1 + 1) (by omega) (dc Y)); have R7 := Lib.hid (R7.out.setRow (dc Y)); have HB8 := Lib.hid (below_setRow HB7.out (Nat.le_trans HB4.out.size (Nat.le_trans (Nat.le_succ _) (Nat.le_succ _))) (dc Y)); go_simp; clear HB5 HB6 HB7; revert R5 R6 R7 HB8; generalize (World.setRow (World.setRow (World.setRow (((w4.alloc zd).alloc zd).alloc zd) w4.heap.size (dc Z)) (w4.heap.size + 1) (dc X)) (w4.heap.size + 1 + 1) (dc Y)) = w5; intro R5 R6 R7 HB8) | ((with_reducible refine wpList_loadR aggD R5.out rfl _ rfl ?_ ?_); (go_simp <;> fail); go_simp) | ((with_reducible refine wpList_loadR aggD R6.out rfl _ rfl ?_ ?_); (go_simp <;> fail); go_simp))
  refine (C3.out _).mono ?_
  rintro e w6 ⟨rfl, hb6⟩
  have S5 := Lib.hid (R5.out.below' hb6)
  have S6 := Lib.hid (R6.out.below' hb6)
  have S7 := Lib.hid (R7.out.below' hb6)
  have HB9 := Lib.hid (HB8.out.trans (hb6.mono HB8.out.size))
  clear hb6 HB8 R5 R6 R7
  go_wp2_with (first | ((with_reducible refine wpList_newR (c' := dc Y) aggD rfl (dc_one _) rfl _ _ rfl ?_ ?_ ?_); (go_simp <;> fail); (go_simp <;> fail); go_simp; have T8 := Lib.hid (Row.new w6 26 (dc Y)); have T5 := Lib.hid (S5.out.alloc (.cells (dc Y) 26)); have T6 := Lib.hid (S6.out.alloc (.cells (dc Y) 26)); have T7 := Lib.hid (S7.out.alloc (.cells (dc Y) 26)); have HB10 := Lib.hid (HB9.out.alloc HB9.out.size (.cells (dc Y) 26)); clear HB9 S5 S6 S7; revert T5 T6 T7 T8 HB10; generalize w6.alloc (.cells (dc Y) 26) = w7; intro T8 T5 T6 T7 HB10) | ((with_reducible refine wpList_loadR aggD T5.out rfl _ rfl ?_ ?_); (go_simp <;> fail); go_simp) | ((with_reducible refine wpList_loadR aggD T7.out rfl _ rfl ?_ ?_); (go_simp <;> fail); go_simp))
  refine (C4.out _).mono ?_
  rintro e w8 ⟨rfl, hb8⟩
  have U6 := Lib.hid (T6.out.below' hb8)
  have U7 := Lib.hid (T7.out.below' hb8)
  have U8 := Lib.hid (T8.out.below' hb8)
  have HB11 := Lib.hid (HB10.out.trans (hb8.mono HB10.out.size))
  clear hb8 HB10 T5 T6 T7 T8
  go_wp2_with (first | ((with_reducible refine wpList_newR (c' := dc X) aggD rfl (dc_one _) rfl _ _ rfl ?_ ?_ ?_); (go_simp <;> fail); (go_simp <;> fail); go_simp; have V10 := Lib.hid (Row.new w8 26 (dc X)); have V6 := Lib.hid (U6.out.alloc (.cells (dc X) 26)); have V7 := Lib.hid (U7.out.alloc (.cells (dc X) 26)); have V8 := Lib.hid (U8.out.alloc (.cells (dc X) 26)); have HB12 := Lib.hid (HB11.out.alloc HB11.out.size (.cells (dc X) 26)); clear HB11 U6 U7 U8; revert V6 V7 V8 V10 HB12; generalize w8.alloc (.cells (dc X) 26) = w9; intro V10 V6 V7 V8 HB12) | ((with_reducible refine wpList_loadR_g aggD V6.out ?_ _ rfl ?_ ?_); exact rfl; (go_simp <;> fail); go_simp) | ((with_reducible refine wpList_loadR_g aggD V7.out ?_ _ rfl ?_ ?_); exact rfl; (go_simp <;> fail); go_simp) | ((with_reducible refine wpList_loadR_g aggD V8.out ?_ _ rfl ?_ ?_); exact rfl; (go_simp <;> fail); go_simp) | ((with_reducible refine wpList_loadR_g aggD V10.out ?_ _ rfl ?_ ?_); exact rfl; (go_simp <;> fail); go_simp))
  go_ret
  exact ⟨rfl, HB12.out⟩
end Go.Proofs.Ytlhennbimgjohaa
