/-
  Package letterset: math/bits.OnesCount64, Len, and the reference's Len.
-/
import Derived.Test.YtcflbpcfmpkolaaLsA
import Derived.Test.YtcflbpcfmpkolaaLsPop
import Derived.Laws.Bits128
namespace Go.Proofs.Ytcflbpcfmpkolaa
open Go.RowKit

theorem one_step (k : Nat) (m x : Nat) (hx : x < 18446744073709551616) (hm : m < 9223372036854775808) :
    IntKind.u64.wrap (bits BinOp.and IntKind.u64 ((x : Int) / (k : Nat)) (m : Nat) + bits BinOp.and IntKind.u64 (x : Int) (m : Nat)) = (((x / k &&& m) + (x &&& m) : Nat) : Int) ∧ (x / k &&& m) + (x &&& m) ≤ 2 * m := by
  have h1 := Nat.and_le_right (n := x / k) (m := m)
  have h2 := Nat.and_le_right (n := x) (m := m)
  rw [← Int.natCast_ediv, u64_and_nat _ _ (Nat.lt_of_le_of_lt (Nat.div_le_self _ _) hx) (by omega), u64_and_nat _ _ hx (by omega), ← Int.natCast_add, wrap64 _ (by omega)]
  exact ⟨rfl, by omega⟩

set_option maxHeartbeats 400000 in
theorem ones_any (y : Nat) (hy : y < 18446744073709551616) (w : World) :
    Calls Try.prog 30 #[.int .u64 y] w fun e w' => e = .returned (.int .i64 (cnt (fun i => y.testBit i) 64)) ∧ w = w' := by
  obtain ⟨p1, p2⟩ := pop8 y
  have st := steps 8 y
  obtain ⟨x1, hx1⟩ : ∃ x1, x1 = s1 6148914691236517205 y := ⟨_, rfl⟩
  obtain ⟨e1, b1⟩ := one_step 2 6148914691236517205 y hy (by decide)
  obtain ⟨x2, hx2⟩ : ∃ x2, x2 = s2 3689348814741910323 x1 := ⟨_, rfl⟩
  rw [show (y / 2 &&& 6148914691236517205) + (y &&& 6148914691236517205) = x1 from hx1.symm] at e1 b1
  obtain ⟨e2, b2⟩ := one_step 4 3689348814741910323 x1 (by omega) (by decide)
  rw [show (x1 / 4 &&& 3689348814741910323) + (x1 &&& 3689348814741910323) = x2 from hx2.symm] at e2 b2
  obtain ⟨x3, hx3⟩ : ∃ x3, x3 = s3 1085102592571150095 x2 := ⟨_, rfl⟩
  have e3 : bits BinOp.and IntKind.u64 (IntKind.u64.wrap ((x2 : Int) / 16 + (x2 : Int))) 1085102592571150095 = (x3 : Int) := by
    rw [show (x2 : Int) / 16 + (x2 : Int) = ((x2 / 16 + x2 : Nat) : Int) by simp, wrap64 _ (by omega), show (1085102592571150095 : Int) = ((1085102592571150095 : Nat) : Int) from rfl, u64_and_nat _ _ (by omega) (by decide), hx3]; rfl
  have h3 : x3 = bytesCnt 8 y := by rw [hx3, hx2, hx1]; exact st
  rw [← h3] at p1 p2
  obtain ⟨x4, hx4⟩ : ∃ x4, x4 = x3 + x3 / 256 := ⟨_, rfl⟩
  have e4 : IntKind.u64.wrap ((x3 : Int) + (x3 : Int) / 256) = (x4 : Int) := by rw [show (x3 : Int) + (x3 : Int) / 256 = (x4 : Int) by rw [hx4]; simp, wrap64 _ (by omega)]
  obtain ⟨x5, hx5⟩ : ∃ x5, x5 = x4 + x4 / 65536 := ⟨_, rfl⟩
  have e5 : IntKind.u64.wrap ((x4 : Int) + (x4 : Int) / 65536) = (x5 : Int) := by rw [show (x4 : Int) + (x4 : Int) / 65536 = (x5 : Int) by rw [hx5]; simp, wrap64 _ (by omega)]
  obtain ⟨x6, hx6⟩ : ∃ x6, x6 = x5 + x5 / 4294967296 := ⟨_, rfl⟩
  have e6 : IntKind.u64.wrap ((x5 : Int) + (x5 : Int) / 4294967296) = (x6 : Int) := by rw [show (x5 : Int) + (x5 : Int) / 4294967296 = (x6 : Int) by rw [hx6]; simp, wrap64 _ (by omega)]
  have b6 : x6 < 4000000000000000000 := by omega
  have h6 : x6 % 128 = cnt (fun i => y.testBit i) 64 := by rw [← p1, hx6, hx5, hx4]; rfl
  have H6 := Lib.hid h6
  clear st hx1 hx2 hx3 h3 p1 p2 b1 b2 hx4 hx5 hx6 h6
  simp only [Int.cast_ofNat_Int] at e1 e2
  go_enter Try.func30, Try.ntmps30
  go_wp2
  go_ret
  exact ⟨by rw [← H6.out, i64_and127]; rfl, rfl⟩

theorem index_0 (s : Nat → Nat) (w : World) : (Instr.index 24 (.agg (lc s)) (.int .i64 0)).run Try.prog w = .ok (.int .u64 (s 0 : Nat)) w := by kernel_rfl
theorem index_1 (s : Nat → Nat) (w : World) : (Instr.index 24 (.agg (lc s)) (.int .i64 1)).run Try.prog w = .ok (.int .u64 (s 1 : Nat)) w := by kernel_rfl
theorem index_2 (s : Nat → Nat) (w : World) : (Instr.index 24 (.agg (lc s)) (.int .i64 2)).run Try.prog w = .ok (.int .u64 (s 2 : Nat)) w := by kernel_rfl
theorem index_3 (s : Nat → Nat) (w : World) : (Instr.index 24 (.agg (lc s)) (.int .i64 3)).run Try.prog w = .ok (.int .u64 (s 3 : Nat)) w := by kernel_rfl
theorem index_let (s : Nat → Nat) (k : Nat) (hk : k < 4) (w : World) : (Instr.index 24 (.agg (lc s)) (.int .i64 (k : Int))).run Try.prog w = .ok (.int .u64 (s k : Nat)) w := by
  have h : k = 0 ∨ k = 1 ∨ k = 2 ∨ k = 3 := by omega
  rcases h with rfl | rfl | rfl | rfl
  · exact index_0 s w
  · exact index_1 s w
  · exact index_2 s w
  · exact index_3 s w
theorem cnt_word (s : Nat → Nat) (k : Nat) : cnt (bit s) (64 * (k + 1)) = cnt (bit s) (64 * k) + cnt (fun i => (s k).testBit i) 64 := by
  rw [show 64 * (k + 1) = 64 * k + 64 by omega, cnt_add]
  congr 1
  exact cnt_congr _ fun i hi => by unfold bit; rw [show (64 * k + i) / 64 = k by omega, show (64 * k + i) % 64 = i by omega]

set_option maxHeartbeats 400000 in
theorem len_any (s : Nat → Nat) (hs : Small s) (w : World) :
    Calls Try.prog 14 #[.agg (lc s)] w fun e w' => e = .returned (.int .i64 (cnt (bit s) 256)) ∧ Below w.heap.size w w' := by
  have HS := Lib.hid hs
  have r0 := Row.new w 24 (lc s)
  have hb := (Below.refl w.heap.size w).alloc (Nat.le_refl _) (Obj.cells (lc s) 24)
  clear hs
  go_enter Try.func14, Try.ntmps14
  go_wp2_with (first | (with_reducible refine wpList_load_let r0 rfl _ rfl ?_ ?_; go_simp; go_simp))
  go_loop [3, 7] (fun n i => ∃ k : Nat, k ≤ 4 ∧ i = .int .i64 k ∧ n = .int .i64 (cnt (bit s) (64 * k))) (fun _ i => 4 - (intOf i).toNat)
  case atStart => exact ⟨0, by omega, rfl, rfl⟩
  case round =>
    obtain ⟨k, hk, rfl, rfl⟩ := hrel
    obtain ⟨n, hn⟩ : ∃ n, n = cnt (bit s) (64 * k) := ⟨_, rfl⟩
    have hn1 : n ≤ 256 := by have := cnt_le (bit s) (64 * k); omega
    have HN := Lib.hid hn
    rw [← hn]
    clear hn
    have HK := Lib.hid hk
    clear hk
    by_cases hlt : (k : Int) < 4
    · obtain ⟨y, hy⟩ : ∃ y, y = s k := ⟨_, rfl⟩
      have ix := fun w => index_let s k (by omega) w
      have ho := Lib.hid (fun w => ones_any (s k) (HS.out _) w)
      obtain ⟨c, hc⟩ : ∃ c, c = cnt (fun i => (s k).testBit i) 64 := ⟨_, rfl⟩
      have hc1 : c ≤ 64 := by rw [hc]; exact cnt_le _ _
      rw [← hc, ← hy] at ho
      rw [← hy] at ix
      have hnext : n + c = cnt (bit s) (64 * (k + 1)) := by rw [cnt_word, ← HN.out, hc]
      have HX := Lib.hid hnext
      clear hy hc hnext
      go_wp2_with (go_at_call 30; with_reducible refine (ho.out _).mono ?_; rintro e w' ⟨rfl, rfl⟩)
      go_round
      case rel => exact ⟨k + 1, by omega, by go_num, by rw [← HX.out]; go_num⟩
      case measure => simp [intOf]; omega
    · have e : k = 4 := by have := HK.out; omega
      have HE := Lib.hid e
      clear e
      go_wp2
      go_ret
      exact ⟨by rw [HN.out, HE.out]; rfl, hb⟩

set_option maxHeartbeats 400000 in
theorem reflen_any (f : Nat → Bool) (w : World) :
    Calls Try.prog 15 #[.agg (sc f)] w fun e w' => e = .returned (.int .i64 (cnt f 256)) ∧ Below w.heap.size w w' := by
  have hb := (Below.refl w.heap.size w).alloc (Nat.le_refl _) (Obj.cells (sc f) 26)
  go_enter Try.func15, Try.ntmps15
  go_wp2
  go_loop [3, 4] (fun n i => ∃ k : Nat, k ≤ 256 ∧ i = .int .i64 k ∧ n = .int .i64 (cnt f k)) (fun _ i => left256 i)
  case atStart => exact ⟨0, by omega, rfl, rfl⟩
  case round =>
    obtain ⟨k, hk, rfl, rfl⟩ := hrel
    obtain ⟨n, hn⟩ : ∃ n, n = cnt f k := ⟨_, rfl⟩
    have hn1 : n ≤ k := by have := cnt_le f k; omega
    have HN := Lib.hid hn
    rw [← hn]
    clear hn
    have HK := Lib.hid hk
    clear hk
    by_cases hlt : (k : Int) < 256
    · have hc := sc_at f (i := k) (by omega)
      obtain ⟨b, hbk⟩ : ∃ b, b = f k := ⟨_, rfl⟩
      rw [← hbk] at hc
      have HX := Lib.hid (show n + b.toNat = cnt f (k + 1) by rw [cnt, HN.out, hbk])
      clear hbk
      cases b
      · go_wp2
        go_round
        case rel => exact ⟨k + 1, by omega, by go_num, by rw [← HX.out]; go_num⟩
        case measure => exact left256_lt (by omega) rfl
      · go_wp2
        go_round
        case rel => exact ⟨k + 1, by omega, by go_num, by rw [← HX.out]; go_num⟩
        case measure => exact left256_lt (by omega) rfl
    · have e : k = 256 := by have := HK.out; omega
      have HE := Lib.hid e
      clear e
      go_wp2
      go_ret
      exact ⟨by rw [HN.out, HE.out]; rfl, hb⟩
end Go.Proofs.Ytcflbpcfmpkolaa
