/-
  MonoidCalls: the walk.
-/
import Derived.Test.YtbiecpejpkgngaaMoCntF
import Derived.Test.YtbiecpejpkgngaaMoAwake
namespace Go.Proofs.Ytbiecpejpkgngaa
open Go.RowKit
def FinC (w : World) (e : Ending) (w' : World) : Prop := e = .returned (.bool true) ∧ Below w.heap.size w w'
set_option maxHeartbeats 800000 in
theorem calls_out (A : Option Addr) (n c : Nat) (a b : Int) (w : World) (h : 2000 < n) (hn : n ≤ maxLen) : Calls Try.prog 9 #[.slice A n c, .int .i64 a, .int .i64 b] w (FinC w) := by
  unfold maxLen at hn
  have HA := Lib.hid awake_true
  have t2 : decide (2000 < (n : Int)) = true := by simp; omega
  go_enter Try.func9, Try.ntmps9
  go_wp2_with fail
  refine (HA.out _).mono ?_
  rintro e w1 ⟨rfl, hb1⟩
  have HB1 := Lib.hid hb1
  clear hb1
  go_wp2_with fail
  refine (HA.out _).mono ?_
  rintro e w2 ⟨rfl, hb2⟩
  have HB2 := Lib.hid hb2
  clear hb2
  go_wp2
  go_ret
  exact ⟨rfl, HB1.out.trans (HB2.out.mono HB1.out.size)⟩
set_option maxRecDepth 20000 in
set_option maxHeartbeats 3200000 in
theorem calls_in (A : Option Addr) (n c : Nat) (N K : Int) (z : Nat → Int) (w : World) (hn : n ≤ 2000) (hc : n ≤ c) (hN : (Lit.int .i64 N).wf = true) (hK : (Lit.int .i64 K).wf = true) (hz : Rd w.heap.size w A n fun k => .int .i64 (z k)) :
    Calls Try.prog 9 #[.slice A n c, .int .i64 N, .int .i64 K] w (FinC w) := by
  have HA := Lib.hid awake_true
  have HZ := Lib.hid hz
  have hKb := bounds_i64 hK
  have hK2 : K ≤ 9223372036854775807 := by omega
  have t2 : decide (2000 < (n : Int)) = false := by simp; omega
  clear hz hN hK hKb
  go_enter Try.func9, Try.ntmps9
  go_wp2_with fail
  refine (HA.out _).mono ?_
  rintro e w1 ⟨rfl, hb1⟩
  have HB1 := Lib.hid hb1
  clear hb1
  obtain ⟨q, hq⟩ : ∃ q, w1.heap.size = q := ⟨_, rfl⟩
  obtain ⟨w2, hw2⟩ : ∃ w2, w2 = w1.alloc (.cells #[.int .i64 0] 3) := ⟨_, rfl⟩
  obtain ⟨w3, hw3⟩ : ∃ w3, w3 = w2.alloc (.cells #[.pointer (some ⟨q, 0, none⟩)] 74) := ⟨_, rfl⟩
  have hBq : w.heap.size ≤ q := by rw [← hq]; exact HB1.out.size
  have hs2 : w2.heap.size = q + 1 := by rw [hw2]; simp [hq]
  have hq3 : Cnt w3 q 0 := by
    have h2 : Row w2 q 3 #[.int .i64 0] := by rw [hw2, ← hq]; exact Row.new _ _ _
    rw [hw3]; exact h2.alloc _
  have hm3 : Row w3 (q + 1) 74 (mc q) := by rw [hw3, ← hs2]; exact Row.new _ _ _
  have hb3 : Below w.heap.size w w3 := by rw [hw3, hw2]; exact (HB1.out.alloc HB1.out.size _).alloc (by simp; omega) _
  have HQ3 := Lib.hid hq3
  have HM3 := Lib.hid hm3
  have HB3 := Lib.hid hb3
  clear hq3 hm3 hb3
  go_wp2_with fail
  rw [← hw2, ← hw3]
  clear hw2 hw3 hs2 hq
  refine (cnt_fold w.heap.size q 0 A n c z w3 hBq HB3.out.size (HZ.out.later HB3.out) HQ3.out (by omega) (by omega)).mono ?_
  rintro e w4 ⟨vC1, rfl, hg, C1, hqn, hlC1, hdC1⟩
  have HBw4 := Lib.hid (HB3.out.trans (hg.below hBq hBq HB3.out.size))
  have HMw4 := Lib.hid (HM3.out.g2 hg (by omega) (by omega))
  have HQw4 := Lib.hid hqn
  have cellw4 : w4.cell? ⟨q, 0, none⟩ = some (.int .i64 (C1 : Nat)) := hqn.cell 0
  clear hg hqn
  go_wp2_with (first | ((with_reducible refine wpList_loadR (c := mc q) aggCnt HMw4.out rfl _ rfl ?_ ?_); (go_simp <;> fail); go_simp))
  clear cellw4
  refine (cnt_pre w.heap.size q C1 A n c z w4 hBq HBw4.out.size (HZ.out.later HBw4.out) HQw4.out (by omega) (by omega)).mono ?_
  rintro e w5 ⟨vC2, rfl, hg, C2, hqn, hlC2, hdC2⟩
  have HBw5 := Lib.hid (HBw4.out.trans (hg.below hBq hBq HBw4.out.size))
  have HMw5 := Lib.hid (HMw4.out.g2 hg (by omega) (by omega))
  have HQw5 := Lib.hid hqn
  have cellw5 : w5.cell? ⟨q, 0, none⟩ = some (.int .i64 (C2 : Nat)) := hqn.cell 0
  clear hg hqn
  obtain ⟨D2, hD2⟩ : ∃ D2, D2 = C2 - C1 := ⟨_, rfl⟩
  have e2 : (C2 : Int) - (C1 : Int) = (D2 : Int) := by omega
  have HD2 := Lib.hid hD2
  have b2 : D2 ≤ 2000 := by omega
  clear hD2
  go_wp2_with (first | ((with_reducible refine wpList_loadR (c := mc q) aggCnt HMw5.out rfl _ rfl ?_ ?_); (go_simp <;> fail); go_simp))
  clear cellw5
  have CW : Calls Try.prog 35 #[.agg (mc q), .slice A n c, .int .i64 N] w5 (RetC q C2 (4 * n) w5) := by
    by_cases ho : N < 1 ∨ (n : Int) < N
    · exact (cnt_win_none q C2 A n c N w5 HQw5.out ho).mono fun e w' ⟨v, he, hg, C', hq', h1, h2⟩ => ⟨v, he, hg, C', hq', h1, by omega⟩
    · obtain ⟨M, rfl⟩ : ∃ M : Nat, N = (M : Int) := ⟨N.toNat, by omega⟩
      exact cnt_win w.heap.size q C2 A n c M z w5 (by omega) (by omega) (by omega) hc hBq HBw5.out.size (HZ.out.later HBw5.out) HQw5.out (by omega)
  refine (CW).mono ?_
  rintro e w6 ⟨vC3, rfl, hg, C3, hqn, hlC3, hdC3⟩
  have HBw6 := Lib.hid (HBw5.out.trans (hg.below hBq hBq HBw5.out.size))
  have HMw6 := Lib.hid (HMw5.out.g2 hg (by omega) (by omega))
  have HQw6 := Lib.hid hqn
  have cellw6 : w6.cell? ⟨q, 0, none⟩ = some (.int .i64 (C3 : Nat)) := hqn.cell 0
  clear hg hqn
  clear CW
  obtain ⟨D3, hD3⟩ : ∃ D3, D3 = C3 - C2 := ⟨_, rfl⟩
  obtain ⟨F3, hF3⟩ : ∃ F3, F3 = C3 - D2 := ⟨_, rfl⟩
  have e3 : (C3 : Int) - (D2 : Int) = (F3 : Int) := by have := HD2.out; omega
  have e3' : (F3 : Int) - (C1 : Int) = (D3 : Int) := by have := HD2.out; omega
  have HD3 := Lib.hid hD3
  have b3 : D3 ≤ 8000 := by omega
  have b3' : F3 ≤ 20000 := by omega
  clear hD3 hF3
  go_wp2_with (first | ((with_reducible refine wpList_loadR (c := mc q) aggCnt HMw6.out rfl _ rfl ?_ ?_); (go_simp <;> fail); go_simp))
  clear cellw6
  have CP : Calls Try.prog 36 #[.agg (mc q), .int .i64 3, .int .i64 K] w6 (RetC q C3 128 w6) := by
    by_cases ho : K < 1
    · exact cnt_pow_none q C3 3 K w6 HQw6.out ho
    · obtain ⟨M, rfl⟩ : ∃ M : Nat, K = (M : Int) := ⟨K.toNat, by omega⟩
      exact cnt_pow q C3 M 3 w6 HQw6.out (by omega) hK2 (by omega)
  refine (CP).mono ?_
  rintro e w7 ⟨vC4, rfl, hg, C4, hqn, hlC4, hdC4⟩
  have HBw7 := Lib.hid (HBw6.out.trans (hg.below hBq hBq HBw6.out.size))
  have HMw7 := Lib.hid (HMw6.out.g2 hg (by omega) (by omega))
  have HQw7 := Lib.hid hqn
  have cellw7 : w7.cell? ⟨q, 0, none⟩ = some (.int .i64 (C4 : Nat)) := hqn.cell 0
  clear hg hqn
  clear CP
  obtain ⟨D4, hD4⟩ : ∃ D4, D4 = C4 - C3 := ⟨_, rfl⟩
  obtain ⟨F4, hF4⟩ : ∃ F4, F4 = C4 - D3 := ⟨_, rfl⟩
  obtain ⟨F5, hF5⟩ : ∃ F5, F5 = F4 - D2 := ⟨_, rfl⟩
  have g2 := HD2.out
  have g3 := HD3.out
  have e4 : (C4 : Int) - (D3 : Int) = (F4 : Int) := by omega
  have e5 : (F4 : Int) - (D2 : Int) = (F5 : Int) := by omega
  have e6 : (F5 : Int) - (C1 : Int) = (D4 : Int) := by omega
  have l1 : C1 ≤ n := by omega
  have l2 : D2 ≤ n := by omega
  have l3 : (D3 : Int) ≤ 4 * (n : Int) := by omega
  have l4 : (D4 : Int) ≤ 128 := by omega
  have b4 : F4 ≤ 30000 := by omega
  have b5 : F5 ≤ 30000 := by omega
  clear g2 g3 hD4 hF4 hF5
  go_wp2
  go_ret
  exact ⟨rfl, HBw7.out⟩
theorem calls_walk (A : Option Addr) (n c : Nat) (N K : Int) (z : Nat → Int) (w : World) (hc : n ≤ c) (hm : n ≤ maxLen) (hN : (Lit.int .i64 N).wf = true) (hK : (Lit.int .i64 K).wf = true) (hz : Rd w.heap.size w A n fun k => .int .i64 (z k)) :
    Calls Try.prog 9 #[.slice A n c, .int .i64 N, .int .i64 K] w (FinC w) := by
  by_cases h : 2000 < n
  · exact calls_out A n c N K w h hm
  · exact calls_in A n c N K z w (by omega) hc hN hK hz
end Go.Proofs.Ytbiecpejpkgngaa
