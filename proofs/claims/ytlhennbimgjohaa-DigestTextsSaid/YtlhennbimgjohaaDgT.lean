/-
  DigestTexts: the walk.
-/
import Derived.Test.YtlhennbimgjohaaDgW0
namespace Go.Proofs.Ytlhennbimgjohaa
open Go.RowKit
theorem letter_str (x : ByteArray) (h : 0 < x.size) (h1 : x.size = 1) (w : World) :
    Calls Try.prog 13 #[.int .u8 (x[0].toNat : Int)] w fun e w' => e = .returned (.agg (dc (txs x))) ∧ Below w.heap.size w w' := by
  have hb := sb_in x 1 0 (by omega)
  have e0 : sb x 0 = (x[0].toNat : Int) := by
    have hl : 0 < x.data.toList.length := by simpa using h
    unfold sb
    rw [List.getD_eq_getElem?_getD, List.getElem?_eq_getElem hl]
    rfl
  have e : txs x = lt (x[0].toNat : Int) := by
    unfold txs
    rw [h1, tx_one hb.1 hb.2, e0]
  rw [e]
  rw [e0] at hb
  exact dg_letter _ w hb.1 hb.2
set_option maxRecDepth 20000 in
set_option maxHeartbeats 1600000 in
theorem texts_walk (s : ByteArray) (w : World) (hs : s.size ≤ maxLen) :
    Calls Try.prog 3 #[.string s] w fun e w' => e = .returned (.bool true) ∧ Below w.heap.size w w' := by
  have HA := Lib.hid awake_true
  have HC := Lib.hid (fun w => cut_any s w hs)
  obtain ⟨x, hx⟩ : ∃ x, x = cutS s := ⟨_, rfl⟩
  have hxs : x.size ≤ 300 := by rw [hx]; exact cutS_size s
  rw [← hx] at HC
  obtain ⟨T, hT⟩ : ∃ T, T = txs x := ⟨_, rfl⟩
  have H1 := Lib.hid (fun A c w hr => of_str x A c w (by omega) hr)
  have H2 := Lib.hid (fun A c w hr => rof_str x A c w (by omega) hr)
  rw [← hT] at H1 H2
  have ge := guard_dg
  have ee := equal_dg
  have HT := Lib.hid hT
  clear hs hx hT
  have cv := fun w => run_bytes w x
  have G1 := Lib.hid (fun w => H1.out _ (grownCap w x.size 0 5) _ (bytes_rd w x))
  have G2 := Lib.hid (fun w => H2.out _ (grownCap w x.size 0 5) _ (bytes_rd w x))
  have GB := Lib.hid (fun w => bytesWorld_below w 5 x)
  clear H1 H2
  by_cases h1 : x.size = 1
  · have h1i : ((x.size : Int) == 1) = true := by simp; omega
    have HL := Lib.hid (fun w h => letter_str x h h1 w)
    rw [← HT.out] at HL
    simp only [h1] at G1 G2 cv
    go_enter Try.func3, Try.ntmps3
    go_wp2_with (first | (go_at_call 11; (with_reducible refine (HA.out _).mono ?_); rintro e w1 ⟨rfl, hb1⟩; have HB1 := Lib.hid hb1; clear hb1) | (go_at_call 12; (with_reducible refine (HC.out _).mono ?_); rintro e w1' ⟨rfl, rfl⟩) | (go_at_call 13; (with_reducible refine (HL.out _ _).mono ?_); rintro e w2 ⟨rfl, hb2⟩; have HB2 := Lib.hid (HB1.out.trans (hb2.mono HB1.out.size)); clear hb2) | (go_at_call 14; first | ((with_reducible refine (G2.out _).mono ?_); rintro e w7 ⟨rfl, hb⟩; have HB7 := Lib.hid ((HB5.out.trans ((GB.out w5).mono HB5.out.size)).trans (hb.mono (Nat.le_trans HB5.out.size (GB.out w5).size))); clear hb) | ((with_reducible refine (G2.out _).mono ?_); rintro e w4 ⟨rfl, hb⟩; have HB3 := Lib.hid ((HB2.out.trans ((GB.out w2).mono HB2.out.size)).trans (hb.mono (Nat.le_trans HB2.out.size (GB.out w2).size))); clear hb)) | (go_at_call 15; (with_reducible refine (G1.out _).mono ?_); rintro e w5 ⟨rfl, hb⟩; have HB5 := Lib.hid ((HB3.out.trans ((GB.out w4).mono HB3.out.size)).trans (hb.mono (Nat.le_trans HB3.out.size (GB.out w4).size))); clear hb))
    go_ret
    exact ⟨rfl, HB7.out⟩
  · have h1i : ((x.size : Int) == 1) = false := by simp; omega
    go_enter Try.func3, Try.ntmps3
    go_wp2_with (first | (go_at_call 11; (with_reducible refine (HA.out _).mono ?_); rintro e w1 ⟨rfl, hb1⟩; have HB1 := Lib.hid hb1; clear hb1) | (go_at_call 12; (with_reducible refine (HC.out _).mono ?_); rintro e w1' ⟨rfl, rfl⟩) | (go_at_call 15; (with_reducible refine (G1.out _).mono ?_); rintro e w3 ⟨rfl, hb3⟩; have HB3 := Lib.hid ((HB1.out.trans ((GB.out w1).mono HB1.out.size)).trans (hb3.mono (Nat.le_trans HB1.out.size (GB.out w1).size))); clear hb3) | (go_at_call 14; (with_reducible refine (G2.out _).mono ?_); rintro e w5 ⟨rfl, hb5⟩; have HB5 := Lib.hid ((HB3.out.trans ((GB.out w3).mono HB3.out.size)).trans (hb5.mono (Nat.le_trans HB3.out.size (GB.out w3).size))); clear hb5))
    go_ret
    exact ⟨rfl, HB5.out⟩
end Go.Proofs.Ytlhennbimgjohaa
