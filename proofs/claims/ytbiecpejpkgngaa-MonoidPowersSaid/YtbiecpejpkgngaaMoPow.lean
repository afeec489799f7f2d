/-
  Package monoid: Power over values of one cell.
-/
import Derived.Test.YtbiecpejpkgngaaMoJ
import Derived.Test.YtbiecpejpkgngaaMoP
namespace Go.Proofs.Ytbiecpejpkgngaa
open Go.RowKit
set_option maxHeartbeats 800000 in
theorem words_pow (x : ByteArray) (K : Nat) (w : World) (h1 : 1 ≤ K) (hK : (K : Int) ≤ 9223372036854775807) (hm : (mWords).sz x * K ≤ 4611686018427387903) :
    Calls Try.prog 31 #[.agg #[], .string (x), .int .i64 K] w fun e w' => e = .returned (.string (pw mWords x K)) ∧ Below w.heap.size w w' := by
  have HM := Lib.hid hm
  have HX0 := Lib.hid (Row.new w 61 #[])
  have HB0 := Lib.hid (show Below w.heap.size w (w.alloc (.cells #[] 61)) from (Below.refl _ _).alloc (Nat.le_refl _) _)
  clear hm
  go_enter Try.func31, Try.ntmps31
  go_wp2_with fail
  obtain ⟨w1, hw1⟩ : ∃ w1, w1 = w.alloc (.cells #[] 61) := ⟨_, rfl⟩
  rw [← hw1] at HX0 HB0 ⊢
  clear hw1
  go_loopw [1, 2] (fun a i wr => ∃ k t : Nat, 1 ≤ k ∧ 1 ≤ t ∧ Hid (k * t = K) ∧ k ≤ K ∧ i = .int .i64 k ∧ a = .string (pw mWords x t) ∧ Hid (Below w1.heap.size w1 wr)) (fun _ i _ => (intOf i).toNat)
  case atStart => exact ⟨K, 1, h1, Nat.le_refl _, Lib.hid (Nat.mul_one _), Nat.le_refl _, rfl, rfl, Lib.hid (Below.refl _ _)⟩
  case round =>
    obtain ⟨k, t, hk, ht, HKT, hkK, rfl, rfl, HB⟩ := hrel
    have HR := Lib.hid (HX0.out.below' HB.out)
    by_cases he : k % 2 = 0
    · have he' : ((k : Int) % 2 == 0) = true := by simp; omega
      have HJ := Lib.hid (fun u => wordsJoin (pw mWords x t) (pw mWords x t) u (pw_room (even_room HKT.out he hk) HM.out))
      rw [pw_add ht ht] at HJ
      have HE := Lib.hid he
      clear he
      go_wp2_with (first | ((with_reducible refine wpList_loadR aggWords HR.out rfl _ rfl ?_ ?_); (go_simp <;> fail); go_simp) | (go_at_call 71; (with_reducible refine (HJ.out _).mono ?_); rintro e w2 ⟨rfl, hb2⟩; have HB2 := Lib.hid hb2; clear hb2))
      go_roundw
      case rel => exact ⟨k / 2, t + t, by have := HE.out; omega, by omega, Lib.hid (half_even HKT.out HE.out), by omega, by go_num, rfl, Lib.hid (HB.out.trans (HB2.out.mono HB.out.size))⟩
      case measure => simp [intOf]; try omega
    · have he' : ((k : Int) % 2 == 0) = false := by simp; omega
      have HR0 := Lib.hid (show t + (k - k % 2) * t = K by
        have h := HKT.out
        obtain ⟨q, rfl⟩ : ∃ q, k = q + 1 := ⟨k - 1, by omega⟩
        rw [show q + 1 - (q + 1) % 2 = q by omega]
        rw [Nat.add_mul, Nat.one_mul] at h; omega)
      have HO := Lib.hid (show k % 2 = 1 by omega)
      clear he
      go_wp2_with fail
      go_loopw [1, 2, 7] (fun a i r wr => ∃ k t q : Nat, 1 ≤ k ∧ 1 ≤ t ∧ 1 ≤ q ∧ Hid (q + (k - k % 2) * t = K) ∧ k ≤ K ∧ i = .int .i64 k ∧ a = .string (pw mWords x t) ∧ r = .string (pw mWords x q) ∧ Hid (Below w1.heap.size w1 wr)) (fun _ i _ _ => (intOf i).toNat)
      case atStart => exact ⟨k, t, t, hk, ht, ht, HR0, hkK, rfl, rfl, rfl, HB⟩
      case round =>
        clear HR HR0 HO HKT HB ht hk hkK he'
        obtain ⟨k, t, q, hk, ht, hq, HKT, hkK, rfl, rfl, rfl, HB⟩ := hrel
        have HR := Lib.hid (HX0.out.below' HB.out)
        by_cases h2 : 2 ≤ k
        · have hrm := half_room HKT.out h2
          have HJ := Lib.hid (fun u => wordsJoin (pw mWords x t) (pw mWords x t) u (pw_room (K := K) (by omega) HM.out))
          have HJ2 := Lib.hid (fun u => wordsJoin (pw mWords x q) (pw mWords x (t + t)) u (pw_room (K := K) (by omega) HM.out))
          rw [pw_add ht ht] at HJ
          rw [pw_add hq (by omega)] at HJ2
          clear hrm
          by_cases he : k / 2 % 2 = 1
          · have he' : ((k : Int) / 2 % 2 == 1) = true := by simp; omega
            have HE := Lib.hid he
            clear he
            go_wp2_with (first | ((with_reducible refine wpList_loadR aggWords HR.out rfl _ rfl ?_ ?_); (go_simp <;> fail); go_simp) | ((with_reducible refine wpList_loadR aggWords HR3.out rfl _ rfl ?_ ?_); (go_simp <;> fail); go_simp) | (go_at_call 71; first | ((with_reducible refine (HJ.out _).mono ?_); rintro e w2 ⟨rfl, hb2⟩; have HB2 := Lib.hid hb2; clear hb2; have HR3 := Lib.hid (HR.out.below' HB2.out)) | ((with_reducible refine (HJ2.out _).mono ?_); rintro e w3 ⟨rfl, hb3⟩; have HB3 := Lib.hid hb3; clear hb3)))
            go_roundw
            case rel => exact ⟨k / 2, t + t, q + (t + t), by omega, by omega, by omega, Lib.hid (half_odd HKT.out h2 HE.out), by omega, by go_num, rfl, rfl, Lib.hid ((HB.out.trans (HB2.out.mono HB.out.size)).trans (HB3.out.mono (Nat.le_trans HB.out.size HB2.out.size)))⟩
            case measure => simp [intOf]; try omega
          · have he' : ((k : Int) / 2 % 2 == 1) = false := by simp; omega
            have HE := Lib.hid (show k / 2 % 2 = 0 by omega)
            clear he
            go_wp2_with (first | ((with_reducible refine wpList_loadR aggWords HR.out rfl _ rfl ?_ ?_); (go_simp <;> fail); go_simp) | (go_at_call 71; ((with_reducible refine (HJ.out _).mono ?_); rintro e w2 ⟨rfl, hb2⟩; have HB2 := Lib.hid hb2; clear hb2)))
            go_roundw
            case rel => exact ⟨k / 2, t + t, q, by omega, by omega, by omega, Lib.hid (half_ev HKT.out h2 HE.out), by omega, by go_num, rfl, rfl, Lib.hid (HB.out.trans (HB2.out.mono HB.out.size))⟩
            case measure => simp [intOf]; try omega
        · obtain rfl : k = 1 := by omega
          have hq : q = K := by have := HKT.out; simp at this; exact this
          have HQ := Lib.hid hq
          clear hq
          go_wp2
          go_ret
          exact ⟨by rw [HQ.out]; rfl, HB0.out.trans (HB.out.mono HB0.out.size)⟩
set_option maxHeartbeats 800000 in
theorem words_pow_none (x : ByteArray) (n : Int) (w : World) (h1 : n < 1) :
    Calls Try.prog 31 #[.agg #[], .string (x), .int .i64 n] w fun e w' => e = .returned (.string ((mWords).e)) ∧ Below w.heap.size w w' := by
  have HX0 := Lib.hid (Row.new w 61 #[])
  have HB0 := Lib.hid (show Below w.heap.size w (w.alloc (.cells #[] 61)) from (Below.refl _ _).alloc (Nat.le_refl _) _)
  go_enter Try.func31, Try.ntmps31
  go_wp2_with (first | (go_at_call 72; (with_reducible refine (wordsUnit _).mono ?_); rintro e w2 ⟨rfl, hb2⟩; have HB2 := Lib.hid hb2; clear hb2))
  go_ret
  exact ⟨rfl, HB0.out.trans (HB2.out.mono HB0.out.size)⟩
end Go.Proofs.Ytbiecpejpkgngaa
