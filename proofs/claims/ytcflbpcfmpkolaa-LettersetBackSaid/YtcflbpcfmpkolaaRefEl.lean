/-
  The reference's Element.
-/
import Derived.Test.YtcflbpcfmpkolaaLsElem
namespace Go.Proofs.Ytcflbpcfmpkolaa
open Go.RowKit

def RGot (v k : Nat) (w : World) : Ending → World → Prop := fun e w' => e = .returned (.tuple #[.int .i64 v, .int .i64 k]) ∧ Below w.heap.size w w'
def RMissed (a : Nat) (w : World) : Ending → World → Prop := fun e w' => e = .returned (.tuple #[.int .i64 (-1), .int .i64 a]) ∧ Below w.heap.size w w'

set_option maxHeartbeats 1000000 in
theorem el_out (t : ByteArray) (a : Nat) (ht : t.size ≤ 140737488355328) (ha : t.size ≤ a) (hm : a ≤ 140737488355328) (w : World) : Calls Try.prog 33 #[.string t, .int .i64 a] w (RMissed a w) := by
  have h : ¬ (a : Int) < (t.size : Int) := by omega
  have h' : (t.size : Int) ≤ (a : Int) := by omega
  clear ha
  go_enter Try.func33, Try.ntmps33
  go_wp2
  go_ret2
  exact ⟨rfl, Below.refl _ _⟩
set_option maxHeartbeats 1000000 in
theorem el_bad (t : ByteArray) (a : Nat) (ht : t.size ≤ 140737488355328) (ha : a < t.size) (b : Nat) (hb : byt t a = b) (h : b = 93 ∨ b = 45) (w : World) : Calls Try.prog 33 #[.string t, .int .i64 a] w (RMissed a w) := by
  have x0 : (t[a]'ha).toNat = b := by rw [byt_eq]; exact hb
  have hi : (a : Int) < (t.size : Int) := by omega
  have hi' : ¬ (t.size : Int) ≤ (a : Int) := by omega
  have hd : decide ((t.size : Int) ≤ (a : Int)) = false := decide_eq_false hi'
  clear hb
  rcases h with rfl | rfl
  all_goals
    go_enter Try.func33, Try.ntmps33
    go_wp2
    go_ret2
    exact ⟨rfl, Below.refl _ _⟩
set_option maxHeartbeats 1000000 in
theorem el_self (t : ByteArray) (a : Nat) (ht : t.size ≤ 140737488355328) (ha : a < t.size) (b : Nat) (hb : byt t a = b) (h1 : b ≠ 92) (h2 : b ≠ 93) (h3 : b ≠ 45) (w : World) : Calls Try.prog 33 #[.string t, .int .i64 a] w (RGot b (a + 1) w) := by
  have x0 : (t[a]'ha).toNat = b := by rw [byt_eq]; exact hb
  have hbl : b ≤ 255 := by rw [← hb]; exact byt_le _ _
  have hi : (a : Int) < (t.size : Int) := by omega
  have hd : decide ((t.size : Int) ≤ (a : Int)) = false := decide_eq_false (by omega)
  have c1 : ((b : Int) != 92) = true := by simpa using (by omega : ¬ (b : Int) = 92)
  have c2 : ((b : Int) == 93) = false := by simpa using (by omega : ¬ (b : Int) = 93)
  have c3 : ((b : Int) == 45) = false := by simpa using (by omega : ¬ (b : Int) = 45)
  clear hb h1 h2 h3
  go_enter Try.func33, Try.ntmps33
  go_wp2
  go_ret2
  exact ⟨rfl, Below.refl _ _⟩
set_option maxHeartbeats 1000000 in
theorem el_esc_out (t : ByteArray) (a : Nat) (ht : t.size ≤ 140737488355328) (ha : a + 1 = t.size) (hb : byt t a = 92) (w : World) : Calls Try.prog 33 #[.string t, .int .i64 a] w (RMissed a w) := by
  have ha0 : a < t.size := by omega
  have x0 : (t[a]'ha0).toNat = 92 := by rw [byt_eq]; exact hb
  have hi : (a : Int) < (t.size : Int) := by omega
  have hd : decide ((t.size : Int) ≤ (a : Int)) = false := decide_eq_false (by omega)
  have hi1 : (t.size : Int) ≤ (a : Int) + 1 := by omega
  have hi2 : ¬ (a : Int) + 1 < (t.size : Int) := by omega
  clear hb ha
  go_enter Try.func33, Try.ntmps33
  go_wp2
  go_ret2
  exact ⟨rfl, Below.refl _ _⟩
set_option maxHeartbeats 1000000 in
theorem el_letter (t : ByteArray) (a : Nat) (ht : t.size ≤ 140737488355328) (ha : a + 1 < t.size) (hb : byt t a = 92) (c v : Nat) (hc : byt t (a + 1) = c) (h : (c = 110 ∧ v = 10) ∨ (c = 116 ∧ v = 9) ∨ (c = 114 ∧ v = 13)) (w : World) : Calls Try.prog 33 #[.string t, .int .i64 a] w (RGot v (a + 2) w) := by
  have ha0 : a < t.size := by omega
  have x0 : (t[a]'ha0).toNat = 92 := by rw [byt_eq]; exact hb
  have hi : (a : Int) < (t.size : Int) := by omega
  have hd : decide ((t.size : Int) ≤ (a : Int)) = false := decide_eq_false (by omega)
  have ha1 : a + 1 < t.size := by omega
  have x1 : (t[a + 1]'ha1).toNat = c := by rw [byt_eq]; exact hc
  have hi1 : (a : Int) + 1 < (t.size : Int) := by omega
  have hd1 : decide ((t.size : Int) ≤ (a : Int) + 1) = false := decide_eq_false (by omega)
  clear hb hc
  rcases h with ⟨rfl, rfl⟩ | ⟨rfl, rfl⟩ | ⟨rfl, rfl⟩
  all_goals
    go_enter Try.func33, Try.ntmps33
    go_wp2
    go_ret2
    exact ⟨rfl, Below.refl _ _⟩
set_option maxHeartbeats 1000000 in
theorem el_other (t : ByteArray) (a : Nat) (ht : t.size ≤ 140737488355328) (ha : a + 1 < t.size) (hb : byt t a = 92) (c : Nat) (hc : byt t (a + 1) = c) (h1 : c ≠ 110) (h2 : c ≠ 116) (h3 : c ≠ 114) (h4 : c ≠ 120) (w : World) : Calls Try.prog 33 #[.string t, .int .i64 a] w (if punctB c then RGot c (a + 2) w else RMissed a w) := by
  have ha0 : a < t.size := by omega
  have x0 : (t[a]'ha0).toNat = 92 := by rw [byt_eq]; exact hb
  have hi : (a : Int) < (t.size : Int) := by omega
  have hd : decide ((t.size : Int) ≤ (a : Int)) = false := decide_eq_false (by omega)
  have ha1 : a + 1 < t.size := by omega
  have x1 : (t[a + 1]'ha1).toNat = c := by rw [byt_eq]; exact hc
  have hi1 : (a : Int) + 1 < (t.size : Int) := by omega
  have hd1 : decide ((t.size : Int) ≤ (a : Int) + 1) = false := decide_eq_false (by omega)
  have hcl : c ≤ 255 := by rw [← hc]; exact byt_le _ _
  have c1 : ((c : Int) == 110) = false := by simpa using (by omega : ¬ (c : Int) = 110)
  have c2 : ((c : Int) == 116) = false := by simpa using (by omega : ¬ (c : Int) = 116)
  have c3 : ((c : Int) == 114) = false := by simpa using (by omega : ¬ (c : Int) = 114)
  have c4 : ((c : Int) == 120) = false := by simpa using (by omega : ¬ (c : Int) = 120)
  have hp := fun w => (punct_both c (by omega) (by omega) w).2
  obtain ⟨p, hpp⟩ : ∃ p, p = punctB c := ⟨_, rfl⟩
  rw [← hpp] at hp ⊢
  have HP := Lib.hid hp
  clear hb hc h1 h2 h3 h4 hp hpp
  cases p
  · rw [if_neg Bool.false_ne_true]
    go_enter Try.func33, Try.ntmps33
    go_wp2_with (go_at_call 40; with_reducible refine (HP.out _).mono ?_; rintro e w' ⟨rfl, rfl⟩)
    go_ret2
    exact ⟨rfl, Below.refl _ _⟩
  · rw [if_pos rfl]
    go_enter Try.func33, Try.ntmps33
    go_wp2_with (go_at_call 40; with_reducible refine (HP.out _).mono ?_; rintro e w' ⟨rfl, rfl⟩)
    go_ret2
    exact ⟨rfl, Below.refl _ _⟩
set_option maxHeartbeats 1000000 in
theorem el_hex_out (t : ByteArray) (a : Nat) (ht : t.size ≤ 140737488355328) (ha : a + 1 < t.size) (hb : byt t a = 92) (hc : byt t (a + 1) = 120) (h3 : t.size ≤ a + 3) (w : World) : Calls Try.prog 33 #[.string t, .int .i64 a] w (RMissed a w) := by
  have ha0 : a < t.size := by omega
  have x0 : (t[a]'ha0).toNat = 92 := by rw [byt_eq]; exact hb
  have hi : (a : Int) < (t.size : Int) := by omega
  have hd : decide ((t.size : Int) ≤ (a : Int)) = false := decide_eq_false (by omega)
  have ha1 : a + 1 < t.size := by omega
  have x1 : (t[a + 1]'ha1).toNat = 120 := by rw [byt_eq]; exact hc
  have hi1 : (a : Int) + 1 < (t.size : Int) := by omega
  have hd1 : decide ((t.size : Int) ≤ (a : Int) + 1) = false := decide_eq_false (by omega)
  have hi3 : ¬ (a : Int) + 3 < (t.size : Int) := by omega
  clear hb hc h3
  go_enter Try.func33, Try.ntmps33
  go_wp2
  go_ret2
  exact ⟨rfl, Below.refl _ _⟩
set_option maxHeartbeats 1000000 in
theorem el_hex_bad0 (t : ByteArray) (a : Nat) (ht : t.size ≤ 140737488355328) (hb : byt t a = 92) (hc : byt t (a + 1) = 120) (h3 : a + 3 < t.size) (h : hexV (byt t (a + 2)) = 16) (w : World) : Calls Try.prog 33 #[.string t, .int .i64 a] w (RMissed a w) := by
  have ha0 : a < t.size := by omega
  have x0 : (t[a]'ha0).toNat = 92 := by rw [byt_eq]; exact hb
  have hi : (a : Int) < (t.size : Int) := by omega
  have hd : decide ((t.size : Int) ≤ (a : Int)) = false := decide_eq_false (by omega)
  have ha1 : a + 1 < t.size := by omega
  have x1 : (t[a + 1]'ha1).toNat = 120 := by rw [byt_eq]; exact hc
  have hi1 : (a : Int) + 1 < (t.size : Int) := by omega
  have hd1 : decide ((t.size : Int) ≤ (a : Int) + 1) = false := decide_eq_false (by omega)
  have x2 : (t[a + 2]'(by omega)).toNat = byt t (a + 2) := byt_eq _ _ _
  have x3 : (t[a + 3]'(by omega)).toNat = byt t (a + 3) := byt_eq _ _ _
  have hi2 : (a : Int) + 2 < (t.size : Int) := by omega
  have hi3 : (a : Int) + 3 < (t.size : Int) := by omega
  have p0 := fun w => hex_any (byt t (a + 2)) (by omega) (by have := byt_le t (a + 2); omega) w
  have p1 := fun w => hex_any (byt t (a + 3)) (by omega) (by have := byt_le t (a + 3); omega) w
  rw [h] at p0
  rw [show hexR 16 = -1 from rfl] at p0
  have P0 := Lib.hid p0
  have P1 := Lib.hid p1
  clear hb hc h p0 p1
  go_enter Try.func33, Try.ntmps33
  go_wp2_with (first | (go_at_call 39; with_reducible refine (P0.out _).mono ?_; rintro e w' ⟨rfl, rfl⟩) | (go_at_call 39; with_reducible refine (P1.out _).mono ?_; rintro e w' ⟨rfl, rfl⟩))
  go_ret2
  exact ⟨rfl, Below.refl _ _⟩
set_option maxHeartbeats 1000000 in
theorem el_hex_bad1 (t : ByteArray) (a : Nat) (ht : t.size ≤ 140737488355328) (hb : byt t a = 92) (hc : byt t (a + 1) = 120) (h3 : a + 3 < t.size) (v : Nat) (h : hexV (byt t (a + 2)) = v) (hv : v < 16) (h' : hexV (byt t (a + 3)) = 16) (w : World) : Calls Try.prog 33 #[.string t, .int .i64 a] w (RMissed a w) := by
  have ha0 : a < t.size := by omega
  have x0 : (t[a]'ha0).toNat = 92 := by rw [byt_eq]; exact hb
  have hi : (a : Int) < (t.size : Int) := by omega
  have hd : decide ((t.size : Int) ≤ (a : Int)) = false := decide_eq_false (by omega)
  have ha1 : a + 1 < t.size := by omega
  have x1 : (t[a + 1]'ha1).toNat = 120 := by rw [byt_eq]; exact hc
  have hi1 : (a : Int) + 1 < (t.size : Int) := by omega
  have hd1 : decide ((t.size : Int) ≤ (a : Int) + 1) = false := decide_eq_false (by omega)
  have x2 : (t[a + 2]'(by omega)).toNat = byt t (a + 2) := byt_eq _ _ _
  have x3 : (t[a + 3]'(by omega)).toNat = byt t (a + 3) := byt_eq _ _ _
  have hi2 : (a : Int) + 2 < (t.size : Int) := by omega
  have hi3 : (a : Int) + 3 < (t.size : Int) := by omega
  have p0 := fun w => hex_any (byt t (a + 2)) (by omega) (by have := byt_le t (a + 2); omega) w
  have p1 := fun w => hex_any (byt t (a + 3)) (by omega) (by have := byt_le t (a + 3); omega) w
  rw [h] at p0
  rw [show hexR v = (v : Int) from if_neg (by omega)] at p0
  rw [h', show hexR 16 = -1 from rfl] at p1
  have P0 := Lib.hid p0
  have P1 := Lib.hid p1
  clear hb hc h h' p0 p1
  go_enter Try.func33, Try.ntmps33
  go_wp2_with (first | (go_at_call 39; with_reducible refine (P0.out _).mono ?_; rintro e w' ⟨rfl, rfl⟩) | (go_at_call 39; with_reducible refine (P1.out _).mono ?_; rintro e w' ⟨rfl, rfl⟩))
  go_ret2
  exact ⟨rfl, Below.refl _ _⟩
set_option maxHeartbeats 1000000 in
theorem el_hex_ok (t : ByteArray) (a : Nat) (ht : t.size ≤ 140737488355328) (hb : byt t a = 92) (hc : byt t (a + 1) = 120) (h3 : a + 3 < t.size) (v x : Nat) (h : hexV (byt t (a + 2)) = v) (hv : v < 16) (h' : hexV (byt t (a + 3)) = x) (hx : x < 16) (w : World) : Calls Try.prog 33 #[.string t, .int .i64 a] w (RGot (16 * v + x) (a + 4) w) := by
  have ha0 : a < t.size := by omega
  have x0 : (t[a]'ha0).toNat = 92 := by rw [byt_eq]; exact hb
  have hi : (a : Int) < (t.size : Int) := by omega
  have hd : decide ((t.size : Int) ≤ (a : Int)) = false := decide_eq_false (by omega)
  have ha1 : a + 1 < t.size := by omega
  have x1 : (t[a + 1]'ha1).toNat = 120 := by rw [byt_eq]; exact hc
  have hi1 : (a : Int) + 1 < (t.size : Int) := by omega
  have hd1 : decide ((t.size : Int) ≤ (a : Int) + 1) = false := decide_eq_false (by omega)
  have x2 : (t[a + 2]'(by omega)).toNat = byt t (a + 2) := byt_eq _ _ _
  have x3 : (t[a + 3]'(by omega)).toNat = byt t (a + 3) := byt_eq _ _ _
  have hi2 : (a : Int) + 2 < (t.size : Int) := by omega
  have hi3 : (a : Int) + 3 < (t.size : Int) := by omega
  have p0 := fun w => hex_any (byt t (a + 2)) (by omega) (by have := byt_le t (a + 2); omega) w
  have p1 := fun w => hex_any (byt t (a + 3)) (by omega) (by have := byt_le t (a + 3); omega) w
  rw [h] at p0
  rw [show hexR v = (v : Int) from if_neg (by omega)] at p0
  rw [h', show hexR x = (x : Int) from if_neg (by omega)] at p1
  have P0 := Lib.hid p0
  have P1 := Lib.hid p1
  have Q0 := Lib.hid (fun w => (p0 w).mono (fun e w' (h : e = .returned (.int .i64 v) ∧ w = w') => (show e = .returned (.int .i64 v) ∧ Below w.heap.size w w' from ⟨h.1, h.2 ▸ Below.refl _ _⟩)))
  have Q1 := Lib.hid (fun w => (p1 w).mono (fun e w' (h : e = .returned (.int .i64 x) ∧ w = w') => (show e = .returned (.int .i64 x) ∧ Below w.heap.size w w' from ⟨h.1, h.2 ▸ Below.refl _ _⟩)))
  clear hb hc h h' p0 p1
  go_enter Try.func33, Try.ntmps33
  go_wp2_with (first | (go_at_call 39; with_reducible refine (P0.out _).mono ?_; rintro e w' ⟨rfl, rfl⟩) | (go_at_call 39; with_reducible refine (P1.out _).mono ?_; rintro e w' ⟨rfl, rfl⟩))
  refine wp_region_later (by kernel_rfl) (by kernel_rfl) ?_
  repeat (first | go_big_quiet_skip | (go_big_quiet_want; go_big_quiet_op; first | go_big_quiet_on | go_big_quiet_call (first | with_reducible exact calls_later (Q0.out _) | with_reducible exact calls_later (Q1.out _))))
  refine wpQuiet_nil ?_
  rintro w4 ⟨u, rfl⟩
  go_wp2
  go_ret2
  exact ⟨rfl, below_later w u⟩

/-- The reference's Element at index a. -/
def RElEnd (t : ByteArray) (a : Nat) (w : World) : Ending → World → Prop := match elS (tail t a) with
  | some (v, k) => RGot v (a + k) w
  | none => RMissed a w
theorem ref_element (t : ByteArray) (a : Nat) (ht : t.size ≤ 140737488355328) (hm : a ≤ 140737488355328) (w : World) : Calls Try.prog 33 #[.string t, .int .i64 a] w (RElEnd t a w) := by
  unfold RElEnd elS
  rw [tail_size, byt_tail, Nat.add_zero]
  by_cases h0 : t.size - a = 0
  · rw [if_pos h0]; exact el_out t a ht (by omega) hm w
  rw [if_neg h0]
  by_cases h1 : byt t a = 92
  · rw [if_pos h1]
    unfold escS
    rw [tail_tail, tail_size, byt_tail, byt_tail, byt_tail, Nat.add_zero]
    by_cases h2 : t.size - (a + 1) = 0
    · rw [if_pos h2]; exact el_esc_out t a ht (by omega) h1 w
    rw [if_neg h2]
    by_cases c1 : byt t (a + 1) = 110
    · rw [if_pos c1]; exact el_letter t a ht (by omega) h1 110 10 c1 (by omega) w
    rw [if_neg c1]
    by_cases c2 : byt t (a + 1) = 116
    · rw [if_pos c2]; exact el_letter t a ht (by omega) h1 116 9 c2 (by omega) w
    rw [if_neg c2]
    by_cases c3 : byt t (a + 1) = 114
    · rw [if_pos c3]; exact el_letter t a ht (by omega) h1 114 13 c3 (by omega) w
    rw [if_neg c3]
    by_cases c4 : byt t (a + 1) = 120
    · rw [if_pos c4, show a + 1 + 1 = a + 2 from rfl, show a + 1 + 2 = a + 3 from rfl]
      have b0 := hexV_le (byt t (a + 2))
      have b1 := hexV_le (byt t (a + 3))
      by_cases d0 : t.size ≤ a + 3
      · rw [if_pos (by omega)]; exact el_hex_out t a ht (by omega) h1 c4 d0 w
      by_cases d1 : hexV (byt t (a + 2)) = 16
      · rw [if_pos (by omega)]; exact el_hex_bad0 t a ht h1 c4 (by omega) d1 w
      by_cases d2 : hexV (byt t (a + 3)) = 16
      · rw [if_pos (by omega)]; exact el_hex_bad1 t a ht h1 c4 (by omega) _ rfl (by omega) d2 w
      · rw [if_neg (by omega)]; exact el_hex_ok t a ht h1 c4 (by omega) _ _ rfl (by omega) rfl (by omega) w
    rw [if_neg c4]
    have := el_other t a ht (by omega) h1 _ rfl c1 c2 c3 c4 w
    by_cases hp : punctB (byt t (a + 1)) = true
    · rw [if_pos hp] at this ⊢; exact this
    · rw [if_neg hp] at this ⊢; exact this
  rw [if_neg h1]
  by_cases h2 : byt t a = 93 ∨ byt t a = 45
  · rw [if_pos h2]; exact el_bad t a ht (by omega) _ rfl h2 w
  · rw [if_neg h2]; exact el_self t a ht (by omega) _ rfl h1 (by omega) (by omega) w
end Go.Proofs.Ytcflbpcfmpkolaa
