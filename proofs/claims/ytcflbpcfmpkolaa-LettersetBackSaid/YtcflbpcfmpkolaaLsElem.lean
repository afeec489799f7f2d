/-
  Package letterset: element, escape, hexadecimal, item.
-/
import Derived.Test.YtcflbpcfmpkolaaLsDig
namespace Go.Proofs.Ytcflbpcfmpkolaa
open Go.RowKit

/-- Byte i of a string; 0 beyond it. -/
def byt (s : ByteArray) (i : Nat) : Nat := (s.data.toList.getD i 0).toNat
theorem byt_eq (s : ByteArray) (i : Nat) (h : i < s.size) : (s[i]'h).toNat = byt s i := by
  unfold byt; congr 1
  have h' : i < s.data.toList.length := by simpa using h
  rw [List.getD_eq_getElem?_getD, List.getElem?_eq_getElem h']; rfl
theorem byt_le (s : ByteArray) (i : Nat) : byt s i ≤ 255 := by unfold byt; have := (s.data.toList.getD i 0).toNat_lt; omega
def tail (s : ByteArray) (k : Nat) : ByteArray := s.extract k s.size
theorem tail_size (s : ByteArray) (k : Nat) : (tail s k).size = s.size - k := by unfold tail; rw [ByteArray.size_extract]; omega
theorem tail_tail (s : ByteArray) (a k : Nat) : tail (tail s a) k = tail s (a + k) := by
  unfold tail; rw [ByteArray.extract_extract]; congr 1; rw [ByteArray.size_extract]; omega
theorem tail_zero (s : ByteArray) : tail s 0 = s := by unfold tail; exact ByteArray.extract_zero_size
theorem byt_tail (s : ByteArray) (a i : Nat) : byt (tail s a) i = byt s (a + i) := by
  unfold byt tail
  congr 1
  rw [ByteArray.data_extract, Array.toList_extract]
  simp only [List.getD_eq_getElem?_getD, List.extract_eq_take_drop, List.getElem?_take, List.getElem?_drop]
  by_cases h : a + i < s.size
  · rw [if_pos (by omega)]
  · rw [if_neg (by omega), List.getElem?_eq_none (by simp; omega)]

def Got (s : ByteArray) (v k : Nat) (w : World) : Ending → World → Prop := fun e w' => e = .returned (.tuple #[.int .u8 v, .string (tail s k), .bool true]) ∧ Below w.heap.size w w'
def Missed (w : World) : Ending → World → Prop := fun e w' => (∃ (x : Int) (y : ByteArray), e = .returned (.tuple #[.int .u8 x, .string y, .bool false])) ∧ Below w.heap.size w w'

theorem hex_join (h l : Nat) (hh : h < 16) (hl : l < 16) : bits BinOp.or IntKind.u8 ((h : Int) * 16) (l : Int) = ((16 * h + l : Nat) : Int) := by
  rw [show (h : Int) * 16 = ((h * 16 : Nat) : Int) by simp, u8_or_nat _ _ (by omega) (by omega), nat_join 4 (h * 16) l (by omega) (by omega)]
  congr 1; omega

set_option maxHeartbeats 1000000 in
theorem hexa_got (s : ByteArray) (h l : Nat) (hs : 2 ≤ s.size) (e0 : hexV (byt s 0) = h) (e1 : hexV (byt s 1) = l) (hh : h < 16) (hl : l < 16) (w : World) :
    Calls Try.prog 47 #[.string s] w (Got s (16 * h + l) 2 w) := by
  have x0 : (s[0]'(by omega)).toNat = byt s 0 := byt_eq s 0 (by omega)
  have x1 : (s[1]'(by omega)).toNat = byt s 1 := byt_eq s 1 (by omega)
  have d0 := Lib.hid (fun w => digit_some (byt s 0) h (by omega) (by have := byt_le s 0; omega) e0 hh w)
  have d1 := Lib.hid (fun w => digit_some (byt s 1) l (by omega) (by have := byt_le s 1; omega) e1 hl w)
  have hj := hex_join h l hh hl
  have hw : IntKind.u8.wrap ((h : Int) * 16) = (h : Int) * 16 := by simp [IntKind.wrap, IntKind.bits, IntKind.signed]; omega
  have hsz : (2 : Int) ≤ (s.size : Int) := by omega
  obtain ⟨y, hy⟩ : ∃ y, y = tail s 2 := ⟨_, rfl⟩
  have hy' : s.extract 2 s.size = y := hy.symm
  unfold Got
  rw [← hy]
  clear e0 e1 hy
  go_enter Try.func47, Try.ntmps47
  go_wp2_with (first | (go_at_call 50; with_reducible refine (d0.out _).mono ?_; rintro e w' ⟨rfl, rfl⟩) | (go_at_call 50; with_reducible refine (d1.out _).mono ?_; rintro e w' ⟨rfl, rfl⟩))
  refine wp_region_later (by kernel_rfl) (by kernel_rfl) ?_
  repeat (first | go_big_quiet_skip | (go_big_quiet_want; go_big_quiet_op; first | go_big_quiet_on | go_big_quiet_call (fail)))
  refine wpQuiet_nil ?_
  rintro w4 ⟨u, rfl⟩
  go_wp2
  go_ret3
  exact ⟨rfl, below_later w u⟩

theorem missed_now (w : World) (x : Int) (y : ByteArray) : Missed w (.returned (.tuple #[.int .u8 x, .string y, .bool false])) w := ⟨⟨x, y, rfl⟩, Below.refl _ _⟩
theorem empty_str : (⟨#[]⟩ : ByteArray) = ByteArray.empty := rfl

set_option maxHeartbeats 1000000 in
theorem hexa_short (s : ByteArray) (hs : s.size < 2) (w : World) : Calls Try.prog 47 #[.string s] w (Missed w) := by
  have hsz : (s.size : Int) < 2 := by omega
  clear hs
  go_enter Try.func47, Try.ntmps47
  go_wp2
  go_ret3
  exact missed_now _ _ _
set_option maxHeartbeats 1000000 in
theorem hexa_bad0 (s : ByteArray) (hs : 2 ≤ s.size) (e0 : hexV (byt s 0) = 16) (w : World) : Calls Try.prog 47 #[.string s] w (Missed w) := by
  have x0 : (s[0]'(by omega)).toNat = byt s 0 := byt_eq s 0 (by omega)
  have d0 := Lib.hid (fun w => digit_none (byt s 0) (by omega) (by have := byt_le s 0; omega) e0 w)
  have hsz : (2 : Int) ≤ (s.size : Int) := by omega
  clear e0
  go_enter Try.func47, Try.ntmps47
  go_wp2_with (go_at_call 50; with_reducible refine (d0.out _).mono ?_; rintro e w' ⟨rfl, rfl⟩)
  go_ret3
  exact missed_now _ _ _
set_option maxHeartbeats 1000000 in
theorem hexa_bad1 (s : ByteArray) (h : Nat) (hs : 2 ≤ s.size) (e0 : hexV (byt s 0) = h) (hh : h < 16) (e1 : hexV (byt s 1) = 16) (w : World) : Calls Try.prog 47 #[.string s] w (Missed w) := by
  have x0 : (s[0]'(by omega)).toNat = byt s 0 := byt_eq s 0 (by omega)
  have x1 : (s[1]'(by omega)).toNat = byt s 1 := byt_eq s 1 (by omega)
  have d0 := Lib.hid (fun w => digit_some (byt s 0) h (by omega) (by have := byt_le s 0; omega) e0 hh w)
  have d1 := Lib.hid (fun w => digit_none (byt s 1) (by omega) (by have := byt_le s 1; omega) e1 w)
  have hsz : (2 : Int) ≤ (s.size : Int) := by omega
  clear e0 e1
  go_enter Try.func47, Try.ntmps47
  go_wp2_with (first | (go_at_call 50; with_reducible refine (d0.out _).mono ?_; rintro e w' ⟨rfl, rfl⟩) | (go_at_call 50; with_reducible refine (d1.out _).mono ?_; rintro e w' ⟨rfl, rfl⟩))
  go_ret3
  exact missed_now _ _ _

/-- What follows a backslash: the letter, and how many bytes it takes. -/
def escS (s : ByteArray) : Option (Nat × Nat) :=
  if s.size = 0 then none else if byt s 0 = 110 then some (10, 1) else if byt s 0 = 116 then some (9, 1) else if byt s 0 = 114 then some (13, 1)
  else if byt s 0 = 120 then (if s.size < 3 ∨ hexV (byt s 1) = 16 ∨ hexV (byt s 2) = 16 then none else some (16 * hexV (byt s 1) + hexV (byt s 2), 3))
  else if punctB (byt s 0) then some (byt s 0, 1) else none
/-- An element: the letter, and how many bytes it takes. -/
def elS (s : ByteArray) : Option (Nat × Nat) :=
  if s.size = 0 then none else if byt s 0 = 92 then (escS (tail s 1)).map fun p => (p.1, p.2 + 1) else if byt s 0 = 93 ∨ byt s 0 = 45 then none else some (byt s 0, 1)

theorem hexa_any (s : ByteArray) (w : World) : Calls Try.prog 47 #[.string s] w
    (if s.size < 2 ∨ hexV (byt s 0) = 16 ∨ hexV (byt s 1) = 16 then Missed w else Got s (16 * hexV (byt s 0) + hexV (byt s 1)) 2 w) := by
  have b0 := hexV_le (byt s 0)
  have b1 := hexV_le (byt s 1)
  by_cases h : s.size < 2
  · rw [if_pos (by omega)]; exact hexa_short s h w
  · by_cases h0 : hexV (byt s 0) = 16
    · rw [if_pos (by omega)]; exact hexa_bad0 s (by omega) h0 w
    · by_cases h1 : hexV (byt s 1) = 16
      · rw [if_pos (by omega)]; exact hexa_bad1 s _ (by omega) rfl (by omega) h1 w
      · rw [if_neg (by omega)]; exact hexa_got s _ _ (by omega) rfl rfl (by omega) (by omega) w

/-- A call hands back an element, or none. -/
def ElEnd (s : ByteArray) (r : Option (Nat × Nat)) (w : World) : Ending → World → Prop := match r with
  | some (v, k) => Got s v k w
  | none => Missed w

theorem str_empty (s : ByteArray) (hs : s.size = 0) : s.toList.isEmpty = true := by
  rw [ByteArray.toList_eq, ByteArray.size_eq_zero_iff.1 hs]; rfl
theorem str_some (s : ByteArray) (hs : s.size ≠ 0) : s.toList.isEmpty = false := by
  rw [ByteArray.toList_eq, List.isEmpty_eq_false_iff]
  intro e
  exact hs (by have := congrArg List.length e; simpa using this)

set_option maxHeartbeats 1000000 in
theorem escape_empty (s : ByteArray) (hs : s.size = 0) (w : World) : Calls Try.prog 43 #[.string s] w (Missed w) := by
  have hl := str_empty s hs
  clear hs
  go_enter Try.func43, Try.ntmps43
  go_wp2
  go_ret3
  exact missed_now _ _ _

set_option maxHeartbeats 1000000 in
theorem escape_letter (s : ByteArray) (hs : s.size ≠ 0) (b : Int) (v : Nat) (hb : ((byt s 0 : Nat) : Int) = b) (h : (b = 110 ∧ v = 10) ∨ (b = 116 ∧ v = 9) ∨ (b = 114 ∧ v = 13)) (w : World) : Calls Try.prog 43 #[.string s] w (Got s v 1 w) := by
  have hl := str_some s hs
  have h0 : 0 < s.size := by omega
  have x0 : (((s[0]'h0).toNat : Nat) : Int) = b := by rw [byt_eq]; exact hb
  have hsz : (1 : Int) ≤ (s.size : Int) := by omega
  have hsz0 : (0 : Int) < (s.size : Int) := by omega
  obtain ⟨y, hy⟩ : ∃ y, y = tail s 1 := ⟨_, rfl⟩
  have hy' : s.extract 1 s.size = y := hy.symm
  unfold Got
  rw [← hy]
  clear hb hy hs
  rcases h with ⟨rfl, rfl⟩ | ⟨rfl, rfl⟩ | ⟨rfl, rfl⟩
  · go_enter Try.func43, Try.ntmps43
    go_wp2
    refine wp_region_later (by kernel_rfl) (by kernel_rfl) ?_
    repeat (first | go_big_quiet_skip | (go_big_quiet_want; go_big_quiet_op; first | go_big_quiet_on | go_big_quiet_call (fail)))
    refine wpQuiet_nil ?_
    rintro w4 ⟨u, rfl⟩
    go_wp2
    go_ret3
    exact ⟨rfl, below_later w u⟩
  · go_enter Try.func43, Try.ntmps43
    go_wp2
    refine wp_region_later (by kernel_rfl) (by kernel_rfl) ?_
    repeat (first | go_big_quiet_skip | (go_big_quiet_want; go_big_quiet_op; first | go_big_quiet_on | go_big_quiet_call (fail)))
    refine wpQuiet_nil ?_
    rintro w4 ⟨u, rfl⟩
    go_wp2
    go_ret3
    exact ⟨rfl, below_later w u⟩
  · go_enter Try.func43, Try.ntmps43
    go_wp2
    refine wp_region_later (by kernel_rfl) (by kernel_rfl) ?_
    repeat (first | go_big_quiet_skip | (go_big_quiet_want; go_big_quiet_op; first | go_big_quiet_on | go_big_quiet_call (fail)))
    refine wpQuiet_nil ?_
    rintro w4 ⟨u, rfl⟩
    go_wp2
    go_ret3
    exact ⟨rfl, below_later w u⟩

set_option maxHeartbeats 1000000 in
theorem escape_other (s : ByteArray) (hs : s.size ≠ 0) (b : Int) (hb : ((byt s 0 : Nat) : Int) = b) (h1 : b ≠ 110) (h2 : b ≠ 116) (h3 : b ≠ 114) (h4 : b ≠ 120) (p : Bool) (hp : punctB b = p) (w : World) :
    Calls Try.prog 43 #[.string s] w fun e w' => e = .returned (.tuple #[.int .u8 b, .string (tail s 1), .bool p]) ∧ Below w.heap.size w w' := by
  have hl := str_some s hs
  have h0 : 0 < s.size := by omega
  have x0 : (((s[0]'h0).toNat : Nat) : Int) = b := by rw [byt_eq]; exact hb
  have hsz : (1 : Int) ≤ (s.size : Int) := by omega
  have hsz0 : (0 : Int) < (s.size : Int) := by omega
  have hbl := byt_le s 0
  have hpu := Lib.hid (fun w => (punct_both b (by omega) (by omega) w).1)
  rw [hp] at hpu
  have hpl := Lib.hid (fun w => (hpu.out w).mono (fun e w' (h : e = .returned (.bool p) ∧ w = w') => (show e = .returned (.bool p) ∧ Below w.heap.size w w' from ⟨h.1, h.2 ▸ Below.refl _ _⟩)))
  obtain ⟨y, hy⟩ : ∃ y, y = tail s 1 := ⟨_, rfl⟩
  have hy' : s.extract 1 s.size = y := hy.symm
  rw [← hy]
  have c1 : (b == 110) = false := by simpa using h1
  have c2 : (b == 116) = false := by simpa using h2
  have c3 : (b == 114) = false := by simpa using h3
  have c4 : (b == 120) = false := by simpa using h4
  clear hb hy hs hp hpu hbl
  go_enter Try.func43, Try.ntmps43
  go_wp2
  refine wp_region_later (by kernel_rfl) (by kernel_rfl) ?_
  repeat (first | go_big_quiet_skip | (go_big_quiet_want; go_big_quiet_op; first | go_big_quiet_on | go_big_quiet_call (with_reducible exact calls_later (hpl.out _))))
  refine wpQuiet_nil ?_
  rintro w4 ⟨u, rfl⟩
  go_wp2
  go_ret3
  exact ⟨rfl, below_later w u⟩

set_option maxHeartbeats 1000000 in
theorem escape_hex (s : ByteArray) (hs : s.size ≠ 0) (hb : byt s 0 = 120) (r : Option (Nat × Nat)) (hx : ∀ w, Calls Try.prog 47 #[.string (tail s 1)] w (ElEnd (tail s 1) r w)) (w : World) :
    Calls Try.prog 43 #[.string s] w (ElEnd s (r.map fun p => (p.1, p.2 + 1)) w) := by
  have hl := str_some s hs
  have h0 : 0 < s.size := by omega
  have x0 : (s[0]'h0).toNat = 120 := by rw [byt_eq]; exact hb
  have hsz : (1 : Int) ≤ (s.size : Int) := by omega
  have hsz0 : (0 : Int) < (s.size : Int) := by omega
  obtain ⟨y, hy⟩ : ∃ y, y = tail s 1 := ⟨_, rfl⟩
  have hy' : s.extract 1 s.size = y := hy.symm
  have HY := Lib.hid hy
  rw [← hy] at hx
  have HX := Lib.hid hx
  clear hb hy hs hx
  cases r with
  | none =>
    go_enter Try.func43, Try.ntmps43
    go_wp2_with (go_at_call 47; refine (HX.out _).mono ?_; rintro e w' ⟨⟨x, z, rfl⟩, hb⟩)
    go_ret3
    exact ⟨⟨x, z, rfl⟩, hb⟩
  | some q =>
    obtain ⟨v, k⟩ := q
    go_enter Try.func43, Try.ntmps43
    go_wp2_with (go_at_call 47; refine (HX.out _).mono ?_; rintro e w' ⟨rfl, hb⟩)
    go_ret3
    exact ⟨by rw [HY.out, tail_tail, Nat.add_comm 1 k]; rfl, hb⟩

theorem escape_any (s : ByteArray) (w : World) : Calls Try.prog 43 #[.string s] w (ElEnd s (escS s) w) := by
  unfold escS
  by_cases hs : s.size = 0
  · rw [if_pos hs]; exact escape_empty s hs w
  rw [if_neg hs]
  by_cases h1 : byt s 0 = 110
  · rw [if_pos h1]; exact escape_letter s hs 110 10 (by rw [h1]; rfl) (by omega) w
  rw [if_neg h1]
  by_cases h2 : byt s 0 = 116
  · rw [if_pos h2]; exact escape_letter s hs 116 9 (by rw [h2]; rfl) (by omega) w
  rw [if_neg h2]
  by_cases h3 : byt s 0 = 114
  · rw [if_pos h3]; exact escape_letter s hs 114 13 (by rw [h3]; rfl) (by omega) w
  rw [if_neg h3]
  by_cases h4 : byt s 0 = 120
  · rw [if_pos h4]
    have hx := fun w => hexa_any (tail s 1) w
    rw [tail_size, byt_tail, byt_tail] at hx
    by_cases hc : s.size < 3 ∨ hexV (byt s 1) = 16 ∨ hexV (byt s 2) = 16
    · rw [if_pos hc]
      exact escape_hex s hs h4 none (fun w => by have := hx w; rw [if_pos (by simpa using (by omega : s.size - 1 < 2 ∨ hexV (byt s 1) = 16 ∨ hexV (byt s 2) = 16))] at this; exact this) w
    · rw [if_neg hc]
      exact escape_hex s hs h4 (some (16 * hexV (byt s 1) + hexV (byt s 2), 2)) (fun w => by have := hx w; rw [if_neg (by simpa using (by omega : ¬ (s.size - 1 < 2 ∨ hexV (byt s 1) = 16 ∨ hexV (byt s 2) = 16)))] at this; exact this) w
  rw [if_neg h4]
  by_cases hp : punctB (byt s 0) = true
  · rw [if_pos hp]
    exact escape_other s hs _ rfl (by omega) (by omega) (by omega) (by omega) true hp w
  · rw [if_neg hp]
    exact (escape_other s hs _ rfl (by omega) (by omega) (by omega) (by omega) false (by simpa using hp) w).mono fun e w' ⟨he, hb⟩ => ⟨⟨_, _, he⟩, hb⟩
end Go.Proofs.Ytcflbpcfmpkolaa
