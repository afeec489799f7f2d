/-
  Package letterset: digit, punctuation, and the reference's hex, punctuation.
-/
import Derived.Test.YtcflbpcfmpkolaaLs0
namespace Go.Proofs.Ytcflbpcfmpkolaa
open Go.RowKit

/-- The value of a hexadecimal digit; 16 if it is none. -/
def hexV (b : Int) : Nat := if 48 ≤ b ∧ b ≤ 57 then (b - 48).toNat else if 97 ≤ b ∧ b ≤ 102 then (b - 87).toNat else if 65 ≤ b ∧ b ≤ 70 then (b - 55).toNat else 16
def punctB (b : Int) : Bool := decide (33 ≤ b ∧ b ≤ 47) || decide (58 ≤ b ∧ b ≤ 64) || decide (91 ≤ b ∧ b ≤ 96) || decide (123 ≤ b ∧ b ≤ 126)
theorem hexV_le (b : Int) : hexV b ≤ 16 := by unfold hexV; split; omega; split; omega; split <;> omega

theorem hex_cases (b : Int) : b < 48 ∨ (48 ≤ b ∧ b ≤ 57) ∨ (57 < b ∧ b < 65) ∨ (65 ≤ b ∧ b ≤ 70) ∨ (70 < b ∧ b < 97) ∨ (97 ≤ b ∧ b ≤ 102) ∨ 102 < b := by omega
theorem punct_cases (b : Int) : b < 33 ∨ (33 ≤ b ∧ b ≤ 47) ∨ (47 < b ∧ b < 58) ∨ (58 ≤ b ∧ b ≤ 64) ∨ (64 < b ∧ b < 91) ∨ (91 ≤ b ∧ b ≤ 96) ∨ (96 < b ∧ b < 123) ∨ (123 ≤ b ∧ b ≤ 126) ∨ 126 < b := by omega

theorem hexV_of {b : Int} {v : Nat} (h : (48 ≤ b ∧ b ≤ 57 ∧ (v : Int) = b - 48) ∨ (97 ≤ b ∧ b ≤ 102 ∧ (v : Int) = b - 87) ∨ (65 ≤ b ∧ b ≤ 70 ∧ (v : Int) = b - 55) ∨ ((b < 48 ∨ (57 < b ∧ b < 65) ∨ (70 < b ∧ b < 97) ∨ 102 < b) ∧ v = 16)) : hexV b = v := by
  unfold hexV; split; omega; split; omega; split <;> omega
def digN (v : Nat) : Nat := if v = 16 then 0 else v
theorem digN_ok {v : Nat} (h : v ≠ 16) : digN v = v := if_neg h
theorem digN_no : digN 16 = 0 := rfl
def hexR (v : Nat) : Int := if v = 16 then -1 else v

set_option maxHeartbeats 1000000 in
theorem digit_some (b : Int) (v : Nat) (h0 : 0 ≤ b) (h1 : b ≤ 255) (h : hexV b = v) (hv : v < 16) (w : World) :
    Calls Try.prog 50 #[.int .u8 b] w fun e w' => e = .returned (.tuple #[.int .u8 v, .bool true]) ∧ w = w' := by
  rcases hex_cases b with c | ⟨c, c'⟩ | ⟨c, c'⟩ | ⟨c, c'⟩ | ⟨c, c'⟩ | ⟨c, c'⟩ | c
  · have : hexV b = 16 := hexV_of (by omega)
    omega
  · have e : hexV b = (b - 48).toNat := hexV_of (by omega)
    have HV := Lib.hid (show (v : Int) = b - 48 by omega)
    clear h hv e
    go_enter Try.func50, Try.ntmps50
    go_wp2
    all_goals (go_ret2; exact ⟨by rw [HV.out]; rfl, rfl⟩)
  · have : hexV b = 16 := hexV_of (by omega)
    omega
  · have e : hexV b = (b - 55).toNat := hexV_of (by omega)
    have HV := Lib.hid (show (v : Int) = b - 55 by omega)
    clear h hv e
    go_enter Try.func50, Try.ntmps50
    go_wp2
    all_goals (go_ret2; refine ⟨?_, rfl⟩; rw [HV.out]; simp; omega)
  · have : hexV b = 16 := hexV_of (by omega)
    omega
  · have e : hexV b = (b - 87).toNat := hexV_of (by omega)
    have HV := Lib.hid (show (v : Int) = b - 87 by omega)
    clear h hv e
    go_enter Try.func50, Try.ntmps50
    go_wp2
    all_goals (go_ret2; refine ⟨?_, rfl⟩; rw [HV.out]; simp; omega)
  · have : hexV b = 16 := hexV_of (by omega)
    omega

set_option maxHeartbeats 1000000 in
theorem digit_none (b : Int) (h0 : 0 ≤ b) (h1 : b ≤ 255) (h : hexV b = 16) (w : World) :
    Calls Try.prog 50 #[.int .u8 b] w fun e w' => e = .returned (.tuple #[.int .u8 0, .bool false]) ∧ w = w' := by
  rcases hex_cases b with c | ⟨c, c'⟩ | ⟨c, c'⟩ | ⟨c, c'⟩ | ⟨c, c'⟩ | ⟨c, c'⟩ | c
  · clear h; go_enter Try.func50, Try.ntmps50; go_wp2; all_goals (go_ret2; exact ⟨rfl, rfl⟩)
  · have e : hexV b = (b - 48).toNat := hexV_of (by omega)
    omega
  · clear h; go_enter Try.func50, Try.ntmps50; go_wp2; all_goals (go_ret2; exact ⟨rfl, rfl⟩)
  · have e : hexV b = (b - 55).toNat := hexV_of (by omega)
    omega
  · clear h; go_enter Try.func50, Try.ntmps50; go_wp2; all_goals (go_ret2; exact ⟨rfl, rfl⟩)
  · have e : hexV b = (b - 87).toNat := hexV_of (by omega)
    omega
  · clear h; go_enter Try.func50, Try.ntmps50; go_wp2; all_goals (go_ret2; exact ⟨rfl, rfl⟩)

set_option maxHeartbeats 1000000 in
theorem hex_any (b : Int) (h0 : 0 ≤ b) (h1 : b ≤ 255) (w : World) :
    Calls Try.prog 39 #[.int .u8 b] w fun e w' => e = .returned (.int .i64 (hexR (hexV b))) ∧ w = w' := by
  obtain ⟨r, hr⟩ : ∃ r, r = hexR (hexV b) := ⟨_, rfl⟩
  rw [← hr]
  rcases hex_cases b with c | ⟨c, c'⟩ | ⟨c, c'⟩ | ⟨c, c'⟩ | ⟨c, c'⟩ | ⟨c, c'⟩ | c
  · have HV := Lib.hid (show r = -1 by rw [hr, hexV_of (v := 16) (by omega)]; rfl)
    clear hr; go_enter Try.func39, Try.ntmps39; go_wp2; all_goals (go_ret; exact ⟨by rw [HV.out]; rfl, rfl⟩)
  · have HV := Lib.hid (show r = b - 48 by rw [hr, hexV_of (v := (b - 48).toNat) (by omega)]; unfold hexR; rw [if_neg (by omega)]; omega)
    clear hr; go_enter Try.func39, Try.ntmps39; go_wp2; all_goals (go_ret; refine ⟨?_, rfl⟩; rw [HV.out]; simp)
  · have HV := Lib.hid (show r = -1 by rw [hr, hexV_of (v := 16) (by omega)]; rfl)
    clear hr; go_enter Try.func39, Try.ntmps39; go_wp2; all_goals (go_ret; exact ⟨by rw [HV.out]; rfl, rfl⟩)
  · have HV := Lib.hid (show r = b - 55 by rw [hr, hexV_of (v := (b - 55).toNat) (by omega)]; unfold hexR; rw [if_neg (by omega)]; omega)
    clear hr; go_enter Try.func39, Try.ntmps39; go_wp2; all_goals (go_ret; refine ⟨?_, rfl⟩; rw [HV.out]; simp; omega)
  · have HV := Lib.hid (show r = -1 by rw [hr, hexV_of (v := 16) (by omega)]; rfl)
    clear hr; go_enter Try.func39, Try.ntmps39; go_wp2; all_goals (go_ret; exact ⟨by rw [HV.out]; rfl, rfl⟩)
  · have HV := Lib.hid (show r = b - 87 by rw [hr, hexV_of (v := (b - 87).toNat) (by omega)]; unfold hexR; rw [if_neg (by omega)]; omega)
    clear hr; go_enter Try.func39, Try.ntmps39; go_wp2; all_goals (go_ret; refine ⟨?_, rfl⟩; rw [HV.out]; simp; omega)
  · have HV := Lib.hid (show r = -1 by rw [hr, hexV_of (v := 16) (by omega)]; rfl)
    clear hr; go_enter Try.func39, Try.ntmps39; go_wp2; all_goals (go_ret; exact ⟨by rw [HV.out]; rfl, rfl⟩)

set_option maxHeartbeats 1000000 in
theorem punct_both (b : Int) (h0 : 0 ≤ b) (h1 : b ≤ 255) (w : World) :
    Calls Try.prog 48 #[.int .u8 b] w (fun e w' => e = .returned (.bool (punctB b)) ∧ w = w') ∧
    Calls Try.prog 40 #[.int .u8 b] w (fun e w' => e = .returned (.bool (punctB b)) ∧ w = w') := by
  obtain ⟨r, hr⟩ : ∃ r, r = punctB b := ⟨_, rfl⟩
  rw [← hr]
  unfold punctB at hr
  rcases punct_cases b with c | ⟨c, c'⟩ | ⟨c, c'⟩ | ⟨c, c'⟩ | ⟨c, c'⟩ | ⟨c, c'⟩ | ⟨c, c'⟩ | ⟨c, c'⟩ | c
  all_goals
    first
      | (have e : r = true := by rw [hr]; simp; omega)
      | (have e : r = false := by rw [hr]; simp; omega)
    subst e
    clear hr
    constructor
    · go_enter Try.func48, Try.ntmps48
      go_wp2
      all_goals (go_ret; refine ⟨?_, rfl⟩; first | rfl | (simp; omega))
    · go_enter Try.func40, Try.ntmps40
      go_wp2
      all_goals (go_ret; refine ⟨?_, rfl⟩; first | rfl | (simp; omega))
end Go.Proofs.Ytcflbpcfmpkolaa
