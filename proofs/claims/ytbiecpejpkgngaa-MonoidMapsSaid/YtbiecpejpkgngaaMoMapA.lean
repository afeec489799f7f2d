/-
  Package monoid: maps: validity, and the reference's application.
-/
import Derived.Test.YtbiecpejpkgngaaMoSame
namespace Go.Proofs.Ytbiecpejpkgngaa
open Go.RowKit
/-- m integers z are a map of 0 .. N - 1. -/
def isMap (N m : Nat) (z : Nat → Int) : Prop := m = N ∧ ∀ k, k < m → 0 ≤ z k ∧ z k < (N : Int)
instance (N m : Nat) (z : Nat → Int) : Decidable (isMap N m z) := by unfold isMap; infer_instance
/-- The map that m integers count as. -/
def asMap (N m : Nat) (z : Nat → Int) (k : Nat) : Int := if isMap N m z then z k else k
theorem asMap_in {N m : Nat} {z : Nat → Int} {k : Nat} (h : k < N) : 0 ≤ asMap N m z k ∧ asMap N m z k < (N : Int) := by
  unfold asMap
  by_cases hm : isMap N m z
  · rw [if_pos hm]; exact hm.2 k (by rw [hm.1]; exact h)
  · rw [if_neg hm]; omega
def ValidEnd (N m : Nat) (z : Nat → Int) (w : World) (e : Ending) (w' : World) : Prop := ∃ b : Bool, e = .returned (.bool b) ∧ (b = true ↔ isMap N m z) ∧ w' = w
set_option maxHeartbeats 800000 in
theorem refValid (A : Option Addr) (m c : Nat) (n : Int) (z : Nat → Int) (w : World) (hm : m ≤ 140737488355328) (hN : n.toNat ≤ 140737488355328)
    (hz : Rd w.heap.size w A m fun k => .int .i64 (z k)) :
    Calls Try.prog 24 #[.slice A m c, .int .i64 n] w (ValidEnd n.toNat m z w) := by
  have HZ := Lib.hid hz
  obtain ⟨N, hNd⟩ : ∃ N, n.toNat = N := ⟨_, rfl⟩
  rw [hNd] at hN ⊢
  have hmax : (if n < 0 then (0 : Int) else n) = (N : Int) := by split <;> omega
  have HD := Lib.hid hNd
  clear hz hNd
  by_cases hne : m = N
  · have HN := Lib.hid hne
    have hnn : ((m : Int) == (N : Int)) = true := by simp; omega
    have hnn2 : ((m : Int) != (N : Int)) = false := by simp; omega
    clear hne
    go_enter Try.func24, Try.ntmps24
    go_wp2
    go_loopw [13] (fun i wr => ∃ k : Nat, k ≤ m ∧ i = .int .i64 k ∧ Hid (∀ j, j < k → 0 ≤ z j ∧ z j < (N : Int)) ∧ wr = w) (fun i _ => m - (intOf i).toNat)
    case atStart => exact ⟨0, Nat.zero_le _, rfl, Lib.hid (fun j hj => absurd hj (by omega)), rfl⟩
    case round =>
      obtain ⟨k, hk, rfl, HE, hw⟩ := hrel
      subst wr
      by_cases hlt : k < m
      · obtain ⟨b, o, rfl, hbB, hc⟩ := HZ.out.some hlt
        have h1 : w.cell? ⟨b, o + k, none⟩ = some (.int .i64 (z k)) := hc k hlt
        obtain ⟨x, hx⟩ : ∃ x, z k = x := ⟨_, rfl⟩
        rw [hx] at h1
        have HX := Lib.hid hx
        clear hx hc
        by_cases hx0 : x < 0
        · go_wp2
          go_ret
          exact ⟨false, rfl, ⟨fun h => Bool.noConfusion h, fun h => by have := (h.2 k hlt).1; rw [HX.out] at this; have := HD.out; have := HN.out; omega⟩, rfl⟩
        · by_cases hxn : n ≤ x
          · go_wp2
            go_ret
            exact ⟨false, rfl, ⟨fun h => Bool.noConfusion h, fun h => by have := (h.2 k hlt).2; rw [HX.out] at this; have := HD.out; have := HN.out; omega⟩, rfl⟩
          · go_wp2
            go_roundw
            case rel => exact ⟨k + 1, by omega, by go_num, Lib.hid (fun j hj => by
              by_cases e : j = k
              · rw [e, HX.out]; have := HD.out; have := HN.out; omega
              · exact HE.out j (by omega)), trivial⟩
            case measure => simp [intOf]; try omega
      · obtain rfl : k = m := by omega
        go_wp2
        go_ret
        exact ⟨true, rfl, ⟨fun _ => ⟨HN.out, HE.out⟩, fun _ => rfl⟩, rfl⟩
  · have hnn : ((m : Int) == (N : Int)) = false := by simp; omega
    have hnn2 : ((m : Int) != (N : Int)) = true := by simp; omega
    have HN := Lib.hid hne
    clear hne
    go_enter Try.func24, Try.ntmps24
    go_wp2
    go_ret
    exact ⟨false, rfl, ⟨fun h => Bool.noConfusion h, fun h => absurd h.1 HN.out⟩, rfl⟩
set_option maxHeartbeats 800000 in
theorem refApply (A : Option Addr) (m c N k : Nat) (z : Nat → Int) (w : World) (hm : m ≤ 140737488355328) (hN : N ≤ 140737488355328) (hk : k < N)
    (hz : Rd w.heap.size w A m fun k => .int .i64 (z k)) :
    Calls Try.prog 41 #[.slice A m c, .int .i64 (N : Int), .int .i64 (k : Int)] w fun e w' => e = .returned (.int .i64 (asMap N m z k)) ∧ w' = w := by
  have HV := refValid A m c N z w hm (by omega) hz
  rw [Int.toNat_natCast] at HV
  by_cases hM : isMap N m z
  · obtain ⟨b, o, rfl, hbB, hc⟩ := hz.some (k := k) (by rw [hM.1]; exact hk)
    have hck := hc k (by rw [hM.1]; exact hk)
    have hkm : k < m := by rw [hM.1]; exact hk
    rw [show asMap N m z k = z k from if_pos hM]
    have HM := Lib.hid hM
    clear hM hc hz
    go_enter Try.func41, Try.ntmps41
    go_wp2_with fail
    refine HV.mono ?_
    rintro e w2 ⟨v, rfl, hv, rfl⟩
    obtain rfl : v = true := hv.2 HM.out
    clear hv
    go_wp2
    go_ret
    exact ⟨rfl, rfl⟩
  · rw [show asMap N m z k = (k : Int) from if_neg hM]
    have HM := Lib.hid hM
    clear hM hz
    go_enter Try.func41, Try.ntmps41
    go_wp2_with fail
    refine HV.mono ?_
    rintro e w2 ⟨v, rfl, hv, rfl⟩
    obtain rfl : v = false := by cases v with | false => rfl | true => exact absurd (hv.1 rfl) HM.out
    clear hv
    go_wp2
    go_ret
    exact ⟨rfl, rfl⟩
end Go.Proofs.Ytbiecpejpkgngaa
