/-
  Package monoid's statements: the comparison of two lists of integers.
-/
import Derived.Test.YtbiecpejpkgngaaMo0
namespace Go.Proofs.Ytbiecpejpkgngaa
open Go.RowKit
def sameZ (n n' : Nat) (z z' : Nat → Int) : Prop := n = n' ∧ ∀ k, k < n → z k = z' k
def SameEnd (n n' : Nat) (z z' : Nat → Int) (w : World) (e : Ending) (w' : World) : Prop := ∃ b : Bool, e = .returned (.bool b) ∧ (b = true ↔ sameZ n n' z z') ∧ Below w.heap.size w w'
set_option maxHeartbeats 800000 in
theorem same_any (A A' : Option Addr) (n n' c c' : Nat) (z z' : Nat → Int) (w : World) (hn : n ≤ 140737488355328) (hn' : n' ≤ 140737488355328)
    (hz : Rd w.heap.size w A n fun k => .int .i64 (z k)) (hz' : Rd w.heap.size w A' n' fun k => .int .i64 (z' k)) :
    Calls Try.prog 23 #[.slice A n c, .slice A' n' c'] w (SameEnd n n' z z' w) := by
  have HZ := Lib.hid hz
  have HZ' := Lib.hid hz'
  clear hz hz'
  by_cases hne : n = n'
  · have HN := Lib.hid hne
    have hnn : ((n : Int) == (n' : Int)) = true := by simp; omega
    have hnn2 : ((n : Int) != (n' : Int)) = false := by simp; omega
    have hle : n ≤ n' := by omega
    clear hne
    go_enter Try.func23, Try.ntmps23
    go_wp2
    go_loopw [13] (fun i wr => ∃ k : Nat, k ≤ n ∧ i = .int .i64 k ∧ Hid (∀ j, j < k → z j = z' j) ∧ Hid (Below w.heap.size w wr)) (fun i _ => n - (intOf i).toNat)
    case atStart => exact ⟨0, Nat.zero_le _, rfl, Lib.hid (fun j hj => absurd hj (by omega)), Lib.hid (Below.refl _ _)⟩
    case round =>
      obtain ⟨k, hk, rfl, HE, HB⟩ := hrel
      by_cases hlt : k < n
      · obtain ⟨b, o, rfl, hbB, hc⟩ := (HZ.out.later HB.out).some hlt
        obtain ⟨b', o', rfl, hbB', hc'⟩ := (HZ'.out.later HB.out).some (k := k) (by omega)
        have hlt' : k < n' := by omega
        have h1 : ∀ u, (later wr u).cell? ⟨b, o + k, none⟩ = some (.int .i64 (z k)) := fun u => ((below_later wr u).cell (p := ⟨b, o + k, none⟩) (Nat.lt_of_lt_of_le hbB HB.out.size)).trans (hc k hlt)
        have h2 : ∀ u, (later wr u).cell? ⟨b', o' + k, none⟩ = some (.int .i64 (z' k)) := fun u => ((below_later wr u).cell (p := ⟨b', o' + k, none⟩) (Nat.lt_of_lt_of_le hbB' HB.out.size)).trans (hc' k hlt')
        obtain ⟨x, hx⟩ : ∃ x, z k = x := ⟨_, rfl⟩
        obtain ⟨y, hy⟩ : ∃ y, z' k = y := ⟨_, rfl⟩
        rw [hx] at h1
        rw [hy] at h2
        have HX := Lib.hid hx
        have HY := Lib.hid hy
        clear hx hy hc hc'
        by_cases hxy : x = y
        · have he : (x != y) = false := by simp; exact hxy
          have HXY := Lib.hid hxy
          clear hxy
          go_wp2
          refine wp_region_later (by kernel_rfl) (by kernel_rfl) ?_
          repeat (first | go_big_quiet_skip | (go_big_quiet_want; (go_big_quiet_op; go_big_quiet_on)))
          refine wpQuiet_nil ?_
          rintro w2 ⟨u, rfl⟩
          go_wp2
          go_roundw
          case rel => exact ⟨k + 1, by omega, by go_num, Lib.hid (fun j hj => by
            by_cases e : j = k
            · rw [e, HX.out, HY.out, HXY.out]
            · exact HE.out j (by omega)), Lib.hid (HB.out.trans ((below_later wr u).mono HB.out.size))⟩
          case measure => simp [intOf]; try omega
        · have he : (x != y) = true := by simp; exact hxy
          have HXY := Lib.hid hxy
          clear hxy
          go_wp2
          refine wp_region_later (by kernel_rfl) (by kernel_rfl) ?_
          repeat (first | go_big_quiet_skip | (go_big_quiet_want; (go_big_quiet_op; go_big_quiet_on)))
          refine wpQuiet_nil ?_
          rintro w2 ⟨u, rfl⟩
          go_wp2
          go_ret
          exact ⟨false, rfl, ⟨fun h => Bool.noConfusion h, fun h => absurd ((HX.out.symm.trans (h.2 k hlt)).trans HY.out) HXY.out⟩, HB.out.trans ((below_later wr u).mono HB.out.size)⟩
      · obtain rfl : k = n := by omega
        go_wp2
        go_ret
        exact ⟨true, rfl, ⟨fun _ => ⟨HN.out, HE.out⟩, fun _ => rfl⟩, HB.out⟩
  · have hnn : ((n : Int) == (n' : Int)) = false := by simp; omega
    have hnn2 : ((n : Int) != (n' : Int)) = true := by simp; omega
    have HN := Lib.hid hne
    clear hne
    go_enter Try.func23, Try.ntmps23
    go_wp2
    go_ret
    exact ⟨false, rfl, ⟨fun h => Bool.noConfusion h, fun h => absurd h.1 HN.out⟩, Below.refl _ _⟩
end Go.Proofs.Ytbiecpejpkgngaa
