/-
  MonoidShifts: the walk.
-/
import Derived.Test.YtbiecpejpkgngaaMoAwake
namespace Go.Proofs.Ytbiecpejpkgngaa
open Go.RowKit
/-- The statement is true, and nothing that was there has changed. -/
def FinT (w : World) (e : Ending) (w' : World) : Prop := e = .returned (.bool true) ∧ Below w.heap.size w w'
set_option maxHeartbeats 800000 in
theorem shifts_out (A : Option Addr) (n c nb : Nat) (w : World) (h : n = 0 ∨ 500 < n) (hn : n ≤ maxLen) : Calls Try.prog 10 #[.slice A n c, .int .u8 nb] w (FinT w) := by
  unfold maxLen at hn
  have HA := Lib.hid awake_true
  by_cases h0 : n = 0
  · subst h0
    go_enter Try.func10, Try.ntmps10
    go_wp2_with fail
    refine (HA.out _).mono ?_
    rintro e w1 ⟨rfl, hb1⟩
    have HB1 := Lib.hid hb1
    clear hb1
    go_wp2_with fail
    refine (HA.out _).mono ?_
    rintro e w2 ⟨rfl, hb2⟩
    have HB2 := Lib.hid hb2
    clear hb2
    go_wp2
    go_ret
    exact ⟨rfl, HB1.out.trans (HB2.out.mono HB1.out.size)⟩
  · have hn5 : 500 < n := by omega
    have t1 : ((n : Int) == 0) = false := by simp; omega
    have t2 : decide (500 < (n : Int)) = true := by simp; omega
    go_enter Try.func10, Try.ntmps10
    go_wp2_with fail
    refine (HA.out _).mono ?_
    rintro e w1 ⟨rfl, hb1⟩
    have HB1 := Lib.hid hb1
    clear hb1
    go_wp2_with fail
    refine (HA.out _).mono ?_
    rintro e w2 ⟨rfl, hb2⟩
    have HB2 := Lib.hid hb2
    clear hb2
    go_wp2
    go_ret
    exact ⟨rfl, HB1.out.trans (HB2.out.mono HB1.out.size)⟩
set_option maxRecDepth 20000 in
set_option maxHeartbeats 1600000 in
theorem shifts_one (b o : Nat) (c nb : Nat) (z : Nat → Int) (w : World) (hc : 1 ≤ c) (hnb : nb < 256) (hz : Rd w.heap.size w (some ⟨b, o, none⟩) 1 fun k => .int .i64 (z k)) :
    Calls Try.prog 10 #[.slice (some ⟨b, o, none⟩) 1 c, .int .u8 nb] w (FinT w) := by
  have HA := Lib.hid awake_true
  have HZ := Lib.hid hz
  clear hz
  go_enter Try.func10, Try.ntmps10
  go_wp2_with fail
  refine (HA.out _).mono ?_
  rintro e w1 ⟨rfl, hb1⟩
  have HB1 := Lib.hid hb1
  clear hb1
  have C1 : Hid (Calls Try.prog 37 #[.agg #[], .slice (some ⟨b, o, none⟩) 1 c, .int .i64 1] w1 (Made 3 1 (fun i => .int .i64 (gl mAdd z i 0)) w1)) :=
    Lib.hid (add_win (some ⟨b, o, none⟩) 1 c 1 0 z w1 (by omega) (by omega) (by omega) hc ((HZ.out.later HB1.out).mono HB1.out.size) (fun _ => Nat.le_refl _) (by omega))
  go_wp2_with fail
  refine C1.out.mono ?_
  rintro e w2 ⟨g2, r2, hg2, rfl, hb2, hr2, hs2, hc2⟩
  have HB2 := Lib.hid (HB1.out.trans (hb2.mono HB1.out.size))
  clear hb2 hr2 hc2 hs2 hg2
  go_wp2_with fail
  all_goals
    refine (add_win_none _ _ _ _ _ (.inr (by omega))).mono ?_
    rintro e w3 ⟨rfl, hb3⟩
    have HB3 := Lib.hid (HB2.out.trans (hb3.mono HB2.out.size))
    clear hb3
    go_wp2_with fail
  all_goals
    refine wp_loop_rounds 1 ?_; rw [rounds_succ]
    go_wp2_with fail
    refine (add_win_none _ _ _ _ _ (.inr (by omega))).mono ?_
    rintro e w4 ⟨rfl, hb4⟩
    have HB4 := Lib.hid (HB3.out.trans (hb4.mono HB3.out.size))
    clear hb4
    go_wp2
    go_ret
    exact ⟨rfl, HB4.out⟩
set_option maxRecDepth 20000 in
set_option maxHeartbeats 1600000 in
theorem shifts_two (b o : Nat) (n c nb : Nat) (z : Nat → Int) (w : World) (h1 : 2 ≤ n) (hn : n ≤ 500) (hc : n ≤ c) (hnb : nb < 256) (hz : Rd w.heap.size w (some ⟨b, o, none⟩) n fun k => .int .i64 (z k)) :
    Calls Try.prog 10 #[.slice (some ⟨b, o, none⟩) n c, .int .u8 nb] w (FinT w) := by
  have HA := Lib.hid awake_true
  obtain ⟨r, hr⟩ : ∃ r, r = nb % n := ⟨_, rfl⟩
  have hrl : r < n := by rw [hr]; exact Nat.mod_lt _ (by omega)
  have hri : (nb : Int) % (n : Int) = (r : Int) := by rw [hr]; rfl
  have hrt : (nb : Int).tmod (n : Int) = (r : Int) := by rw [hr]; rfl
  obtain ⟨k, hk⟩ : ∃ k, k = 1 + r := ⟨_, rfl⟩
  have hki : (1 : Int) + (r : Int) = (k : Int) := by omega
  have HZ := Lib.hid hz
  clear hr hz
  have hkl : k ≤ n := by omega
  have hk1 : 1 ≤ k := by omega
  clear hk
  have t1 : ((n : Int) == 0) = false := by simp; omega
  have t2 : decide (500 < (n : Int)) = false := by simp; omega
  obtain ⟨L, hL⟩ : ∃ L, L = n - k + 1 := ⟨_, rfl⟩
  have hLi : (n : Int) - (k : Int) + 1 = (L : Int) := by omega
  obtain ⟨M, hM⟩ : ∃ M, M = n - k := ⟨_, rfl⟩
  have hMi : (L : Int) - 1 = (M : Int) := by omega
  have HL := Lib.hid hL
  have HM := Lib.hid hM
  have hML : M < L := by omega
  have hLb : L ≤ 500 := by omega
  have HML := Lib.hid (show M + 1 = L by omega)
  clear hL hM
  have neL : ((L : Int) != (L : Int)) = false := by simp
  have neM : ((M : Int) != (M : Int)) = false := by simp
  go_enter Try.func10, Try.ntmps10
  go_wp2_with fail
  refine (HA.out _).mono ?_
  rintro e w1 ⟨rfl, hb1⟩
  have HB1 := Lib.hid hb1
  clear hb1
  have C1 := Lib.hid (add_win (some ⟨b, o, none⟩) n c k 0 z w1 hk1 hkl (by omega) hc ((HZ.out.later HB1.out).mono HB1.out.size) (fun _ => Nat.le_refl _) (by omega))
  rw [← HL.out] at C1
  go_wp2_with fail
  refine C1.out.mono ?_
  rintro e w2 ⟨g2, r2, hg2, rfl, hb2, hr2, hs2, hc2⟩
  have HB2 := Lib.hid (HB1.out.trans (hb2.mono HB1.out.size))
  have HR2 := Lib.hid hr2
  have HC2 := Lib.hid hc2
  clear hb2 hr2 hc2 hs2 hg2
  have hc1 : ¬ c = 1 := by omega
  have hmx : ¬ (M : Int) < 0 := by omega
  -- the rest
  have C2 : Hid (Calls Try.prog 37 #[.agg #[], .slice (some ⟨b, o + 1, none⟩) (n - 1) (c - 1), .int .i64 k] w2 (fun e w' => ∃ A3 c3, e = .returned (.slice A3 M c3) ∧ Below w2.heap.size w2 w' ∧ Rd w'.heap.size w' A3 M (fun i => .int .i64 (gl mAdd z (1 + i) (k - 1))))) := by
    refine Lib.hid ?_
    by_cases hkn : k ≤ n - 1
    · refine (add_win (some ⟨b, o + 1, none⟩) (n - 1) (c - 1) k 0 (fun i => z (1 + i)) w2 hk1 hkn (by omega) (by omega) ?_ (fun _ => Nat.le_refl _) (by omega)).mono ?_
      · have := ((HZ.out.later HB2.out).mono HB2.out.size).part' 1 (n - 1) (by omega)
        simpa [Addr.add] using this
      · rintro e w3 ⟨g, r, hg, he, hb, hr, hs, hc⟩
        have e1 : n - 1 - k + 1 = M := by have := HM.out; omega
        rw [e1] at he hc
        exact ⟨_, _, he, hb, (made_rd hr hr.lt hc).congr fun i hi => by rw [gl_shift]⟩
    · refine (add_win_none _ _ _ _ _ (.inr (by omega))).mono ?_
      rintro e w3 ⟨he, hb⟩
      obtain rfl : M = 0 := by have := HM.out; omega
      exact ⟨_, _, he, hb, .inl rfl⟩
  go_wp2_with fail
  refine C2.out.mono ?_
  rintro e w3 ⟨A3, c3, rfl, hb3, hrd3⟩
  have HB3 := Lib.hid (HB2.out.trans (hb3.mono HB2.out.size))
  have HR3 := Lib.hid (HR2.out.below' hb3)
  have HD3 := Lib.hid hrd3
  clear hb3 hrd3 C1 C2
  go_wp2_with fail
  go_loopw [59] (fun i wr => ∃ j : Nat, j ≤ M ∧ i = .int .i64 j ∧ Hid (Below w3.heap.size w3 wr)) (fun i _ => M - (intOf i).toNat)
  case atStart => exact ⟨0, Nat.zero_le _, rfl, Lib.hid (Below.refl _ _)⟩
  case round =>
    obtain ⟨j, hj, rfl, HB⟩ := hrel
    by_cases hlt : j < M
    · obtain ⟨b3, o3, rfl, hbB, hc3⟩ := ((HD3.out.later HB.out)).some hlt
      obtain ⟨x, hx⟩ : ∃ x, gl mAdd z (1 + j) (k - 1) = x := ⟨_, rfl⟩
      have q1 : ∀ u, (later wr u).cell? ⟨b3, o3 + j, none⟩ = some (.int .i64 x) := fun u => ((below_later wr u).cell (p := ⟨b3, o3 + j, none⟩) (Nat.lt_of_lt_of_le hbB HB.out.size)).trans (by rw [hc3 j hlt, hx])
      have q2 : ∀ u, (later wr u).cell? ⟨g2, j + 1, none⟩ = some (.int .i64 x) := fun u => (((HR3.out.below' HB.out).later u).cell (j + 1)).trans (by rw [HC2.out (j + 1) (by omega), Nat.add_comm, hx])
      have hw1 : IntKind.i64.wrap ((j : Int) + 1) = (j : Int) + 1 := by simp [IntKind.wrap, IntKind.bits, IntKind.signed]; omega
      have hjL : j + 1 < L := by omega
      have nex : (x != x) = false := by simp
      clear hx hc3
      go_wp2
      refine wp_region_later (by kernel_rfl) (by kernel_rfl) ?_
      repeat (first | go_big_quiet_skip | (go_big_quiet_want; (go_big_quiet_op; go_big_quiet_on)))
      refine wpQuiet_nil ?_
      rintro w4 ⟨u, rfl⟩
      clear q1 q2
      go_wp2
      go_roundw
      case rel => exact ⟨j + 1, by omega, by go_num, Lib.hid (HB.out.trans ((below_later wr u).mono HB.out.size))⟩
      case measure => simp [intOf]; try omega
    · have HBw := Lib.hid (HB3.out.trans (HB.out.mono HB3.out.size))
      have C3 : Hid (Calls Try.prog 37 #[.agg #[], .slice (some ⟨b, o, none⟩) n c, .int .i64 2] wr (Made 3 (n - 1) (fun i => .int .i64 (wrap64 (z i + z (i + 1)))) wr)) := Lib.hid (by
        have := add_win (some ⟨b, o, none⟩) n c 2 0 z wr (by omega) h1 (by omega) hc ((HZ.out.later HBw.out).mono HBw.out.size) (fun _ => Nat.le_refl _) (by omega)
        rw [show n - 2 + 1 = n - 1 by omega] at this
        exact this)
      have t3 : ¬ n < 2 := by omega
      have hjM : j = M := by omega
      have HJM := Lib.hid hjM
      clear hjM hj
      go_wp2_with fail
      refine C3.out.mono ?_
      rintro e w5 ⟨g5, r5, hg5, rfl, hb5, hr5, hs5, hc5⟩
      have HB5 := Lib.hid (HBw.out.trans (hb5.mono HBw.out.size))
      have C4 : Hid (Calls Try.prog 37 #[.agg #[], .slice (some ⟨g5, 0, none⟩) (n - 1) (n - 1), .int .i64 1] w5 (Made 3 (n - 1) (fun i => .int .i64 (wrap64 (z i + z (i + 1)))) w5)) := Lib.hid (by
        have := add_win (some ⟨g5, 0, none⟩) (n - 1) (n - 1) 1 0 (fun i => wrap64 (z i + z (i + 1))) w5 (by omega) (by omega) (by omega) (by omega) (made_rd hr5 hr5.lt hc5) (fun _ => Nat.le_refl _) (by omega)
        rw [show n - 1 - 1 + 1 = n - 1 by omega] at this
        exact this)
      clear hb5 hr5 hs5 hc5 hg5
      go_wp2_with fail
      refine C4.out.mono ?_
      rintro e w6 ⟨g6, r6, hg6, rfl, hb6, hr6, hs6, hc6⟩
      have HB6 := Lib.hid (HB5.out.trans (hb6.mono HB5.out.size))
      have HR6 := Lib.hid hr6
      have HC6 := Lib.hid hc6
      clear hb6 hr6 hs6 hc6 hg6 C3 C4
      go_wp2_with fail
      go_loopw [86] (fun i wr => ∃ j : Nat, j ≤ n - 1 ∧ i = .int .i64 j ∧ Hid (Below w6.heap.size w6 wr)) (fun i _ => n - 1 - (intOf i).toNat)
      case atStart => exact ⟨0, Nat.zero_le _, rfl, Lib.hid (Below.refl _ _)⟩
      case round =>
        obtain ⟨i, hi, rfl, HBi⟩ := hrel
        have HBv := Lib.hid (HB6.out.trans (HBi.out.mono HB6.out.size))
        by_cases hlt : i < n - 1
        · obtain ⟨b', o', he', hbB, hcell⟩ := HZ.out.some (k := 0) (by omega)
          obtain ⟨rfl, rfl⟩ : b = b' ∧ o = o' := by injection he' with h; injection h with h1 h2; exact ⟨h1, h2⟩
          obtain ⟨x, hx⟩ : ∃ x, z i = x := ⟨_, rfl⟩
          obtain ⟨y, hy⟩ : ∃ y, z (i + 1) = y := ⟨_, rfl⟩
          obtain ⟨v, hv⟩ : ∃ v, wrap64 (x + y) = v := ⟨_, rfl⟩
          have q0 : wr.cell? ⟨g6, i, none⟩ = some (.int .i64 v) := ((HR6.out.below' HBi.out).cell i).trans (by rw [HC6.out i hlt, hx, hy, hv])
          have q1 : ∀ u, (later wr u).cell? ⟨b, o + i, none⟩ = some (.int .i64 x) := fun u => ((HBv.out.trans ((below_later _ u).mono HBv.out.size)).cell (p := ⟨b, o + i, none⟩) hbB).trans (by rw [hcell i (by omega), hx])
          have q2 : ∀ u, (later wr u).cell? ⟨b, o + (i + 1), none⟩ = some (.int .i64 y) := fun u => ((HBv.out.trans ((below_later _ u).mono HBv.out.size)).cell (p := ⟨b, o + (i + 1), none⟩) hbB).trans (by rw [hcell (i + 1) (by omega), hy])
          have hw1 : IntKind.i64.wrap ((i : Int) + 1) = (i : Int) + 1 := by simp [IntKind.wrap, IntKind.bits, IntKind.signed]; omega
          have hwx : IntKind.i64.wrap (x + y) = v := by rw [IntKind.wrap_i64, ← hv]; unfold wrap64; rfl
          have hin : i < n := by omega
          have hin1 : i + 1 < n := by omega
          have nev : (v != v) = false := by simp
          clear hx hy hv hcell he'
          go_wp2
          refine wp_region_later (by kernel_rfl) (by kernel_rfl) ?_
          repeat (first | go_big_quiet_skip | (go_big_quiet_want; (go_big_quiet_op; go_big_quiet_on)))
          refine wpQuiet_nil ?_
          rintro w4 ⟨u, rfl⟩
          clear q0 q1 q2
          go_wp2
          go_roundw
          case rel => exact ⟨i + 1, by omega, by go_num, Lib.hid (HBi.out.trans ((below_later _ u).mono HBi.out.size))⟩
          case measure => simp [intOf]; try omega
        · go_wp2
          go_ret
          exact ⟨rfl, HBv.out⟩
theorem shifts_walk (A : Option Addr) (n c nb : Nat) (z : Nat → Int) (w : World) (hc : n ≤ c) (hm : n ≤ maxLen) (hnb : nb < 256) (hz : Rd w.heap.size w A n fun k => .int .i64 (z k)) :
    Calls Try.prog 10 #[.slice A n c, .int .u8 nb] w (FinT w) := by
  by_cases h : n = 0 ∨ 500 < n
  · exact shifts_out A n c nb w h hm
  · obtain ⟨b, o, rfl, _⟩ := hz.some (k := 0) (by omega)
    by_cases h1 : n = 1
    · subst h1; exact shifts_one b o c nb z w hc hnb hz
    · exact shifts_two b o n c nb z w (by omega) (by omega) hc hnb hz
end Go.Proofs.Ytbiecpejpkgngaa
