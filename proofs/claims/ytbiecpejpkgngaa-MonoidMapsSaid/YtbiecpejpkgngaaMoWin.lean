/-
  Package monoid: Window.
-/
import Derived.Test.YtbiecpejpkgngaaMoBegs
import Derived.Deep.OwnRows
import Derived.OwnWalk
namespace Go.Proofs.Ytbiecpejpkgngaa
open Go.RowKit
/-- The result is a new row of L cells, f(0) .. f(L - 1). -/
def Made (t : TypeId) (L : Nat) (f : Nat → Value) (w : World) (e : Ending) (w' : World) : Prop :=
  ∃ g c, w.heap.size ≤ g ∧ e = .returned (.slice (some ⟨g, 0, none⟩) L L) ∧ Below w.heap.size w w' ∧ Row w' g t c ∧ c.size = L ∧ ∀ k, k < L → c[k]? = some (f k)
theorem win_step {α : Type} {M : Mo α} {V : α → Value} {z : Nat → α} {c c1 c2 c3 : Array Value} {s q P N L : Nat} (hq : s + N = q) (hN : 1 ≤ N) (hP : s < P) (hPq : P ≤ q) (hmin : min q L = P) (hsL : s ≤ L)
    (HU : Upd c c1 0 (min s L) fun k => V (gl M z k (N - 1))) (HU4 : Upd c1 c2 s (s + (P - s)) fun k => V (gl M (fun j => z (s + j)) (k - s) (q - s - 1 - (k - s))))
    (HU6 : Upd c2 c3 (s + 1) (s + 1 + (P - (s + 1))) fun k => V (M.j (gl M (fun j => z (s + j)) (k - s) (q - s - 1 - (k - s))) (gl M (fun j => z (q + j)) 0 (k - (s + 1))))) :
    Upd c c3 0 (min q L) fun k => V (gl M z k (N - 1)) := by
  refine ⟨by rw [HU6.1, HU4.1, HU.1], fun k _ hk => ?_, fun k hk => ?_⟩
  · by_cases h1 : k < s
    · rw [HU6.2.2 k (by omega), HU4.2.2 k (by omega), HU.2.1 k (by omega) (by omega)]
    · by_cases h2 : k = s
      · subst h2
        rw [HU6.2.2 k (by omega), HU4.2.1 k (by omega) (by omega)]
        dsimp only
        rw [gl_shift]
        congr 3 <;> omega
      · rw [HU6.2.1 k (by omega) (by omega)]
        dsimp only
        congr 2
        rw [gl_shift, gl_shift, show s + (k - s) = k by omega, show q + 0 = k + (q - s - 1 - (k - s)) + 1 by omega, gl_join]
        congr 1; omega
  · rw [HU6.2.2 k (by omega), HU4.2.2 k (by omega), HU.2.2 k (by omega)]
theorem max_info : (Try.prog.info? 3).map (fun i => (i.zero, i.size, i.bytes)) = some (some (.int .i64 0), 1, 8) := by kernel_rfl
set_option maxHeartbeats 800000 in
theorem max_win_none (A : Option Addr) (nl cl : Nat) (n : Int) (w : World) (hn : n < 1 ∨ (nl : Int) < n) :
    Calls Try.prog 39 #[.agg #[], .slice A nl cl, .int .i64 n] w fun e w' => e = .returned (.slice none 0 0) ∧ Below w.heap.size w w' := by
  by_cases h1 : n < 1
  all_goals
    go_enter Try.func39, Try.ntmps39
    go_wp2
    go_ret
    exact ⟨rfl, (Below.refl _ _).alloc (Nat.le_refl _) _⟩
set_option maxHeartbeats 1600000 in
theorem max_win (A : Option Addr) (nl cl N m : Nat) (z : Nat → Int) (w : World) (h1 : 1 ≤ N) (hN : N ≤ nl) (hnl : nl ≤ 100000) (hcl : nl ≤ cl)
    (hz : Rd w.heap.size w A nl fun k => .int .i64 (z k)) (hs : ∀ k, (mMax).sz (z k) ≤ m) (hm : m * (nl + 1) ≤ 4611686018427387903) :
    Calls Try.prog 39 #[.agg #[], .slice A nl cl, .int .i64 N] w (Made 3 (nl - N + 1) (fun k => .int .i64 (gl mMax z k (N - 1))) w) := by
  obtain ⟨i0, hi, hz0, hz1, hz2⟩ := info_parts max_info
  obtain ⟨L, hL⟩ : ∃ L, L = nl - N + 1 := ⟨_, rfl⟩
  rw [← hL]
  have hLN : L + N = nl + 1 := by omega
  have HLN := Lib.hid hLN
  have hLi : (nl : Int) - (N : Int) + 1 = (L : Int) := by omega
  have hLb : L ≤ 100000 := by omega
  have hLp : 1 ≤ L := by omega
  have HZ := Lib.hid hz
  have HS := Lib.hid hs
  have HM := Lib.hid hm
  have HX0 := Lib.hid (Row.new w 28 #[])
  have HB0 := Lib.hid (show Below w.heap.size w (w.alloc (.cells #[] 28)) from (Below.refl _ _).alloc (Nat.le_refl _) _)
  clear hz hs hm hL hLN
  go_enter Try.func39, Try.ntmps39
  go_wp2_with (at_make; refine wpList_make_row _ rfl _ _ 22 rfl 3 i0 (.int .i64 0) Try.underlying22 hi hz0 hz1 rfl .i64 .i64 L rfl rfl (by rw [hz2]; omega) (by omega) ?_)
  obtain ⟨w1, hw1⟩ : ∃ w1, w1 = w.alloc (.cells #[] 28) := ⟨_, rfl⟩
  obtain ⟨w2, hw2⟩ : ∃ w2, w2 = w1.alloc (.cells (madeCells #[.int .i64 0] L) 3) := ⟨_, rfl⟩
  have hg1 : w1.heap.size = w.heap.size + 1 := by rw [hw1]; simp
  have hr2 : Row w2 (w.heap.size + 1) 3 (madeCells #[.int .i64 0] L) := by rw [hw2, ← hg1]; exact Row.new _ _ _
  have hx2 : Row w2 w.heap.size 28 #[] := by rw [hw2, hw1]; exact (Row.new _ _ _).alloc _
  have hb2 : Below w.heap.size w w2 := by rw [hw2]; exact (by rw [hw1]; exact HB0.out : Below w.heap.size w w1).alloc (by omega) _
  rw [← hw1, ← hw2]
  have HR2 := Lib.hid hr2
  have HX2 := Lib.hid hx2
  have HB2 := Lib.hid hb2
  clear hw1 hw2 hg1 hr2 hx2 hb2 HX0 HB0 hi hz0 hz1 hz2
  clear w1
  go_loopw [8] (fun i wr => ∃ s : Nat, s ≤ L + N ∧ i = .int .i64 s ∧ Hid (w2.grownBy wr (some (w.heap.size + 1))) ∧ ∃ c1, Hid (Row wr (w.heap.size + 1) 3 c1) ∧ Hid (Upd (madeCells #[.int .i64 0] L) c1 0 (min s L) (fun k => .int .i64 (gl mMax z k (N - 1))))) (fun i _ => L - (intOf i).toNat)
  case atStart => exact ⟨0, Nat.zero_le _, rfl, Lib.hid (World.grownBy.refl _ _), _, HR2, Lib.hid (Upd.none _ _ _ (by omega) _)⟩
  case round =>
    obtain ⟨s, hs, rfl, HG, c1, HR1, HU⟩ := hrel
    by_cases hlt : s < L
    · have HX1 := Lib.hid (HX2.out.grown HG.out (by intro e; injection e with e; omega))
      have HBw := Lib.hid (HB2.out.grown HG.out HB2.out.size (fun k h => by cases h; omega))
      obtain ⟨q, hq⟩ : ∃ q, s + N = q := ⟨_, rfl⟩
      have hqi : (s : Int) + (N : Int) = (q : Int) := by omega
      have hqn : q ≤ nl := by have := HLN.out; omega
      have hsq : s < q := by omega
      have hwq : IntKind.i64.wrap (q : Int) = (q : Int) := by simp [IntKind.wrap, IntKind.bits, IntKind.signed]; omega
      have hws : IntKind.i64.wrap ((s : Int) + 1) = (s : Int) + 1 := by simp [IntKind.wrap, IntKind.bits, IntKind.signed]; omega
      have hqc : q ≤ cl := by omega
      have HQ := Lib.hid hq
      clear hq
      by_cases hqL : q ≤ L
      · have hqL' : ¬ (L < q) := by omega
        go_wp2
        refine wp_region_tail 11 (by kernel_rfl) (by kernel_rfl) ?_
        simp only [List.take_succ_cons, List.take_zero, List.drop_succ_cons, List.drop_zero]
        repeat (first | go_big_quiet_skip | (go_big_quiet_want; first | (with_reducible refine quiet_loadR aggMax HX1.out _ rfl ?_ ?_; go_simp; go_simp; go_big_quiet_on) | (go_big_quiet_op; go_big_quiet_on)))
        refine wpQuiet_nil ?_
        rintro w3 ⟨u3, rfl⟩
        have HB3 := Lib.hid (HBw.out.trans ((below_later wr u3).mono HBw.out.size))
        have HEnds := Lib.hid (fun cb cr => max_ends w.heap.size (w.heap.size + 1) s 3 c1 (A.map (fun x => x.add s)) (q - s) cb (q - s) cr m (fun k => z (s + k)) (later wr u3) (by omega)
          ((HZ.out.later HB3.out).part' s (q - s) (by omega)) (HR1.out.later u3) (by omega) (by omega) (by omega) (by have h1 := HU.out.1; rw [size_madeCells] at h1; omega) (fun k => HS.out _) (Nat.le_trans (Nat.mul_le_mul_left _ (by omega)) HM.out))
        have HX3 := Lib.hid (HX1.out.later u3)
        have HG3 := Lib.hid (grown_below HG.out (below_later wr u3))
        clear HX1
        go_wp2_with (go_at_call 48; (with_reducible refine (HEnds.out _ _).mono ?_); rintro e w4 ⟨rfl, hg4, c2, hr4, hu4⟩; have HG4 := Lib.hid hg4; have HR4 := Lib.hid hr4; have HU4 := Lib.hid hu4; clear hg4 hr4 hu4)
        have HX4 := Lib.hid (HX3.out.grown HG4.out (by intro e; injection e with e; omega))
        refine wp_region_tail 11 (by kernel_rfl) (by kernel_rfl) ?_
        simp only [List.take_succ_cons, List.take_zero, List.drop_succ_cons, List.drop_zero]
        repeat (first | go_big_quiet_skip | (go_big_quiet_want; first | (with_reducible refine quiet_loadR aggMax HX4.out _ rfl ?_ ?_; go_simp; go_simp; go_big_quiet_on) | (go_big_quiet_op; go_big_quiet_on)))
        refine wpQuiet_nil ?_
        rintro w5 ⟨u5, rfl⟩
        have HB5 := Lib.hid ((HB3.out.grown HG4.out (by have := HB3.out.size; omega) (fun k h => by cases h; omega)))
        have HB6 := Lib.hid (HB5.out.trans ((below_later w4 u5).mono HB5.out.size))
        have HBegs := Lib.hid (fun cl' cr => max_begs w.heap.size (w.heap.size + 1) (s + 1) 3 c2 (if cl = q then A else A.map (fun x => x.add q)) (if L = s + 1 then some ⟨w.heap.size + 1, 0, none⟩ else some ⟨w.heap.size + 1, s + 1, none⟩)
          (nl - q) cl' (q - (s + 1)) cr m (fun k => z (q + k)) (fun k => gl mMax (fun j => z (s + j)) (k - s) (q - s - 1 - (k - s))) (later w4 u5) (by omega) HB6.out.size
          ((HZ.out.later HB6.out).part hcl q (nl - q) (by omega)) (HR4.out.later u5) (by omega) (by have := HLN.out; have := HQ.out; omega) (by
            by_cases h : L = s + 1
            · exact .inl (by omega)
            · exact .inr (if_neg h)) (by have h1 := HU.out.1; have h2 := HU4.out.1; rw [size_madeCells] at h1; omega)
          (fun k h1 h2 => HU4.out.2.1 k (by omega) (by omega)) (fun k => HS.out _) (Nat.le_trans (Nat.mul_le_mul_left _ (by omega)) HM.out)
          (fun k d hd => by rw [gl_shift, gl_shift]; exact gl_room HS.out HM.out (by omega) (by omega) _ _))
        have HX5 := Lib.hid (HX4.out.later u5)
        have HG5 := Lib.hid (grown_below HG4.out (below_later w4 u5))
        clear HEnds HX4
        go_wp2_with (go_at_call 49; (with_reducible refine (HBegs.out _ _).mono ?_); rintro e w6 ⟨rfl, hg6, c3, hr6, hu6⟩; have HG6 := Lib.hid hg6; have HR6 := Lib.hid hr6; have HU6 := Lib.hid hu6; clear hg6 hr6 hu6)
        go_roundw
        case rel => exact ⟨q, by have := HQ.out; omega, rfl, Lib.hid ((HG3.out.trans HG5.out).trans HG6.out), c3, HR6, Lib.hid (win_step (V := fun x => .int .i64 (x)) HQ.out (by omega) (by omega) (by omega) (by omega) (by omega) HU.out HU4.out HU6.out)⟩
        case measure => simp [intOf]; try omega
      · have hqL' : L < q := by omega
        go_wp2
        refine wp_region_tail 11 (by kernel_rfl) (by kernel_rfl) ?_
        simp only [List.take_succ_cons, List.take_zero, List.drop_succ_cons, List.drop_zero]
        repeat (first | go_big_quiet_skip | (go_big_quiet_want; first | (with_reducible refine quiet_loadR aggMax HX1.out _ rfl ?_ ?_; go_simp; go_simp; go_big_quiet_on) | (go_big_quiet_op; go_big_quiet_on)))
        refine wpQuiet_nil ?_
        rintro w3 ⟨u3, rfl⟩
        have HB3 := Lib.hid (HBw.out.trans ((below_later wr u3).mono HBw.out.size))
        have HEnds := Lib.hid (fun cb cr => max_ends w.heap.size (w.heap.size + 1) s 3 c1 (A.map (fun x => x.add s)) (q - s) cb (L - s) cr m (fun k => z (s + k)) (later wr u3) (by omega)
          ((HZ.out.later HB3.out).part' s (q - s) (by omega)) (HR1.out.later u3) (by omega) (by omega) (by omega) (by have h1 := HU.out.1; rw [size_madeCells] at h1; omega) (fun k => HS.out _) (Nat.le_trans (Nat.mul_le_mul_left _ (by omega)) HM.out))
        have HX3 := Lib.hid (HX1.out.later u3)
        have HG3 := Lib.hid (grown_below HG.out (below_later wr u3))
        clear HX1
        go_wp2_with (go_at_call 48; (with_reducible refine (HEnds.out _ _).mono ?_); rintro e w4 ⟨rfl, hg4, c2, hr4, hu4⟩; have HG4 := Lib.hid hg4; have HR4 := Lib.hid hr4; have HU4 := Lib.hid hu4; clear hg4 hr4 hu4)
        have HX4 := Lib.hid (HX3.out.grown HG4.out (by intro e; injection e with e; omega))
        refine wp_region_tail 11 (by kernel_rfl) (by kernel_rfl) ?_
        simp only [List.take_succ_cons, List.take_zero, List.drop_succ_cons, List.drop_zero]
        repeat (first | go_big_quiet_skip | (go_big_quiet_want; first | (with_reducible refine quiet_loadR aggMax HX4.out _ rfl ?_ ?_; go_simp; go_simp; go_big_quiet_on) | (go_big_quiet_op; go_big_quiet_on)))
        refine wpQuiet_nil ?_
        rintro w5 ⟨u5, rfl⟩
        have HB5 := Lib.hid ((HB3.out.grown HG4.out (by have := HB3.out.size; omega) (fun k h => by cases h; omega)))
        have HB6 := Lib.hid (HB5.out.trans ((below_later w4 u5).mono HB5.out.size))
        have HBegs := Lib.hid (fun cl' cr => max_begs w.heap.size (w.heap.size + 1) (s + 1) 3 c2 (if cl = q then A else A.map (fun x => x.add q)) (if L = s + 1 then some ⟨w.heap.size + 1, 0, none⟩ else some ⟨w.heap.size + 1, s + 1, none⟩)
          (nl - q) cl' (L - (s + 1)) cr m (fun k => z (q + k)) (fun k => gl mMax (fun j => z (s + j)) (k - s) (q - s - 1 - (k - s))) (later w4 u5) (by omega) HB6.out.size
          ((HZ.out.later HB6.out).part hcl q (nl - q) (by omega)) (HR4.out.later u5) (by omega) (by have := HLN.out; have := HQ.out; omega) (by
            by_cases h : L = s + 1
            · exact .inl (by omega)
            · exact .inr (if_neg h)) (by have h1 := HU.out.1; have h2 := HU4.out.1; rw [size_madeCells] at h1; omega)
          (fun k h1 h2 => HU4.out.2.1 k (by omega) (by omega)) (fun k => HS.out _) (Nat.le_trans (Nat.mul_le_mul_left _ (by omega)) HM.out)
          (fun k d hd => by rw [gl_shift, gl_shift]; exact gl_room HS.out HM.out (by omega) (by omega) _ _))
        have HX5 := Lib.hid (HX4.out.later u5)
        have HG5 := Lib.hid (grown_below HG4.out (below_later w4 u5))
        clear HEnds HX4
        go_wp2_with (go_at_call 49; (with_reducible refine (HBegs.out _ _).mono ?_); rintro e w6 ⟨rfl, hg6, c3, hr6, hu6⟩; have HG6 := Lib.hid hg6; have HR6 := Lib.hid hr6; have HU6 := Lib.hid hu6; clear hg6 hr6 hu6)
        go_roundw
        case rel => exact ⟨q, by have := HQ.out; omega, rfl, Lib.hid ((HG3.out.trans HG5.out).trans HG6.out), c3, HR6, Lib.hid (win_step (V := fun x => .int .i64 (x)) HQ.out (by omega) (by omega) (by omega) (by omega) (by omega) HU.out HU4.out HU6.out)⟩
        case measure => simp [intOf]; try omega
    · go_wp2
      go_ret
      exact ⟨_, c1, by omega, rfl, HB2.out.grown HG.out HB2.out.size (fun k h => by cases h; omega), HR1.out, by rw [HU.out.1, size_madeCells], fun k hk => HU.out.2.1 k (by omega) (by omega)⟩
theorem add_info : (Try.prog.info? 3).map (fun i => (i.zero, i.size, i.bytes)) = some (some (.int .i64 0), 1, 8) := by kernel_rfl
set_option maxHeartbeats 800000 in
theorem add_win_none (A : Option Addr) (nl cl : Nat) (n : Int) (w : World) (hn : n < 1 ∨ (nl : Int) < n) :
    Calls Try.prog 37 #[.agg #[], .slice A nl cl, .int .i64 n] w fun e w' => e = .returned (.slice none 0 0) ∧ Below w.heap.size w w' := by
  by_cases h1 : n < 1
  all_goals
    go_enter Try.func37, Try.ntmps37
    go_wp2
    go_ret
    exact ⟨rfl, (Below.refl _ _).alloc (Nat.le_refl _) _⟩
set_option maxHeartbeats 1600000 in
theorem add_win (A : Option Addr) (nl cl N m : Nat) (z : Nat → Int) (w : World) (h1 : 1 ≤ N) (hN : N ≤ nl) (hnl : nl ≤ 100000) (hcl : nl ≤ cl)
    (hz : Rd w.heap.size w A nl fun k => .int .i64 (z k)) (hs : ∀ k, (mAdd).sz (z k) ≤ m) (hm : m * (nl + 1) ≤ 4611686018427387903) :
    Calls Try.prog 37 #[.agg #[], .slice A nl cl, .int .i64 N] w (Made 3 (nl - N + 1) (fun k => .int .i64 (gl mAdd z k (N - 1))) w) := by
  obtain ⟨i0, hi, hz0, hz1, hz2⟩ := info_parts add_info
  obtain ⟨L, hL⟩ : ∃ L, L = nl - N + 1 := ⟨_, rfl⟩
  rw [← hL]
  have hLN : L + N = nl + 1 := by omega
  have HLN := Lib.hid hLN
  have hLi : (nl : Int) - (N : Int) + 1 = (L : Int) := by omega
  have hLb : L ≤ 100000 := by omega
  have hLp : 1 ≤ L := by omega
  have HZ := Lib.hid hz
  have HS := Lib.hid hs
  have HM := Lib.hid hm
  have HX0 := Lib.hid (Row.new w 26 #[])
  have HB0 := Lib.hid (show Below w.heap.size w (w.alloc (.cells #[] 26)) from (Below.refl _ _).alloc (Nat.le_refl _) _)
  clear hz hs hm hL hLN
  go_enter Try.func37, Try.ntmps37
  go_wp2_with (at_make; refine wpList_make_row _ rfl _ _ 22 rfl 3 i0 (.int .i64 0) Try.underlying22 hi hz0 hz1 rfl .i64 .i64 L rfl rfl (by rw [hz2]; omega) (by omega) ?_)
  obtain ⟨w1, hw1⟩ : ∃ w1, w1 = w.alloc (.cells #[] 26) := ⟨_, rfl⟩
  obtain ⟨w2, hw2⟩ : ∃ w2, w2 = w1.alloc (.cells (madeCells #[.int .i64 0] L) 3) := ⟨_, rfl⟩
  have hg1 : w1.heap.size = w.heap.size + 1 := by rw [hw1]; simp
  have hr2 : Row w2 (w.heap.size + 1) 3 (madeCells #[.int .i64 0] L) := by rw [hw2, ← hg1]; exact Row.new _ _ _
  have hx2 : Row w2 w.heap.size 26 #[] := by rw [hw2, hw1]; exact (Row.new _ _ _).alloc _
  have hb2 : Below w.heap.size w w2 := by rw [hw2]; exact (by rw [hw1]; exact HB0.out : Below w.heap.size w w1).alloc (by omega) _
  rw [← hw1, ← hw2]
  have HR2 := Lib.hid hr2
  have HX2 := Lib.hid hx2
  have HB2 := Lib.hid hb2
  clear hw1 hw2 hg1 hr2 hx2 hb2 HX0 HB0 hi hz0 hz1 hz2
  clear w1
  go_loopw [8] (fun i wr => ∃ s : Nat, s ≤ L + N ∧ i = .int .i64 s ∧ Hid (w2.grownBy wr (some (w.heap.size + 1))) ∧ ∃ c1, Hid (Row wr (w.heap.size + 1) 3 c1) ∧ Hid (Upd (madeCells #[.int .i64 0] L) c1 0 (min s L) (fun k => .int .i64 (gl mAdd z k (N - 1))))) (fun i _ => L - (intOf i).toNat)
  case atStart => exact ⟨0, Nat.zero_le _, rfl, Lib.hid (World.grownBy.refl _ _), _, HR2, Lib.hid (Upd.none _ _ _ (by omega) _)⟩
  case round =>
    obtain ⟨s, hs, rfl, HG, c1, HR1, HU⟩ := hrel
    by_cases hlt : s < L
    · have HX1 := Lib.hid (HX2.out.grown HG.out (by intro e; injection e with e; omega))
      have HBw := Lib.hid (HB2.out.grown HG.out HB2.out.size (fun k h => by cases h; omega))
      obtain ⟨q, hq⟩ : ∃ q, s + N = q := ⟨_, rfl⟩
      have hqi : (s : Int) + (N : Int) = (q : Int) := by omega
      have hqn : q ≤ nl := by have := HLN.out; omega
      have hsq : s < q := by omega
      have hwq : IntKind.i64.wrap (q : Int) = (q : Int) := by simp [IntKind.wrap, IntKind.bits, IntKind.signed]; omega
      have hws : IntKind.i64.wrap ((s : Int) + 1) = (s : Int) + 1 := by simp [IntKind.wrap, IntKind.bits, IntKind.signed]; omega
      have hqc : q ≤ cl := by omega
      have HQ := Lib.hid hq
      clear hq
      by_cases hqL : q ≤ L
      · have hqL' : ¬ (L < q) := by omega
        go_wp2
        refine wp_region_tail 11 (by kernel_rfl) (by kernel_rfl) ?_
        simp only [List.take_succ_cons, List.take_zero, List.drop_succ_cons, List.drop_zero]
        repeat (first | go_big_quiet_skip | (go_big_quiet_want; first | (with_reducible refine quiet_loadR aggAdd HX1.out _ rfl ?_ ?_; go_simp; go_simp; go_big_quiet_on) | (go_big_quiet_op; go_big_quiet_on)))
        refine wpQuiet_nil ?_
        rintro w3 ⟨u3, rfl⟩
        have HB3 := Lib.hid (HBw.out.trans ((below_later wr u3).mono HBw.out.size))
        have HEnds := Lib.hid (fun cb cr => add_ends w.heap.size (w.heap.size + 1) s 3 c1 (A.map (fun x => x.add s)) (q - s) cb (q - s) cr m (fun k => z (s + k)) (later wr u3) (by omega)
          ((HZ.out.later HB3.out).part' s (q - s) (by omega)) (HR1.out.later u3) (by omega) (by omega) (by omega) (by have h1 := HU.out.1; rw [size_madeCells] at h1; omega) (fun k => HS.out _) (Nat.le_trans (Nat.mul_le_mul_left _ (by omega)) HM.out))
        have HX3 := Lib.hid (HX1.out.later u3)
        have HG3 := Lib.hid (grown_below HG.out (below_later wr u3))
        clear HX1
        go_wp2_with (go_at_call 46; (with_reducible refine (HEnds.out _ _).mono ?_); rintro e w4 ⟨rfl, hg4, c2, hr4, hu4⟩; have HG4 := Lib.hid hg4; have HR4 := Lib.hid hr4; have HU4 := Lib.hid hu4; clear hg4 hr4 hu4)
        have HX4 := Lib.hid (HX3.out.grown HG4.out (by intro e; injection e with e; omega))
        refine wp_region_tail 11 (by kernel_rfl) (by kernel_rfl) ?_
        simp only [List.take_succ_cons, List.take_zero, List.drop_succ_cons, List.drop_zero]
        repeat (first | go_big_quiet_skip | (go_big_quiet_want; first | (with_reducible refine quiet_loadR aggAdd HX4.out _ rfl ?_ ?_; go_simp; go_simp; go_big_quiet_on) | (go_big_quiet_op; go_big_quiet_on)))
        refine wpQuiet_nil ?_
        rintro w5 ⟨u5, rfl⟩
        have HB5 := Lib.hid ((HB3.out.grown HG4.out (by have := HB3.out.size; omega) (fun k h => by cases h; omega)))
        have HB6 := Lib.hid (HB5.out.trans ((below_later w4 u5).mono HB5.out.size))
        have HBegs := Lib.hid (fun cl' cr => add_begs w.heap.size (w.heap.size + 1) (s + 1) 3 c2 (if cl = q then A else A.map (fun x => x.add q)) (if L = s + 1 then some ⟨w.heap.size + 1, 0, none⟩ else some ⟨w.heap.size + 1, s + 1, none⟩)
          (nl - q) cl' (q - (s + 1)) cr m (fun k => z (q + k)) (fun k => gl mAdd (fun j => z (s + j)) (k - s) (q - s - 1 - (k - s))) (later w4 u5) (by omega) HB6.out.size
          ((HZ.out.later HB6.out).part hcl q (nl - q) (by omega)) (HR4.out.later u5) (by omega) (by have := HLN.out; have := HQ.out; omega) (by
            by_cases h : L = s + 1
            · exact .inl (by omega)
            · exact .inr (if_neg h)) (by have h1 := HU.out.1; have h2 := HU4.out.1; rw [size_madeCells] at h1; omega)
          (fun k h1 h2 => HU4.out.2.1 k (by omega) (by omega)) (fun k => HS.out _) (Nat.le_trans (Nat.mul_le_mul_left _ (by omega)) HM.out)
          (fun k d hd => by rw [gl_shift, gl_shift]; exact gl_room HS.out HM.out (by omega) (by omega) _ _))
        have HX5 := Lib.hid (HX4.out.later u5)
        have HG5 := Lib.hid (grown_below HG4.out (below_later w4 u5))
        clear HEnds HX4
        go_wp2_with (go_at_call 47; (with_reducible refine (HBegs.out _ _).mono ?_); rintro e w6 ⟨rfl, hg6, c3, hr6, hu6⟩; have HG6 := Lib.hid hg6; have HR6 := Lib.hid hr6; have HU6 := Lib.hid hu6; clear hg6 hr6 hu6)
        go_roundw
        case rel => exact ⟨q, by have := HQ.out; omega, rfl, Lib.hid ((HG3.out.trans HG5.out).trans HG6.out), c3, HR6, Lib.hid (win_step (V := fun x => .int .i64 (x)) HQ.out (by omega) (by omega) (by omega) (by omega) (by omega) HU.out HU4.out HU6.out)⟩
        case measure => simp [intOf]; try omega
      · have hqL' : L < q := by omega
        go_wp2
        refine wp_region_tail 11 (by kernel_rfl) (by kernel_rfl) ?_
        simp only [List.take_succ_cons, List.take_zero, List.drop_succ_cons, List.drop_zero]
        repeat (first | go_big_quiet_skip | (go_big_quiet_want; first | (with_reducible refine quiet_loadR aggAdd HX1.out _ rfl ?_ ?_; go_simp; go_simp; go_big_quiet_on) | (go_big_quiet_op; go_big_quiet_on)))
        refine wpQuiet_nil ?_
        rintro w3 ⟨u3, rfl⟩
        have HB3 := Lib.hid (HBw.out.trans ((below_later wr u3).mono HBw.out.size))
        have HEnds := Lib.hid (fun cb cr => add_ends w.heap.size (w.heap.size + 1) s 3 c1 (A.map (fun x => x.add s)) (q - s) cb (L - s) cr m (fun k => z (s + k)) (later wr u3) (by omega)
          ((HZ.out.later HB3.out).part' s (q - s) (by omega)) (HR1.out.later u3) (by omega) (by omega) (by omega) (by have h1 := HU.out.1; rw [size_madeCells] at h1; omega) (fun k => HS.out _) (Nat.le_trans (Nat.mul_le_mul_left _ (by omega)) HM.out))
        have HX3 := Lib.hid (HX1.out.later u3)
        have HG3 := Lib.hid (grown_below HG.out (below_later wr u3))
        clear HX1
        go_wp2_with (go_at_call 46; (with_reducible refine (HEnds.out _ _).mono ?_); rintro e w4 ⟨rfl, hg4, c2, hr4, hu4⟩; have HG4 := Lib.hid hg4; have HR4 := Lib.hid hr4; have HU4 := Lib.hid hu4; clear hg4 hr4 hu4)
        have HX4 := Lib.hid (HX3.out.grown HG4.out (by intro e; injection e with e; omega))
        refine wp_region_tail 11 (by kernel_rfl) (by kernel_rfl) ?_
        simp only [List.take_succ_cons, List.take_zero, List.drop_succ_cons, List.drop_zero]
        repeat (first | go_big_quiet_skip | (go_big_quiet_want; first | (with_reducible refine quiet_loadR aggAdd HX4.out _ rfl ?_ ?_; go_simp; go_simp; go_big_quiet_on) | (go_big_quiet_op; go_big_quiet_on)))
        refine wpQuiet_nil ?_
        rintro w5 ⟨u5, rfl⟩
        have HB5 := Lib.hid ((HB3.out.grown HG4.out (by have := HB3.out.size; omega) (fun k h => by cases h; omega)))
        have HB6 := Lib.hid (HB5.out.trans ((below_later w4 u5).mono HB5.out.size))
        have HBegs := Lib.hid (fun cl' cr => add_begs w.heap.size (w.heap.size + 1) (s + 1) 3 c2 (if cl = q then A else A.map (fun x => x.add q)) (if L = s + 1 then some ⟨w.heap.size + 1, 0, none⟩ else some ⟨w.heap.size + 1, s + 1, none⟩)
          (nl - q) cl' (L - (s + 1)) cr m (fun k => z (q + k)) (fun k => gl mAdd (fun j => z (s + j)) (k - s) (q - s - 1 - (k - s))) (later w4 u5) (by omega) HB6.out.size
          ((HZ.out.later HB6.out).part hcl q (nl - q) (by omega)) (HR4.out.later u5) (by omega) (by have := HLN.out; have := HQ.out; omega) (by
            by_cases h : L = s + 1
            · exact .inl (by omega)
            · exact .inr (if_neg h)) (by have h1 := HU.out.1; have h2 := HU4.out.1; rw [size_madeCells] at h1; omega)
          (fun k h1 h2 => HU4.out.2.1 k (by omega) (by omega)) (fun k => HS.out _) (Nat.le_trans (Nat.mul_le_mul_left _ (by omega)) HM.out)
          (fun k d hd => by rw [gl_shift, gl_shift]; exact gl_room HS.out HM.out (by omega) (by omega) _ _))
        have HX5 := Lib.hid (HX4.out.later u5)
        have HG5 := Lib.hid (grown_below HG4.out (below_later w4 u5))
        clear HEnds HX4
        go_wp2_with (go_at_call 47; (with_reducible refine (HBegs.out _ _).mono ?_); rintro e w6 ⟨rfl, hg6, c3, hr6, hu6⟩; have HG6 := Lib.hid hg6; have HR6 := Lib.hid hr6; have HU6 := Lib.hid hu6; clear hg6 hr6 hu6)
        go_roundw
        case rel => exact ⟨q, by have := HQ.out; omega, rfl, Lib.hid ((HG3.out.trans HG5.out).trans HG6.out), c3, HR6, Lib.hid (win_step (V := fun x => .int .i64 (x)) HQ.out (by omega) (by omega) (by omega) (by omega) (by omega) HU.out HU4.out HU6.out)⟩
        case measure => simp [intOf]; try omega
    · go_wp2
      go_ret
      exact ⟨_, c1, by omega, rfl, HB2.out.grown HG.out HB2.out.size (fun k h => by cases h; omega), HR1.out, by rw [HU.out.1, size_madeCells], fun k hk => HU.out.2.1 k (by omega) (by omega)⟩
theorem words_info : (Try.prog.info? 9).map (fun i => (i.zero, i.size, i.bytes)) = some (some (.string ByteArray.empty), 1, 16) := by kernel_rfl
set_option maxHeartbeats 800000 in
theorem words_win_none (A : Option Addr) (nl cl : Nat) (n : Int) (w : World) (hn : n < 1 ∨ (nl : Int) < n) :
    Calls Try.prog 32 #[.agg #[], .slice A nl cl, .int .i64 n] w fun e w' => e = .returned (.slice none 0 0) ∧ Below w.heap.size w w' := by
  by_cases h1 : n < 1
  all_goals
    go_enter Try.func32, Try.ntmps32
    go_wp2
    go_ret
    exact ⟨rfl, (Below.refl _ _).alloc (Nat.le_refl _) _⟩
set_option maxHeartbeats 1600000 in
theorem words_win (A : Option Addr) (nl cl N m : Nat) (z : Nat → ByteArray) (w : World) (h1 : 1 ≤ N) (hN : N ≤ nl) (hnl : nl ≤ 100000) (hcl : nl ≤ cl)
    (hz : Rd w.heap.size w A nl fun k => .string (z k)) (hs : ∀ k, (mWords).sz (z k) ≤ m) (hm : m * (nl + 1) ≤ 4611686018427387903) :
    Calls Try.prog 32 #[.agg #[], .slice A nl cl, .int .i64 N] w (Made 9 (nl - N + 1) (fun k => .string (gl mWords z k (N - 1))) w) := by
  obtain ⟨i0, hi, hz0, hz1, hz2⟩ := info_parts words_info
  obtain ⟨L, hL⟩ : ∃ L, L = nl - N + 1 := ⟨_, rfl⟩
  rw [← hL]
  have hLN : L + N = nl + 1 := by omega
  have HLN := Lib.hid hLN
  have hLi : (nl : Int) - (N : Int) + 1 = (L : Int) := by omega
  have hLb : L ≤ 100000 := by omega
  have hLp : 1 ≤ L := by omega
  have HZ := Lib.hid hz
  have HS := Lib.hid hs
  have HM := Lib.hid hm
  have HX0 := Lib.hid (Row.new w 61 #[])
  have HB0 := Lib.hid (show Below w.heap.size w (w.alloc (.cells #[] 61)) from (Below.refl _ _).alloc (Nat.le_refl _) _)
  clear hz hs hm hL hLN
  go_enter Try.func32, Try.ntmps32
  go_wp2_with (at_make; refine wpList_make_row _ rfl _ _ 58 rfl 9 i0 (.string ByteArray.empty) Try.underlying58 hi hz0 hz1 rfl .i64 .i64 L rfl rfl (by rw [hz2]; omega) (by omega) ?_)
  obtain ⟨w1, hw1⟩ : ∃ w1, w1 = w.alloc (.cells #[] 61) := ⟨_, rfl⟩
  obtain ⟨w2, hw2⟩ : ∃ w2, w2 = w1.alloc (.cells (madeCells #[.string ByteArray.empty] L) 9) := ⟨_, rfl⟩
  have hg1 : w1.heap.size = w.heap.size + 1 := by rw [hw1]; simp
  have hr2 : Row w2 (w.heap.size + 1) 9 (madeCells #[.string ByteArray.empty] L) := by rw [hw2, ← hg1]; exact Row.new _ _ _
  have hx2 : Row w2 w.heap.size 61 #[] := by rw [hw2, hw1]; exact (Row.new _ _ _).alloc _
  have hb2 : Below w.heap.size w w2 := by rw [hw2]; exact (by rw [hw1]; exact HB0.out : Below w.heap.size w w1).alloc (by omega) _
  rw [← hw1, ← hw2]
  have HR2 := Lib.hid hr2
  have HX2 := Lib.hid hx2
  have HB2 := Lib.hid hb2
  clear hw1 hw2 hg1 hr2 hx2 hb2 HX0 HB0 hi hz0 hz1 hz2
  clear w1
  go_loopw [8] (fun i wr => ∃ s : Nat, s ≤ L + N ∧ i = .int .i64 s ∧ Hid (w2.grownBy wr (some (w.heap.size + 1))) ∧ ∃ c1, Hid (Row wr (w.heap.size + 1) 9 c1) ∧ Hid (Upd (madeCells #[.string ByteArray.empty] L) c1 0 (min s L) (fun k => .string (gl mWords z k (N - 1))))) (fun i _ => L - (intOf i).toNat)
  case atStart => exact ⟨0, Nat.zero_le _, rfl, Lib.hid (World.grownBy.refl _ _), _, HR2, Lib.hid (Upd.none _ _ _ (by omega) _)⟩
  case round =>
    obtain ⟨s, hs, rfl, HG, c1, HR1, HU⟩ := hrel
    by_cases hlt : s < L
    · have HX1 := Lib.hid (HX2.out.grown HG.out (by intro e; injection e with e; omega))
      have HBw := Lib.hid (HB2.out.grown HG.out HB2.out.size (fun k h => by cases h; omega))
      obtain ⟨q, hq⟩ : ∃ q, s + N = q := ⟨_, rfl⟩
      have hqi : (s : Int) + (N : Int) = (q : Int) := by omega
      have hqn : q ≤ nl := by have := HLN.out; omega
      have hsq : s < q := by omega
      have hwq : IntKind.i64.wrap (q : Int) = (q : Int) := by simp [IntKind.wrap, IntKind.bits, IntKind.signed]; omega
      have hws : IntKind.i64.wrap ((s : Int) + 1) = (s : Int) + 1 := by simp [IntKind.wrap, IntKind.bits, IntKind.signed]; omega
      have hqc : q ≤ cl := by omega
      have HQ := Lib.hid hq
      clear hq
      by_cases hqL : q ≤ L
      · have hqL' : ¬ (L < q) := by omega
        go_wp2
        refine wp_region_tail 11 (by kernel_rfl) (by kernel_rfl) ?_
        simp only [List.take_succ_cons, List.take_zero, List.drop_succ_cons, List.drop_zero]
        repeat (first | go_big_quiet_skip | (go_big_quiet_want; first | (with_reducible refine quiet_loadR aggWords HX1.out _ rfl ?_ ?_; go_simp; go_simp; go_big_quiet_on) | (go_big_quiet_op; go_big_quiet_on)))
        refine wpQuiet_nil ?_
        rintro w3 ⟨u3, rfl⟩
        have HB3 := Lib.hid (HBw.out.trans ((below_later wr u3).mono HBw.out.size))
        have HEnds := Lib.hid (fun cb cr => words_ends w.heap.size (w.heap.size + 1) s 9 c1 (A.map (fun x => x.add s)) (q - s) cb (q - s) cr m (fun k => z (s + k)) (later wr u3) (by omega)
          ((HZ.out.later HB3.out).part' s (q - s) (by omega)) (HR1.out.later u3) (by omega) (by omega) (by omega) (by have h1 := HU.out.1; rw [size_madeCells] at h1; omega) (fun k => HS.out _) (Nat.le_trans (Nat.mul_le_mul_left _ (by omega)) HM.out))
        have HX3 := Lib.hid (HX1.out.later u3)
        have HG3 := Lib.hid (grown_below HG.out (below_later wr u3))
        clear HX1
        go_wp2_with (go_at_call 42; (with_reducible refine (HEnds.out _ _).mono ?_); rintro e w4 ⟨rfl, hg4, c2, hr4, hu4⟩; have HG4 := Lib.hid hg4; have HR4 := Lib.hid hr4; have HU4 := Lib.hid hu4; clear hg4 hr4 hu4)
        have HX4 := Lib.hid (HX3.out.grown HG4.out (by intro e; injection e with e; omega))
        refine wp_region_tail 11 (by kernel_rfl) (by kernel_rfl) ?_
        simp only [List.take_succ_cons, List.take_zero, List.drop_succ_cons, List.drop_zero]
        repeat (first | go_big_quiet_skip | (go_big_quiet_want; first | (with_reducible refine quiet_loadR aggWords HX4.out _ rfl ?_ ?_; go_simp; go_simp; go_big_quiet_on) | (go_big_quiet_op; go_big_quiet_on)))
        refine wpQuiet_nil ?_
        rintro w5 ⟨u5, rfl⟩
        have HB5 := Lib.hid ((HB3.out.grown HG4.out (by have := HB3.out.size; omega) (fun k h => by cases h; omega)))
        have HB6 := Lib.hid (HB5.out.trans ((below_later w4 u5).mono HB5.out.size))
        have HBegs := Lib.hid (fun cl' cr => words_begs w.heap.size (w.heap.size + 1) (s + 1) 9 c2 (if cl = q then A else A.map (fun x => x.add q)) (if L = s + 1 then some ⟨w.heap.size + 1, 0, none⟩ else some ⟨w.heap.size + 1, s + 1, none⟩)
          (nl - q) cl' (q - (s + 1)) cr m (fun k => z (q + k)) (fun k => gl mWords (fun j => z (s + j)) (k - s) (q - s - 1 - (k - s))) (later w4 u5) (by omega) HB6.out.size
          ((HZ.out.later HB6.out).part hcl q (nl - q) (by omega)) (HR4.out.later u5) (by omega) (by have := HLN.out; have := HQ.out; omega) (by
            by_cases h : L = s + 1
            · exact .inl (by omega)
            · exact .inr (if_neg h)) (by have h1 := HU.out.1; have h2 := HU4.out.1; rw [size_madeCells] at h1; omega)
          (fun k h1 h2 => HU4.out.2.1 k (by omega) (by omega)) (fun k => HS.out _) (Nat.le_trans (Nat.mul_le_mul_left _ (by omega)) HM.out)
          (fun k d hd => by rw [gl_shift, gl_shift]; exact gl_room HS.out HM.out (by omega) (by omega) _ _))
        have HX5 := Lib.hid (HX4.out.later u5)
        have HG5 := Lib.hid (grown_below HG4.out (below_later w4 u5))
        clear HEnds HX4
        go_wp2_with (go_at_call 43; (with_reducible refine (HBegs.out _ _).mono ?_); rintro e w6 ⟨rfl, hg6, c3, hr6, hu6⟩; have HG6 := Lib.hid hg6; have HR6 := Lib.hid hr6; have HU6 := Lib.hid hu6; clear hg6 hr6 hu6)
        go_roundw
        case rel => exact ⟨q, by have := HQ.out; omega, rfl, Lib.hid ((HG3.out.trans HG5.out).trans HG6.out), c3, HR6, Lib.hid (win_step (V := fun x => .string (x)) HQ.out (by omega) (by omega) (by omega) (by omega) (by omega) HU.out HU4.out HU6.out)⟩
        case measure => simp [intOf]; try omega
      · have hqL' : L < q := by omega
        go_wp2
        refine wp_region_tail 11 (by kernel_rfl) (by kernel_rfl) ?_
        simp only [List.take_succ_cons, List.take_zero, List.drop_succ_cons, List.drop_zero]
        repeat (first | go_big_quiet_skip | (go_big_quiet_want; first | (with_reducible refine quiet_loadR aggWords HX1.out _ rfl ?_ ?_; go_simp; go_simp; go_big_quiet_on) | (go_big_quiet_op; go_big_quiet_on)))
        refine wpQuiet_nil ?_
        rintro w3 ⟨u3, rfl⟩
        have HB3 := Lib.hid (HBw.out.trans ((below_later wr u3).mono HBw.out.size))
        have HEnds := Lib.hid (fun cb cr => words_ends w.heap.size (w.heap.size + 1) s 9 c1 (A.map (fun x => x.add s)) (q - s) cb (L - s) cr m (fun k => z (s + k)) (later wr u3) (by omega)
          ((HZ.out.later HB3.out).part' s (q - s) (by omega)) (HR1.out.later u3) (by omega) (by omega) (by omega) (by have h1 := HU.out.1; rw [size_madeCells] at h1; omega) (fun k => HS.out _) (Nat.le_trans (Nat.mul_le_mul_left _ (by omega)) HM.out))
        have HX3 := Lib.hid (HX1.out.later u3)
        have HG3 := Lib.hid (grown_below HG.out (below_later wr u3))
        clear HX1
        go_wp2_with (go_at_call 42; (with_reducible refine (HEnds.out _ _).mono ?_); rintro e w4 ⟨rfl, hg4, c2, hr4, hu4⟩; have HG4 := Lib.hid hg4; have HR4 := Lib.hid hr4; have HU4 := Lib.hid hu4; clear hg4 hr4 hu4)
        have HX4 := Lib.hid (HX3.out.grown HG4.out (by intro e; injection e with e; omega))
        refine wp_region_tail 11 (by kernel_rfl) (by kernel_rfl) ?_
        simp only [List.take_succ_cons, List.take_zero, List.drop_succ_cons, List.drop_zero]
        repeat (first | go_big_quiet_skip | (go_big_quiet_want; first | (with_reducible refine quiet_loadR aggWords HX4.out _ rfl ?_ ?_; go_simp; go_simp; go_big_quiet_on) | (go_big_quiet_op; go_big_quiet_on)))
        refine wpQuiet_nil ?_
        rintro w5 ⟨u5, rfl⟩
        have HB5 := Lib.hid ((HB3.out.grown HG4.out (by have := HB3.out.size; omega) (fun k h => by cases h; omega)))
        have HB6 := Lib.hid (HB5.out.trans ((below_later w4 u5).mono HB5.out.size))
        have HBegs := Lib.hid (fun cl' cr => words_begs w.heap.size (w.heap.size + 1) (s + 1) 9 c2 (if cl = q then A else A.map (fun x => x.add q)) (if L = s + 1 then some ⟨w.heap.size + 1, 0, none⟩ else some ⟨w.heap.size + 1, s + 1, none⟩)
          (nl - q) cl' (L - (s + 1)) cr m (fun k => z (q + k)) (fun k => gl mWords (fun j => z (s + j)) (k - s) (q - s - 1 - (k - s))) (later w4 u5) (by omega) HB6.out.size
          ((HZ.out.later HB6.out).part hcl q (nl - q) (by omega)) (HR4.out.later u5) (by omega) (by have := HLN.out; have := HQ.out; omega) (by
            by_cases h : L = s + 1
            · exact .inl (by omega)
            · exact .inr (if_neg h)) (by have h1 := HU.out.1; have h2 := HU4.out.1; rw [size_madeCells] at h1; omega)
          (fun k h1 h2 => HU4.out.2.1 k (by omega) (by omega)) (fun k => HS.out _) (Nat.le_trans (Nat.mul_le_mul_left _ (by omega)) HM.out)
          (fun k d hd => by rw [gl_shift, gl_shift]; exact gl_room HS.out HM.out (by omega) (by omega) _ _))
        have HX5 := Lib.hid (HX4.out.later u5)
        have HG5 := Lib.hid (grown_below HG4.out (below_later w4 u5))
        clear HEnds HX4
        go_wp2_with (go_at_call 43; (with_reducible refine (HBegs.out _ _).mono ?_); rintro e w6 ⟨rfl, hg6, c3, hr6, hu6⟩; have HG6 := Lib.hid hg6; have HR6 := Lib.hid hr6; have HU6 := Lib.hid hu6; clear hg6 hr6 hu6)
        go_roundw
        case rel => exact ⟨q, by have := HQ.out; omega, rfl, Lib.hid ((HG3.out.trans HG5.out).trans HG6.out), c3, HR6, Lib.hid (win_step (V := fun x => .string (x)) HQ.out (by omega) (by omega) (by omega) (by omega) (by omega) HU.out HU4.out HU6.out)⟩
        case measure => simp [intOf]; try omega
    · go_wp2
      go_ret
      exact ⟨_, c1, by omega, rfl, HB2.out.grown HG.out HB2.out.size (fun k h => by cases h; omega), HR1.out, by rw [HU.out.1, size_madeCells], fun k hk => HU.out.2.1 k (by omega) (by omega)⟩
end Go.Proofs.Ytbiecpejpkgngaa
