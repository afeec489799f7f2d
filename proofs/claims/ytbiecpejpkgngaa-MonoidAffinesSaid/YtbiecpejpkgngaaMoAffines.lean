/-
  MonoidAffines: the walk.
-/
import Derived.Test.YtbiecpejpkgngaaMoAffF
import Derived.Test.YtbiecpejpkgngaaMoAwake
namespace Go.Proofs.Ytbiecpejpkgngaa
open Go.RowKit
/-- An affine function's value. -/
def ap (f : Int × Int) (x : Int) : Int := U (U (f.1 * x) + f.2)
theorem ap_e {x : Int} (h : U x = x) : ap mAff.e x = x := by
  show U (U (1 * x) + 0) = x
  rw [Int.one_mul, Int.add_zero, h, h]
theorem ap_j (f g : Int × Int) (x : Int) : ap (mAff.j f g) x = U (U (g.1 * ap f x) + g.2) := by
  show U (U (U (f.1 * g.1) * x) + U (U (f.2 * g.1) + g.2)) = U (U (g.1 * U (U (f.1 * x) + f.2)) + g.2)
  rw [U_mul_left, U_add_left, U_add_right, Int.add_left_comm, U_add_left, U_mul_right, U_add_left]
  rw [show g.1 * (U (f.1 * x) + f.2) = U (f.1 * x) * g.1 + f.2 * g.1 by rw [Int.mul_comm, Int.add_mul]]
  rw [Int.add_assoc, ← U_add_left (U (f.1 * x) * g.1), U_mul_left, U_add_left]
  congr 1
  rw [show f.1 * g.1 * x = f.1 * x * g.1 by rw [Int.mul_assoc, Int.mul_comm g.1, Int.mul_assoc]]
  omega
def FinA (w : World) (e : Ending) (w' : World) : Prop := e = .returned (.bool true) ∧ Below w.heap.size w w'
set_option maxRecDepth 20000 in
set_option maxHeartbeats 3200000 in
theorem affines_walk (A : Option Addr) (n cp : Nat) (z y : Nat → Int) (a b c : Int × Int) (x : Int) (w : World) (hn : n ≤ 9223372036854775807) (hz : Rd2 w.heap.size w A n (fun k => .int .u64 (z k)) (fun k => .int .u64 (y k)))
    (ha : InR a) (hb : InR b) (hc : InR c) (hx : U x = x) :
    Calls Try.prog 4 #[.slice A n cp, .agg (ac a), .agg (ac b), .agg (ac c), .int .u64 x] w (FinA w) := by
  have HA := Lib.hid awake_true
  have HZ := Lib.hid hz
  have HIA := Lib.hid ha
  have HIX := Lib.hid hx
  clear hz ha hb hc hx
  obtain ⟨s, hs⟩ : ∃ s, w.heap.size = s := ⟨_, rfl⟩
  have z0 := aff_zero
  obtain ⟨w0, hw0⟩ : ∃ w0, w0 = ((w.alloc (.cells (ac a) 40)).alloc (.cells (ac b) 40)).alloc (.cells (ac c) 40) := ⟨_, rfl⟩
  have HB0 := Lib.hid (show Below s w w0 by rw [hw0, ← hs]; exact (((Below.refl _ _).alloc (Nat.le_refl _) _).alloc (by simp) _).alloc (by simp; omega) _)
  have RA := Lib.hid (show Row w0 s 40 (ac a) by rw [hw0, ← hs]; exact ((Row.new _ _ _).alloc _).alloc _)
  have RB := Lib.hid (show Row w0 (s + 1) 40 (ac b) by
    rw [hw0, ← hs]
    have := (Row.new (w.alloc (.cells (ac a) 40)) 40 (ac b)).alloc (.cells (ac c) 40)
    simpa using this)
  have RC := Lib.hid (show Row w0 (s + 1 + 1) 40 (ac c) by
    rw [hw0, ← hs]
    have := Row.new ((w.alloc (.cells (ac a) 40)).alloc (.cells (ac b) 40)) 40 (ac c)
    simpa using this)
  have HS := Lib.hid hs
  go_enter Try.func4, Try.ntmps4
  go_wp2_with fail
  rw [← hw0]
  refine (HA.out _).mono ?_
  rintro e w1 ⟨rfl, hb1⟩
  have HB1 := Lib.hid (HB0.out.trans (hb1.mono (by have := HB0.out.size; omega)))
  have HB01 := Lib.hid hb1
  clear hb1 hw0
  have C1 := Lib.hid (aff_fold A n cp z y w1 hn (by
    have h : Below w.heap.size w w1 := by rw [HS.out]; exact HB1.out
    rcases HZ.out.later h with h0 | ⟨b, o, hA, hlt, hc⟩
    · exact .inl h0
    · exact .inr ⟨b, o, hA, Nat.lt_of_lt_of_le hlt h.size, hc⟩))
  obtain ⟨f, hf⟩ : ∃ f, fo mAff (fun k => (z k, y k)) n = f := ⟨_, rfl⟩
  rw [hf] at C1
  have HF := Lib.hid hf
  clear hf
  go_wp2_with (first | ((with_reducible refine wpList_newR (c' := ac f) aggAffine rfl (ac_one _) rfl _ _ rfl ?_ ?_ ?_); (go_simp <;> fail); (go_simp <;> fail); go_simp) | (go_at_call 17; (with_reducible refine C1.out.mono ?_); rintro e w2 ⟨rfl, hb2⟩; have HB12 := Lib.hid hb2; clear hb2))
  obtain ⟨g, hg⟩ : ∃ g, g = w2.heap.size := ⟨_, rfl⟩
  obtain ⟨w3, hw3⟩ : ∃ w3, w3 = w2.alloc (Obj.cells (ac f) 40) := ⟨_, rfl⟩
  have HB23 := Lib.hid (show Below w2.heap.size w2 w3 by rw [hw3]; exact (Below.refl _ _).alloc (Nat.le_refl _) _)
  have HB03 := Lib.hid (show Below w0.heap.size w0 w3 from (HB01.out.trans (HB12.out.mono HB01.out.size)).trans (HB23.out.mono (Nat.le_trans HB01.out.size HB12.out.size)))
  have HB3 := Lib.hid (HB0.out.trans (HB03.out.mono (by have := HB0.out.size; have := HS.out; omega)))
  have RF := Lib.hid (show Row w3 g 40 (ac f) by rw [hw3, hg]; exact Row.new _ _ _)
  rw [← hw3, ← hg]
  clear hw3 hg C1 HB01 HB12
  go_loopw [12, 24] (fun v i wr => ∃ k : Nat, k ≤ n ∧ i = .int .i64 k ∧ v = .int .u64 (ap (fo mAff (fun k => (z k, y k)) k) x) ∧ Hid (Below w3.heap.size w3 wr)) (fun _ i _ => n - (intOf i).toNat)
  case atStart => exact ⟨0, Nat.zero_le _, rfl, by rw [show fo mAff (fun k => (z k, y k)) 0 = mAff.e from rfl, ap_e HIX.out], Lib.hid (Below.refl _ _)⟩
  case round =>
    obtain ⟨k, hk, rfl, rfl, HB⟩ := hrel
    have HBw := Lib.hid (HB3.out.trans (HB.out.mono (by have := HB3.out.size; have := HS.out; omega)))
    by_cases hlt : k < n
    · have hbw : Below w.heap.size w wr := by rw [HS.out]; exact HBw.out
      obtain ⟨bb, o, rfl, hbB, hcell⟩ := (HZ.out.later hbw).some hlt
      have H0 := Lib.hid (hcell k hlt).1
      have H1 := Lib.hid (hcell k hlt).2
      have q0 : (wr.alloc (.cells (ac (z k, y k)) 40)).cell? ⟨wr.heap.size, 0, none⟩ = some (.int .u64 (z k)) := (Row.new wr 40 (ac (z k, y k))).cell 0
      have q1 : (wr.alloc (.cells (ac (z k, y k)) 40)).cell? ⟨wr.heap.size, 1, none⟩ = some (.int .u64 (y k)) := (Row.new wr 40 (ac (z k, y k))).cell 1
      obtain ⟨v, hv⟩ : ∃ v, ap (fo mAff (fun k => (z k, y k)) k) x = v := ⟨_, rfl⟩
      have HV := Lib.hid (show ap (fo mAff (fun k => (z k, y k)) (k + 1)) x = U (U (z k * v) + y k) by rw [← hv, fo, ap_j])
      rw [hv]
      clear hcell hv hbw
      go_wp2_with (first | ((with_reducible refine wpList_load2 (f := (z k, y k)) H0.out H1.out rfl _ rfl ?_ ?_); (go_simp <;> fail); go_simp) | ((with_reducible refine wpList_newR (c' := ac (z k, y k)) aggAffine rfl (ac_one _) rfl _ _ rfl ?_ ?_ ?_); (go_simp <;> fail); (go_simp <;> fail); go_simp))
      go_roundw
      case rel => exact ⟨k + 1, by omega, by go_num, by rw [HV.out], Lib.hid (HB.out.alloc HB.out.size _)⟩
      case measure => simp [intOf]; try omega
    · obtain rfl : k = n := by omega
      obtain ⟨w5, hw5⟩ : ∃ w5, w5 = wr.alloc (Obj.cells #[] 42) := ⟨_, rfl⟩
      have HB35 := Lib.hid (show Below w3.heap.size w3 w5 by rw [hw5]; exact HB.out.alloc HB.out.size _)
      have HB05 := Lib.hid (show Below w0.heap.size w0 w5 from HB03.out.trans (HB35.out.mono HB03.out.size))
      have RM := Lib.hid (show Row w5 wr.heap.size 42 #[] by rw [hw5]; exact Row.new _ _ _)
      have RA5 := Lib.hid (RA.out.below' HB05.out)
      have RB5 := Lib.hid (RB.out.below' HB05.out)
      have RC5 := Lib.hid (RC.out.below' HB05.out)
      have RF5 := Lib.hid (RF.out.below' HB35.out)
      have HBz := Lib.hid (HB3.out.trans (HB35.out.mono (by have := HB3.out.size; have := HS.out; omega)))
      obtain ⟨F1, hF1⟩ : ∃ F1, f.1 = F1 := ⟨_, rfl⟩
      obtain ⟨F2, hF2⟩ : ∃ F2, f.2 = F2 := ⟨_, rfl⟩
      have q0 : ∀ u, (later w5 u).cell? ⟨g, 0, none⟩ = some (.int .u64 F1) := fun u => by rw [← hF1]; exact (RF5.out.later u).cell 0
      have q1 : ∀ u, (later w5 u).cell? ⟨g, 1, none⟩ = some (.int .u64 F2) := fun u => by rw [← hF2]; exact (RF5.out.later u).cell 1
      obtain ⟨Y, hY⟩ : ∃ Y, ap (fo mAff (fun k => (z k, y k)) k) x = Y := ⟨_, rfl⟩
      obtain ⟨P, hP⟩ : ∃ P, IntKind.u64.wrap (F1 * x) = P := ⟨_, rfl⟩
      have hPY : IntKind.u64.wrap (P + F2) = Y := by rw [← hY, HF.out, ← hP, ← hF1, ← hF2]; rfl
      have neY : (Y == Y) = true := by simp
      rw [hY]
      obtain ⟨AB, hAB⟩ : ∃ AB, mAff.j a b = AB := ⟨_, rfl⟩
      obtain ⟨BC, hBC⟩ : ∃ BC, mAff.j b c = BC := ⟨_, rfl⟩
      obtain ⟨ABC, hABC⟩ : ∃ ABC, mAff.j AB c = ABC := ⟨_, rfl⟩
      have J1 := Lib.hid (fun u => affJoin a b u)
      have J2 := Lib.hid (fun u => affJoin AB c u)
      have J3 := Lib.hid (fun u => affJoin b c u)
      have J4 := Lib.hid (fun u => affJoin a BC u)
      have J5 := Lib.hid (fun u => affJoin mAff.e a u)
      have J6 := Lib.hid (fun u => affJoin a mAff.e u)
      have J7 := Lib.hid affUnit
      rw [hAB] at J1
      rw [hABC] at J2
      rw [hBC] at J3
      rw [show mAff.j a BC = ABC by rw [← hBC, ← mAff.assoc, hAB, hABC]] at J4
      rw [aff_left HIA.out] at J5
      rw [aff_right HIA.out] at J6
      obtain ⟨E, hE⟩ : ∃ E, ac mAff.e = E := ⟨_, rfl⟩
      rw [hE] at J5 J6 J7
      have ge := guard_aff
      have ee := equal_aff
      clear hF1 hF2 hY hAB hBC hABC hE hs z0
      go_wp2
      rw [← hw5]
      clear hw5
      refine wp_region_later (by kernel_rfl) (by kernel_rfl) ?_
      repeat (first | go_big_quiet_skip | (go_big_quiet_want; first | (with_reducible refine quiet_loadR aggAffines RM.out _ rfl ?_ ?_; (go_simp <;> fail); go_simp; go_big_quiet_on) | (with_reducible refine quiet_loadR aggAffine RA5.out _ rfl ?_ ?_; (go_simp <;> fail); go_simp; go_big_quiet_on) | (with_reducible refine quiet_loadR aggAffine RB5.out _ rfl ?_ ?_; (go_simp <;> fail); go_simp; go_big_quiet_on) | (with_reducible refine quiet_loadR aggAffine RC5.out _ rfl ?_ ?_; (go_simp <;> fail); go_simp; go_big_quiet_on) | (go_big_quiet_op; first | go_big_quiet_on | go_big_quiet_call (first | with_reducible exact calls_later (J1.out _) | with_reducible exact calls_later (J2.out _) | with_reducible exact calls_later (J3.out _) | with_reducible exact calls_later (J4.out _) | with_reducible exact calls_later (J5.out _) | with_reducible exact calls_later (J6.out _) | with_reducible exact calls_later (J7.out _)))))
      refine wpQuiet_nil ?_
      rintro w6 ⟨u, rfl⟩
      clear q0 q1
      go_wp2
      go_ret
      exact ⟨rfl, by rw [HS.out]; exact HBz.out.trans ((below_later w5 u).mono (by have := HBz.out.size; have := HS.out; omega))⟩
end Go.Proofs.Ytbiecpejpkgngaa
