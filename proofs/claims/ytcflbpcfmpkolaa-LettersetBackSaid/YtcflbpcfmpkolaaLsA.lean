/-
  Package letterset: Has; the reference's Of.
-/
import Derived.Test.YtcflbpcfmpkolaaLs0
import Derived.Outline
namespace Go.Proofs.Ytcflbpcfmpkolaa
open Go.RowKit

theorem u64_and_one (y k : Nat) (h : y < 18446744073709551616) : (bits BinOp.and IntKind.u64 ((y : Int) / 2 ^ k) 1 == 1) = y.testBit k := by
  have e : (y : Int) / 2 ^ k = ((y / 2 ^ k : Nat) : Int) := by simp
  rw [e, show (1 : Int) = ((1 : Nat) : Int) from rfl, u64_and_nat _ _ (Nat.lt_of_le_of_lt (Nat.div_le_self _ _) h) (by decide), nat_mask1, Nat.testBit_eq_decide_div_mod_eq]
  by_cases h2 : y / 2 ^ k % 2 = 1
  · rw [h2]; simp
  · rw [decide_eq_false h2]; simp; omega

set_option maxHeartbeats 400000 in
theorem has_any (s : Nat → Nat) (x : Nat) (hs : Small s) (hx : x < 256) (w : World) :
    Calls Try.prog 12 #[.agg (lc s), .int .u8 x] w fun e w' => e = .returned (.bool (bit s x)) ∧ Below w.heap.size w w' := by
  have hl := lc_at s (i := x / 64) (by omega)
  obtain ⟨y, hy⟩ : ∃ y, y = s (x / 64) := ⟨_, rfl⟩
  have hlt : y < 18446744073709551616 := by rw [hy]; exact hs _
  have hb : bit s x = y.testBit (x % 64) := by unfold bit; rw [hy]
  rw [← hy] at hl
  have HB := Lib.hid hb
  clear hs hy hb
  go_enter Try.func12, Try.ntmps12
  go_wp2
  go_ret
  exact ⟨by rw [HB.out, u64_and_one y _ hlt]; rfl, (Below.refl _ _).alloc (Nat.le_refl _) _⟩

/-- How many of 256 rounds are left. -/
def left256 (i : Value) : Nat := 256 - (intOf i).toNat
theorem left256_lt {k : Nat} {i : Int} (h : k < 256) (e : i = (k : Int) + 1) : left256 (.int .i64 i) < left256 (.int .i64 k) := by
  subst e; unfold left256 intOf; dsimp only; omega
theorem half_nat (y m : Nat) : ((y / 2 ^ m : Nat) : Int) / 2 = ((y / 2 ^ (m + 1) : Nat) : Int) := by
  rw [Nat.pow_succ, ← Nat.div_div_eq_div_mul]; simp
theorem mod_nat (y m : Nat) : (((y / 2 ^ m : Nat) : Int) % 2 == 1) = y.testBit m := by
  rw [Nat.testBit_eq_decide_div_mod_eq]
  by_cases h2 : y / 2 ^ m % 2 = 1
  · rw [decide_eq_true h2, beq_iff_eq]; omega
  · rw [decide_eq_false h2, beq_eq_false_iff_ne]; omega

/-- What the reference's Of has laid down before letter k. -/
def upto (s : Nat → Nat) (k : Nat) : Nat → Bool := fun j => decide (j < k) && bit s j
theorem upto_step (s : Nat → Nat) (k : Nat) : (fun j => if j = k then bit s k else upto s k j) = upto s (k + 1) := by
  funext j; unfold upto
  by_cases h : j = k
  · subst h; simp
  · rw [if_neg h]; congr 1; apply decide_eq_decide.2; omega
theorem upto_zero (s : Nat → Nat) : upto s 0 = fun _ => false := by funext j; simp [upto]
theorem upto_all (s : Nat → Nat) : sc (upto s 256) = sc (bit s) := sc_congr fun i hi => by simp [upto, hi]

def OfRel (s : Nat → Nat) (w : World) (i : Value) (wr : World) : Prop := ∃ k : Nat, k ≤ 256 ∧ i = .int .i64 k ∧ Row wr w.heap.size 24 (lc s) ∧ Row wr (w.heap.size + 1) 26 (sc fun _ => false) ∧ Row wr (w.heap.size + 1 + 1) 26 (sc (upto s k)) ∧ Below w.heap.size w wr

set_option maxHeartbeats 1000000 in
theorem refof_any (s : Nat → Nat) (hs : Small s) (w : World) :
    Calls Try.prog 11 #[.agg (lc s)] w fun e w' => e = .returned (.agg (sc (bit s))) ∧ Below w.heap.size w w' := by
  have HS := Lib.hid hs
  clear hs
  have zs := zero_set
  go_enter Try.func11, Try.ntmps11
  go_wp2
  go_loopw [4] (fun i wr => OfRel s w i wr) (fun i _ => left256 i)
  case atStart =>
    have b := (((Below.refl w.heap.size w).alloc (Nat.le_refl _) (Obj.cells (lc s) 24)).alloc (by simp) (Obj.cells (sc fun _ => false) 26)).alloc (by simp; omega) (Obj.cells (sc fun _ => false) 26)
    have r0 := ((Row.new w 24 (lc s)).alloc (Obj.cells (sc fun _ => false) 26)).alloc (Obj.cells (sc fun _ => false) 26)
    have r1 := (Row.new (w.alloc (Obj.cells (lc s) 24)) 26 (sc fun _ => false)).alloc (Obj.cells (sc fun _ => false) 26)
    have r2 := (Row.new ((w.alloc (Obj.cells (lc s) 24)).alloc (Obj.cells (sc fun _ => false) 26)) 26 (sc fun _ => false))
    rw [← upto_zero s] at r2
    unfold OfRel
    exact ⟨0, by omega, rfl, r0, by simpa using r1, by simpa [upto_zero] using r2, b⟩
  case round =>
    obtain ⟨k, hk, rfl, r0, r1, r2, hb⟩ := hrel
    obtain ⟨y, hy⟩ : ∃ y, y = s (k / 64) := ⟨_, rfl⟩
    have hyl : y < 18446744073709551616 := by rw [hy]; exact HS.out _
    have HY := Lib.hid hy
    have hc : k < 256 → wr.cell? ⟨w.heap.size, k / 64, none⟩ = some (.int .u64 y) := fun h => by rw [r0.cell, lc_at s (by omega), hy]
    have hc2 : k < 256 → wr.cell? ⟨w.heap.size + 1 + 1, k, none⟩ = some (.bool (upto s k k)) := fun h => by rw [r2.cell, sc_at _ h]
    have hf2 := r2.frozen k
    have hyk : bit s k = y.testBit (k % 64) := by unfold bit; rw [hy]
    have HYK := Lib.hid hyk
    have HR := Lib.hid (And.intro r0 (And.intro r1 r2))
    have HK := Lib.hid hk
    clear hy hyk r0 r1 r2 zs hk
    by_cases hlt : (k : Int) < 256
    · replace hc := hc (by omega)
      replace hc2 := hc2 (by omega)
      go_wp2
      go_loop [5, 6] (fun v i => ∃ m : Nat, m ≤ k % 64 ∧ i = .int .i64 m ∧ ∃ z : Nat, v = .int .u64 z ∧ Hid (z = y / 2 ^ m)) (fun _ i => 64 - (intOf i).toNat)
      case atStart => exact ⟨0, by omega, rfl, y, rfl, Lib.hid (by simp)⟩
      case round =>
        obtain ⟨m, hm, rfl, z, rfl, hz⟩ := hrel
        have HM := Lib.hid hm
        clear hm
        by_cases hml : (m : Int) < (k : Int) % 64
        · have HE := Lib.hid (show ((z : Nat) : Int) / 2 = ((y / 2 ^ (m + 1) : Nat) : Int) by rw [hz.out]; exact half_nat y m)
          have hzl : z < 18446744073709551616 := by rw [hz.out]; exact Nat.lt_of_le_of_lt (Nat.div_le_self _ _) hyl
          go_wp2
          go_round
          case rel => exact ⟨m + 1, by omega, by go_num, _, by rw [HE.out], Lib.hid rfl⟩
          case measure => simp [intOf]; omega
        · have e : m = k % 64 := by have := HM.out; omega
          subst e
          have HE := Lib.hid (show (((z : Nat) : Int) % 2 == 1) = y.testBit (k % 64) by rw [hz.out]; exact mod_nat y _)
          go_wp2
          go_roundw
          case rel =>
            unfold OfRel
            refine ⟨k + 1, by have := HK.out; omega, by go_num, HR.out.1.far (by simp; omega) _, HR.out.2.1.far (by simp) _, ?_, hb.setCell (by simp; omega) _⟩
            have := HR.out.2.2.set k (.bool (y.testBit (k % 64)))
            rw [sc_set, ← HYK.out, upto_step] at this
            rw [HYK.out] at this; rw [HE.out]; exact this
          case measure => exact left256_lt (by omega) rfl
    · have e : k = 256 := by have := HK.out; omega
      have hr := HR.out.2.2
      rw [e, upto_all] at hr
      clear e
      have r1 := HR.out.2.1
      clear hc hc2
      go_wp2_with (first | (with_reducible refine wpList_load_set hr rfl _ rfl ?_ ?_; go_simp; go_simp) | (with_reducible refine wpList_store_set (f' := bit s) r1 rfl _ _ rfl ?_ ?_ ?_; go_simp; go_simp; go_simp))
      refine bodyPost_ret (results_set (p := 2) rfl _ (r1.setRow (sc (bit s))) ?_) rfl ?_
      · go_simp
      exact ⟨rfl, below_setRow hb (by omega) _⟩
end Go.Proofs.Ytcflbpcfmpkolaa
