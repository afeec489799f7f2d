/-
  Package letterset: Of, Between.
-/
import Derived.Test.YtcflbpcfmpkolaaLsA
import Derived.BigRegion
namespace Go.Proofs.Ytcflbpcfmpkolaa
open Go.RowKit

/-- The set and letter k. -/
def put (s : Nat → Nat) (k : Nat) : Nat → Nat := fun j => if j = k / 64 then s j ||| 2 ^ (k % 64) else s j
/-- The set of the letters z 0 .. z (n-1). -/
def ofW (z : Nat → Nat) : Nat → (Nat → Nat)
  | 0 => fun _ => 0
  | n + 1 => put (ofW z n) (z n)
theorem pow_small (k : Nat) : 2 ^ (k % 64) < 18446744073709551616 := by
  have : 2 ^ (k % 64) < 2 ^ 64 := Nat.pow_lt_pow_right (by decide) (by omega)
  simpa using this
theorem or_small {a b : Nat} (ha : a < 18446744073709551616) (hb : b < 18446744073709551616) : a ||| b < 18446744073709551616 := Nat.or_lt_two_pow (n := 64) ha hb
theorem put_small {s : Nat → Nat} (h : Small s) (k : Nat) : Small (put s k) := fun j => by
  unfold put; by_cases e : j = k / 64
  · rw [if_pos e]; exact or_small (h j) (pow_small k)
  · rw [if_neg e]; exact h j
theorem zero_small : Small fun _ => 0 := fun _ => (by decide : (0 : Nat) < 18446744073709551616)
theorem ofW_small (z : Nat → Nat) : ∀ n, Small (ofW z n)
  | 0 => zero_small
  | n + 1 => put_small (ofW_small z n) _
theorem bit_put (s : Nat → Nat) (k x : Nat) : bit (put s k) x = (decide (x = k) || bit s x) := by
  unfold bit put
  by_cases e : x / 64 = k / 64
  · rw [if_pos e, Nat.testBit_or, Nat.testBit_two_pow, Bool.or_comm]
    congr 1; apply decide_eq_decide.2; omega
  · rw [if_neg e, decide_eq_false (by rintro rfl; exact e rfl)]; rfl
theorem bit_zero (x : Nat) : bit (fun _ => 0) x = false := by simp [bit]

theorem shl_fact (k : Nat) : IntKind.u64.wrap ((2 : Int) ^ (k % 64)) = ((2 ^ (k % 64) : Nat) : Int) := by
  rw [show ((2 : Int) ^ (k % 64)) = ((2 ^ (k % 64) : Nat) : Int) by simp]; exact wrap64 _ (pow_small k)
theorem or_pow (y k : Nat) (h : y < 18446744073709551616) : bits BinOp.or IntKind.u64 (y : Int) ((2 : Int) ^ (k % 64)) = ((y ||| 2 ^ (k % 64) : Nat) : Int) := by
  rw [show ((2 : Int) ^ (k % 64)) = ((2 ^ (k % 64) : Nat) : Int) by simp]; exact u64_or_nat _ _ h (pow_small k)
theorem row_put {w : World} {g : Nat} {t : TypeId} {s : Nat → Nat} (h : Row w g t (lc s)) (x y : Nat) (hs : Small s) (hy : y = s (x / 64)) :
    Row (w.setCell ⟨g, x / 64, none⟩ (.int .u64 (bits BinOp.or IntKind.u64 (y : Int) ((2 : Int) ^ (x % 64))))) g t (lc (put s x)) := by
  rw [or_pow y x (by rw [hy]; exact hs _)]
  refine (h.set _ _).congr ?_
  rw [lc_set]; congr 1; funext j; unfold put
  by_cases e : j = x / 64
  · rw [if_pos e, if_pos e, hy, e]
  · rw [if_neg e, if_neg e]

set_option maxHeartbeats 1000000 in
theorem of_some (b off n c : Nat) (z : Nat → Nat) (w : World) (hn : n ≤ 9223372036854775807) (hz : ∀ k, k < n → z k < 256)
    (hc : ∀ k, k < n → w.cell? ⟨b, off + k, none⟩ = some (.int .u8 (z k : Nat))) :
    Calls Try.prog 16 #[.slice (some ⟨b, off, none⟩) n c] w fun e w' => e = .returned (.agg (lc (ofW z n))) ∧ Below w.heap.size w w' := by
  have HC := Lib.hid hc
  have HZ := Lib.hid hz
  clear hc hz
  have zs := zero_let
  go_enter Try.func16, Try.ntmps16
  go_wp2
  go_loopw [8] (fun i wr => ∃ k : Nat, k ≤ n ∧ i = .int .i64 k ∧ Row wr w.heap.size 24 (lc fun _ => 0) ∧ Row wr (w.heap.size + 1) 24 (lc (ofW z k)) ∧ Below w.heap.size w wr) (fun i _ => n - (intOf i).toNat)
  case atStart =>
    have b := ((Below.refl w.heap.size w).alloc (Nat.le_refl _) (Obj.cells (lc fun _ => 0) 24)).alloc (by simp) (Obj.cells (lc fun _ => 0) 24)
    have r0 := (Row.new w 24 (lc fun _ => 0)).alloc (Obj.cells (lc fun _ => 0) 24)
    have r1 := Row.new (w.alloc (Obj.cells (lc fun _ => 0) 24)) 24 (lc fun _ => 0)
    exact ⟨0, by omega, rfl, r0, by simpa [ofW] using r1, b⟩
  case round =>
    obtain ⟨k, hk, rfl, r0, r1, hb⟩ := hrel
    have HK := Lib.hid hk
    have HR := Lib.hid (And.intro r0 r1)
    by_cases hlt : k < n
    · have hcell := HC.out k hlt
      have hbl := block_lt_of_cell hcell
      rw [← hb.cell hbl] at hcell
      dsimp only at hbl
      have hz := HZ.out k hlt
      obtain ⟨x, hx⟩ : ∃ x, x = z k := ⟨_, rfl⟩
      rw [← hx] at hcell hz
      have hc1 : wr.cell? ⟨w.heap.size + 1, x / 64, none⟩ = some (.int .u64 (ofW z k (x / 64) : Nat)) := by rw [r1.cell, lc_at _ (by omega)]
      have hf1 := r1.frozen (x / 64)
      obtain ⟨y, hy⟩ : ∃ y, y = ofW z k (x / 64) := ⟨_, rfl⟩
      rw [← hy] at hc1
      have hyl : y < 18446744073709551616 := by rw [hy]; exact ofW_small z k _
      have HX := Lib.hid hx
      have HY := Lib.hid hy
      clear hx hy r0 r1 hk zs
      have e := shl_fact x
      go_wp2
      go_roundw
      case rel => exact ⟨k + 1, by omega, by go_num, HR.out.1.far (by simp) _, Row.congr (row_put HR.out.2 x y (ofW_small z k) HY.out) (by rw [HX.out]; rfl), hb.setCell (by simp) _⟩
      case measure => simp [intOf]; omega
    · have e : k = n := by omega
      have r0 := HR.out.1
      have r1 := HR.out.2
      rw [e] at r1
      have hlt' : ¬ (k : Int) < (n : Int) := by omega
      clear e hk zs
      go_wp2_with (first | (with_reducible refine wpList_load_let r1 rfl _ rfl ?_ ?_; go_simp; go_simp) | (with_reducible refine wpList_store_let (s' := ofW z n) r0 rfl _ _ rfl ?_ ?_ ?_; go_simp; go_simp; go_simp))
      refine bodyPost_ret (results_let (p := 2) rfl _ (r0.setRow (lc (ofW z n))) ?_) rfl ?_
      · go_simp
      exact ⟨rfl, below_setRow hb (by omega) _⟩

set_option maxHeartbeats 1000000 in
theorem of_none (A : Option Addr) (c : Nat) (w : World) :
    Calls Try.prog 16 #[.slice A 0 c] w fun e w' => e = .returned (.agg (lc fun _ => 0)) ∧ Below w.heap.size w w' := by
  have zs := zero_let
  have r0 := (Row.new w 24 (lc fun _ => 0)).alloc (Obj.cells (lc fun _ => 0) 24)
  have r1 := Row.new (w.alloc (Obj.cells (lc fun _ => 0) 24)) 24 (lc fun _ => 0)
  have hb := ((Below.refl w.heap.size w).alloc (Nat.le_refl _) (Obj.cells (lc fun _ => 0) 24)).alloc (by simp) (Obj.cells (lc fun _ => 0) 24)
  simp only [World.size_alloc] at r1
  go_enter Try.func16, Try.ntmps16
  go_wp2
  refine wp_loop_rounds 1 ?_; rw [rounds_succ]
  go_wp2_with (first | (with_reducible refine wpList_load_let r1 rfl _ rfl ?_ ?_; go_simp; go_simp) | (with_reducible refine wpList_store_let (s' := fun _ => 0) r0 rfl _ _ rfl ?_ ?_ ?_; go_simp; go_simp; go_simp))
  refine bodyPost_ret (results_let (p := 2) rfl _ (r0.setRow (lc fun _ => 0)) ?_) rfl ?_
  · go_simp
  exact ⟨rfl, below_setRow hb (by omega) _⟩

set_option maxHeartbeats 1000000 in
theorem between_any (lo hi : Nat) (hl : lo < 256) (hh : hi < 256) (w : World) :
    Calls Try.prog 17 #[.int .u8 lo, .int .u8 hi] w fun e w' => e = .returned (.agg (lc (ofW (fun i => lo + i) (hi + 1 - lo)))) ∧ Below w.heap.size w w' := by
  have zs := zero_let
  go_enter Try.func17, Try.ntmps17
  go_wp2
  go_loopw [6] (fun i wr => ∃ m : Nat, (m = 0 ∨ lo + m ≤ hi + 1) ∧ i = .int .i64 ((lo + m : Nat) : Int) ∧ Row wr w.heap.size 24 (lc fun _ => 0) ∧ Row wr (w.heap.size + 1) 24 (lc (ofW (fun i => lo + i) m)) ∧ Below w.heap.size w wr) (fun i _ => left256 i)
  case atStart =>
    have b := ((Below.refl w.heap.size w).alloc (Nat.le_refl _) (Obj.cells (lc fun _ => 0) 24)).alloc (by simp) (Obj.cells (lc fun _ => 0) 24)
    have r0 := (Row.new w 24 (lc fun _ => 0)).alloc (Obj.cells (lc fun _ => 0) 24)
    have r1 := Row.new (w.alloc (Obj.cells (lc fun _ => 0) 24)) 24 (lc fun _ => 0)
    exact ⟨0, by omega, rfl, r0, by simpa [ofW] using r1, b⟩
  case round =>
    obtain ⟨m, hk, rfl, r0, r1, hb⟩ := hrel
    obtain ⟨k, hkm⟩ : ∃ k, k = lo + m := ⟨_, rfl⟩
    rw [← hkm]
    have HK := Lib.hid hk
    have HR := Lib.hid (And.intro r0 r1)
    have HKM := Lib.hid hkm
    by_cases hlt : (k : Int) ≤ (hi : Int)
    · have hc1 : wr.cell? ⟨w.heap.size + 1, k / 64, none⟩ = some (.int .u64 (ofW (fun i => lo + i) m (k / 64) : Nat)) := by rw [r1.cell, lc_at _ (by omega)]
      have hf1 := r1.frozen (k / 64)
      obtain ⟨y, hy⟩ : ∃ y, y = ofW (fun i => lo + i) m (k / 64) := ⟨_, rfl⟩
      rw [← hy] at hc1
      have hyl : y < 18446744073709551616 := by rw [hy]; exact ofW_small _ _ _
      have HY := Lib.hid hy
      clear hy r0 r1 hk zs hkm
      have e := shl_fact k
      go_wp2
      go_region
      go_wp2
      go_roundw
      case rel => exact ⟨m + 1, by have := HKM.out; omega, by have := HKM.out; go_num, (HR.out.1.far (by simp) _).drew, Row.congr (row_put HR.out.2 k y (ofW_small _ m) HY.out).drew (by rw [HKM.out]; rfl), (hb.setCell (by simp) _).drew⟩
      case measure => exact left256_lt (by omega) rfl
    · have e : m = hi + 1 - lo := by omega
      have r0 := HR.out.1
      have r1 := HR.out.2
      rw [e] at r1
      clear e hk zs hkm
      go_wp2_with (first | (with_reducible refine wpList_load_let r1 rfl _ rfl ?_ ?_; go_simp; go_simp) | (with_reducible refine wpList_store_let (s' := ofW (fun i => lo + i) (hi + 1 - lo)) r0 rfl _ _ rfl ?_ ?_ ?_; go_simp; go_simp; go_simp))
      refine bodyPost_ret (results_let (p := 4) rfl _ (r0.setRow (lc (ofW (fun i => lo + i) (hi + 1 - lo)))) ?_) rfl ?_
      · go_simp
      exact ⟨rfl, below_setRow hb (by omega) _⟩
end Go.Proofs.Ytcflbpcfmpkolaa
