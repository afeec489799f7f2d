/-
  Package letterset: Union, Meet, Not, Minus.
-/
import Derived.Test.YtcflbpcfmpkolaaLsC
import Derived.Test.YtcflbpcfmpkolaaTail
import Derived.BigRegion
namespace Go.Proofs.Ytcflbpcfmpkolaa
open Go.RowKit

def orW (s t : Nat → Nat) : Nat → Nat := fun i => s i ||| t i
def andW (s t : Nat → Nat) : Nat → Nat := fun i => s i &&& t i
def notW (s : Nat → Nat) : Nat → Nat := fun i => 18446744073709551615 - s i
theorem orW_small {s t : Nat → Nat} (hs : Small s) (ht : Small t) : Small (orW s t) := fun i => or_small (hs i) (ht i)
theorem andW_small {s t : Nat → Nat} (hs : Small s) : Small (andW s t) := fun i => Nat.lt_of_le_of_lt Nat.and_le_left (hs i)
theorem notW_small (s : Nat → Nat) : Small (notW s) := fun i => by unfold notW; omega
theorem bit_or (s t : Nat → Nat) (x : Nat) : bit (orW s t) x = (bit s x || bit t x) := by unfold bit orW; rw [Nat.testBit_or]
theorem bit_and (s t : Nat → Nat) (x : Nat) : bit (andW s t) x = (bit s x && bit t x) := by unfold bit andW; rw [Nat.testBit_and]
theorem bit_not (s : Nat → Nat) (hs : Small s) (x : Nat) : bit (notW s) x = !bit s x := by
  unfold bit notW
  rw [show 18446744073709551615 - s (x / 64) = 2 ^ 64 - (s (x / 64) + 1) by omega, Nat.testBit_two_pow_sub_succ (hs _), decide_eq_true (by omega)]; simp

/-- The first k words of t, the others of s. -/
def mixW (t s : Nat → Nat) (k : Nat) : Nat → Nat := fun j => if j < k then t j else s j
theorem mix_zero (t s : Nat → Nat) : mixW t s 0 = s := by funext j; simp [mixW]
theorem mix_all (t s : Nat → Nat) : lc (mixW t s 4) = lc t := lc_congr fun i hi => by simp [mixW, hi]
theorem mix_set {w : World} {g : Nat} {ty : TypeId} {t s : Nat → Nat} {k v : Nat} (h : Row w g ty (lc (mixW t s k))) (hv : v = t k) : Row (w.setCell ⟨g, k, none⟩ (.int .u64 (v : Nat))) g ty (lc (mixW t s (k + 1))) := by
  refine ((h.set _ _).congr (lc_set _ _ _)).congr ?_
  congr 1; funext j; unfold mixW
  by_cases e : j = k
  · subst e; simp [hv]
  · rw [if_neg e]; by_cases e2 : j < k
    · rw [if_pos e2, if_pos (by omega)]
    · rw [if_neg e2, if_neg (by omega)]

def OpRel (t s u : Nat → Nat) (w : World) (i : Value) (wr : World) : Prop :=
  ∃ k : Nat, k ≤ 4 ∧ i = .int .i64 k ∧ Row wr w.heap.size 24 (lc (mixW t s k)) ∧ Row wr (w.heap.size + 1) 24 (lc u) ∧ Row wr (w.heap.size + 1 + 1) 24 (lc fun _ => 0) ∧ Below w.heap.size w wr
def left4 (i : Value) : Nat := 4 - (intOf i).toNat
theorem left4_lt {k : Nat} {i : Int} (h : k < 4) (e : i = (k : Int) + 1) : left4 (.int .i64 i) < left4 (.int .i64 k) := by
  subst e; unfold left4 intOf; dsimp only; omega

set_option maxHeartbeats 1000000 in
theorem union_any (s t : Nat → Nat) (hs : Small s) (ht : Small t) (w : World) :
    Calls Try.prog 18 #[.agg (lc s), .agg (lc t)] w fun e w' => e = .returned (.agg (lc (orW s t))) ∧ Below w.heap.size w w' := by
  have zs := zero_let
  have HS := Lib.hid (And.intro hs ht)
  go_enter Try.func18, Try.ntmps18
  go_wp2
  go_loopw [6] (fun i wr => OpRel (orW s t) s t w i wr) (fun i _ => left4 i)
  case atStart =>
    unfold OpRel
    have b := (((Below.refl w.heap.size w).alloc (Nat.le_refl _) (Obj.cells (lc s) 24)).alloc (by simp) (Obj.cells (lc t) 24)).alloc (by simp; omega) (Obj.cells (lc fun _ => 0) 24)
    have r0 := ((Row.new w 24 (lc s)).alloc (Obj.cells (lc t) 24)).alloc (Obj.cells (lc fun _ => 0) 24)
    have r1 := (Row.new (w.alloc (Obj.cells (lc s) 24)) 24 (lc t)).alloc (Obj.cells (lc fun _ => 0) 24)
    have r2 := (Row.new ((w.alloc (Obj.cells (lc s) 24)).alloc (Obj.cells (lc t) 24)) 24 (lc fun _ => 0))
    exact ⟨0, by omega, rfl, by rw [mix_zero]; exact r0, by simpa using r1, by simpa using r2, b⟩
  case round =>
    obtain ⟨k, hk, rfl, r0, r1, r2, hb⟩ := hrel
    have HK := Lib.hid hk
    have HR := Lib.hid (And.intro r0 (And.intro r1 r2))
    clear hk zs hs ht
    by_cases hlt : (k : Int) < 4
    · obtain ⟨y, hy⟩ : ∃ y, y = s k := ⟨_, rfl⟩
      obtain ⟨z, hz⟩ : ∃ z, z = t k := ⟨_, rfl⟩
      have hc0 : wr.cell? ⟨w.heap.size, k, none⟩ = some (.int .u64 (y : Nat)) := by rw [r0.cell, lc_at _ (by omega), hy]; simp [mixW]
      have hc1 : wr.cell? ⟨w.heap.size + 1, k, none⟩ = some (.int .u64 (z : Nat)) := by rw [r1.cell, lc_at _ (by omega), hz]
      have hf := r0.frozen k
      obtain ⟨v, hv⟩ : ∃ v, v = y ||| z := ⟨_, rfl⟩
      have e : bits BinOp.or IntKind.u64 (y : Int) (z : Int) = (v : Int) := by rw [hv]; exact u64_or_nat _ _ (by rw [hy]; exact HS.out.1 _) (by rw [hz]; exact HS.out.2 _)
      have HV := Lib.hid (show v = orW s t k by rw [hv, hy, hz]; rfl)
      clear hy hz hv r0 r1 r2
      go_wp2
      go_region
      go_wp2
      go_roundw
      case rel => unfold OpRel; exact ⟨k + 1, by omega, by go_num, (mix_set HR.out.1 HV.out).drew, (HR.out.2.1.far (by simp) _).drew, (HR.out.2.2.far (by simp; omega) _).drew, (hb.setCell (by simp) _).drew⟩
      case measure => exact left4_lt (by omega) rfl
    · have e : k = 4 := by have := HK.out; omega
      rw [e, mix_all] at r0
      clear e r1
      go_wp2_with (first | (with_reducible refine wpList_load_let r0 rfl _ rfl ?_ ?_; go_simp; go_simp) | (with_reducible refine wpList_store_let (s' := orW s t) r2 rfl _ _ rfl ?_ ?_ ?_; go_simp; go_simp; go_simp))
      refine bodyPost_ret (results_let (p := 4) rfl _ (r2.setRow (lc (orW s t))) ?_) rfl ?_
      · go_simp
      exact ⟨rfl, below_setRow hb (by omega) _⟩

set_option maxHeartbeats 1000000 in
theorem meet_any (s t : Nat → Nat) (hs : Small s) (ht : Small t) (w : World) :
    Calls Try.prog 19 #[.agg (lc s), .agg (lc t)] w fun e w' => e = .returned (.agg (lc (andW s t))) ∧ Below w.heap.size w w' := by
  have zs := zero_let
  have HS := Lib.hid (And.intro hs ht)
  go_enter Try.func19, Try.ntmps19
  go_wp2
  go_loopw [6] (fun i wr => OpRel (andW s t) s t w i wr) (fun i _ => left4 i)
  case atStart =>
    unfold OpRel
    have b := (((Below.refl w.heap.size w).alloc (Nat.le_refl _) (Obj.cells (lc s) 24)).alloc (by simp) (Obj.cells (lc t) 24)).alloc (by simp; omega) (Obj.cells (lc fun _ => 0) 24)
    have r0 := ((Row.new w 24 (lc s)).alloc (Obj.cells (lc t) 24)).alloc (Obj.cells (lc fun _ => 0) 24)
    have r1 := (Row.new (w.alloc (Obj.cells (lc s) 24)) 24 (lc t)).alloc (Obj.cells (lc fun _ => 0) 24)
    have r2 := (Row.new ((w.alloc (Obj.cells (lc s) 24)).alloc (Obj.cells (lc t) 24)) 24 (lc fun _ => 0))
    exact ⟨0, by omega, rfl, by rw [mix_zero]; exact r0, by simpa using r1, by simpa using r2, b⟩
  case round =>
    obtain ⟨k, hk, rfl, r0, r1, r2, hb⟩ := hrel
    have HK := Lib.hid hk
    have HR := Lib.hid (And.intro r0 (And.intro r1 r2))
    clear hk zs hs ht
    by_cases hlt : (k : Int) < 4
    · obtain ⟨y, hy⟩ : ∃ y, y = s k := ⟨_, rfl⟩
      obtain ⟨z, hz⟩ : ∃ z, z = t k := ⟨_, rfl⟩
      have hc0 : wr.cell? ⟨w.heap.size, k, none⟩ = some (.int .u64 (y : Nat)) := by rw [r0.cell, lc_at _ (by omega), hy]; simp [mixW]
      have hc1 : wr.cell? ⟨w.heap.size + 1, k, none⟩ = some (.int .u64 (z : Nat)) := by rw [r1.cell, lc_at _ (by omega), hz]
      have hf := r0.frozen k
      obtain ⟨v, hv⟩ : ∃ v, v = y &&& z := ⟨_, rfl⟩
      have e : bits BinOp.and IntKind.u64 (y : Int) (z : Int) = (v : Int) := by rw [hv]; exact u64_and_nat _ _ (by rw [hy]; exact HS.out.1 _) (by rw [hz]; exact HS.out.2 _)
      have HV := Lib.hid (show v = andW s t k by rw [hv, hy, hz]; rfl)
      clear hy hz hv r0 r1 r2
      go_wp2
      go_region
      go_wp2
      go_roundw
      case rel => unfold OpRel; exact ⟨k + 1, by omega, by go_num, (mix_set HR.out.1 HV.out).drew, (HR.out.2.1.far (by simp) _).drew, (HR.out.2.2.far (by simp; omega) _).drew, (hb.setCell (by simp) _).drew⟩
      case measure => exact left4_lt (by omega) rfl
    · have e : k = 4 := by have := HK.out; omega
      rw [e, mix_all] at r0
      clear e r1
      go_wp2_with (first | (with_reducible refine wpList_load_let r0 rfl _ rfl ?_ ?_; go_simp; go_simp) | (with_reducible refine wpList_store_let (s' := andW s t) r2 rfl _ _ rfl ?_ ?_ ?_; go_simp; go_simp; go_simp))
      refine bodyPost_ret (results_let (p := 4) rfl _ (r2.setRow (lc (andW s t))) ?_) rfl ?_
      · go_simp
      exact ⟨rfl, below_setRow hb (by omega) _⟩

theorem not_word (y : Nat) (h : y < 18446744073709551616) : bits BinOp.xor IntKind.u64 (if IntKind.u64.signed = true then -1 else IntKind.u64.max) (y : Int) = ((18446744073709551615 - y : Nat) : Int) := by
  rw [show (if IntKind.u64.signed = true then (-1 : Int) else IntKind.u64.max) = ((18446744073709551615 : Nat) : Int) from rfl, u64_xor_nat _ _ (by omega) h]
  congr 1
  apply Nat.eq_of_testBit_eq; intro i
  rw [Nat.testBit_xor, show 18446744073709551615 - y = 2 ^ 64 - (y + 1) by omega, Nat.testBit_two_pow_sub_succ h, show (18446744073709551615 : Nat) = 2 ^ 64 - 1 from rfl, Nat.testBit_two_pow_sub_one]
  by_cases hi : i < 64
  · simp [hi]
  · rw [decide_eq_false hi, Nat.testBit_lt_two_pow (Nat.lt_of_lt_of_le h (Nat.pow_le_pow_right (n := 2) (i := 64) (by decide) (by omega)))]; rfl

def NotRel (t s : Nat → Nat) (w : World) (i : Value) (wr : World) : Prop :=
  ∃ k : Nat, k ≤ 4 ∧ i = .int .i64 k ∧ Row wr w.heap.size 24 (lc (mixW t s k)) ∧ Row wr (w.heap.size + 1) 24 (lc fun _ => 0) ∧ Below w.heap.size w wr

set_option maxHeartbeats 1000000 in
theorem not_any (s : Nat → Nat) (hs : Small s) (w : World) :
    Calls Try.prog 21 #[.agg (lc s)] w fun e w' => e = .returned (.agg (lc (notW s))) ∧ Below w.heap.size w w' := by
  have zs := zero_let
  have HS := Lib.hid hs
  go_enter Try.func21, Try.ntmps21
  go_wp2
  go_loopw [4] (fun i wr => NotRel (notW s) s w i wr) (fun i _ => left4 i)
  case atStart =>
    unfold NotRel
    have b := ((Below.refl w.heap.size w).alloc (Nat.le_refl _) (Obj.cells (lc s) 24)).alloc (by simp) (Obj.cells (lc fun _ => 0) 24)
    have r0 := (Row.new w 24 (lc s)).alloc (Obj.cells (lc fun _ => 0) 24)
    have r1 := (Row.new (w.alloc (Obj.cells (lc s) 24)) 24 (lc fun _ => 0))
    exact ⟨0, by omega, rfl, by rw [mix_zero]; exact r0, by simpa using r1, b⟩
  case round =>
    obtain ⟨k, hk, rfl, r0, r1, hb⟩ := hrel
    have HK := Lib.hid hk
    have HR := Lib.hid (And.intro r0 r1)
    clear hk zs hs
    by_cases hlt : (k : Int) < 4
    · obtain ⟨y, hy⟩ : ∃ y, y = s k := ⟨_, rfl⟩
      have hc0 : wr.cell? ⟨w.heap.size, k, none⟩ = some (.int .u64 (y : Nat)) := by rw [r0.cell, lc_at _ (by omega), hy]; simp [mixW]
      have hf := r0.frozen k
      have hyl : y < 18446744073709551616 := by rw [hy]; exact HS.out _
      have HV := Lib.hid (show 18446744073709551615 - y = notW s k by rw [hy]; rfl)
      clear hy r0 r1
      have e := not_word y hyl
      go_wp2
      go_roundw
      case rel =>
        unfold NotRel
        exact ⟨k + 1, by omega, by go_num, mix_set HR.out.1 HV.out, HR.out.2.far (by simp) _, hb.setCell (by simp) _⟩
      case measure => exact left4_lt (by omega) rfl
    · have e : k = 4 := by have := HK.out; omega
      rw [e, mix_all] at r0
      clear e
      go_wp2_with (first | (with_reducible refine wpList_load_let r0 rfl _ rfl ?_ ?_; go_simp; go_simp) | (with_reducible refine wpList_store_let (s' := notW s) r1 rfl _ _ rfl ?_ ?_ ?_; go_simp; go_simp; go_simp))
      refine bodyPost_ret (results_let (p := 2) rfl _ (r1.setRow (lc (notW s))) ?_) rfl ?_
      · go_simp
      exact ⟨rfl, below_setRow hb (by omega) _⟩

def minusW (s t : Nat → Nat) : Nat → Nat := andW s (notW t)
theorem bit_minus (s t : Nat → Nat) (ht : Small t) (x : Nat) : bit (minusW s t) x = (bit s x && !bit t x) := by unfold minusW; rw [bit_and, bit_not t ht]
theorem minusW_small {s t : Nat → Nat} (hs : Small s) : Small (minusW s t) := andW_small hs

set_option maxHeartbeats 1000000 in
theorem minus_any (s t : Nat → Nat) (hs : Small s) (ht : Small t) (w : World) :
    Calls Try.prog 20 #[.agg (lc s), .agg (lc t)] w fun e w' => e = .returned (.agg (lc (minusW s t))) ∧ Below w.heap.size w w' := by
  have zs := zero_let
  have hno := Lib.hid (fun w => not_any t ht w)
  have hme := Lib.hid (fun w => meet_any s (notW t) hs (notW_small t) w)
  have hb := (((Below.refl w.heap.size w).alloc (Nat.le_refl _) (Obj.cells (lc s) 24)).alloc (by simp) (Obj.cells (lc t) 24)).alloc (by simp; omega) (Obj.cells (lc fun _ => 0) 24)
  have r0 := ((Row.new w 24 (lc s)).alloc (Obj.cells (lc t) 24)).alloc (Obj.cells (lc fun _ => 0) 24)
  have r1 := (Row.new (w.alloc (Obj.cells (lc s) 24)) 24 (lc t)).alloc (Obj.cells (lc fun _ => 0) 24)
  have r2 := (Row.new ((w.alloc (Obj.cells (lc s) 24)).alloc (Obj.cells (lc t) 24)) 24 (lc fun _ => 0))
  simp only [World.size_alloc] at r1 r2
  go_enter Try.func20, Try.ntmps20
  go_wp2
  obtain ⟨w2, hw2⟩ : ∃ w2, w2 = ((w.alloc (Obj.cells (lc s) 24)).alloc (Obj.cells (lc t) 24)).alloc (Obj.cells (lc fun _ => 0) 24) := ⟨_, rfl⟩
  rw [← hw2] at r0 r1 r2 hb ⊢
  clear hw2 hs ht zs
  refine wp_region_tail 4 (by kernel_rfl) (by kernel_rfl) ?_
  simp only [List.take_succ_cons, List.take_zero, List.drop_succ_cons, List.drop_zero]
  repeat (first | go_big_quiet_skip | (go_big_quiet_want; first | (with_reducible refine quiet_load_let r0 _ rfl ?_ ?_; go_simp; go_simp; go_big_quiet_on) | (with_reducible refine quiet_load_let r1 _ rfl ?_ ?_; go_simp; go_simp; go_big_quiet_on) | (go_big_quiet_op; first | go_big_quiet_on | go_big_quiet_call (first | with_reducible exact calls_later (hno.out _) | with_reducible exact calls_later (hme.out _)))))
  refine wpQuiet_nil ?_
  rintro w4 ⟨u, rfl⟩
  have q2 := r2.later u
  have hb2 := hb.trans ((below_later w2 u).mono hb.size)
  go_wp2_with (first | (with_reducible refine wpList_store_let (s' := andW s (notW t)) q2 rfl _ _ rfl ?_ ?_ ?_; go_simp; go_simp; go_simp))
  refine bodyPost_ret (results_let (p := 4) rfl _ (q2.setRow (lc (andW s (notW t)))) ?_) rfl ?_
  · go_simp
  exact ⟨rfl, below_setRow hb2 (by omega) _⟩
end Go.Proofs.Ytcflbpcfmpkolaa
