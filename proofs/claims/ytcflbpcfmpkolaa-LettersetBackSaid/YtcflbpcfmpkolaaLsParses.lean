/-
  Package letterset: the walk of the statement LettersetParses.
-/
import Derived.Test.YtcflbpcfmpkolaaRefParse
import Derived.Test.YtcflbpcfmpkolaaLsA
namespace Go.Proofs.Ytcflbpcfmpkolaa
open Go.RowKit

theorem ta_errno (n : Int) (w : World) : Sem.run Try.prog (Instr.typeAssert (Value.iface 62 (Value.int IntKind.i64 n)) 47 62 true) w = .ok (.tuple #[.int .i64 n, .bool true]) w := by kernel_rfl
set_option maxHeartbeats 400000 in
theorem num_some (n : Int) (w : World) :
    Calls Try.prog 27 #[.iface 62 (.int .i64 n)] w fun e w' => e = .returned (.int .i64 n) ∧ Below w.heap.size w w' := by
  have ta := fun w => ta_errno n w
  go_enter Try.func27, Try.ntmps27
  go_wp2
  go_ret
  exact ⟨rfl, Below.refl _ _⟩
set_option maxHeartbeats 400000 in
theorem num_nil (w : World) :
    Calls Try.prog 27 #[.nilIface] w fun e w' => e = .returned (.int .i64 0) ∧ Below w.heap.size w w' := by
  go_enter Try.func27, Try.ntmps27
  go_wp2
  go_ret
  exact ⟨rfl, Below.refl _ _⟩

theorem parseS_small : ∀ (n : Nat) (s : ByteArray) (acc : Nat → Nat) {S : Nat → Nat}, Small acc → parseS n s acc = some S → Small S
  | 0, s, acc, S, ha, h => by rw [parseS] at h; cases h; exact ha
  | n + 1, s, acc, S, ha, h => by
    rw [parseS] at h
    split at h
    · cases h; exact ha
    · cases hi : itemS s with
      | none => rw [hi] at h; cases h
      | some q =>
        obtain ⟨lo, hi', k⟩ := q
        rw [hi] at h
        exact parseS_small n _ _ (orW_small ha (ofW_small _ _)) h

def ac : ByteArray := ⟨#[97, 45, 99]⟩
def acW : Nat → Nat := ofW (fun i => 97 + i) 3
theorem item_ac : itemS ac = some (97, 99, 3) := by decide +kernel
theorem parse_ac : parseS ac.size ac (fun _ => 0) = some (orW (fun _ => 0) acW) := by
  show parseS 3 ac (fun _ => 0) = _
  rw [parseS, if_neg (by decide), item_ac]
  dsimp only
  rw [parseS, if_pos (by rw [tail_size]; decide)]; rfl
theorem ac_same : lc (orW (fun _ => 0) acW) = lc acW := lc_congr fun i _ => by unfold orW; exact Nat.zero_or _
theorem ac_some : sameW acW (fun _ => 0) = false := by decide +kernel

set_option maxHeartbeats 1000000 in
theorem parses_core (t : ByteArray) (S : Nat → Nat) (f : Nat → Bool) (E : Value) (c : Int) (hf : sc (bit S) = sc f) (hS : Small S)
    (p1 : ∀ w, Calls Try.prog 25 #[.string t] w fun e w' => e = .returned (.tuple #[.agg (lc S), E]) ∧ Below w.heap.size w w')
    (p2 : ∀ w, Calls Try.prog 26 #[.string t] w fun e w' => e = .returned (.tuple #[.agg (sc f), .int .i64 c]) ∧ Below w.heap.size w w')
    (p3 : ∀ w, Calls Try.prog 25 #[.string ⟨#[97, 45, 99]⟩] w fun e w' => e = .returned (.tuple #[.agg (lc acW), .nilIface]) ∧ Below w.heap.size w w')
    (p4 : ∀ w, Calls Try.prog 27 #[E] w fun e w' => e = .returned (.int .i64 c) ∧ Below w.heap.size w w') (w : World) :
    Calls Try.prog 8 #[.string t] w fun e w' => e = .returned (.bool true) ∧ Below w.heap.size w w' := by
  have h5 := fun w => refof_any S hS w
  rw [hf] at h5
  have P1 := Lib.hid p1
  have P2 := Lib.hid p2
  have P3 := Lib.hid p3
  have P4 := Lib.hid p4
  have P5 := Lib.hid h5
  have P6 := Lib.hid (fun w => (show Calls Try.prog 17 #[.int .u8 97, .int .u8 99] w fun e w' => e = .returned (.agg (lc acW)) ∧ Below w.heap.size w w' from between_any 97 99 (by omega) (by omega) w))
  have gs := guard_set
  have gl := guard_let
  have es := equal_set
  have el := equal_let
  have ez : ∀ w, (Op.equalIn 10000 24 (.agg (lc acW)) (.agg #[.int .u64 0, .int .u64 0, .int .u64 0, .int .u64 0])).run Try.prog w = .ok false w := fun w => by rw [← lc_zero, equal_lets, ac_some]
  have zs := zero_set
  have zl := zero_let
  have hb := Below.refl w.heap.size w
  clear p1 p2 p3 p4 h5 hf hS
  go_enter Try.func8, Try.ntmps8
  go_wp2_with (first | (go_at_call 25; with_reducible refine (P1.out _).mono ?_; rintro e w1 ⟨rfl, hb1⟩; have hb2 := hb.trans (hb1.mono hb.size)) | (with_reducible refine wpList_new_let (fun _ => 0) S rfl _ _ rfl ?_ ?_ ?_; (go_simp <;> fail); (go_simp <;> fail); go_simp) | (go_at_call 26; with_reducible refine (P2.out _).mono ?_; rintro e w2 ⟨rfl, hb3⟩) | (with_reducible refine wpList_new_set (fun _ => false) f rfl _ _ rfl ?_ ?_ ?_; go_simp; go_simp; go_simp) | (go_at_call 25; with_reducible refine (P3.out _).mono ?_; rintro e w3 ⟨rfl, hb4⟩) | (with_reducible refine wpList_new_let (fun _ => 0) acW rfl _ _ rfl ?_ ?_ ?_; go_simp; go_simp; go_simp))
  have q1 := (((Row.new w1 24 (lc S)).below' hb3).alloc (.cells (sc f) 26)).below' hb4
  have q2 := (Row.new w2 26 (sc f)).below' hb4
  have b1 := hb2.alloc hb2.size (.cells (lc S) 24)
  have b2 := b1.trans (hb3.mono b1.size)
  have b3 := b2.alloc b2.size (.cells (sc f) 26)
  have b4 := b3.trans (hb4.mono b3.size)
  have hb5 := b4.alloc b4.size (.cells (lc acW) 24)
  have q3 := Row.new w3 24 (lc acW)
  have q1 := q1.alloc (.cells (lc acW) 24)
  have q2 := q2.alloc (.cells (lc acW) 24)
  obtain ⟨w4, hw4⟩ : ∃ w4, w4 = w3.alloc (.cells (lc acW) 24) := ⟨_, rfl⟩
  rw [← hw4] at q1 q2 q3 hb5 ⊢
  clear hw4 b1 b2 b3 b4 hb1 hb2 hb3 hb4 hb zs zl
  refine wp_region_later (by kernel_rfl) (by kernel_rfl) ?_
  repeat (first | go_big_quiet_skip | (go_big_quiet_want; first | (with_reducible refine quiet_load_let q1 _ rfl ?_ ?_; go_simp; go_simp; go_big_quiet_on) | (with_reducible refine quiet_load_set q2 _ rfl ?_ ?_; go_simp; go_simp; go_big_quiet_on) | (with_reducible refine quiet_load_let q3 _ rfl ?_ ?_; go_simp; go_simp; go_big_quiet_on) | (go_big_quiet_op; first | go_big_quiet_on | go_big_quiet_call (first | with_reducible exact calls_later (P4.out _) | with_reducible exact calls_later (P5.out _) | with_reducible exact calls_later (P6.out _)))))
  refine wpQuiet_nil ?_
  rintro w5 ⟨u, rfl⟩
  go_wp2
  go_ret
  exact ⟨rfl, hb5.trans ((below_later w4 u).mono hb5.size)⟩

theorem parses_walk (t : ByteArray) (ht : t.size ≤ 140737488355300) (w : World) :
    Calls Try.prog 8 #[.string t] w fun e w' => e = .returned (.bool true) ∧ Below w.heap.size w w' := by
  have h3 : ∀ w, Calls Try.prog 25 #[.string ⟨#[97, 45, 99]⟩] w fun e w' => e = .returned (.tuple #[.agg (lc acW), .nilIface]) ∧ Below w.heap.size w w' := fun w => by
    exact (parse_any ac _ parse_ac w).mono fun e w' ⟨he, hb⟩ => ⟨by rw [he, ac_same], hb⟩
  cases hR : parseS t.size t (fun _ => 0) with
  | none =>
    exact parses_core t (fun _ => 0) (fun _ => false) _ 4 (by rw [bit_none]) zero_small (fun w => parse_any t _ hR w) (fun w => refparse_any t ht _ hR w) h3 (fun w => num_some 4 w) w
  | some S =>
    exact parses_core t S (bit S) _ 0 rfl (parseS_small _ _ _ zero_small hR) (fun w => parse_any t _ hR w) (fun w => refparse_any t ht _ hR w) h3 (fun w => num_nil w) w
end Go.Proofs.Ytcflbpcfmpkolaa
