/-
  Package letterset: the walk of the statement LettersetMakes.
-/
import Derived.Test.YtcflbpcfmpkolaaLsD
namespace Go.Proofs.Ytcflbpcfmpkolaa
open Go.RowKit

/-- A slice of n bytes, nil or not, that reads z 0 .. z (n-1) in the world w. -/
def Bytes (w : World) (A : Option Addr) (n : Nat) (z : Nat → Nat) : Prop :=
  n = 0 ∨ ∃ b off, A = some ⟨b, off, none⟩ ∧ n ≤ 9223372036854775807 ∧ (∀ k, k < n → z k < 256) ∧ ∀ k, k < n → w.cell? ⟨b, off + k, none⟩ = some (.int .u8 (z k : Nat))
theorem Bytes.below {w w' : World} {A : Option Addr} {n : Nat} {z : Nat → Nat} (h : Bytes w A n z) (hb : Below w.heap.size w w') : Bytes w' A n z := by
  rcases h with h | ⟨b, off, rfl, hn, hz, hc⟩
  · exact .inl h
  · exact .inr ⟨b, off, rfl, hn, hz, fun k hk => by
      have := block_lt_of_cell (hc k hk)
      rw [hb.cell this]; exact hc k hk⟩
theorem Bytes.len {w : World} {A : Option Addr} {n : Nat} {z : Nat → Nat} (h : Bytes w A n z) : n ≤ 9223372036854775807 := by
  rcases h with rfl | ⟨_, _, _, h, _⟩ <;> omega
theorem Bytes.at {w : World} {A : Option Addr} {n : Nat} {z : Nat → Nat} (h : Bytes w A n z) {k : Nat} (hk : k < n) : ∃ b off, A = some ⟨b, off, none⟩ ∧ z k < 256 ∧ w.cell? ⟨b, off + k, none⟩ = some (.int .u8 (z k : Nat)) := by
  rcases h with rfl | ⟨b, off, h1, _, h2, h3⟩
  · omega
  · exact ⟨b, off, h1, h2 k hk, h3 k hk⟩
theorem of_any {w : World} {A : Option Addr} {n : Nat} {z : Nat → Nat} (h : Bytes w A n z) (c : Nat) :
    Calls Try.prog 16 #[.slice A n c] w fun e w' => e = .returned (.agg (lc (ofW z n))) ∧ Below w.heap.size w w' := by
  rcases h with rfl | ⟨b, off, rfl, hn, hz, hc⟩
  · exact of_none A c w
  · exact of_some b off n c z w hn hz hc

theorem bit_put_sc (s : Nat → Nat) (k : Nat) : (fun j => if j = k then true else bit s j) = bit (put s k) := by
  funext j; rw [bit_put]
  by_cases h : j = k
  · rw [if_pos h, decide_eq_true h]; rfl
  · rw [if_neg h, decide_eq_false h]; rfl
/-- What the statement has laid down of the range before letter k. -/
def rangeTo (lo hi k : Nat) : Nat → Bool := fun j => decide (j < k) && (decide (lo ≤ j) && decide (j ≤ hi))
theorem rangeTo_zero (lo hi : Nat) : rangeTo lo hi 0 = fun _ => false := by funext j; simp [rangeTo]
theorem rangeTo_step (lo hi k : Nat) : (fun j => if j = k then (decide (lo ≤ k) && decide (k ≤ hi)) else rangeTo lo hi k j) = rangeTo lo hi (k + 1) := by
  funext j; unfold rangeTo
  by_cases h : j = k
  · subst h; simp
  · rw [if_neg h]; congr 1; apply decide_eq_decide.2; omega
theorem bit_range (lo : Nat) : ∀ m x, bit (ofW (fun i => lo + i) m) x = decide (lo ≤ x ∧ x < lo + m)
  | 0, x => by rw [ofW, bit_zero, decide_eq_false (by omega)]
  | m + 1, x => by
    rw [ofW, bit_put, bit_range lo m x]
    by_cases h : x = lo + m
    · rw [decide_eq_true h, decide_eq_true (show lo ≤ x ∧ x < lo + (m + 1) by omega)]; rfl
    · rw [decide_eq_false h, Bool.false_or]; apply decide_eq_decide.2; omega
theorem rangeTo_all (lo hi : Nat) (hh : hi < 256) : sc (rangeTo lo hi 256) = sc (bit (ofW (fun i => lo + i) (hi + 1 - lo))) := sc_congr fun x hx => by
  rw [bit_range]; unfold rangeTo
  rw [decide_eq_true hx, Bool.true_and, ← Bool.decide_and]; apply decide_eq_decide.2; omega

def MakesRel (z : Nat → Nat) (A : Option Addr) (n : Nat) (w : World) (i : Value) (wr : World) : Prop :=
  ∃ k : Nat, k ≤ n ∧ i = .int .i64 k ∧ Row wr w.heap.size 26 (sc (bit (ofW z k))) ∧ Row wr (w.heap.size + 1) 26 (sc fun _ => false) ∧ Bytes wr A n z ∧ Below w.heap.size w wr
def MakesRel2 (z : Nat → Nat) (A : Option Addr) (n lo hi : Nat) (w : World) (i : Value) (wr : World) : Prop :=
  ∃ k : Nat, k ≤ 256 ∧ i = .int .i64 k ∧ Row wr w.heap.size 26 (sc (bit (ofW z n))) ∧ Row wr (w.heap.size + 1) 26 (sc (rangeTo lo hi k)) ∧ Bytes wr A n z ∧ Below w.heap.size w wr

set_option maxHeartbeats 1000000 in
theorem makes_walk (A : Option Addr) (n c : Nat) (z : Nat → Nat) (lo hi : Nat) (hl : lo < 256) (hh : hi < 256) (w : World) (h : Bytes w A n z) :
    Calls Try.prog 4 #[.slice A n c, .int .u8 lo, .int .u8 hi] w fun e w' => e = .returned (.bool true) ∧ Below w.heap.size w w' := by
  have zs := zero_set
  have hn := h.len
  go_enter Try.func4, Try.ntmps4
  go_wp2
  go_loopw [14] (fun i wr => MakesRel z A n w i wr) (fun i _ => n - (intOf i).toNat)
  case atStart =>
    unfold MakesRel
    have b := ((Below.refl w.heap.size w).alloc (Nat.le_refl _) (Obj.cells (sc fun _ => false) 26)).alloc (by simp) (Obj.cells (sc fun _ => false) 26)
    have r0 := (Row.new w 26 (sc fun _ => false)).alloc (Obj.cells (sc fun _ => false) 26)
    have r1 := Row.new (w.alloc (Obj.cells (sc fun _ => false) 26)) 26 (sc fun _ => false)
    have e : bit (ofW z 0) = fun _ => false := by funext x; exact bit_zero x
    exact ⟨0, by omega, rfl, by rw [e]; exact r0, by simpa using r1, h.below b, b⟩
  case round =>
    obtain ⟨k, hk, rfl, r0, r1, hs, hb⟩ := hrel
    have HK := Lib.hid hk
    have HR := Lib.hid (And.intro r0 (And.intro r1 hs))
    clear hk zs
    by_cases hlt : (k : Int) < (n : Int)
    · obtain ⟨b, off, rfl, hz, hcell⟩ := hs.at (show k < n by omega)
      obtain ⟨x, hx⟩ : ∃ x, x = z k := ⟨_, rfl⟩
      rw [← hx] at hz hcell
      have hc1 : wr.cell? ⟨w.heap.size, x, none⟩ = some (.bool (bit (ofW z k) x)) := by rw [r0.cell, sc_at _ hz]
      have hf := r0.frozen x
      have HX := Lib.hid hx
      clear hx r0 r1 hs
      go_wp2
      go_roundw
      case rel =>
        unfold MakesRel
        have hb' := hb.setCell (p := ⟨w.heap.size, x, none⟩) (Nat.le_refl _) (.bool true)
        refine ⟨k + 1, by omega, by go_num, ?_, HR.out.2.1.far (by simp) _, h.below hb', hb'⟩
        have := (HR.out.1.set x (.bool true)).congr (sc_set _ _ _)
        rw [bit_put_sc] at this
        rw [show ofW z (k + 1) = put (ofW z k) x by rw [HX.out]; rfl]; exact this
      case measure => simp [intOf]; omega
    · have e : k = n := by have := HK.out; omega
      rw [e] at r0
      have HR0 := Lib.hid r0
      clear e r0 r1
      have zs := zero_set
      go_wp2
      go_loopw [11] (fun i wr => MakesRel2 z A n lo hi w i wr) (fun i _ => left256 i)
      case atStart => unfold MakesRel2; exact ⟨0, by omega, rfl, HR0.out, by rw [rangeTo_zero]; exact HR.out.2.1, hs, hb⟩
      case round =>
        obtain ⟨k, hk, rfl, r0, r1, hs, hb⟩ := hrel
        have HK := Lib.hid hk
        have HR := Lib.hid (And.intro r0 (And.intro r1 hs))
        clear hk zs
        by_cases hlt : (k : Int) < 256
        · have hc1 : wr.cell? ⟨w.heap.size + 1, k, none⟩ = some (.bool (rangeTo lo hi k k)) := by rw [r1.cell, sc_at _ (by omega)]
          have hf := r1.frozen k
          clear r0 r1 hs
          by_cases h1 : (lo : Int) ≤ (k : Int)
          · by_cases h2 : (k : Int) ≤ (hi : Int)
            · go_wp2
              go_roundw
              case rel =>
                unfold MakesRel2
                have hb' := hb.setCell (p := ⟨w.heap.size + 1, k, none⟩) (by simp) (.bool true)
                refine ⟨k + 1, by have := HK.out; omega, by go_num, HR.out.1.far (by simp) _, ?_, h.below hb', hb'⟩
                have := (HR.out.2.1.set k (.bool true)).congr (sc_set _ _ _)
                rw [← rangeTo_step, show (decide (lo ≤ k) && decide (k ≤ hi)) = true by simp; omega]
                exact this
              case measure => exact left256_lt (by omega) rfl
            · go_wp2
              go_roundw
              case rel =>
                unfold MakesRel2
                have hb' := hb.setCell (p := ⟨w.heap.size + 1, k, none⟩) (by simp) (.bool false)
                refine ⟨k + 1, by have := HK.out; omega, by go_num, HR.out.1.far (by simp) _, ?_, h.below hb', hb'⟩
                have := (HR.out.2.1.set k (.bool false)).congr (sc_set _ _ _)
                rw [← rangeTo_step, show (decide (lo ≤ k) && decide (k ≤ hi)) = false by simp; omega]
                exact this
              case measure => exact left256_lt (by omega) rfl
          · go_wp2
            go_roundw
            case rel =>
              unfold MakesRel2
              have hb' := hb.setCell (p := ⟨w.heap.size + 1, k, none⟩) (by simp) (.bool false)
              refine ⟨k + 1, by have := HK.out; omega, by go_num, HR.out.1.far (by simp) _, ?_, h.below hb', hb'⟩
              have := (HR.out.2.1.set k (.bool false)).congr (sc_set _ _ _)
              rw [← rangeTo_step, show (decide (lo ≤ k) && decide (k ≤ hi)) = false by simp; omega]
              exact this
            case measure => exact left256_lt (by omega) rfl
        · have e : k = 256 := by have := HK.out; omega
          have q1 := r1
          rw [e, rangeTo_all lo hi hh] at q1
          have ha := Lib.hid alive_true
          have ho := Lib.hid (fun u => of_any (hs.below (below_later wr u)) c)
          have h1 := Lib.hid (fun w => refof_any (ofW z n) (ofW_small z n) w)
          have hbt := Lib.hid (fun w => between_any lo hi hl hh w)
          have h2 := Lib.hid (fun w => refof_any (ofW (fun i => lo + i) (hi + 1 - lo)) (ofW_small _ _) w)
          obtain ⟨S, hS⟩ : ∃ S, S = ofW z n := ⟨_, rfl⟩
          obtain ⟨T, hT⟩ : ∃ T, T = ofW (fun i => lo + i) (hi + 1 - lo) := ⟨_, rfl⟩
          rw [← hS] at ho h1 r0
          rw [← hT] at hbt h2 q1
          have gs := guard_set
          have es := equal_set
          clear e hS hT r1 hs HR
          go_wp2
          refine wp_region_later (by kernel_rfl) (by kernel_rfl) ?_
          repeat (first | go_big_quiet_skip | (go_big_quiet_want; first | (with_reducible refine quiet_load_set r0 _ rfl ?_ ?_; go_simp; go_simp; go_big_quiet_on) | (with_reducible refine quiet_load_set q1 _ rfl ?_ ?_; go_simp; go_simp; go_big_quiet_on) | (go_big_quiet_op; first | go_big_quiet_on | go_big_quiet_call (first | with_reducible exact calls_later (ha.out _) | with_reducible exact calls_later (ho.out _) | with_reducible exact calls_later (h1.out _) | with_reducible exact calls_later (hbt.out _) | with_reducible exact calls_later (h2.out _)))))
          refine wpQuiet_nil ?_
          rintro w4 ⟨u, rfl⟩
          go_wp2
          go_ret
          exact ⟨rfl, hb.trans ((below_later wr u).mono hb.size)⟩
end Go.Proofs.Ytcflbpcfmpkolaa
