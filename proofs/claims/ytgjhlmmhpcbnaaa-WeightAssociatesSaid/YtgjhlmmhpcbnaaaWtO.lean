/-
  Package weight: headOf, Count, IndexByte, LastIndexByte, Of, Letter.
-/
import Derived.Test.YtgjhlmmhpcbnaaaWtM
namespace Go.Proofs.Ytgjhlmmhpcbnaaa
open Go.RowKit
def fi (z : Nat → Int) : Nat → Int
  | 0 => -1
  | k + 1 => if fi z k = -1 then (if z k = 10 then (k : Int) else -1) else fi z k
def li (z : Nat → Int) : Nat → Int
  | 0 => -1
  | k + 1 => if z k = 10 then (k : Int) else li z k
def cn (z : Nat → Int) : Nat → Nat
  | 0 => 0
  | k + 1 => cn z k + (if z k = 10 then 1 else 0)
def nums (z : Nat → Int) (n : Nat) : List Int := (List.range n).map z
theorem nums_len (z : Nat → Int) (n : Nat) : (nums z n).length = n := by simp [nums]
theorem nums_at (z : Nat → Int) (n : Nat) {i : Nat} (h : i < n) : (nums z n).getD i 0 = z i := by simp [nums, h]
theorem nums_succ (z : Nat → Int) (n : Nat) : nums z (n + 1) = nums z n ++ [z n] := by unfold nums; rw [List.range_succ, List.map_append]; rfl
theorem indexByte_snoc (b c : UInt8) : ∀ l : List UInt8, Lib.indexByte (l ++ [b]) c = if Lib.indexByte l c = -1 then (if b == c then (l.length : Int) else -1) else Lib.indexByte l c
  | [] => by
    show (if b == c then (0 : Int) else if (-1 : Int) == -1 then -1 else -1 + 1) = if (-1 : Int) = -1 then (if b == c then (0 : Int) else -1) else -1
    rw [if_pos rfl]; rfl
  | a :: l => by
    have h := indexByte_snoc b c l
    have hge := Lib.indexByte_ge l c
    show (if a == c then (0 : Int) else if Lib.indexByte (l ++ [b]) c == -1 then -1 else Lib.indexByte (l ++ [b]) c + 1) = if (if a == c then (0 : Int) else if Lib.indexByte l c == -1 then -1 else Lib.indexByte l c + 1) = -1 then (if b == c then ((l.length + 1 : Nat) : Int) else -1) else (if a == c then (0 : Int) else if Lib.indexByte l c == -1 then -1 else Lib.indexByte l c + 1)
    rw [h]
    obtain ⟨r, hr⟩ : ∃ r, r = Lib.indexByte l c := ⟨_, rfl⟩
    rw [← hr] at hge ⊢
    clear h hr
    cases hac : a == c
    · simp only [Bool.false_eq_true, if_false]
      by_cases h1 : r = -1
      · subst h1
        simp only [if_true, BEq.rfl]
        cases hbc : b == c
        · simp
        · simp only [if_true]
          have h2 : ((l.length : Int) == -1) = false := by
            rw [beq_eq_false_iff_ne]; omega
          rw [h2]; simp
      · have h2 : (r == -1) = false := by simpa using h1
        simp only [h1, h2, if_false, Bool.false_eq_true]
        rw [if_neg (by omega)]
    · simp only [if_true]
      rw [if_neg (by decide)]
theorem byte_ten {x : Int} (h0 : 0 ≤ x) (h1 : x < 256) : (UInt8.ofNat x.toNat == (10 : Int).toNat.toUInt8) = decide (x = 10) := by
  have e : (10 : Int).toNat.toUInt8 = UInt8.ofNat 10 := rfl
  rw [e, Bool.eq_iff_iff, beq_iff_eq, decide_eq_true_iff]
  constructor
  · intro h
    have h2 := congrArg UInt8.toNat h
    rw [UInt8.toNat_ofNat', UInt8.toNat_ofNat'] at h2
    omega
  · rintro rfl; rfl
theorem index_nums {z : Nat → Int} : ∀ {n : Nat}, InB z n → Lib.indexByte (Lib.bytesOf (nums z n)) (10 : Int).toNat.toUInt8 = fi z n
  | 0, _ => rfl
  | n + 1, h => by
    have ih := index_nums (z := z) (n := n) fun k hk => h k (by omega)
    obtain ⟨h0, h1⟩ := h n (by omega)
    rw [nums_succ]
    unfold Lib.bytesOf at ih ⊢
    rw [List.map_append, List.map_singleton, indexByte_snoc, ih, byte_ten h0 h1, List.length_map, nums_len]
    show _ = if fi z n = -1 then (if z n = 10 then (n : Int) else -1) else fi z n
    by_cases e : z n = 10
    · simp [e]
    · simp [e]
theorem count_nums {z : Nat → Int} : ∀ {n : Nat}, InB z n → Lib.countByte (Lib.bytesOf (nums z n)) (10 : Int).toNat.toUInt8 = cn z n
  | 0, _ => rfl
  | n + 1, h => by
    have ih := count_nums (z := z) (n := n) fun k hk => h k (by omega)
    obtain ⟨h0, h1⟩ := h n (by omega)
    rw [nums_succ]
    unfold Lib.bytesOf Lib.countByte at ih ⊢
    rw [List.map_append, List.map_singleton, List.count_append, ih, List.count_singleton, byte_ten h0 h1]
    show _ = cn z n + (if z n = 10 then 1 else 0)
    by_cases e : z n = 10
    · simp [e]
    · simp [e]
theorem fi_in (z : Nat → Int) : ∀ n : Nat, fi z n = -1 ∨ (0 ≤ fi z n ∧ fi z n < n)
  | 0 => .inl rfl
  | n + 1 => by
    have := fi_in z n
    show (if fi z n = -1 then (if z n = 10 then (n : Int) else -1) else fi z n) = -1 ∨ _
    by_cases e : fi z n = -1
    · by_cases e2 : z n = 10
      · right
        show 0 ≤ (if fi z n = -1 then (if z n = 10 then (n : Int) else -1) else fi z n) ∧ (if fi z n = -1 then (if z n = 10 then (n : Int) else -1) else fi z n) < _
        rw [if_pos e, if_pos e2]; omega
      · left; rw [if_pos e, if_neg e2]
    · right
      show 0 ≤ (if fi z n = -1 then (if z n = 10 then (n : Int) else -1) else fi z n) ∧ (if fi z n = -1 then (if z n = 10 then (n : Int) else -1) else fi z n) < _
      rw [if_neg e]; omega
theorem li_in (z : Nat → Int) : ∀ n : Nat, -1 ≤ li z n ∧ li z n < n
  | 0 => ⟨Int.le_refl _, by show (-1 : Int) < 0; omega⟩
  | n + 1 => by
    have := li_in z n
    show -1 ≤ (if z n = 10 then (n : Int) else li z n) ∧ (if z n = 10 then (n : Int) else li z n) < _
    by_cases e : z n = 10
    · rw [if_pos e]; omega
    · rw [if_neg e]; omega
theorem cn_le (z : Nat → Int) : ∀ n : Nat, cn z n ≤ n
  | 0 => Nat.le_refl _
  | n + 1 => by
    have := cn_le z n
    show cn z n + (if z n = 10 then 1 else 0) ≤ _
    split <;> omega
theorem lw_n (c : Int) : (lw c).n = if c = 10 then 1 else 0 := by unfold lw; split <;> rfl
theorem lw_h (c : Int) : (lw c).h = if c = 10 then 0 else 1 := by unfold lw; split <;> rfl
theorem lw_t (c : Int) : (lw c).t = if c = 10 then 0 else 1 := by unfold lw; split <;> rfl
theorem wx_n (z : Nat → Int) : ∀ n : Nat, (wx z n).n = cn z n
  | 0 => rfl
  | n + 1 => by
    show (wx z n).n + (lw (z n)).n = ((cn z n + (if z n = 10 then 1 else 0) : Nat) : Int)
    rw [wx_n z n, lw_n]; split <;> omega
theorem cn_fi (z : Nat → Int) : ∀ n : Nat, cn z n = 0 ↔ fi z n = -1
  | 0 => ⟨fun _ => rfl, fun _ => rfl⟩
  | n + 1 => by
    have ih := cn_fi z n
    show cn z n + (if z n = 10 then 1 else 0) = 0 ↔ (if fi z n = -1 then (if z n = 10 then (n : Int) else -1) else fi z n) = -1
    by_cases e : z n = 10
    · by_cases e2 : fi z n = -1
      · rw [if_pos e, if_pos e, if_pos e2]; omega
      · rw [if_pos e, if_neg e2]; exact ⟨fun h => by omega, fun h => absurd h e2⟩
    · rw [if_neg e, if_neg e, Nat.add_zero, ih]
      by_cases e2 : fi z n = -1
      · rw [if_pos e2]; exact ⟨fun _ => rfl, fun _ => e2⟩
      · rw [if_neg e2]
theorem wx_h (z : Nat → Int) : ∀ n : Nat, (wx z n).h = if fi z n < 0 then (n : Int) else fi z n
  | 0 => rfl
  | n + 1 => by
    have ih := wx_h z n
    have hc := cn_fi z n
    have hf := fi_in z n
    show (if (wx z n).n = 0 then (wx z n).l + (lw (z n)).h else (wx z n).h) = if (if fi z n = -1 then (if z n = 10 then (n : Int) else -1) else fi z n) < 0 then ((n + 1 : Nat) : Int) else (if fi z n = -1 then (if z n = 10 then (n : Int) else -1) else fi z n)
    rw [wx_n, wx_l, lw_h, ih]
    by_cases e2 : fi z n = -1
    · rw [if_pos (by have := hc.2 e2; omega), if_pos e2]
      by_cases e : z n = 10
      · rw [if_pos e, if_pos e, if_neg (by omega)]; omega
      · rw [if_neg e, if_neg e, if_pos (by omega)]; omega
    · rw [if_neg (fun h => e2 (hc.1 (by omega))), if_neg e2, if_neg (by omega), if_neg (by omega)]
theorem wx_t (z : Nat → Int) : ∀ n : Nat, (wx z n).t = (n : Int) - 1 - li z n
  | 0 => rfl
  | n + 1 => by
    have ih := wx_t z n
    show (if (lw (z n)).n = 0 then (lw (z n)).l + (wx z n).t else (lw (z n)).t) = ((n + 1 : Nat) : Int) - 1 - (if z n = 10 then (n : Int) else li z n)
    rw [lw_n, lw_l, lw_t, ih]
    by_cases e : z n = 10
    · rw [if_pos e, if_pos e, if_neg (by decide), if_pos e]; omega
    · rw [if_neg e, if_neg e, if_pos rfl]; omega
theorem wx_eq (z : Nat → Int) (n : Nat) : wx z n = ⟨n, cn z n, if fi z n < 0 then (n : Int) else fi z n, (n : Int) - 1 - li z n, tx z n⟩ :=
  Wt.ext' (wx_l z n) (wx_n z n) (wx_h z n) (wx_t z n) (wx_d z n)

/-! ### The library's functions -/
theorem rd_nums {w : World} {a : Addr} {n : Nat} {z : Nat → Int} (hz : Rd w.heap.size w (some a) n (u8 z)) : ∀ i, i < n → w.cell? (a.add i) = some (.int .u8 ((nums z n).getD i 0)) := fun i hi => by
  obtain ⟨b, off, hA, _, hc⟩ := hz.some hi
  cases hA
  rw [show (⟨b, off, none⟩ : Addr).add i = ⟨b, off + i, none⟩ by unfold Addr.add; split <;> simp_all, hc i hi, nums_at z n hi]; rfl
theorem w_count (A : Option Addr) (n c b2 : Nat) (z : Nat → Int) (w : World) (hA : A = none → n = 0 ∧ c = 0) (hz : Rd w.heap.size w A n (u8 z)) (hb : InB z n) (hc2 : w.cell? ⟨b2, 0, none⟩ = some (.int .u8 10)) :
    Calls Try.prog 27 #[.slice A n c, .slice (some ⟨b2, 0, none⟩) 1 1] w fun e w' => e = .returned (.int .i64 (cn z n : Nat)) ∧ w = w' := by
  cases A with
  | none =>
    obtain ⟨rfl, rfl⟩ := hA rfl
    exact (Try.bytes_Count_one_nil b2 0 1 10 w hc2).mono fun e w' ⟨h1, h2⟩ => ⟨h1, h2.symm⟩
  | some a =>
    refine (Try.bytes_Count_one_at a n c b2 0 1 (nums z n) 10 w (nums_len z n) (rd_nums hz) hc2).mono fun e w' ⟨h1, h2⟩ => ⟨?_, h2.symm⟩
    rw [h1, count_nums hb]
theorem w_first (A : Option Addr) (n c : Nat) (z : Nat → Int) (w : World) (hA : A = none → n = 0 ∧ c = 0) (hz : Rd w.heap.size w A n (u8 z)) (hb : InB z n) :
    Calls Try.prog 46 #[.slice A n c, .int .u8 10] w fun e w' => e = .returned (.int .i64 (fi z n)) ∧ w = w' := by
  cases A with
  | none =>
    obtain ⟨rfl, rfl⟩ := hA rfl
    exact (Try.bytes_IndexByte_nil 10 w).mono fun e w' ⟨h1, h2⟩ => ⟨h1, h2.symm⟩
  | some a =>
    refine (Try.bytes_IndexByte_at a n c (nums z n) 10 w (nums_len z n) (rd_nums hz)).mono fun e w' ⟨h1, h2⟩ => ⟨?_, h2.symm⟩
    rw [h1, index_nums hb]
theorem w_head (A : Option Addr) (n c : Nat) (z : Nat → Int) (w : World) (hA : A = none → n = 0 ∧ c = 0) (hz : Rd w.heap.size w A n (u8 z)) (hb : InB z n) :
    Calls Try.prog 28 #[.slice A n c] w fun e w' => e = .returned (.int .i64 (if fi z n < 0 then (n : Int) else fi z n)) ∧ w = w' := by
  have HF := Lib.hid (w_first A n c z w hA hz hb)
  obtain ⟨f, hf⟩ : ∃ f, f = fi z n := ⟨_, rfl⟩
  rw [← hf] at HF ⊢
  clear hf hz
  by_cases h : f < 0
  · rw [if_pos h]
    go_enter Try.func28, Try.ntmps28
    go_wp2_with (go_at_call 46; with_reducible refine HF.out.mono ?_; rintro e w' ⟨rfl, rfl⟩)
    go_ret
    exact ⟨rfl, rfl⟩
  · rw [if_neg h]
    go_enter Try.func28, Try.ntmps28
    go_wp2_with (go_at_call 46; with_reducible refine HF.out.mono ?_; rintro e w' ⟨rfl, rfl⟩)
    go_ret
    exact ⟨rfl, rfl⟩
theorem w_last0 (A : Option Addr) (n c : Nat) (z : Nat → Int) (w : World) (hn : n ≤ 140737488355328) (hz : Rd w.heap.size w A n (u8 z)) :
    Calls Try.prog 47 #[.slice A n c, .int .u8 10] w fun e w' => e = .returned (.int .i64 (li z n)) ∧ w = w' := by
  obtain ⟨r, hr⟩ : ∃ r, r = li z n := ⟨_, rfl⟩
  rw [← hr]
  have HR := Lib.hid hr
  have HZ := Lib.hid hz
  clear hr hz
  go_enter Try.func47, Try.ntmps47
  go_wp2
  go_loop [5] (fun i => ∃ k : Nat, k ≤ n ∧ i = .int .i64 ((k : Int) - 1) ∧ Hid (r = li z k)) (fun i => (intOf i + 1).toNat)
  case atStart => exact ⟨n, Nat.le_refl _, rfl, HR⟩
  case round =>
    obtain ⟨k, hk, rfl, HK⟩ := hrel
    rcases Nat.eq_zero_or_pos k with rfl | hpos
    · go_wp2
      go_ret
      exact ⟨congrArg (fun x => Ending.returned (.int .i64 x)) HK.out.symm, rfl⟩
    · obtain ⟨j, rfl⟩ : ∃ j, k = j + 1 := ⟨k - 1, by omega⟩
      have hi : (((j + 1 : Nat) : Int) - 1) = (j : Int) := by omega
      rw [hi]
      obtain ⟨b, off, rfl, hbl, hc⟩ := HZ.out.some (show j < n by omega)
      have hcell : w.cell? ⟨b, off + j, none⟩ = some (.int .u8 (z j)) := hc j (by omega)
      have b1 : (0 : Int) ≤ (j : Int) := by omega
      have b2 : (j : Int) < (n : Int) := by omega
      have HST := Lib.hid (show r = if z j = 10 then (j : Int) else li z j from HK.out)
      obtain ⟨x, hx⟩ : ∃ x, x = z j := ⟨_, rfl⟩
      rw [← hx] at hcell HST
      clear hc hi hx HK
      by_cases e : x = 10
      · have HE := Lib.hid (HST.out.trans (if_pos e))
        have e' : (x == 10) = true := by simpa using e
        clear e
        go_wp2
        go_ret
        exact ⟨congrArg (fun x => Ending.returned (.int .i64 x)) HE.out.symm, rfl⟩
      · have HE := Lib.hid (HST.out.trans (if_neg e))
        have e' : (x == 10) = false := by simpa using e
        clear e
        go_wp2
        refine ⟨⟨j, by omega, by go_num, HE⟩, by simp [intOf]; try omega⟩
theorem w_last (A : Option Addr) (n c : Nat) (z : Nat → Int) (w : World) (hn : n ≤ 140737488355328) (hz : Rd w.heap.size w A n (u8 z)) :
    Calls Try.prog 29 #[.slice A n c, .int .u8 10] w fun e w' => e = .returned (.int .i64 (li z n)) ∧ w = w' := by
  have HL := Lib.hid (w_last0 A n c z w hn hz)
  clear hz
  go_enter Try.func29, Try.ntmps29
  go_wp2_with (go_at_call 47; with_reducible refine HL.out.mono ?_; rintro e w' ⟨rfl, rfl⟩)
  go_ret
  exact ⟨rfl, rfl⟩
end Go.Proofs.Ytgjhlmmhpcbnaaa
