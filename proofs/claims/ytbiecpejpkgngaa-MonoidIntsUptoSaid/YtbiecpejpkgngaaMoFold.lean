/-
  Package monoid: Fold over values of one cell.
-/
import Derived.Test.YtbiecpejpkgngaaMoJ
namespace Go.Proofs.Ytbiecpejpkgngaa
open Go.RowKit
set_option maxHeartbeats 800000 in
theorem add_fold (A : Option Addr) (n c m : Nat) (z : Nat → Int) (w : World) (hn : n ≤ 140737488355328) (hz : Rd w.heap.size w A n fun k => .int .i64 (z k)) (hs : ∀ k, (mAdd).sz (z k) ≤ m) (hm : m * (n + 1) ≤ 4611686018427387903) :
    Calls Try.prog 12 #[.agg #[], .slice A n c] w fun e w' => e = .returned (.int .i64 (fo mAdd z n)) ∧ Below w.heap.size w w' := by
  have HZ := Lib.hid hz
  have HS := Lib.hid hs
  have HM := Lib.hid hm
  clear hz hs hm
  go_enter Try.func12, Try.ntmps12
  go_wp2_with (go_at_call 66; (with_reducible refine (addUnit _).mono ?_); rintro e w1 ⟨rfl, hb1⟩; have HB1 := Lib.hid hb1; clear hb1)
  have hb0 : Below w.heap.size w w1 := ((Below.refl _ _).alloc (Nat.le_refl _) (.cells #[] 26)).trans (HB1.out.mono (by simp))
  have HR1 := Lib.hid ((Row.new w 26 #[]).below' HB1.out)
  have HB0 := Lib.hid hb0
  clear hb0
  go_loopw [5, 13] (fun r i wr => ∃ k : Nat, k ≤ n ∧ i = .int .i64 k ∧ r = .int .i64 (fo mAdd z k) ∧ Hid (Below w1.heap.size w1 wr)) (fun _ i _ => n - (intOf i).toNat)
  case atStart => exact ⟨0, Nat.zero_le _, rfl, rfl, Lib.hid (Below.refl _ _)⟩
  case round =>
    obtain ⟨k, hk, rfl, rfl, HB⟩ := hrel
    have HR := Lib.hid (HR1.out.below' HB.out)
    by_cases hlt : k < n
    · obtain ⟨b, off, rfl, hbB, hc⟩ := HZ.out.some (k := 0) (by omega)
      have hck : wr.cell? ⟨b, off + k, none⟩ = some (.int .i64 (z k)) := ((HB0.out.trans (HB.out.mono HB0.out.size)).cell (p := ⟨b, off + k, none⟩) hbB).trans (hc k hlt)
      have HJ := Lib.hid (fun u => addJoin (fo mAdd z k) (z k) u (fo_room HS.out HM.out hlt k))
      obtain ⟨f, hf⟩ : ∃ f, fo mAdd z k = f := ⟨_, rfl⟩
      have HF := Lib.hid hf
      rw [hf] at HJ ⊢; clear hf hc
      go_wp2_with (first | ((with_reducible refine wpList_loadR aggAdd HR.out rfl _ rfl ?_ ?_); (go_simp <;> fail); go_simp) | (go_at_call 65; (with_reducible refine (HJ.out _).mono ?_); rintro e w2 ⟨rfl, hb2⟩; have HB2 := Lib.hid hb2; clear hb2))
      go_roundw
      case rel => exact ⟨k + 1, by omega, by go_num, by rw [fo, HF.out], Lib.hid (HB.out.trans (HB2.out.mono HB.out.size))⟩
      case measure => simp [intOf]; try omega
    · obtain rfl : k = n := by omega
      go_wp2
      go_ret
      exact ⟨rfl, HB0.out.trans (HB.out.mono HB0.out.size)⟩
set_option maxHeartbeats 800000 in
theorem max_fold (A : Option Addr) (n c m : Nat) (z : Nat → Int) (w : World) (hn : n ≤ 140737488355328) (hz : Rd w.heap.size w A n fun k => .int .i64 (z k)) (hs : ∀ k, (mMax).sz (z k) ≤ m) (hm : m * (n + 1) ≤ 4611686018427387903) :
    Calls Try.prog 13 #[.agg #[], .slice A n c] w fun e w' => e = .returned (.int .i64 (fo mMax z n)) ∧ Below w.heap.size w w' := by
  have HZ := Lib.hid hz
  have HS := Lib.hid hs
  have HM := Lib.hid hm
  clear hz hs hm
  go_enter Try.func13, Try.ntmps13
  go_wp2_with (go_at_call 68; (with_reducible refine (maxUnit _).mono ?_); rintro e w1 ⟨rfl, hb1⟩; have HB1 := Lib.hid hb1; clear hb1)
  have hb0 : Below w.heap.size w w1 := ((Below.refl _ _).alloc (Nat.le_refl _) (.cells #[] 28)).trans (HB1.out.mono (by simp))
  have HR1 := Lib.hid ((Row.new w 28 #[]).below' HB1.out)
  have HB0 := Lib.hid hb0
  clear hb0
  go_loopw [5, 13] (fun r i wr => ∃ k : Nat, k ≤ n ∧ i = .int .i64 k ∧ r = .int .i64 (fo mMax z k) ∧ Hid (Below w1.heap.size w1 wr)) (fun _ i _ => n - (intOf i).toNat)
  case atStart => exact ⟨0, Nat.zero_le _, rfl, rfl, Lib.hid (Below.refl _ _)⟩
  case round =>
    obtain ⟨k, hk, rfl, rfl, HB⟩ := hrel
    have HR := Lib.hid (HR1.out.below' HB.out)
    by_cases hlt : k < n
    · obtain ⟨b, off, rfl, hbB, hc⟩ := HZ.out.some (k := 0) (by omega)
      have hck : wr.cell? ⟨b, off + k, none⟩ = some (.int .i64 (z k)) := ((HB0.out.trans (HB.out.mono HB0.out.size)).cell (p := ⟨b, off + k, none⟩) hbB).trans (hc k hlt)
      have HJ := Lib.hid (fun u => maxJoin (fo mMax z k) (z k) u (fo_room HS.out HM.out hlt k))
      obtain ⟨f, hf⟩ : ∃ f, fo mMax z k = f := ⟨_, rfl⟩
      have HF := Lib.hid hf
      rw [hf] at HJ ⊢; clear hf hc
      go_wp2_with (first | ((with_reducible refine wpList_loadR aggMax HR.out rfl _ rfl ?_ ?_); (go_simp <;> fail); go_simp) | (go_at_call 67; (with_reducible refine (HJ.out _).mono ?_); rintro e w2 ⟨rfl, hb2⟩; have HB2 := Lib.hid hb2; clear hb2))
      go_roundw
      case rel => exact ⟨k + 1, by omega, by go_num, by rw [fo, HF.out], Lib.hid (HB.out.trans (HB2.out.mono HB.out.size))⟩
      case measure => simp [intOf]; try omega
    · obtain rfl : k = n := by omega
      go_wp2
      go_ret
      exact ⟨rfl, HB0.out.trans (HB.out.mono HB0.out.size)⟩
set_option maxHeartbeats 800000 in
theorem words_fold (A : Option Addr) (n c m : Nat) (z : Nat → ByteArray) (w : World) (hn : n ≤ 140737488355328) (hz : Rd w.heap.size w A n fun k => .string (z k)) (hs : ∀ k, (mWords).sz (z k) ≤ m) (hm : m * (n + 1) ≤ 4611686018427387903) :
    Calls Try.prog 29 #[.agg #[], .slice A n c] w fun e w' => e = .returned (.string (fo mWords z n)) ∧ Below w.heap.size w w' := by
  have HZ := Lib.hid hz
  have HS := Lib.hid hs
  have HM := Lib.hid hm
  clear hz hs hm
  go_enter Try.func29, Try.ntmps29
  go_wp2_with (go_at_call 72; (with_reducible refine (wordsUnit _).mono ?_); rintro e w1 ⟨rfl, hb1⟩; have HB1 := Lib.hid hb1; clear hb1)
  have hb0 : Below w.heap.size w w1 := ((Below.refl _ _).alloc (Nat.le_refl _) (.cells #[] 61)).trans (HB1.out.mono (by simp))
  have HR1 := Lib.hid ((Row.new w 61 #[]).below' HB1.out)
  have HB0 := Lib.hid hb0
  clear hb0
  go_loopw [5, 13] (fun r i wr => ∃ k : Nat, k ≤ n ∧ i = .int .i64 k ∧ r = .string (fo mWords z k) ∧ Hid (Below w1.heap.size w1 wr)) (fun _ i _ => n - (intOf i).toNat)
  case atStart => exact ⟨0, Nat.zero_le _, rfl, rfl, Lib.hid (Below.refl _ _)⟩
  case round =>
    obtain ⟨k, hk, rfl, rfl, HB⟩ := hrel
    have HR := Lib.hid (HR1.out.below' HB.out)
    by_cases hlt : k < n
    · obtain ⟨b, off, rfl, hbB, hc⟩ := HZ.out.some (k := 0) (by omega)
      have hck : wr.cell? ⟨b, off + k, none⟩ = some (.string (z k)) := ((HB0.out.trans (HB.out.mono HB0.out.size)).cell (p := ⟨b, off + k, none⟩) hbB).trans (hc k hlt)
      have HJ := Lib.hid (fun u => wordsJoin (fo mWords z k) (z k) u (fo_room HS.out HM.out hlt k))
      obtain ⟨f, hf⟩ : ∃ f, fo mWords z k = f := ⟨_, rfl⟩
      have HF := Lib.hid hf
      rw [hf] at HJ ⊢; clear hf hc
      go_wp2_with (first | ((with_reducible refine wpList_loadR aggWords HR.out rfl _ rfl ?_ ?_); (go_simp <;> fail); go_simp) | (go_at_call 71; (with_reducible refine (HJ.out _).mono ?_); rintro e w2 ⟨rfl, hb2⟩; have HB2 := Lib.hid hb2; clear hb2))
      go_roundw
      case rel => exact ⟨k + 1, by omega, by go_num, by rw [fo, HF.out], Lib.hid (HB.out.trans (HB2.out.mono HB.out.size))⟩
      case measure => simp [intOf]; try omega
    · obtain rfl : k = n := by omega
      go_wp2
      go_ret
      exact ⟨rfl, HB0.out.trans (HB.out.mono HB0.out.size)⟩
end Go.Proofs.Ytbiecpejpkgngaa
