/-
  The reference's Format.
-/
import Derived.Test.YtcflbpcfmpkolaaFmtR
namespace Go.Proofs.Ytcflbpcfmpkolaa
open Go.Shelf Go.RowKit

def FmtRRel (f : Nat → Bool) (w : World) (o i : Value) (wr : World) : Prop :=
  ∃ (k : Nat) (l : List UInt8), o = .string ⟨l.toArray⟩ ∧ i = .int .i64 k ∧ Upto f l k ∧ Row wr w.heap.size 26 (sc f) ∧ Below w.heap.size w wr

set_option maxRecDepth 100000 in
set_option maxHeartbeats 1000000 in
theorem refformat_any (f : Nat → Bool) (w : World) :
    Calls Try.prog 29 #[.agg (sc f)] w fun e w' => e = .returned (.string ⟨(fmt f 0).toArray⟩) ∧ Below w.heap.size w w' := by
  have hb0 := (Below.refl w.heap.size w).alloc (Nat.le_refl _) (Obj.cells (sc f) 26)
  have r0 := Row.new w 26 (sc f)
  go_enter Try.func29, Try.ntmps29
  go_wp2
  go_loopw [3, 4] (fun o i wr => FmtRRel f w o i wr) (fun _ i _ => left256 i)
  case atStart => exact ⟨0, [], rfl, rfl, Upto.start _, r0, hb0⟩
  case round =>
    obtain ⟨k, l, rfl, rfl, HU, q0, hb⟩ := hrel
    clear r0 hb0
    by_cases hlt : (k : Int) < 256
    · have hc : wr.cell? ⟨w.heap.size, k, none⟩ = some (.bool (f k)) := by rw [q0.cell, sc_at _ (by omega)]
      cases hp : f k
      · rw [hp] at hc
        have HU' := Lib.hid (HU.out (by omega) hp)
        clear HU hp
        go_wp2
        exact ⟨⟨k + 1, l, rfl, by simp, HU'.out, q0, hb⟩, left256_lt (by omega) rfl⟩
      · rw [hp] at hc
        have HU' := Lib.hid HU
        have Hp := Lib.hid hp
        clear HU hp
        go_wp2
        go_loopw [5] (fun i wr => ∃ h : Nat, i = .int .i64 h ∧ k ≤ h ∧ h ≤ 255 ∧ Hid (re f h = re f k) ∧ Row wr w.heap.size 26 (sc f) ∧ Below w.heap.size w wr) (fun i _ => left256 i)
        case atStart => exact ⟨k, rfl, Nat.le_refl _, by omega, Lib.hid rfl, q0, hb⟩
        case round =>
          clear q0 hb hc
          obtain ⟨h, rfl, hkh, hh, HR, q0, hb⟩ := hrel
          by_cases hh5 : (h : Int) < 255
          · have hc : wr.cell? ⟨w.heap.size, h + 1, none⟩ = some (.bool (f (h + 1))) := by rw [q0.cell, sc_at _ (by omega)]
            cases hp1 : f (h + 1)
            · rw [hp1] at hc
              have he := Lib.hid (show re f k = h by rw [← HR.out]; exact re_stop hp1)
              go_wp2_with (first | (go_at_call 36; (with_reducible refine (refletter_any k ?_ _).mono ?_); omega; rintro e w2 ⟨rfl, hb2⟩; have q0 := q0.below' hb2; have hb := hb.trans (hb2.mono hb.size)) | (go_at_call 36; (with_reducible refine (refletter_any h ?_ _).mono ?_); omega; rintro e w3 ⟨rfl, hb3⟩; have q0 := q0.below' hb3; have hb := hb.trans (hb3.mono hb.size)))
              all_goals first
                | exact ⟨⟨h + 1, l ++ runB k h, by unfold runB; simp only [cat_bytes]; (repeat (first | rw [if_pos (by omega)] | rw [if_neg (by omega)])); simp, by simp, by have := HU'.out.in (by omega) Hp.out; rwa [he.out] at this, by assumption, by assumption⟩, left256_lt' (k := k) (h := h) (by omega) hkh rfl⟩
                | (exfalso; have := HU'.out.size; have := letB_le k; have := letB_le h; omega)
            · rw [hp1] at hc
              go_wp2_with (first | (go_at_call 36; (with_reducible refine (refletter_any k ?_ _).mono ?_); omega; rintro e w2 ⟨rfl, hb2⟩; have q0 := q0.below' hb2; have hb := hb.trans (hb2.mono hb.size)) | (go_at_call 36; (with_reducible refine (refletter_any h ?_ _).mono ?_); omega; rintro e w3 ⟨rfl, hb3⟩; have q0 := q0.below' hb3; have hb := hb.trans (hb3.mono hb.size)))
              exact ⟨⟨h + 1, by simp, by omega, by omega, Lib.hid (by rw [← HR.out]; exact (re_step (by omega) hp1).symm), q0, hb⟩, left256_lt (by omega) rfl⟩
          · have he := Lib.hid (show re f k = h by rw [← HR.out]; exact re_last (by omega))
            go_wp2_with (first | (go_at_call 36; (with_reducible refine (refletter_any k ?_ _).mono ?_); omega; rintro e w2 ⟨rfl, hb2⟩; have q0 := q0.below' hb2; have hb := hb.trans (hb2.mono hb.size)) | (go_at_call 36; (with_reducible refine (refletter_any h ?_ _).mono ?_); omega; rintro e w3 ⟨rfl, hb3⟩; have q0 := q0.below' hb3; have hb := hb.trans (hb3.mono hb.size)))
            all_goals first
              | exact ⟨⟨h + 1, l ++ runB k h, by unfold runB; simp only [cat_bytes]; (repeat (first | rw [if_pos (by omega)] | rw [if_neg (by omega)])); simp, by simp, by have := HU'.out.in (by omega) Hp.out; rwa [he.out] at this, by assumption, by assumption⟩, left256_lt' (k := k) (h := h) (by omega) hkh rfl⟩
              | (exfalso; have := HU'.out.size; have := letB_le k; have := letB_le h; omega)
    · obtain rfl : k = 256 := by have := HU.le; omega
      have hl := Lib.hid HU.done
      clear HU
      go_wp2
      go_ret
      refine ⟨?_, hb⟩
      rw [← hl.out]; rfl
end Go.Proofs.Ytcflbpcfmpkolaa
