/-
  Format of package letterset: the text that it returns for every set.
-/
import Derived.Test.YtcflbpcfmpkolaaFmtL
namespace Go.Proofs.Ytcflbpcfmpkolaa
open Go.Shelf Go.RowKit

/-! ### The plain function -/
def runEnd (p : Nat → Bool) : Nat → Nat → Nat
  | 0, h => h
  | f + 1, h => if p (h + 1) = true then runEnd p f (h + 1) else h
/-- The last letter of the run that h lies in. -/
def re (p : Nat → Bool) (h : Nat) : Nat := runEnd p (255 - h) h
theorem re_step {p : Nat → Bool} {h : Nat} (hh : h < 255) (hp : p (h + 1) = true) : re p h = re p (h + 1) := by
  unfold re
  rw [show 255 - h = 255 - (h + 1) + 1 by omega]
  exact if_pos hp
theorem re_stop {p : Nat → Bool} {h : Nat} (hp : p (h + 1) = false) : re p h = h := by
  unfold re
  cases 255 - h with
  | zero => rfl
  | succ f => exact if_neg (by rw [hp]; decide)
theorem re_last {p : Nat → Bool} {h : Nat} (hh : 255 ≤ h) : re p h = h := by
  unfold re
  rw [show 255 - h = 0 by omega]; rfl
theorem runEnd_facts (p : Nat → Bool) : ∀ f h, h ≤ runEnd p f h ∧ runEnd p f h ≤ h + f ∧ (∀ i, h < i → i ≤ runEnd p f h → p i = true) ∧ (runEnd p f h = h + f ∨ p (runEnd p f h + 1) = false)
  | 0, h => ⟨Nat.le_refl _, Nat.le_refl _, fun i h1 h2 => by simp only [runEnd] at h2; omega, .inl rfl⟩
  | f + 1, h => by
    unfold runEnd
    by_cases hp : p (h + 1) = true
    · rw [if_pos hp]
      obtain ⟨h1, h2, h3, h4⟩ := runEnd_facts p f (h + 1)
      refine ⟨by omega, by omega, fun i hi1 hi2 => ?_, h4.imp (fun e => by omega) id⟩
      rcases Nat.eq_or_lt_of_le hi1 with e | e
      · rw [← e]; exact hp
      · exact h3 i e hi2
    · rw [if_neg hp]
      exact ⟨Nat.le_refl _, by omega, fun i h1 h2 => by omega, .inr (by cases hq : p (h + 1); rfl; exact absurd hq hp)⟩
theorem re_ge (p : Nat → Bool) (h : Nat) : h ≤ re p h := (runEnd_facts p _ h).1
theorem re_le {p : Nat → Bool} {h : Nat} (hh : h ≤ 255) : re p h ≤ 255 := by have := (runEnd_facts p (255 - h) h).2.1; unfold re; omega
theorem re_in {p : Nat → Bool} {h i : Nat} (h1 : h < i) (h2 : i ≤ re p h) : p i = true := (runEnd_facts p _ h).2.2.1 i h1 h2
theorem re_out {p : Nat → Bool} {h : Nat} (hh : h ≤ 255) : re p h = 255 ∨ p (re p h + 1) = false := (runEnd_facts p (255 - h) h).2.2.2.imp (fun e => by unfold re; omega) id

def fmtF (p : Nat → Bool) : Nat → Nat → List UInt8
  | 0, _ => []
  | f + 1, k => if k < 256 then (if p k = true then runB k (re p k) ++ fmtF p f (re p k + 1) else fmtF p f (k + 1)) else []
theorem fmtF_more (p : Nat → Bool) : ∀ f g k, 256 - k ≤ f → 256 - k ≤ g → fmtF p f k = fmtF p g k
  | 0, 0, k, _, _ => rfl
  | 0, g + 1, k, h, _ => by unfold fmtF; rw [if_neg (by omega)]
  | f + 1, 0, k, _, h => by unfold fmtF; rw [if_neg (by omega)]
  | f + 1, g + 1, k, h1, h2 => by
    unfold fmtF
    by_cases hk : k < 256
    · have := re_ge p k
      rw [if_pos hk, if_pos hk, fmtF_more p f g (re p k + 1) (by omega) (by omega), fmtF_more p f g (k + 1) (by omega) (by omega)]
    · rw [if_neg hk, if_neg hk]
/-- The canonical notation of the letters from k on. -/
def fmt (p : Nat → Bool) (k : Nat) : List UInt8 := fmtF p 256 k
theorem fmt_out {p : Nat → Bool} {k : Nat} (hk : k < 256) (hp : p k = false) : fmt p k = fmt p (k + 1) := by
  have e : fmt p k = fmtF p 255 (k + 1) := by unfold fmt; rw [fmtF, if_pos hk, if_neg (by rw [hp]; decide)]
  rw [e]; exact fmtF_more p _ _ _ (by omega) (by omega)
theorem fmt_in {p : Nat → Bool} {k : Nat} (hk : k < 256) (hp : p k = true) : fmt p k = runB k (re p k) ++ fmt p (re p k + 1) := by
  have e : fmt p k = runB k (re p k) ++ fmtF p 255 (re p k + 1) := by unfold fmt; rw [fmtF, if_pos hk, if_pos hp]
  rw [e, fmtF_more p 255 256 _ (by omega) (by omega)]; rfl
theorem fmt_end (p : Nat → Bool) {k : Nat} (hk : 256 ≤ k) : fmt p k = [] := by unfold fmt; rw [fmtF, if_neg (by omega)]
/-- What has been written when the letters below k are through. -/
structure Upto (p : Nat → Bool) (l : List UInt8) (k : Nat) : Prop where
  text : l ++ fmt p k = fmt p 0
  size : l.length ≤ 9 * k
  le : k ≤ 256
theorem Upto.start (p : Nat → Bool) : Upto p [] 0 := ⟨rfl, by simp, by omega⟩
theorem Upto.out {p : Nat → Bool} {l : List UInt8} {k : Nat} (h : Upto p l k) (hk : k < 256) (hp : p k = false) : Upto p l (k + 1) :=
  ⟨by rw [← fmt_out hk hp]; exact h.text, by have := h.size; omega, hk⟩
theorem Upto.in {p : Nat → Bool} {l : List UInt8} {k : Nat} (h : Upto p l k) (hk : k < 256) (hp : p k = true) : Upto p (l ++ runB k (re p k)) (re p k + 1) :=
  ⟨by rw [List.append_assoc, ← fmt_in hk hp]; exact h.text, by have := h.size; have := runB_le k (re p k); have := re_ge p k; rw [List.length_append]; omega, by have := re_le (p := p) (show k ≤ 255 by omega); omega⟩
theorem Upto.done {p : Nat → Bool} {l : List UInt8} (h : Upto p l 256) : l = fmt p 0 := by
  have := h.text
  rwa [fmt_end p (Nat.le_refl _), List.append_nil] at this

theorem left256_lt' {k h : Nat} {i : Int} (hk : k < 256) (hh : k ≤ h) (e : i = (h : Int) + 1) : left256 (.int .i64 i) < left256 (.int .i64 k) := by
  subst e; unfold left256 intOf; dsimp only; omega

theorem wpList_load_let_g {ops : Array Oper} {rest : List Oper} {o : Oper} {a : Act} {w : World} {Q : Exit → Act → World → Prop} {g : Nat} {t : TypeId} {s : Nat → Nat} (hr : Row w g t (lc s)) (hw : Region.wanted o (yielded ops a.tmps) = true) (x : Operand) (ho : o.op = .load 24 x) (hx : a.eval x = .pointer (some ⟨g, 0, none⟩))
    (h : wpList Try.prog ops Q rest (a.put o.dst (.agg (lc s))) w) : wpList Try.prog ops Q (o :: rest) a w :=
  wpList_step fun K hK => by rw [if_pos hw]; exact wp_load_let hr x ho hx (hK _ _ h)

def FmtRel (s : Nat → Nat) (w w1 : World) (b : Nat) (i : Value) (wr : World) : Prop :=
  ∃ (k : Nat) (l : List UInt8), i = .int .i64 k ∧ Upto (bit s) l k ∧ Wr b b w1 l wr ∧ Row wr w.heap.size 24 (lc s)

set_option maxRecDepth 100000 in
set_option maxHeartbeats 1000000 in
theorem format_any (s : Nat → Nat) (hs : Small s) (w : World) :
    Calls Try.prog 28 #[.agg (lc s)] w fun e w' => e = .returned (.string ⟨(fmt (bit s) 0).toArray⟩) ∧ Below w.heap.size w w' := by
  obtain ⟨w1, hw1⟩ : ∃ w1, w1 = w.alloc (.cells (lc s) 24) := ⟨_, rfl⟩
  have hb1 : Below w.heap.size w w1 := by rw [hw1]; exact (Below.refl _ w).alloc (Nat.le_refl _) _
  have hz : w1.heap.size = w.heap.size + 1 := by rw [hw1]; simp
  have r0 : Row w1 w.heap.size 24 (lc s) := by rw [hw1]; exact Row.new _ _ _
  have HS := Lib.hid hs
  have HZ := Lib.hid hz
  clear hs hz
  go_enter Try.func28, Try.ntmps28
  go_wp2
  rw [← hw1]
  obtain ⟨b, hb⟩ : ∃ b, w.heap.size + 1 = b := ⟨_, rfl⟩
  rw [hb] at HZ ⊢
  have hB := Lib.hid hb
  clear hw1 hb
  go_loopw [4] (fun i wr => FmtRel s w w1 b i wr) (fun i _ => left256 i)
  case atStart =>
    exact ⟨0, [], rfl, Upto.start _, ⟨by have := Build.new w1; rwa [HZ.out] at this, (Below.refl _ w1).alloc (by rw [HZ.out]; exact Nat.le_refl _) _, by rw [HZ.out]; exact Nat.le_refl _⟩, r0.alloc _⟩
  case round =>
    obtain ⟨k, l, rfl, HU, hW, q0⟩ := hrel
    have HR0 := Lib.hid r0
    clear r0
    by_cases hlt : (k : Int) < 256
    · have HK := Lib.hid hlt
      cases hp : bit s k
      · have hasc := Lib.hid (has_any s k HS.out (by omega) wr)
        rw [hp] at hasc
        go_wp2_with (first | ((with_reducible refine wpList_load_let q0 rfl _ rfl ?_ ?_); go_simp; go_simp) | (go_at_call 12; (with_reducible refine hasc.out.mono ?_); rintro e w2 ⟨rfl, hb2⟩))
        exact ⟨⟨k + 1, l, by simp, HU.out (by omega) hp, hW.later hb2, q0.below' hb2⟩, left256_lt (by omega) rfl⟩
      · have hasc := Lib.hid (has_any s k HS.out (by omega) wr)
        rw [hp] at hasc
        have HU' := Lib.hid HU
        have Hp := Lib.hid hp
        clear HU hp
        go_wp2_with (first | ((with_reducible refine wpList_load_let q0 rfl _ rfl ?_ ?_); go_simp; go_simp) | (go_at_call 12; (with_reducible refine hasc.out.mono ?_); rintro e w2 ⟨rfl, hb2⟩))
        go_loopw [5] (fun i wr => ∃ h : Nat, i = .int .i64 h ∧ k ≤ h ∧ h ≤ 255 ∧ Hid (re (bit s) h = re (bit s) k) ∧ Wr b b w1 l wr ∧ Row wr w.heap.size 24 (lc s)) (fun i _ => left256 i)
        case atStart => exact ⟨k, rfl, Nat.le_refl _, by omega, Lib.hid rfl, hW.later hb2, q0.below' hb2⟩
        case round =>
          clear hW q0 hasc hb2
          obtain ⟨h, rfl, hkh, hh, HR, hW3, q3⟩ := hrel
          have hsz := Lib.hid HU'.out.size
          by_cases hh5 : (h : Int) < 255
          · cases hp1 : bit s (h + 1)
            · have he := Lib.hid (show re (bit s) k = h by rw [← HR.out]; exact re_stop hp1)
              have hasc1 := Lib.hid (has_any s (h + 1) HS.out (by omega) wr)
              rw [hp1, show ((h + 1 : Nat) : Int) = (h : Int) + 1 by omega] at hasc1
              go_wp2_with (first | ((with_reducible refine wpList_load_let_g q3 ?_ _ rfl ?_ ?_); (first | rfl | (go_simp <;> fail)); (go_simp <;> fail); go_simp) | (go_at_call 12; (with_reducible refine hasc1.out.mono ?_); rintro e w4 ⟨rfl, hb4⟩; have hW4 := hW3.later hb4; have q4 := q3.below' hb4) | (go_at_call 34; (with_reducible refine (writeRun_any hW4 k h hkh ?_ ?_).mono ?_); omega; (have := hsz.out; omega); rintro e w5 ⟨rfl, hW5⟩))
              exact ⟨⟨h + 1, l ++ runB k h, by simp, by have := HU'.out.in (by omega) Hp.out; rwa [he.out] at this, hW5, HR0.out.below hW5.below (by have := hB.out; omega)⟩, left256_lt' (k := k) (h := h) (by omega) hkh rfl⟩
            · have hasc1 := Lib.hid (has_any s (h + 1) HS.out (by omega) wr)
              rw [hp1, show ((h + 1 : Nat) : Int) = (h : Int) + 1 by omega] at hasc1
              go_wp2_with (first | ((with_reducible refine wpList_load_let_g q3 ?_ _ rfl ?_ ?_); (first | rfl | (go_simp <;> fail)); (go_simp <;> fail); go_simp) | (go_at_call 12; (with_reducible refine hasc1.out.mono ?_); rintro e w4 ⟨rfl, hb4⟩; have hW4 := hW3.later hb4; have q4 := q3.below' hb4) | (go_at_call 34; (with_reducible refine (writeRun_any hW4 k h hkh ?_ ?_).mono ?_); omega; (have := hsz.out; omega); rintro e w5 ⟨rfl, hW5⟩))
              exact ⟨⟨h + 1, by simp, by omega, by omega, Lib.hid (by rw [← HR.out]; exact (re_step (by omega) hp1).symm), hW4, q4⟩, left256_lt (by omega) rfl⟩
          · have he := Lib.hid (show re (bit s) k = h by rw [← HR.out]; exact re_last (by omega))
            go_wp2_with (first | ((with_reducible refine wpList_load_let_g q3 ?_ _ rfl ?_ ?_); (first | rfl | (go_simp <;> fail)); (go_simp <;> fail); go_simp) | (go_at_call 12; (with_reducible refine hasc1.out.mono ?_); rintro e w4 ⟨rfl, hb4⟩; have hW4 := hW3.later hb4; have q4 := q3.below' hb4) | (go_at_call 34; (with_reducible refine (writeRun_any hW3 k h hkh ?_ ?_).mono ?_); omega; (have := hsz.out; omega); rintro e w5 ⟨rfl, hW5⟩))
            exact ⟨⟨h + 1, l ++ runB k h, by simp, by have := HU'.out.in (by omega) Hp.out; rwa [he.out] at this, hW5, HR0.out.below hW5.below (by have := hB.out; omega)⟩, left256_lt' (k := k) (h := h) (by omega) hkh rfl⟩
    · obtain rfl : k = 256 := by have := HU.le; omega
      have hl := Lib.hid HU.done
      clear HU
      go_wp2_with (go_at_call 35; refine (build_string b _ _ _ hW.build hW.size).mono ?_; rintro e w2 ⟨rfl, _, hb2⟩)
      go_ret
      have hwb : w.heap.size ≤ b := by have := hB.out; omega
      refine ⟨?_, hb1.trans ((hW.below.trans hb2).mono hwb)⟩
      rw [← hl.out]; rfl
end Go.Proofs.Ytcflbpcfmpkolaa
