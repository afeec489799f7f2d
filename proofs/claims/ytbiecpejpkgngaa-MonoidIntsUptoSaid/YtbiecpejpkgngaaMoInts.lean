/-
  MonoidInts: the walk.
-/
import Derived.Test.YtbiecpejpkgngaaMoPairs
import Derived.Test.YtbiecpejpkgngaaMoFold
import Derived.Test.YtbiecpejpkgngaaMoAwake
import Derived.OwnWalk
import Derived.Deep.AppendLies
namespace Go.Proofs.Ytbiecpejpkgngaa
open Go.RowKit
set_option maxHeartbeats 800000 in
theorem refSum (A : Option Addr) (n c : Nat) (z : Nat → Int) (w : World) (hn : n ≤ 140737488355328) (hz : Rd w.heap.size w A n fun k => .int .i64 (z k)) :
    Calls Try.prog 14 #[.slice A n c] w fun e w' => e = .returned (.int .i64 (fo mAdd z n)) ∧ w = w' := by
  have HZ := Lib.hid hz
  clear hz
  go_enter Try.func14, Try.ntmps14
  go_wp2
  go_loop [3, 7] (fun r i => ∃ k : Nat, k ≤ n ∧ i = .int .i64 k ∧ r = .int .i64 (fo mAdd z k)) (fun _ i => n - (intOf i).toNat)
  case atStart => exact ⟨0, Nat.zero_le _, rfl, rfl⟩
  case round =>
    obtain ⟨k, hk, rfl, rfl⟩ := hrel
    by_cases hlt : k < n
    · obtain ⟨b, off, rfl, hbB, hc⟩ := HZ.out.some (k := 0) (by omega)
      obtain ⟨f, hf⟩ : ∃ f, fo mAdd z k = f := ⟨_, rfl⟩
      obtain ⟨x, hx⟩ : ∃ x, z k = x := ⟨_, rfl⟩
      have hck : w.cell? ⟨b, off + k, none⟩ = some (.int .i64 x) := by rw [hc k hlt, hx]
      have HF := Lib.hid (show fo mAdd z (k + 1) = wrap64 (f + x) by rw [← hf, ← hx]; rfl)
      rw [hf]
      clear hf hc hx
      go_wp2
      go_round
      case rel => exact ⟨k + 1, by omega, by go_num, by rw [HF.out]⟩
      case measure => simp [intOf]; try omega
    · obtain rfl : k = n := by omega
      go_wp2
      go_ret
      exact ⟨rfl, rfl⟩
set_option maxHeartbeats 800000 in
theorem refGreatest (A : Option Addr) (n c : Nat) (z : Nat → Int) (w : World) (hn : n ≤ 140737488355328) (hz : Rd w.heap.size w A n fun k => .int .i64 (z k)) :
    Calls Try.prog 15 #[.slice A n c] w fun e w' => e = .returned (.int .i64 (fo mMax z n)) ∧ w = w' := by
  have HZ := Lib.hid hz
  clear hz
  go_enter Try.func15, Try.ntmps15
  go_wp2
  go_loop [3, 7] (fun r i => ∃ k : Nat, k ≤ n ∧ i = .int .i64 k ∧ r = .int .i64 (fo mMax z k)) (fun _ i => n - (intOf i).toNat)
  case atStart => exact ⟨0, Nat.zero_le _, rfl, rfl⟩
  case round =>
    obtain ⟨k, hk, rfl, rfl⟩ := hrel
    by_cases hlt : k < n
    · obtain ⟨b, off, rfl, hbB, hc⟩ := HZ.out.some (k := 0) (by omega)
      obtain ⟨f, hf⟩ : ∃ f, fo mMax z k = f := ⟨_, rfl⟩
      obtain ⟨x, hx⟩ : ∃ x, z k = x := ⟨_, rfl⟩
      have hck : w.cell? ⟨b, off + k, none⟩ = some (.int .i64 x) := by rw [hc k hlt, hx]
      have HF := Lib.hid (show fo mMax z (k + 1) = max f x by rw [← hf, ← hx]; rfl)
      rw [hf]
      clear hf hc hx
      by_cases hfx : f < x
      · have HM := Lib.hid (show max f x = x by omega)
        go_wp2
        go_round
        case rel => exact ⟨k + 1, by omega, by go_num, by rw [HF.out, HM.out]⟩
        case measure => simp [intOf]; try omega
      · have HM := Lib.hid (show max f x = f by omega)
        go_wp2
        go_round
        case rel => exact ⟨k + 1, by omega, by go_num, by rw [HF.out, HM.out]⟩
        case measure => simp [intOf]; try omega
    · obtain rfl : k = n := by omega
      go_wp2
      go_ret
      exact ⟨rfl, rfl⟩
theorem guard_both : Try.prog.eqGuardType Try.prog.depth 33 = false := by kernel_rfl
theorem equal_both (f : Int × Int) (w : World) : (Op.equalIn 10000 33 (.agg (bc f)) (.agg (bc f))).run Try.prog w = .ok true w := by
  obtain ⟨a, b⟩ := f
  unfold bc
  have h1 := run_equalIn_int (P := Try.prog) w 9998 3 .i64 .i64 a a Try.underlying3
  have h2 := run_equalIn_int (P := Try.prog) w 9998 3 .i64 .i64 b b Try.underlying3
  rw [run_equalIn_struct w 9999 33 _ _ (by kernel_rfl) (by kernel_rfl)]
  go_simp
/-- The first k numbers, each twice. -/
def twoL (z : Nat → Int) : Nat → List Value
  | 0 => []
  | k + 1 => twoL z k ++ [.int .i64 (z k), .int .i64 (z k)]
theorem twoL_length (z : Nat → Int) : ∀ k, (twoL z k).length = k * 2
  | 0 => rfl
  | k + 1 => by rw [twoL, List.length_append, twoL_length z k]; simp; omega
theorem twoL_at (z : Nat → Int) : ∀ k j, j < k → (twoL z k)[j * 2]? = some (.int .i64 (z j)) ∧ (twoL z k)[j * 2 + 1]? = some (.int .i64 (z j))
  | k + 1, j, h => by
    rw [twoL]
    by_cases e : j = k
    · subst e
      rw [List.getElem?_append_right (by rw [twoL_length]; omega), List.getElem?_append_right (by rw [twoL_length]; omega), twoL_length]
      simp
    · rw [List.getElem?_append_left (by rw [twoL_length]; omega), List.getElem?_append_left (by rw [twoL_length]; omega)]
      exact twoL_at z k j (by omega)
theorem add_plain0' (g k : Nat) : (⟨g, 0, none⟩ : Addr).add k = ⟨g, 0 + k, none⟩ := by unfold Addr.add; split <;> simp_all
theorem rd2_of_own {w : World} {base n c : Nat} {e : TypeId} {A : Option Addr} {z : Nat → Int} (h : w.ownsRow base e 2 (.slice A n c) n (twoL z n)) : Rd2 w.heap.size w A n (fun k => .int .i64 (z k)) (fun k => .int .i64 (z k)) := by
  rcases h.2 with ⟨h0, _⟩ | ⟨g, cap, cur, hv, hg, hlt, hn, hcap, _, _⟩
  · injection h0 with h1 h2 h3
    subst h2
    exact .inl rfl
  · injection hv with h1 h2 h3
    subst h1
    have hlt' : g < w.heap.size := by
      by_cases h' : g < w.heap.size
      · exact h'
      · rw [Array.getElem?_eq_none (by omega)] at hlt; cases hlt
    refine .inr ⟨g, 0, rfl, hlt', fun k hk => ?_⟩
    have h1 := h.cells (g := g) rfl (k * 2) _ (twoL_at z n k hk).1
    have h2 := h.cells (g := g) rfl (k * 2 + 1) _ (twoL_at z n k hk).2
    rw [add_plain0'] at h1 h2
    rw [← Nat.add_assoc] at h2
    exact ⟨h1, h2⟩
theorem own_base2 {w : World} {base n size : Nat} {e : TypeId} {v : Value} {xs : List Value} (h : w.ownsRow base e size v n xs) : ∀ k, v.ownBlock = some k → base ≤ k := by
  intro k hk
  rcases h.2 with ⟨h0, _⟩ | ⟨g, cap, cur, hv, hg, _⟩
  · rw [h0] at hk; cases hk
  · rw [hv] at hk; cases hk; exact hg
theorem pair_fo (z : Nat → Int) : ∀ n, fo mPair (fun k => (z k, z k)) n = (fo mAdd z n, fo mMax z n)
  | 0 => rfl
  | n + 1 => by rw [fo, pair_fo z n]; rfl
theorem bothI : (Try.prog.info? 33).map (fun i => (i.zero, i.size, i.bytes)) = some (some (.agg #[.int .i64 0, .int .i64 0]), 2, 16) := by kernel_rfl
def FinI (w : World) (e : Ending) (w' : World) : Prop := e = .returned (.bool true) ∧ Below w.heap.size w w'
set_option maxRecDepth 20000 in
set_option maxHeartbeats 3200000 in
theorem ints_walk (A : Option Addr) (n c : Nat) (z : Nat → Int) (w : World) (hn : n ≤ 1048576) (hz : Rd w.heap.size w A n fun k => .int .i64 (z k)) :
    Calls Try.prog 3 #[.slice A n c] w (FinI w) := by
  obtain ⟨i0, hi, hz0, hz1, hz2⟩ := info_parts bothI
  have HI := Lib.hid (And.intro hi (And.intro hz0 (And.intro hz1 hz2)))
  have HA := Lib.hid awake_true
  have HZ := Lib.hid hz
  clear hz hi hz0 hz1 hz2
  go_enter Try.func3, Try.ntmps3
  go_wp2_with fail
  refine (HA.out _).mono ?_
  rintro e w1 ⟨rfl, hb1⟩
  have HB1 := Lib.hid hb1
  clear hb1
  have C1 := Lib.hid (add_fold A n c 0 z w1 (by omega) ((HZ.out.later HB1.out).mono HB1.out.size) (fun _ => Nat.le_refl _) (by omega))
  obtain ⟨S, hS⟩ : ∃ S, fo mAdd z n = S := ⟨_, rfl⟩
  obtain ⟨M, hM⟩ : ∃ M, fo mMax z n = M := ⟨_, rfl⟩
  have HS := Lib.hid hS
  have HM := Lib.hid hM
  rw [hS] at C1
  clear hS hM
  go_wp2_with fail
  refine C1.out.mono ?_
  rintro e w2 ⟨rfl, hb2⟩
  have HB2 := Lib.hid (HB1.out.trans (hb2.mono HB1.out.size))
  have C2 := Lib.hid (max_fold A n c 0 z w2 (by omega) ((HZ.out.later HB2.out).mono HB2.out.size) (fun _ => Nat.le_refl _) (by omega))
  rw [HM.out] at C2
  clear hb2 C1
  go_wp2_with fail
  refine C2.out.mono ?_
  rintro e w3 ⟨rfl, hb3⟩
  have HB3 := Lib.hid (HB2.out.trans (hb3.mono HB2.out.size))
  clear hb3 C2
  go_wp2_with fail
  obtain ⟨g, hg⟩ : ∃ g, g = w3.heap.size := ⟨_, rfl⟩
  obtain ⟨w4, hw4⟩ : ∃ w4, w4 = w3.alloc (Obj.cells #[] 30) := ⟨_, rfl⟩
  have HB4 := Lib.hid (show Below w.heap.size w w4 by rw [hw4]; exact HB3.out.alloc HB3.out.size _)
  have R4 := Lib.hid (show Row w4 g 30 #[] by rw [hw4, hg]; exact Row.new _ _ _)
  rw [← hw4, ← hg]
  clear hw4 hg
  go_loopw [6, 20] (fun v i wr => ∃ (k c' : Nat) (A' : Option Addr), k ≤ n ∧ i = .int .i64 k ∧ v = .slice A' k c' ∧ Hid (wr.ownsRow w4.heap.size 33 2 (.slice A' k c') k (twoL z k)) ∧ Hid (Below w4.heap.size w4 wr)) (fun _ i _ => n - (intOf i).toNat)
  case atStart => exact ⟨0, 0, none, Nat.zero_le _, rfl, rfl, Lib.hid (World.ownsRow_nil _ _ _ _), Lib.hid (Below.refl _ _)⟩
  case round =>
    obtain ⟨k, c', A', hk, rfl, rfl, HO, HB⟩ := hrel
    have HBw := Lib.hid (HB4.out.trans (HB.out.mono HB4.out.size))
    by_cases hlt : k < n
    · obtain ⟨b, o, rfl, hbB, hc⟩ := (HZ.out.later HBw.out).some hlt
      obtain ⟨x, hx⟩ : ∃ x, z k = x := ⟨_, rfl⟩
      have hck : wr.cell? ⟨b, o + k, none⟩ = some (.int .i64 x) := by rw [hc k hlt, hx]
      have HX := Lib.hid hx
      clear hx hc
      go_wp2_with (at_builtin; refine wpList_append_lies _ rfl (.tmp 24) (.tmp 28) 31 rfl w4.heap.size 33 i0 (.agg #[.int .i64 0, .int .i64 0]) 2 16 Try.underlying31 HI.out.1 HI.out.2.1 HI.out.2.2.1 HI.out.2.2.2 rfl (by decide) _ k _ rfl (HO.out.alloc _) ⟨wr.heap.size, 0, none⟩ 1 1 [.int .i64 x, .int .i64 x] rfl rfl (World.news_of_block (cs := #[.int .i64 x, .int .i64 x]) (fr := (0, 0)) (Row.new wr 33 #[.int .i64 x, .int .i64 x])) (by intro u hu; simp at hu; subst hu; rfl) (by decide) (by unfold maxLen; omega) (by omega) (by simp; have := HB.out.size; omega) _ rfl ?_; intro g2 cap w5 hown hgrow hg2 hgl; have HO1 := Lib.hid hown; have HG1 := Lib.hid hgrow; clear hown hgrow hg2 hgl)
      go_roundw
      case rel => exact ⟨k + 1, cap, some ⟨g2, 0, none⟩, by omega, by go_num, rfl, Lib.hid (by
        have h := HO1.out
        rw [twoL, HX.out]; exact h), Lib.hid ((HB.out.alloc HB.out.size _).grown HG1.out (by simp; have := HB.out.size; omega) (own_base2 HO.out))⟩
      case measure => simp [intOf]; try omega
    · obtain rfl : k = n := by omega
      have C3 := Lib.hid (refSum A k c z wr (by omega) ((HZ.out.later HBw.out).mono HBw.out.size))
      have C4 := Lib.hid (refGreatest A k c z wr (by omega) ((HZ.out.later HBw.out).mono HBw.out.size))
      have C5 := Lib.hid (pair_fold A' k c' z z wr (by omega) (rd2_of_own HO.out))
      rw [HS.out] at C3
      rw [HM.out] at C4
      rw [pair_fo, HS.out, HM.out] at C5
      have R5 := Lib.hid (R4.out.below' HB.out)
      have gb := guard_both
      have eb : ∀ w, (Op.equalIn 10000 33 (.agg #[.int .i64 S, .int .i64 M]) (.agg #[.int .i64 S, .int .i64 M])).run Try.prog w = .ok true w := equal_both (S, M)
      have nS : (S == S) = true := by simp
      have nM : (M == M) = true := by simp
      clear HZ HO
      go_wp2_with fail
      refine C3.out.mono ?_
      rintro e w6 ⟨rfl, rfl⟩
      go_wp2_with fail
      refine C4.out.mono ?_
      rintro e w6 ⟨rfl, rfl⟩
      go_wp2_with (first | ((with_reducible refine wpList_loadR aggPairs R5.out rfl _ rfl ?_ ?_); (go_simp <;> fail); go_simp))
      refine C5.out.mono ?_
      rintro e w7 ⟨he, hb7⟩
      have he' : e = .returned (.agg #[.int .i64 S, .int .i64 M]) := he
      have HB7 := Lib.hid (HBw.out.trans (hb7.mono HBw.out.size))
      subst he'
      clear he hb7
      go_wp2
      go_ret
      exact ⟨rfl, HB7.out⟩
end Go.Proofs.Ytbiecpejpkgngaa
