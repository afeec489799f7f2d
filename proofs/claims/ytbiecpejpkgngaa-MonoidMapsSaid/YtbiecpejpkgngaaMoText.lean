/-
  Package monoid's statements: the concatenation of a list of strings, and the list cut to sixty strings of at most five letters.
-/
import Derived.Test.YtbiecpejpkgngaaMoJ
import Derived.OwnWalk
import Derived.Deep.AppendLies
import Derived.Deep.RegionLaw
namespace Go.Proofs.Ytbiecpejpkgngaa
open Go.RowKit
set_option maxHeartbeats 800000 in
theorem text_any (A : Option Addr) (n c m : Nat) (z : Nat → ByteArray) (w : World) (hn : n ≤ 140737488355328) (hz : Rd w.heap.size w A n fun k => .string (z k)) (hs : ∀ k, mWords.sz (z k) ≤ m) (hm : m * (n + 1) ≤ 4611686018427387903) :
    Calls Try.prog 28 #[.slice A n c] w fun e w' => e = .returned (.string (fo mWords z n)) ∧ w = w' := by
  have HZ := Lib.hid hz
  have HS := Lib.hid hs
  have HM := Lib.hid hm
  clear hz hs hm
  go_enter Try.func28, Try.ntmps28
  go_wp2
  go_loop [3, 7] (fun r i => ∃ k : Nat, k ≤ n ∧ i = .int .i64 k ∧ r = .string (fo mWords z k)) (fun _ i => n - (intOf i).toNat)
  case atStart => exact ⟨0, Nat.zero_le _, rfl, rfl⟩
  case round =>
    obtain ⟨k, hk, rfl, rfl⟩ := hrel
    by_cases hlt : k < n
    · obtain ⟨b, off, rfl, hbB, hc⟩ := HZ.out.some (k := 0) (by omega)
      have hck : w.cell? ⟨b, off + k, none⟩ = some (.string (z k)) := hc k hlt
      have hrm := fo_room HS.out HM.out hlt k
      obtain ⟨f, hf⟩ : ∃ f, fo mWords z k = f := ⟨_, rfl⟩
      obtain ⟨x, hx⟩ : ∃ x, z k = x := ⟨_, rfl⟩
      have HF := Lib.hid hf
      have HX := Lib.hid hx
      rw [hf, hx] at hrm
      rw [hx] at hck
      rw [hf]
      clear hf hc hx
      have hroom : ¬ 9223372036854775807 < f.size + x.size := by
        have : f.size + x.size ≤ 9223372036854775807 := hrm
        omega
      clear hrm
      go_wp2
      go_round
      case rel => exact ⟨k + 1, by omega, by go_num, by rw [fo, HF.out, HX.out]; rfl⟩
      case measure => simp [intOf]; try omega
    · obtain rfl : k = n := by omega
      go_wp2
      go_ret
      exact ⟨rfl, rfl⟩
/-- A string cut to five letters. -/
def cut5 (s : ByteArray) : ByteArray := s.extract 0 (min s.size 5)
theorem cut5_size (s : ByteArray) : (cut5 s).size ≤ 5 := by unfold cut5; rw [ByteArray.size_extract]; omega
/-- What short returns: a slice of its own, of the first sixty strings, each cut. -/
def ShortEnd (n : Nat) (z : Nat → ByteArray) (w : World) (e : Ending) (w' : World) : Prop :=
  ∃ A' c', e = .returned (.slice A' (min n 60) c') ∧ min n 60 ≤ c' ∧ Below w.heap.size w w' ∧ Rd w'.heap.size w' A' (min n 60) fun k => .string (cut5 (z k))
theorem str_info : (Try.prog.info? 9).map (fun i => (i.zero, i.size, i.bytes)) = some (some (.string ByteArray.empty), 1, 16) := by kernel_rfl
theorem add_plain0 (g k : Nat) : (⟨g, 0, none⟩ : Addr).add k = ⟨g, 0 + k, none⟩ := by unfold Addr.add; split <;> simp_all
theorem rd_of_own {w : World} {base n c : Nat} {e : TypeId} {A : Option Addr} {xs : List Value} {f : Nat → Value} (h : w.ownsRow base e 1 (.slice A n c) n xs) (hx : ∀ k, k < n → xs[k]? = some (f k)) : Rd w.heap.size w A n f ∧ n ≤ c := by
  rcases h.2 with ⟨h0, _⟩ | ⟨g, cap, cur, hv, hg, hlt, hn, hcap, _, _⟩
  · injection h0 with h1 h2 h3
    subst h1; subst h2; subst h3
    exact ⟨.inl rfl, Nat.le_refl _⟩
  · injection hv with h1 h2 h3
    subst h1; subst h3
    have hlt' : g < w.heap.size := by
      by_cases h' : g < w.heap.size
      · exact h'
      · rw [Array.getElem?_eq_none (by omega)] at hlt; cases hlt
    refine ⟨.inr ⟨g, 0, rfl, hlt', fun k hk => ?_⟩, hn⟩
    have := h.cells (g := g) rfl k _ (hx k hk)
    rwa [add_plain0] at this
theorem own_base {w : World} {base n size : Nat} {e : TypeId} {v : Value} {xs : List Value} (h : w.ownsRow base e size v n xs) : ∀ k, v.ownBlock = some k → base ≤ k := by
  intro k hk
  rcases h.2 with ⟨h0, _⟩ | ⟨g, cap, cur, hv, hg, _⟩
  · rw [h0] at hk; cases hk
  · rw [hv] at hk; cases hk; exact hg
set_option maxRecDepth 20000 in
set_option maxHeartbeats 1600000 in
theorem short_any (A : Option Addr) (n c : Nat) (z : Nat → ByteArray) (w : World) (hn : n ≤ maxLen) (hzs : ∀ k, k < n → (z k).size ≤ maxLen) (hz : Rd w.heap.size w A n fun k => .string (z k)) :
    Calls Try.prog 26 #[.slice A n c] w (ShortEnd n z w) := by
  obtain ⟨i0, hi, hz0, hz1, hz2⟩ := info_parts str_info
  unfold maxLen at hn
  have HZ := Lib.hid hz
  have HI := Lib.hid (And.intro hi (And.intro hz0 (And.intro hz1 hz2)))
  have HZS := Lib.hid hzs
  clear hz hi hz0 hz1 hz2 hzs
  go_enter Try.func26, Try.ntmps26
  go_wp2
  go_loopw [3, 4] (fun v i wr => ∃ (k c' : Nat) (A' : Option Addr), k ≤ n ∧ k ≤ 60 ∧ i = .int .i64 k ∧ v = .slice A' k c' ∧ Hid (wr.ownsRow w.heap.size 9 1 (.slice A' k c') k ((List.range k).map fun j => Value.string (cut5 (z j)))) ∧ Hid (Below w.heap.size w wr)) (fun _ i _ => n - (intOf i).toNat)
  case atStart => exact ⟨0, 0, none, Nat.zero_le _, Nat.zero_le _, rfl, rfl, Lib.hid (World.ownsRow_nil _ _ _ _), Lib.hid (Below.refl _ _)⟩
  case round =>
    obtain ⟨k, c', A', hk, hk6, rfl, rfl, HO, HB⟩ := hrel
    by_cases hlt : k < n ∧ k < 60
    · obtain ⟨hlt, h60⟩ := hlt
      obtain ⟨b, o, rfl, hbB, hc⟩ := (HZ.out.later HB.out).some hlt
      obtain ⟨x, hx⟩ : ∃ x, z k = x := ⟨_, rfl⟩
      have hck : wr.cell? ⟨b, o + k, none⟩ = some (.string x) := by rw [hc k hlt, hx]
      have hxs := HZS.out k hlt
      rw [hx] at hxs
      unfold maxLen at hxs
      have HX := Lib.hid hx
      clear hx hc
      have h60i : ((k : Nat) : Int) < 60 := by omega
      obtain ⟨q, hq⟩ : ∃ q, q = min x.size 5 := ⟨_, rfl⟩
      have hqx : q ≤ x.size := by omega
      have hmin : (if (5 : Int) < (x.size : Int) then (5 : Int) else (x.size : Int)) = (q : Int) := by split <;> omega
      have HQ := Lib.hid hq
      have own := Lib.hid HO.out.drew
      clear hq
      go_wp2
      go_region_law (refine step_append_lies _ rfl (.tmp 15) (.tmp 27) 58 rfl w.heap.size 9 i0 (.string ByteArray.empty) 1 16 Try.underlying58 HI.out.1 HI.out.2.1 HI.out.2.2.1 HI.out.2.2.2 rfl (by decide) _ k _ (by simp [Act.eval, Act.put]) ((HO.out.alloc _).drew) ⟨wr.heap.size, 0, none⟩ 1 1 [.string (x.extract 0 q)] (by simp [Act.eval, Act.put]) rfl (by intro j u hj; match j, hj with | 0, hj => (simp at hj; subst hj; simp [Addr.add])) (by intro u hu; simp at hu; subst hu; rfl) (by decide) (by unfold maxLen; omega) (by omega) (by simp; have := HB.out.size; omega) _ rfl ?_; intro g cap w1 hown hgrow hg hgl; have HO1 := Lib.hid hown; have HG1 := Lib.hid hgrow; clear hown hgrow hg hgl)
      all_goals
        go_wp2
        go_roundw
        case rel => exact ⟨k + 1, cap, some ⟨g, 0, none⟩, by omega, by omega, by go_num, rfl, Lib.hid (by
          have h := HO1.out
          rw [show x.extract 0 q = cut5 (z k) by rw [HX.out, HQ.out]; rfl] at h
          rw [List.range_succ, List.map_append]; exact h), Lib.hid (((HB.out.alloc HB.out.size _).drew).grown HG1.out (by simp; have := HB.out.size; omega) (own_base HO.out))⟩
        case measure => simp [intOf]; try omega
    · have hm : min n 60 = k := by omega
      have HM := Lib.hid hm
      have hkn : n ≤ k ∨ 60 ≤ k := by omega
      clear hm
      rcases hkn with h | h
      · have h1 : ¬ k < n := by omega
        go_wp2
        go_ret
        exact ⟨A', c', by rw [HM.out]; rfl, by rw [HM.out]; exact (rd_of_own HO.out (f := fun j => .string (cut5 (z j))) (fun j hj => by simp [hj])).2, HB.out, by rw [HM.out]; exact (rd_of_own HO.out (f := fun j => .string (cut5 (z j))) (fun j hj => by simp [hj])).1⟩
      · have h1 : ¬ (k : Int) < 60 := by omega
        go_wp2
        all_goals
          go_ret
          exact ⟨A', c', by rw [HM.out]; rfl, by rw [HM.out]; exact (rd_of_own HO.out (f := fun j => .string (cut5 (z j))) (fun j hj => by simp [hj])).2, HB.out, by rw [HM.out]; exact (rd_of_own HO.out (f := fun j => .string (cut5 (z j))) (fun j hj => by simp [hj])).1⟩
end Go.Proofs.Ytbiecpejpkgngaa
