/-
  Package monoid: maps: lists of maps, and the reference's composition.
-/
import Derived.Test.YtbiecpejpkgngaaMoMapC
import Derived.Test.YtbiecpejpkgngaaMoText
import Derived.OwnWalk
import Derived.Deep.AppendLies
namespace Go.Proofs.Ytbiecpejpkgngaa
open Go.RowKit
/-- A slice of slices of integers: n of them, slice i with the address, the length and the capacity S i, and the integers Z i. -/
def Lists (w : World) (A : Option Addr) (n : Nat) (S : Nat → Option Addr × Nat × Nat) (Z : Nat → Nat → Int) : Prop :=
  Rd w.heap.size w A n (fun i => .slice (S i).1 (S i).2.1 (S i).2.2) ∧ ∀ i, i < n → (S i).2.1 ≤ 140737488355328 ∧ Rd w.heap.size w (S i).1 (S i).2.1 (fun k => .int .i64 (Z i k))
theorem Lists.later {w w' : World} {A : Option Addr} {n : Nat} {S : Nat → Option Addr × Nat × Nat} {Z : Nat → Nat → Int} (h : Lists w A n S Z) (hb : Below w.heap.size w w') : Lists w' A n S Z :=
  ⟨(h.1.later hb).mono hb.size, fun i hi => ⟨(h.2 i hi).1, ((h.2 i hi).2.later hb).mono hb.size⟩⟩
/-- Where the first i maps, one after another, take x. -/
def cm (N : Nat) (S : Nat → Option Addr × Nat × Nat) (Z : Nat → Nat → Int) (x : Nat) : Nat → Int
  | 0 => x
  | i + 1 => asMap N (S i).2.1 (Z i) (cm N S Z x i).toNat
theorem cm_get {N : Nat} {S : Nat → Option Addr × Nat × Nat} {Z : Nat → Nat → Int} {x : Nat} (h : x < N) : ∀ i, ∃ j : Nat, j < N ∧ cm N S Z x i = (j : Int)
  | 0 => ⟨x, h, rfl⟩
  | i + 1 => by
    obtain ⟨j, hj, hjz⟩ := cm_get h i
    rw [cm, hjz, Int.toNat_natCast]
    exact asMap_get hj
/-- The result is a slice of N, reading as f(0) .. f(N - 1). -/
def RowsEnd (N : Nat) (f : Nat → Value) (w : World) (e : Ending) (w' : World) : Prop :=
  ∃ A' c', e = .returned (.slice A' N c') ∧ Below w.heap.size w w' ∧ Rd w'.heap.size w' A' N f
theorem Made.rows {t : TypeId} {N : Nat} {f : Nat → Value} {w : World} {e : Ending} {w' : World} (h : Made t N f w e w') : RowsEnd N f w e w' := by
  obtain ⟨g, c, hg, rfl, hb, hr, hs, hc⟩ := h
  exact ⟨_, _, rfl, hb, hr.rd hr.lt 0 N f (fun k hk => by rw [Nat.zero_add]; exact hc k hk)⟩
set_option maxRecDepth 20000 in
set_option maxHeartbeats 1600000 in
theorem refCompose (A : Option Addr) (L c N : Nat) (n : Int) (S : Nat → Option Addr × Nat × Nat) (Z : Nat → Nat → Int) (w : World) (hn : n.toNat = N) (hN : N ≤ 100000) (hL : L ≤ 140737488355328) (hl : Lists w A L S Z) :
    Calls Try.prog 22 #[.slice A L c, .int .i64 n] w (RowsEnd N (fun k => .int .i64 (cm N S Z k L)) w) := by
  obtain ⟨i0, hi, hz0, hz1, hz2⟩ := info_parts map_info
  have HI := Lib.hid (And.intro hi (And.intro hz0 (And.intro hz1 hz2)))
  have HZ := Lib.hid hl
  have HNn := Lib.hid hn
  have hle : n ≤ (N : Int) := by omega
  clear hl hi hz0 hz1 hz2 hn
  go_enter Try.func22, Try.ntmps22
  go_wp2
  go_loopw [5, 6] (fun v i wr => ∃ (k c' : Nat) (A' : Option Addr), k ≤ N ∧ i = .int .i64 k ∧ v = .slice A' k c' ∧ Hid (wr.ownsRow w.heap.size 3 1 (.slice A' k c') k ((List.range k).map fun x => .int .i64 (cm N S Z x L))) ∧ Hid (Below w.heap.size w wr)) (fun _ i _ => N - (intOf i).toNat)
  case atStart => exact ⟨0, 0, none, Nat.zero_le _, rfl, rfl, Lib.hid (World.ownsRow_nil _ _ _ _), Lib.hid (Below.refl _ _)⟩
  case round =>
    obtain ⟨k, c', A', hk, rfl, rfl, HO, HB⟩ := hrel
    by_cases hlt : k < N
    · have hkn : (k : Int) < n := by have := HNn.out; omega
      obtain rfl : n = (N : Int) := by have := HNn.out; omega
      have HZr := Lib.hid (HZ.out.later HB.out)
      go_wp2
      go_loop [7, 17] (fun r i => ∃ q : Nat, q ≤ L ∧ i = .int .i64 q ∧ r = .int .i64 (cm N S Z k q)) (fun _ i => L - (intOf i).toNat)
      case atStart => exact ⟨0, Nat.zero_le _, rfl, rfl⟩
      case round =>
        obtain ⟨q, hq, rfl, rfl⟩ := hrel
        by_cases hql : q < L
        · obtain ⟨b, o, rfl, hbB, hc⟩ := HZr.out.1.some hql
          obtain ⟨hm1, hz1⟩ := HZr.out.2 q hql
          obtain ⟨j, hj, hjz⟩ := cm_get (S := S) (Z := Z) hlt q
          have C := Lib.hid (refApply (S q).1 (S q).2.1 (S q).2.2 N j (Z q) wr hm1 (by omega) hj hz1)
          have hcq := hc q hql
          obtain ⟨X, hX⟩ : ∃ X, asMap N (S q).2.1 (Z q) j = X := ⟨_, rfl⟩
          have HE := Lib.hid (show cm N S Z k (q + 1) = X by rw [cm, hjz, Int.toNat_natCast, hX])
          rw [hX] at C
          obtain ⟨s1, hs1⟩ : ∃ s1, (S q).1 = s1 := ⟨_, rfl⟩
          obtain ⟨s2, hs2⟩ : ∃ s2, (S q).2.1 = s2 := ⟨_, rfl⟩
          obtain ⟨s3, hs3⟩ : ∃ s3, (S q).2.2 = s3 := ⟨_, rfl⟩
          simp only [hs1, hs2, hs3] at hcq C
          rw [hjz]
          clear hX hm1 hz1 hs1 hs2 hs3 hc hjz
          go_wp2_with fail
          refine C.out.mono ?_
          rintro e w2 ⟨rfl, rfl⟩
          go_wp2
          go_round
          case rel => exact ⟨q + 1, by omega, by go_num, by rw [HE.out]⟩
          case measure => simp [intOf]; try omega
        · obtain rfl : q = L := by omega
          obtain ⟨X, hX⟩ : ∃ X, cm N S Z k q = X := ⟨_, rfl⟩
          have HE := Lib.hid hX
          rw [hX]
          clear hX
          go_wp2_with (at_builtin; refine wpList_append_lies _ rfl (.tmp 28) (.tmp 30) 22 rfl w.heap.size 3 i0 (.int .i64 0) 1 8 Try.underlying22 HI.out.1 HI.out.2.1 HI.out.2.2.1 HI.out.2.2.2 rfl (by decide) _ k _ rfl (HO.out.alloc _) ⟨wr.heap.size, 0, none⟩ 1 1 [.int .i64 X] rfl rfl (World.news_of_block (cs := #[.int .i64 X]) (fr := (0, 0)) (Row.new wr 3 #[.int .i64 X])) (by intro u hu; simp at hu; subst hu; rfl) (by decide) (by unfold maxLen; omega) (by omega) (by simp; have := HB.out.size; omega) _ rfl ?_; intro g2 cap w5 hown hgrow hg2 hgl; have HO1 := Lib.hid hown; have HG1 := Lib.hid hgrow; clear hown hgrow hg2 hgl)
          go_roundw
          case rel => exact ⟨k + 1, cap, some ⟨g2, 0, none⟩, by omega, by go_num, rfl, Lib.hid (by
            have h := HO1.out
            rw [List.range_succ, List.map_append]; rw [← HE.out] at h; exact h), Lib.hid ((HB.out.alloc HB.out.size _).grown HG1.out (by simp; have := HB.out.size; omega) (own_base HO.out))⟩
          case measure => simp [intOf]; try omega
    · obtain rfl : k = N := by omega
      have hkn : ¬ (k : Int) < n := by omega
      go_wp2
      go_ret
      exact ⟨A', c', rfl, HB.out, (rd_of_own HO.out (f := fun x => .int .i64 (cm k S Z x L)) (fun j hj => by simp [hj])).1⟩
end Go.Proofs.Ytbiecpejpkgngaa
