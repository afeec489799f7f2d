/-
  Package digest: the reference's Put.
-/
import Derived.Test.YtlhennbimgjohaaDgM
import Derived.Deep.AppendLies
import Derived.Deep.RegionLaw
namespace Go.Proofs.Ytlhennbimgjohaa
open Go.RowKit
theorem add_plain0 (g k : Nat) : (⟨g, 0, none⟩ : Addr).add k = ⟨g, 0 + k, none⟩ := by unfold Addr.add; split <;> simp_all
theorem rd_of_own {w : World} {base n c : Nat} {e : TypeId} {A : Option Addr} {xs : List Value} {f : Nat → Value} (h : w.ownsRow base e 1 (.slice A n c) n xs) (hx : ∀ k, k < n → xs[k]? = some (f k)) : Rd w.heap.size w A n f ∧ n ≤ c := by
  rcases h.2 with ⟨h0, _⟩ | ⟨g, cap, cur, hv, hg, hlt, hn, hcap, _, _⟩
  · injection h0 with h1 h2 h3
    subst h1; subst h2; subst h3
    exact ⟨.inl rfl, Nat.le_refl _⟩
  · injection hv with h1 h2 h3
    subst h1; subst h3
    have hlt' : g < w.heap.size := by
      by_cases h' : g < w.heap.size
      · exact h'
      · rw [Array.getElem?_eq_none (by omega)] at hlt; cases hlt
    refine ⟨.inr ⟨g, 0, rfl, hlt', fun k hk => ?_⟩, hn⟩
    have := h.cells (g := g) rfl k _ (hx k hk)
    rwa [add_plain0] at this
theorem own_base {w : World} {base n size : Nat} {e : TypeId} {v : Value} {xs : List Value} (h : w.ownsRow base e size v n xs) : ∀ k, v.ownBlock = some k → base ≤ k := by
  intro k hk
  rcases h.2 with ⟨h0, _⟩ | ⟨g, cap, cur, hv, hg, _⟩
  · rw [h0] at hk; cases hk
  · rw [hv] at hk; cases hk; exact hg
theorem arr_ix0 (a b : Int) (w : World) : (Instr.index 66 (.agg #[.int .u64 a, .int .u64 b]) (.int .i64 0)).run Try.prog w = .ok (.int .u64 a) w := by kernel_rfl
theorem arr_ix1 (a b : Int) (w : World) : (Instr.index 66 (.agg #[.int .u64 a, .int .u64 b]) (.int .i64 1)).run Try.prog w = .ok (.int .u64 b) w := by kernel_rfl
def pbs (f : Int × Int) (n : Nat) : List Value := (List.range n).map fun j => Value.int .u8 (pb f j)
theorem pbs_succ (f : Int × Int) (n : Nat) : pbs f (n + 1) = pbs f n ++ [.int .u8 (pb f n)] := by unfold pbs; rw [List.range_succ, List.map_append]; rfl
def PutAt (f : Int × Int) (s : Nat) (w : World) (n : Nat) (v : Value) (wr : World) : Prop := ∃ A c, v = .slice A n c ∧ Hid (wr.ownsRow s 5 1 (.slice A n c) n (pbs f n)) ∧ Hid (Below s w wr)
set_option maxRecDepth 20000 in
set_option maxHeartbeats 1600000 in
theorem dg_rput (f : Int × Int) (w : World) (hf : In64 f) :
    Calls Try.prog 28 #[.agg (dc f)] w fun e w' => (∃ v, e = .returned v ∧ IsSl 16 (pb f) v w') ∧ Below w.heap.size w w' := by
  have C1 := Lib.hid (fun w => dg_rreduced f w hf)
  obtain ⟨a, ha⟩ : ∃ a, a = R f.1 := ⟨_, rfl⟩
  obtain ⟨b, hb⟩ : ∃ b, b = R f.2 := ⟨_, rfl⟩
  have a0 : 0 ≤ a := by rw [ha]; exact R_ge _
  have a1 : a < 18446744073709551616 := by rw [ha]; exact R_64 _
  have b0 : 0 ≤ b := by rw [hb]; exact R_ge _
  have b1 : b < 18446744073709551616 := by rw [hb]; exact R_64 _
  have HPB := Lib.hid (show ∀ m r : Nat, m < 2 → r < 8 → (if m = 0 then a else b) / 256 ^ (7 - r) % 256 = pb f (8 * m + r) from fun m r hm hr => by
    unfold pb be dv
    rcases Nat.lt_or_ge m 1 with h | h
    · obtain rfl : m = 0 := by omega
      rw [if_pos rfl, if_pos (by omega), ha, show 8 * 0 + r = r by omega]
    · obtain rfl : m = 1 := by omega
      rw [if_neg (by omega), if_neg (by omega), hb, show 8 * 1 + r - 8 = r by omega])
  rw [show rd f = (a, b) by rw [ha, hb]; rfl] at C1
  obtain ⟨s, hs⟩ : ∃ s, w.heap.size = s := ⟨_, rfl⟩
  have HB0 := Lib.hid ((Below.refl w.heap.size w).alloc (Nat.le_refl _) (Obj.cells (dc f) 26))
  have R0 := Lib.hid (Row.new w 26 (dc f))
  rw [hs] at R0 HB0
  have HS := Lib.hid hs
  obtain ⟨i0, hi, hz0, hz1, hz2⟩ := info_parts u8_info
  have HI := Lib.hid (And.intro hi (And.intro hz0 (And.intro hz1 hz2)))
  have HAB := Lib.hid (And.intro a0 (And.intro a1 (And.intro b0 b1)))
  clear ha hb hi hz0 hz1 hz2 a0 a1 b0 b1
  go_enter Try.func28, Try.ntmps28
  go_wp2_with (first | ((with_reducible refine wpList_loadR aggD R0.out rfl _ rfl ?_ ?_); (go_simp <;> fail); go_simp))
  clear hs
  refine (C1.out _).mono ?_
  rintro e w1 ⟨rfl, hb1⟩
  have R1 := Lib.hid (R0.out.below' hb1)
  have HB1 := Lib.hid (HB0.out.trans (hb1.mono (by have := HB0.out.size; have := HS.out; omega)))
  clear hb1 R0 HB0
  go_wp2_with (first | ((with_reducible refine wpList_storeR (c' := dc (a, b)) aggD R1.out rfl (dc_one _) rfl _ _ rfl ?_ ?_ ?_); (go_simp <;> fail); (go_simp <;> fail); go_simp; have R2 := Lib.hid (R1.out.setRow (dc (a, b))); have HB2 := Lib.hid (below_setRow HB1.out (Nat.le_refl _) (dc (a, b))); clear R1 HB1; revert R2 HB2; generalize w1.setRow s (dc (a, b)) = w2; intro R2 HB2; have p0 : w2.cell? ⟨s, 0, none⟩ = some (.int .u64 a) := R2.out.cell 0; have p1 : w2.cell? ⟨s, 1, none⟩ = some (.int .u64 b) := R2.out.cell 1))
  go_loopw [3, 14] (fun v i wr => ∃ m : Nat, m ≤ 2 ∧ i = .int .i64 m ∧ PutAt f s w (8 * m) v wr) (fun _ i _ => 2 - (intOf i).toNat)
  case atStart => exact ⟨0, by omega, rfl, none, 0, rfl, Lib.hid (World.ownsRow_nil _ _ _ _), HB2⟩
  case round =>
    obtain ⟨m, hm, rfl, A, c, rfl, HO, HB⟩ := hrel
    by_cases hlt : m < 2
    · have hc : m = 0 ∨ m = 1 := by omega
      clear hlt hm
      rcases hc with rfl | rfl
      · clear p0 p1 R2 HB2 C1
        have HE := Lib.hid (fun r (hr : r < 8) => (HPB.out 0 r (by omega) hr))
        have v0 : 0 ≤ a := HAB.out.1
        have v1 : a < 18446744073709551616 := HAB.out.2.1
        have ix0 := arr_ix0 a b
        have ix1 := arr_ix1 a b
        go_wp2
        go_loopw [3, 6] (fun v i wr => ∃ r : Nat, r ≤ 8 ∧ i = .int .i64 ((r : Int) - 1) ∧ PutAt f s w (8 * 0 + (8 - r)) v wr) (fun _ i _ => (intOf i + 1).toNat)
        case atStart => exact ⟨8, by omega, rfl, A, c, rfl, HO, HB⟩
        case round =>
          clear HO HB
          obtain ⟨r, hr, rfl, A, c, rfl, HO, HB⟩ := hrel
          rcases Nat.eq_zero_or_pos r with rfl | hpos
          · go_wp2
            go_roundw
            case rel => exact ⟨0 + 1, by omega, by go_num, A, c, rfl, HO, HB⟩
            case measure => simp [intOf]
          · obtain ⟨j, rfl⟩ : ∃ j, r = j + 1 := ⟨r - 1, by omega⟩
            have hi : (((j + 1 : Nat) : Int) - 1) = (j : Int) := by omega
            rw [hi]
            have hX : a / 2 ^ (8 * j) % 256 = pb f (8 * 0 + (8 - (j + 1))) := by
              have h := HE.out (7 - j) (by omega)
              rw [show 7 - (7 - j) = j by omega, show 8 * 0 + (7 - j) = 8 * 0 + (8 - (j + 1)) by omega] at h
              rw [← h, Int.pow_mul]; rfl
            obtain ⟨N, hN⟩ : ∃ N, 8 * 0 + (8 - (j + 1)) = N := ⟨_, rfl⟩
            have hN1 : N ≤ 15 := by omega
            have hN2 : 8 * 0 + (8 - j) = N + 1 := by omega
            rw [hN] at HO hX ⊢
            have HX := Lib.hid hX
            have HN2 := Lib.hid hN2
            have hle := Lib.hid (show s ≤ wr.heap.size by have := HB.out.size; have := HS.out; omega)
            have hown := Lib.hid (HO.out.alloc (.cells #[.int .u8 (a / 2 ^ (8 * j) % 256)] 5))
            have hi' : (j : Int) ≤ 7 := by omega
            clear hX hN hN2 hi
            go_wp2_with (at_builtin; refine wpList_append_lies _ rfl _ _ _ rfl s 5 i0 (.int .u8 0) 1 1 Try.underlying29 HI.out.1 HI.out.2.1 HI.out.2.2.1 HI.out.2.2.2 rfl (by decide) _ N _ (by rfl) hown.out ⟨wr.heap.size, 0, none⟩ 1 1 [.int .u8 (a / 2 ^ (8 * j) % 256)] (by rfl) rfl (World.news_of_block (heap_alloc_new wr (.cells #[.int .u8 (a / 2 ^ (8 * j) % 256)] 5))) (by intro u hu; simp at hu; subst hu; rfl) (by decide) (by unfold maxLen; omega) (by omega) (by have := hle.out; simp; omega) _ rfl ?_; intro g cap w4 ho4 hg4 hat4 hlt4; have HO4 := Lib.hid ho4; have HG4 := Lib.hid hg4; clear ho4 hg4 hat4 hlt4)
            go_roundw
            case rel => exact ⟨j, by omega, by go_num, some ⟨g, 0, none⟩, cap, by rw [HN2.out], by rw [HN2.out, pbs_succ, ← HX.out]; exact HO4, Lib.hid ((HB.out.alloc hle.out _).grown HG4.out (by have := hle.out; simp; omega) (own_base HO.out))⟩
            case measure => simp [intOf]; try omega
      · clear p0 p1 R2 HB2 C1
        rw [show ((1 : Nat) : Int) = 1 from rfl]
        have HE := Lib.hid (fun r (hr : r < 8) => (HPB.out 1 r (by omega) hr))
        have v0 : 0 ≤ b := HAB.out.2.2.1
        have v1 : b < 18446744073709551616 := HAB.out.2.2.2
        have ix0 := arr_ix0 a b
        have ix1 := arr_ix1 a b
        go_wp2
        go_loopw [3, 6] (fun v i wr => ∃ r : Nat, r ≤ 8 ∧ i = .int .i64 ((r : Int) - 1) ∧ PutAt f s w (8 * 1 + (8 - r)) v wr) (fun _ i _ => (intOf i + 1).toNat)
        case atStart => exact ⟨8, by omega, rfl, A, c, rfl, HO, HB⟩
        case round =>
          clear HO HB
          obtain ⟨r, hr, rfl, A, c, rfl, HO, HB⟩ := hrel
          rcases Nat.eq_zero_or_pos r with rfl | hpos
          · go_wp2
            go_roundw
            case rel => exact ⟨1 + 1, by omega, by go_num, A, c, rfl, HO, HB⟩
            case measure => simp [intOf]
          · obtain ⟨j, rfl⟩ : ∃ j, r = j + 1 := ⟨r - 1, by omega⟩
            have hi : (((j + 1 : Nat) : Int) - 1) = (j : Int) := by omega
            rw [hi]
            have hX : b / 2 ^ (8 * j) % 256 = pb f (8 * 1 + (8 - (j + 1))) := by
              have h := HE.out (7 - j) (by omega)
              rw [show 7 - (7 - j) = j by omega, show 8 * 1 + (7 - j) = 8 * 1 + (8 - (j + 1)) by omega] at h
              rw [← h, Int.pow_mul]; rfl
            obtain ⟨N, hN⟩ : ∃ N, 8 * 1 + (8 - (j + 1)) = N := ⟨_, rfl⟩
            have hN1 : N ≤ 15 := by omega
            have hN2 : 8 * 1 + (8 - j) = N + 1 := by omega
            rw [hN] at HO hX ⊢
            have HX := Lib.hid hX
            have HN2 := Lib.hid hN2
            have hle := Lib.hid (show s ≤ wr.heap.size by have := HB.out.size; have := HS.out; omega)
            have hown := Lib.hid (HO.out.alloc (.cells #[.int .u8 (b / 2 ^ (8 * j) % 256)] 5))
            have hi' : (j : Int) ≤ 7 := by omega
            clear hX hN hN2 hi
            go_wp2_with (at_builtin; refine wpList_append_lies _ rfl _ _ _ rfl s 5 i0 (.int .u8 0) 1 1 Try.underlying29 HI.out.1 HI.out.2.1 HI.out.2.2.1 HI.out.2.2.2 rfl (by decide) _ N _ (by rfl) hown.out ⟨wr.heap.size, 0, none⟩ 1 1 [.int .u8 (b / 2 ^ (8 * j) % 256)] (by rfl) rfl (World.news_of_block (heap_alloc_new wr (.cells #[.int .u8 (b / 2 ^ (8 * j) % 256)] 5))) (by intro u hu; simp at hu; subst hu; rfl) (by decide) (by unfold maxLen; omega) (by omega) (by have := hle.out; simp; omega) _ rfl ?_; intro g cap w4 ho4 hg4 hat4 hlt4; have HO4 := Lib.hid ho4; have HG4 := Lib.hid hg4; clear ho4 hg4 hat4 hlt4)
            go_roundw
            case rel => exact ⟨j, by omega, by go_num, some ⟨g, 0, none⟩, cap, by rw [HN2.out], by rw [HN2.out, pbs_succ, ← HX.out]; exact HO4, Lib.hid ((HB.out.alloc hle.out _).grown HG4.out (by have := hle.out; simp; omega) (own_base HO.out))⟩
            case measure => simp [intOf]; try omega
    · obtain rfl : m = 2 := by omega
      go_wp2
      go_ret
      have hr := rd_of_own HO.out (f := u8 (pb f)) (fun k hk => by unfold pbs u8; simp [hk])
      exact ⟨⟨_, rfl, A, c, rfl, hr.1⟩, by rw [HS.out]; exact HB.out⟩
end Go.Proofs.Ytlhennbimgjohaa
