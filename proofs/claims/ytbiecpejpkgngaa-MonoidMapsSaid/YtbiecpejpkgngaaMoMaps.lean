/-
  MonoidMaps: the walk.
-/
import Derived.Test.YtbiecpejpkgngaaMoMapF
import Derived.Test.YtbiecpejpkgngaaMoAwake
namespace Go.Proofs.Ytbiecpejpkgngaa
open Go.RowKit
def FinM (w : World) (e : Ending) (w' : World) : Prop := e = .returned (.bool true) ∧ Below w.heap.size w w'
set_option maxHeartbeats 800000 in
theorem maps_out (A : Option Addr) (L c : Nat) (n : Int) (w : World) (h : 40 < n ∨ 40 < L) (hL : L ≤ 140737488355328) : Calls Try.prog 5 #[.slice A L c, .int .i64 n] w (FinM w) := by
  have HA := Lib.hid awake_true
  by_cases hn : 40 < n
  · have t1 : decide (40 < n) = true := by simp; omega
    clear h
    go_enter Try.func5, Try.ntmps5
    go_wp2_with fail
    refine (HA.out _).mono ?_
    rintro e w1 ⟨rfl, hb1⟩
    have HB1 := Lib.hid hb1
    clear hb1
    go_wp2_with fail
    refine (HA.out _).mono ?_
    rintro e w2 ⟨rfl, hb2⟩
    have HB2 := Lib.hid hb2
    clear hb2
    go_wp2
    go_ret
    exact ⟨rfl, HB1.out.trans (HB2.out.mono HB1.out.size)⟩
  · have t1 : decide (40 < n) = false := by simp; omega
    have t2 : decide (40 < (L : Int)) = true := by simp; omega
    clear h
    go_enter Try.func5, Try.ntmps5
    go_wp2_with fail
    refine (HA.out _).mono ?_
    rintro e w1 ⟨rfl, hb1⟩
    have HB1 := Lib.hid hb1
    clear hb1
    go_wp2_with fail
    refine (HA.out _).mono ?_
    rintro e w2 ⟨rfl, hb2⟩
    have HB2 := Lib.hid hb2
    clear hb2
    go_wp2
    go_ret
    exact ⟨rfl, HB1.out.trans (HB2.out.mono HB1.out.size)⟩
theorem stuckN (d : Nat) {ops : Array Oper} {rest : List Oper} {Q : Exit → Act → World → Prop} {a : Act} {w : World} {o : Oper} (_ : o.dst = some d) (h : Stuck (wpList Try.prog ops Q (o :: rest) a w)) : wpList Try.prog ops Q (o :: rest) a w := h
theorem mapI : (Try.prog.info? 50).map (fun i => (i.zero, i.size, i.bytes)) = some (some (.slice none 0 0), 1, 24) := by kernel_rfl
set_option maxRecDepth 20000 in
set_option maxHeartbeats 3200000 in
theorem maps_in (A : Option Addr) (L c N : Nat) (n : Int) (S : Nat → Option Addr × Nat × Nat) (Z : Nat → Nat → Int) (w : World) (hn : n.toNat = N) (hn4 : n ≤ 40) (hL : L ≤ 40) (hl : Lists w A L S Z) (h8 : ∀ i, i < L → (S i).2.1 * 8 ≤ 140737488355328) :
    Calls Try.prog 5 #[.slice A L c, .int .i64 n] w (FinM w) := by
  have HA := Lib.hid awake_true
  have HZ := Lib.hid hl
  have HNn := Lib.hid hn
  have H8 := Lib.hid h8
  have hN : N ≤ 100000 := by omega
  have t1 : decide (40 < n) = false := by simp; omega
  have t2 : decide (40 < (L : Int)) = false := by simp; omega
  obtain ⟨i0, hi, hz0, hz1, hz2⟩ := info_parts mapI
  have HI := Lib.hid (And.intro hi (And.intro hz0 (And.intro hz1 hz2)))
  clear hl hn h8 hi hz0 hz1 hz2
  go_enter Try.func5, Try.ntmps5
  go_wp2_with fail
  refine (HA.out _).mono ?_
  rintro e w1 ⟨rfl, hb1⟩
  have HB1 := Lib.hid hb1
  clear hb1
  go_wp2_with fail
  obtain ⟨w2, hw2⟩ : ∃ w2, w2 = w1.alloc (.cells #[.int .i64 n] 48) := ⟨_, rfl⟩
  obtain ⟨q, hq⟩ : ∃ q, w1.heap.size = q := ⟨_, rfl⟩
  have HX2 := Lib.hid (show Row w2 q 48 #[.int .i64 n] by rw [hw2, ← hq]; exact Row.new _ _ _)
  have HB2 := Lib.hid (show Below w.heap.size w w2 by rw [hw2]; exact HB1.out.alloc HB1.out.size _)
  rw [hq, ← hw2]
  clear hw2 hq HB1
  go_loopw [6, 31] (fun v i wr => ∃ (k c' : Nat) (A' : Option Addr) (S' : Nat → Option Addr × Nat × Nat), k ≤ L ∧ i = .int .i64 k ∧ v = .slice A' k c' ∧ Hid (Copies w2.heap.size wr A' c' k S S' Z) ∧ Hid (Below w2.heap.size w2 wr)) (fun _ i _ => L - (intOf i).toNat)
  case atStart => exact ⟨0, 0, none, S, Nat.zero_le _, rfl, rfl, Lib.hid (copies_none _ _ _ _), Lib.hid (Below.refl _ _)⟩
  case round =>
    obtain ⟨k, c', A', S', hk, rfl, rfl, HC, HB⟩ := hrel
    have HBw := Lib.hid (HB2.out.trans (HB.out.mono HB2.out.size))
    have HZr := Lib.hid (HZ.out.later HBw.out)
    by_cases hlt : k < L
    · obtain ⟨b, o, rfl, hbB, hc⟩ := HZr.out.1.some hlt
      obtain ⟨_, hz1⟩ := HZr.out.2 k hlt
      have hcq := hc k hlt
      obtain ⟨s1, hs1⟩ : ∃ s1, (S k).1 = s1 := ⟨_, rfl⟩
      obtain ⟨s2, hs2⟩ : ∃ s2, (S k).2.1 = s2 := ⟨_, rfl⟩
      obtain ⟨s3, hs3⟩ : ∃ s3, (S k).2.2 = s3 := ⟨_, rfl⟩
      have H82 := Lib.hid (show s2 * 8 ≤ 140737488355328 by rw [← hs2]; exact H8.out k hlt)
      simp only [hs1, hs2, hs3] at hcq hz1
      have HS2 := Lib.hid hs2
      have HZ1 := Lib.hid hz1
      clear hz1 hs1 hs2 hs3 hc
      go_wp2_with (first | (with_reducible refine stuckN 38 rfl ?_) | fail)
      unfold Stuck
      refine wpList_append_copy rfl (.tmp 36) (.tmp 37) rfl s1 s2 s3 (Z k) HZ1.out H82.out rfl rfl ?_
      intro g1 cap1 wc hgl1 hgl2 HBc HRc
      have HC2 := Lib.hid (copies_later HC.out (HBc.out.alloc HBc.out.size (.cells #[.slice (some ⟨g1, 0, none⟩) s2 cap1] 50)))
      have HBr2 := Lib.hid (HB.out.trans (HBc.out.mono HB.out.size))
      have HN1 := Lib.hid (show some g1 ≠ (Value.slice A' k c').ownBlock from fun e => by
        rcases HC.out.1.2 with ⟨h0, _⟩ | ⟨g, cap, cur, hv, hg, hlt', _⟩
        · rw [h0] at e; cases e
        · rw [hv] at e
          have e : g1 = g := by simpa [Value.ownBlock] using e
          have hlt2 : g < wr.heap.size := by
            by_cases h' : g < wr.heap.size
            · exact h'
            · rw [Array.getElem?_eq_none (by omega)] at hlt'; cases hlt'
          omega)
      have HL1 := Lib.hid hgl2
      clear hgl1 hgl2
      go_wp2_with (first | (with_reducible refine stuckN 40 rfl ?_) | fail)
      unfold Stuck
      refine wpList_append_lies _ rfl (.tmp 35) (.tmp 39) 49 rfl w2.heap.size 50 i0 (.slice none 0 0) 1 24 Try.underlying49 HI.out.1 HI.out.2.1 HI.out.2.2.1 HI.out.2.2.2 rfl (by decide) _ k _ rfl HC2.out.1 ⟨wc.heap.size, 0, none⟩ 1 1 [.slice (some ⟨g1, 0, none⟩) s2 cap1] rfl rfl (World.news_of_block (cs := #[.slice (some ⟨g1, 0, none⟩) s2 cap1]) (fr := (0, 0)) (Row.new wc 50 #[.slice (some ⟨g1, 0, none⟩) s2 cap1])) (by intro u hu; simp at hu; subst hu; rfl) (by decide) (by unfold maxLen; omega) (by omega) (by simp; have := HBr2.out.size; omega) _ rfl ?_
      intro g2 cap w5 hown hgrow hat hgl
      have HC5 := Lib.hid (copies_push (g1 := g1) (cap1 := cap1) HC2.out (by simp; have := HL1.out; omega) HN1.out (by rw [HS2.out]; exact (HRc.out.later ((Below.refl _ _).alloc (Nat.le_refl _) _)).mono (by simp)) (by rw [HS2.out]; exact hown) hgrow hat)
      have HB5 := Lib.hid ((HBr2.out.alloc HBr2.out.size (.cells #[.slice (some ⟨g1, 0, none⟩) s2 cap1] 50)).grown hgrow (by simp; have := HBr2.out.size; omega) (own_base HC2.out.1))
      clear hown hgrow hat hgl
      go_wp2
      go_roundw
      case rel => exact ⟨k + 1, cap, some ⟨g2, 0, none⟩, _, by omega, by go_num, rfl, HC5, HB5⟩
      case measure => simp [intOf]; try omega
    · obtain rfl : k = L := by omega
      clear HZr
      obtain ⟨wa, hwa⟩ : ∃ wa, wa = wr := ⟨_, rfl⟩
      subst hwa
      have HXa := Lib.hid (HX2.out.below' HB.out)
      have HLs := Lib.hid (copies_lists HC.out (fun x hx => (HZ.out.2 x hx).1))
      have HSS := Lib.hid (fun (i : Nat) (hi : i < k) => (HC.out.2 i hi).1)
      have HCM := Lib.hid (fun (x : Nat) => (cm_congr (N := N) (x := x) (Z := Z) HSS.out : cm N S' Z x k = cm N S Z x k))
      have hk4 : k ≤ 40 := hL
      clear HB2 HB HC HX2 hL
      go_wp2_with (first | ((with_reducible refine wpList_loadR aggMaps HXa.out rfl _ rfl ?_ ?_); (go_simp <;> fail); go_simp) | fail)
      refine (mapsUnit n N _ HNn.out hN).mono ?_
      intro e w4 h
      obtain ⟨A2, c2, rfl, hb, hr⟩ := h.rows
      have HB4 := Lib.hid hb
      have HR4 := Lib.hid hr
      clear h hb hr
      go_wp2
      go_loopw [9, 46] (fun r i wx => ∃ j : Nat, j ≤ k ∧ i = .int .i64 j ∧ ∃ A3 c3, r = .slice A3 N c3 ∧ Hid (Below wa.heap.size wa wx) ∧ Hid (Rd wx.heap.size wx A3 N fun x => .int .i64 (cm N S' Z x j))) (fun _ i _ => k - (intOf i).toNat)
      case atStart => exact ⟨0, Nat.zero_le _, rfl, A2, c2, rfl, HB4, HR4⟩
      case round =>
        obtain ⟨j, hj, rfl, A3, c3, rfl, HBx, HRx⟩ := hrel
        by_cases hlt : j < k
        · have HXx := Lib.hid (HXa.out.below' HBx.out)
          have HLx := Lib.hid (HLs.out.later HBx.out)
          obtain ⟨b, o, rfl, hbB, hc⟩ := HLx.out.1.some hlt
          obtain ⟨hm1, hz1⟩ := HLx.out.2 j hlt
          have C := Lib.hid (cmJoin n N j S' Z A3 c3 wr HNn.out hN hm1 HRx.out hz1)
          have hcq := hc j hlt
          obtain ⟨s1, hs1⟩ : ∃ s1, (S' j).1 = s1 := ⟨_, rfl⟩
          obtain ⟨s2, hs2⟩ : ∃ s2, (S' j).2.1 = s2 := ⟨_, rfl⟩
          obtain ⟨s3, hs3⟩ : ∃ s3, (S' j).2.2 = s3 := ⟨_, rfl⟩
          simp only [hs1, hs2, hs3] at hcq C
          clear hm1 hz1 hs1 hs2 hs3 hc
          go_wp2_with (first | ((with_reducible refine wpList_loadR aggMaps HXx.out rfl _ rfl ?_ ?_); (go_simp <;> fail); go_simp) | fail)
          refine C.out.mono ?_
          rintro e w5 ⟨A5, c5, rfl, hb5, hr5⟩
          have HB5 := Lib.hid (HBx.out.trans (hb5.mono HBx.out.size))
          have HR5 := Lib.hid hr5
          clear hb5 hr5
          go_wp2
          go_roundw
          case rel => exact ⟨j + 1, by omega, by go_num, A5, c5, rfl, HB5, HR5⟩
          case measure => simp [intOf]; try omega
        · obtain rfl : j = k := by omega
          have HBf := Lib.hid (HBw.out.trans (HBx.out.mono HBw.out.size))
          have CC := Lib.hid (refCompose A j c N n S Z wr HNn.out hN (by omega) (HZ.out.later HBf.out))
          clear HR4 HB4
          go_wp2_with fail
          refine CC.out.mono ?_
          rintro e w6 ⟨A6, c6, rfl, hb6, hr6⟩
          have HB6 := Lib.hid (HBx.out.trans (hb6.mono HBx.out.size))
          have HR6 := Lib.hid hr6
          have HG6 := Lib.hid ((HRx.out.later hb6).mono hb6.size)
          clear hb6 hr6 CC HRx HBx HBf
          have CS := Lib.hid (same_any A3 A6 N N c3 c6 _ _ w6 (by omega) (by omega) HG6.out HR6.out)
          go_wp2_with fail
          refine CS.out.mono ?_
          rintro e w7 ⟨v, rfl, hv, hb7⟩
          obtain rfl : v = true := hv.2 ⟨rfl, fun x _ => HCM.out x⟩
          have HB7 := Lib.hid (HB6.out.trans (hb7.mono HB6.out.size))
          have HR7 := Lib.hid ((HR6.out.later hb7).mono hb7.size)
          have HX7 := Lib.hid (HXa.out.below' HB7.out)
          have cell7 : w7.cell? ⟨q, 0, none⟩ = some (.int .i64 n) := HX7.out.cell 0
          clear hv hb7 HG6 CS HR6 HB6
          go_wp2_with fail
          clear cell7
          refine (mapsUnit n N _ HNn.out hN).mono ?_
          intro e w8 h
          obtain ⟨A8, c8, rfl, hb8, hr8⟩ := h.rows
          have HB8 := Lib.hid (HB7.out.trans (hb8.mono HB7.out.size))
          have HR8 := Lib.hid ((HR7.out.later hb8).mono hb8.size)
          have HU8 := Lib.hid hr8
          clear h hb8 hr8 HX7 HR7 HB7
          have CN := Lib.hid (refCompose none 0 0 N n S Z w8 HNn.out hN (by omega) ⟨.inl rfl, fun i h => absurd h (Nat.not_lt_zero _)⟩)
          go_wp2_with fail
          refine CN.out.mono ?_
          rintro e w9 ⟨A9, c9, rfl, hb9, hr9⟩
          have HB9 := Lib.hid (HB8.out.trans (hb9.mono HB8.out.size))
          have HR9 := Lib.hid ((HR8.out.later hb9).mono hb9.size)
          have HU9 := Lib.hid ((HU8.out.later hb9).mono hb9.size)
          have CS := Lib.hid (same_any A8 A9 N N c8 c9 _ _ w9 (by omega) (by omega) HU9.out hr9)
          clear hb9 hr9 CN HU8 HR8 HB8
          go_wp2_with fail
          refine CS.out.mono ?_
          rintro e w10 ⟨v, rfl, hv, hb10⟩
          obtain rfl : v = true := hv.2 ⟨rfl, fun x _ => rfl⟩
          have HB10 := Lib.hid (HB9.out.trans (hb10.mono HB9.out.size))
          have HR10 := Lib.hid ((HR9.out.later hb10).mono hb10.size)
          clear hv hb10 CS HU9 HR9 HB9
          go_wp2
          go_loopw [72] (fun i wr => ∃ x : Nat, x ≤ j ∧ i = .int .i64 x ∧ Hid (Below w10.heap.size w10 wr)) (fun i _ => j - (intOf i).toNat)
          case atStart => exact ⟨0, Nat.zero_le _, rfl, Lib.hid (Below.refl _ _)⟩
          case round =>
            obtain ⟨x, hx, rfl, HBy⟩ := hrel
            have HBa := Lib.hid (HB10.out.trans (HBy.out.mono HB10.out.size))
            have HBf := Lib.hid (HBw.out.trans (HBa.out.mono HBw.out.size))
            by_cases hlt : x < j
            · have HLx := Lib.hid (HLs.out.later HBa.out)
              have HZx := Lib.hid (HZ.out.later HBf.out)
              obtain ⟨b, o, rfl, hbB, hc⟩ := HLx.out.1.some hlt
              obtain ⟨b', o', rfl, hbB', hc'⟩ := HZx.out.1.some hlt
              obtain ⟨hm1, hz1⟩ := HLx.out.2 x hlt
              obtain ⟨hm2, hz2⟩ := HZx.out.2 x hlt
              have hcq := hc x hlt
              have hcq' := hc' x hlt
              have hSS := HSS.out x hlt
              have CS := Lib.hid (fun (u : World) (hu : Below wr.heap.size wr u) => same_any (S' x).1 (S x).1 (S' x).2.1 (S x).2.1 (S' x).2.2 (S x).2.2 (Z x) (Z x) u hm1 hm2 ((hz1.later hu).mono hu.size) ((hz2.later hu).mono hu.size))
              have CV := Lib.hid (fun (u : World) (hu : Below wr.heap.size wr u) => refValid (S' x).1 (S' x).2.1 (S' x).2.2 n (Z x) u hm1 (by rw [HNn.out]; omega) ((hz1.later hu).mono hu.size))
              obtain ⟨s1, hs1⟩ : ∃ s1, (S' x).1 = s1 := ⟨_, rfl⟩
              obtain ⟨s2, hs2⟩ : ∃ s2, (S' x).2.1 = s2 := ⟨_, rfl⟩
              obtain ⟨s3, hs3⟩ : ∃ s3, (S' x).2.2 = s3 := ⟨_, rfl⟩
              obtain ⟨r1, hr1⟩ : ∃ r1, (S x).1 = r1 := ⟨_, rfl⟩
              obtain ⟨r2, hr2⟩ : ∃ r2, (S x).2.1 = r2 := ⟨_, rfl⟩
              obtain ⟨r3, hr3⟩ : ∃ r3, (S x).2.2 = r3 := ⟨_, rfl⟩
              simp only [hs1, hs2, hs3] at hcq CV
              simp only [hr1, hr2, hr3] at hcq'
              simp only [hs1, hs2, hs3, hr1, hr2, hr3] at CS
              have HSR := Lib.hid (show s2 = r2 by rw [← hs2, ← hr2]; exact hSS)
              clear hm1 hz1 hm2 hz2 hs1 hs2 hs3 hr1 hr2 hr3 hc hc' hSS
              go_wp2_with fail
              refine (CS.out wr (Below.refl _ _)).mono ?_
              rintro e w11 ⟨v, rfl, hv, hb11⟩
              obtain rfl : v = true := hv.2 ⟨HSR.out, fun _ _ => rfl⟩
              have HB11 := Lib.hid hb11
              have hcr : w11.cell? ⟨b', o' + x, none⟩ = some (.slice r1 r2 r3) := (hb11.cell (p := ⟨b', o' + x, none⟩) hbB').trans hcq'
              clear hv hb11
              go_wp2_with fail
              refine (CV.out w11 HB11.out).mono ?_
              rintro e w12 ⟨v, rfl, hv, rfl⟩
              clear hv
              cases v with
              | true =>
                go_wp2
                go_roundw
                case rel => exact ⟨x + 1, by omega, by go_num, Lib.hid (HBy.out.trans (HB11.out.mono HBy.out.size))⟩
                case measure => simp [intOf]; try omega
              | false =>
                go_wp2_with fail
                refine (CS.out _ HB11.out).mono ?_
                rintro e w13 ⟨v, rfl, hv, hb13⟩
                obtain rfl : v = true := hv.2 ⟨HSR.out, fun _ _ => rfl⟩
                have HB13 := Lib.hid (HB11.out.trans (hb13.mono HB11.out.size))
                clear hv hb13
                go_wp2
                go_ret
                exact ⟨rfl, HBf.out.trans (HB13.out.mono HBf.out.size)⟩
            · obtain rfl : x = j := by omega
              have HXz := Lib.hid (HXa.out.below' HBa.out)
              have CF := Lib.hid (mapsFold A' x c' N n S' Z wr HNn.out hN (by omega) (HLs.out.later HBa.out))
              go_wp2_with (first | ((with_reducible refine wpList_loadR aggMaps HXz.out rfl _ rfl ?_ ?_); (go_simp <;> fail); go_simp) | fail)
              refine CF.out.mono ?_
              rintro e w11 ⟨A11, c11, rfl, hb11, hr11⟩
              have HB11 := Lib.hid (HBf.out.trans (hb11.mono HBf.out.size))
              have CS := Lib.hid (same_any A11 A6 N N c11 c6 _ _ w11 (by omega) (by omega) hr11 (((HR10.out.later HBy.out).mono HBy.out.size |>.later hb11).mono hb11.size))
              clear hb11 hr11
              go_wp2_with fail
              refine CS.out.mono ?_
              rintro e w12 ⟨v, rfl, hv, hb12⟩
              obtain rfl : v = true := hv.2 ⟨rfl, fun y _ => HCM.out y⟩
              have HB12 := Lib.hid (HB11.out.trans (hb12.mono HB11.out.size))
              clear hv hb12
              go_wp2
              go_ret
              exact ⟨rfl, HB12.out⟩
theorem maps_walk (A : Option Addr) (L c : Nat) (n : Int) (S : Nat → Option Addr × Nat × Nat) (Z : Nat → Nat → Int) (w : World) (hL : L ≤ 140737488355328) (hl : Lists w A L S Z) (h8 : ∀ i, i < L → (S i).2.1 * 8 ≤ 140737488355328) :
    Calls Try.prog 5 #[.slice A L c, .int .i64 n] w (FinM w) := by
  by_cases h : 40 < n ∨ 40 < L
  · exact maps_out A L c n w h hL
  · exact maps_in A L c n.toNat n S Z w rfl (by omega) (by omega) hl h8
end Go.Proofs.Ytbiecpejpkgngaa
