/-
  Package monoid: maps: Join.
-/
import Derived.Test.YtbiecpejpkgngaaMoMapB
import Derived.Laws.CopyOwn
namespace Go.Proofs.Ytbiecpejpkgngaa
open Go.RowKit
theorem splice_get {L : List Value} {N : Nat} {f : Nat → Value} (hL : L.length = N) : (splice L 0 ((List.range N).map f)).toArray.size = N ∧ ∀ k, k < N → (splice L 0 ((List.range N).map f)).toArray[k]? = some (f k) := by
  refine ⟨by simp [splice]; omega, fun k hk => ?_⟩
  simp [splice, List.getElem?_append, hk]
def Stuck (p : Prop) : Prop := p
theorem stuck17 {ops : Array Oper} {rest : List Oper} {Q : Exit → Act → World → Prop} {a : Act} {w : World} {o : Oper} (_ : o.dst = some 17) (h : Stuck (wpList Try.prog ops Q (o :: rest) a w)) : wpList Try.prog ops Q (o :: rest) a w := h
theorem asMap_get {N m : Nat} {z : Nat → Int} {k : Nat} (h : k < N) : ∃ j : Nat, j < N ∧ asMap N m z k = (j : Int) := by
  have := asMap_in (m := m) (z := z) h
  exact ⟨(asMap N m z k).toNat, by omega, by omega⟩
set_option maxHeartbeats 3200000 in
theorem mapsJoin (n : Int) (N : Nat) (A A' : Option Addr) (m m' c c' : Nat) (z y : Nat → Int) (w : World) (hn : n.toNat = N) (hN : N ≤ 100000) (hm : m ≤ 140737488355328) (hm' : m' ≤ 140737488355328)
    (hz : Rd w.heap.size w A m fun k => .int .i64 (z k)) (hy : Rd w.heap.size w A' m' fun k => .int .i64 (y k)) :
    Calls Try.prog 21 #[.agg #[.int .i64 n], .slice A m c, .slice A' m' c'] w (Made 3 N (fun k => .int .i64 (asMap N m' y (asMap N m z k).toNat)) w) := by
  have HX0 := Lib.hid (Row.new w 48 #[.int .i64 n])
  have HB0 := Lib.hid (show Below w.heap.size w (w.alloc (.cells #[.int .i64 n] 48)) from (Below.refl _ _).alloc (Nat.le_refl _) _)
  have HNn := Lib.hid hn
  have HZ := Lib.hid hz
  have HY := Lib.hid hy
  clear hn hz hy
  go_enter Try.func21, Try.ntmps21
  go_wp2_with (first | ((with_reducible refine wpList_loadR aggMaps HX0.out rfl _ rfl ?_ ?_); (go_simp <;> fail); go_simp) | fail)
  refine (mapsUnit n N _ HNn.out hN).mono ?_
  rintro e wu ⟨g, c1, hg, rfl, hbu, hru, hsz, hcu⟩
  obtain ⟨w1, hw1⟩ : ∃ w1, w1 = w.alloc (.cells #[.int .i64 n] 48) := ⟨_, rfl⟩
  rw [← hw1] at hg hbu HX0 HB0
  clear hw1
  have HG := Lib.hid hg
  have HBu := Lib.hid hbu
  have HRu := Lib.hid hru
  have HS1 := Lib.hid hsz
  have HC1 := Lib.hid hcu
  have HV := Lib.hid (fun (u : World) (hu : Below w1.heap.size w1 u) => mapsValid A m c n z u hm (by rw [HNn.out]; omega) ((HZ.out.later (HB0.out.trans (hu.mono HB0.out.size))).mono (Nat.le_trans HB0.out.size hu.size)))
  have HV' := Lib.hid (fun (u : World) (hu : Below w1.heap.size w1 u) => mapsValid A' m' c' n y u hm' (by rw [HNn.out]; omega) ((HY.out.later (HB0.out.trans (hu.mono HB0.out.size))).mono (Nat.le_trans HB0.out.size hu.size)))
  rw [HNn.out] at HV HV'
  have HXu := Lib.hid (HX0.out.below' hbu)
  clear hg hbu hru hsz hcu
  by_cases hV : isMap N m z
  · have HM := Lib.hid hV
    clear hV
    go_wp2_with (first | ((with_reducible refine wpList_loadR aggMaps HXu.out rfl _ rfl ?_ ?_); (go_simp <;> fail); go_simp) | fail)
    refine (HV.out wu HBu.out).mono ?_
    rintro e w2 ⟨v, rfl, hv, hb2⟩
    obtain rfl : v = true := hv.2 HM.out
    have HR2 := Lib.hid (HRu.out.below' hb2)
    have HB2 := Lib.hid (HBu.out.trans (hb2.mono HBu.out.size))
    clear hv hb2
    obtain ⟨cs, hcs⟩ : ∃ cs, cs = (List.range N).map (fun k => Value.int .i64 (z k)) := ⟨_, rfl⟩
    have HCS := Lib.hid hcs
    clear hcs
    have HL := Lib.hid (show cs.length = N by rw [HCS.out]; simp)
    have K1 := Lib.hid (show w2.heap[g]? = some (.cells c1.toList.toArray 3 (0, 0)) by have h := HR2.out; unfold Row at h; simpa using h)
    have K2 := Lib.hid (show cs.length = Nat.min m N by rw [HL.out, HM.out.1]; exact (Nat.min_self _).symm)
    have K3 := Lib.hid (show 0 < cs.length → (some ⟨g, 0, none⟩ : Option Addr) = some ⟨g, 0, none⟩ ∧ ∃ ad, A = some ad ∧ ∀ j v, cs[j]? = some v → w2.cell? (ad.add j) = some v from fun h => by
      obtain ⟨b, o, hA, hbB, hc⟩ := HZ.out.some (k := 0) (by rw [HM.out.1]; rw [HL.out] at h; exact h)
      refine ⟨rfl, _, hA, fun j v hj => ?_⟩
      have hjN : j < N := by rw [← HL.out]; exact (List.getElem?_eq_some_iff.1 hj).1
      rw [HCS.out] at hj
      simp [hjN] at hj
      subst hj
      have := ((HB0.out.trans (HB2.out.mono HB0.out.size)).cell (p := ⟨b, o + j, none⟩) hbB).trans (hc j (by rw [HM.out.1]; exact hjN))
      rw [show (⟨b, o, none⟩ : Addr).add j = ⟨b, o + j, none⟩ by unfold Addr.add; split <;> simp_all]; exact this)
    have K4 := Lib.hid (show 0 + cs.length ≤ c1.toList.length by rw [HL.out, Array.length_toList, HS1.out]; omega)
    have K5 := Lib.hid (show ∀ v ∈ cs, v.oneCell' = true by rw [HCS.out]; simp; intros; rfl)
    have K6 := Lib.hid (show (Try.prog.info? 3).map (·.size) = some 1 by kernel_rfl)
    go_wp2_with (first | (with_reducible refine stuck17 rfl ?_) | fail)
    unfold Stuck
    refine wpList_copy_splice rfl (.tmp 15) (.tmp 16) 50 50 rfl 3 Try.underlying50 K6.out (some ⟨g, 0, none⟩) A N N m c rfl rfl g 0 c1.toList 3 K1.out cs K2.out (fun h => ⟨rfl, (K3.out h).2⟩) K4.out K5.out w1.heap.size w1 HB2.out HG.out ?_
    intro w3 HR3 hb3
    obtain ⟨c2, hc2⟩ : ∃ c2, c2 = (splice c1.toList 0 cs).toArray := ⟨_, rfl⟩
    have hsg := splice_get (L := c1.toList) (N := N) (f := fun k => Value.int .i64 (z k)) (by rw [Array.length_toList, HS1.out])
    rw [← HCS.out, ← hc2] at hsg
    rw [← hc2] at HR3
    have HR3 : Hid (Row w3 g 3 c2) := HR3
    have HB3 := Lib.hid hb3
    have HS2 := Lib.hid hsg.1
    have HC2 := Lib.hid (show ∀ k, k < N → c2[k]? = some (.int .i64 (asMap N m z k)) from fun k hk => (hsg.2 k hk).trans (by rw [show asMap N m z k = z k from if_pos HM.out]))
    clear hc2 hsg hb3 HCS HL
    have HX3 := Lib.hid (HX0.out.below' HB3.out)
    clear HXu HRu HBu HC1 HS1
    by_cases hV' : isMap N m' y
    · have HM' := Lib.hid hV'
      clear hV'
      go_wp2_with (first | ((with_reducible refine wpList_loadR aggMaps HX3.out rfl _ rfl ?_ ?_); (go_simp <;> fail); go_simp) | fail)
      refine (HV'.out w3 HB3.out).mono ?_
      rintro e w4 ⟨v, rfl, hv, hb4⟩
      obtain rfl : v = true := hv.2 HM'.out
      have HR4 := Lib.hid (HR3.out.below' hb4)
      have HB4 := Lib.hid (HB3.out.trans (hb4.mono HB3.out.size))
      clear hv hb4
      go_wp2
      go_loopw [23] (fun i wr => ∃ k : Nat, k ≤ N ∧ i = .int .i64 k ∧ Hid (w4.grownBy wr (some g)) ∧ ∃ c3, Hid (Row wr g 3 c3) ∧ Hid (Upd c2 c3 0 k (fun k => .int .i64 (asMap N m' y (asMap N m z k).toNat)))) (fun i _ => N - (intOf i).toNat)
      case atStart => exact ⟨0, Nat.zero_le _, rfl, Lib.hid (World.grownBy.refl _ _), _, HR4, Lib.hid (Upd.none _ 0 0 (by omega) _)⟩
      case round =>
        obtain ⟨k, hk, rfl, HGr, c3, HR5, HU⟩ := hrel
        by_cases hlt : k < N
        · have HSZ := Lib.hid (show k < c3.size by rw [HU.out.1, HS2.out]; exact hlt)
          obtain ⟨j, hj, hjz⟩ := asMap_get (m := m) (z := z) hlt
          have hcell : wr.cell? ⟨g, k, none⟩ = some (.int .i64 (j : Int)) := (HR5.out.cell k).trans ((HU.out.2.2 k (.inr (Nat.le_refl _))).trans ((HC2.out k hlt).trans (by rw [hjz])))
          have hfr := HR5.out.frozen k
          obtain ⟨b, o, rfl, hbB, hc⟩ := HY.out.some (k := j) (by rw [HM'.out.1]; exact hj)
          have HBr := Lib.hid ((HB0.out.trans (HB4.out.mono HB0.out.size)).grown HGr.out (Nat.le_trans HB0.out.size HB4.out.size) (fun k h => by cases h; exact Nat.le_trans HB0.out.size HG.out))
          have hcj : wr.cell? ⟨b, o + j, none⟩ = some (.int .i64 (y j)) := (HBr.out.cell (p := ⟨b, o + j, none⟩) hbB).trans (hc j (by rw [HM'.out.1]; exact hj))
          have hjm : j < m' := by rw [HM'.out.1]; exact hj
          obtain ⟨Y, hY⟩ : ∃ Y, y j = Y := ⟨_, rfl⟩
          rw [hY] at hcj
          have HE := Lib.hid (show asMap N m' y (asMap N m z k).toNat = Y by rw [hjz, Int.toNat_natCast, ← hY]; exact if_pos HM'.out)
          clear hc hjz hY
          go_wp2
          go_roundw
          case rel => exact ⟨k + 1, by omega, by go_num, Lib.hid (grown_set HGr.out rfl _), _, Lib.hid (HR5.out.set k _), Lib.hid (HU.out.up (by omega) (by rw [HS2.out]; exact hlt) (by rw [HE.out]))⟩
          case measure => simp [intOf]; try omega
        · obtain rfl : k = N := by omega
          go_wp2
          go_ret
          exact ⟨g, c3, Nat.le_trans HB0.out.size HG.out, rfl, (HB0.out.trans (HB4.out.mono HB0.out.size)).grown HGr.out (Nat.le_trans HB0.out.size HB4.out.size) (fun k h => by cases h; exact Nat.le_trans HB0.out.size HG.out), HR5.out, by rw [HU.out.1, HS2.out], fun j hj => HU.out.2.1 j (by omega) hj⟩
    · have HM' := Lib.hid hV'
      clear hV'
      go_wp2_with (first | ((with_reducible refine wpList_loadR aggMaps HX3.out rfl _ rfl ?_ ?_); (go_simp <;> fail); go_simp) | fail)
      refine (HV'.out w3 HB3.out).mono ?_
      rintro e w4 ⟨v, rfl, hv, hb4⟩
      obtain rfl : v = false := by cases v with | false => rfl | true => exact absurd (hv.1 rfl) HM'.out
      have HR4 := Lib.hid (HR3.out.below' hb4)
      have HB4 := Lib.hid (HB3.out.trans (hb4.mono HB3.out.size))
      clear hv hb4
      go_wp2
      go_ret
      exact ⟨g, c2, Nat.le_trans HB0.out.size HG.out, rfl, HB0.out.trans (HB4.out.mono HB0.out.size), HR4.out, HS2.out, fun j hj => (HC2.out j hj).trans (by
        obtain ⟨i, hi, hiz⟩ := asMap_get (m := m) (z := z) hj
        show some (Value.int .i64 (asMap N m z j)) = some (.int .i64 (asMap N m' y (asMap N m z j).toNat))
        rw [show asMap N m' y (asMap N m z j).toNat = ((asMap N m z j).toNat : Int) from if_neg HM'.out, hiz]; rfl)⟩
  · have HM := Lib.hid hV
    clear hV
    go_wp2_with (first | ((with_reducible refine wpList_loadR aggMaps HXu.out rfl _ rfl ?_ ?_); (go_simp <;> fail); go_simp) | fail)
    refine (HV.out wu HBu.out).mono ?_
    rintro e w3 ⟨v, rfl, hv, hb2⟩
    obtain rfl : v = false := by cases v with | false => rfl | true => exact absurd (hv.1 rfl) HM.out
    have HR3 := Lib.hid (HRu.out.below' hb2)
    have HB3 := Lib.hid (HBu.out.trans (hb2.mono HBu.out.size))
    obtain ⟨c2, rfl⟩ : ∃ c2, c1 = c2 := ⟨_, rfl⟩
    have HS2 := HS1
    have HC2 := Lib.hid (show ∀ k, k < N → c1[k]? = some (.int .i64 (asMap N m z k)) from fun k hk => (HC1.out k hk).trans (by rw [show asMap N m z k = (k : Int) from if_neg HM.out]))
    obtain ⟨c2, hc2⟩ : ∃ c2, c1 = c2 := ⟨_, rfl⟩
    rw [hc2] at HS2 HC2 HR3
    clear hv hb2 hc2
    have HX3 := Lib.hid (HX0.out.below' HB3.out)
    clear HXu HRu HBu HC1 HS1
    by_cases hV' : isMap N m' y
    · have HM' := Lib.hid hV'
      clear hV'
      go_wp2_with (first | ((with_reducible refine wpList_loadR aggMaps HX3.out rfl _ rfl ?_ ?_); (go_simp <;> fail); go_simp) | fail)
      refine (HV'.out w3 HB3.out).mono ?_
      rintro e w4 ⟨v, rfl, hv, hb4⟩
      obtain rfl : v = true := hv.2 HM'.out
      have HR4 := Lib.hid (HR3.out.below' hb4)
      have HB4 := Lib.hid (HB3.out.trans (hb4.mono HB3.out.size))
      clear hv hb4
      go_wp2
      go_loopw [23] (fun i wr => ∃ k : Nat, k ≤ N ∧ i = .int .i64 k ∧ Hid (w4.grownBy wr (some g)) ∧ ∃ c3, Hid (Row wr g 3 c3) ∧ Hid (Upd c2 c3 0 k (fun k => .int .i64 (asMap N m' y (asMap N m z k).toNat)))) (fun i _ => N - (intOf i).toNat)
      case atStart => exact ⟨0, Nat.zero_le _, rfl, Lib.hid (World.grownBy.refl _ _), _, HR4, Lib.hid (Upd.none _ 0 0 (by omega) _)⟩
      case round =>
        obtain ⟨k, hk, rfl, HGr, c3, HR5, HU⟩ := hrel
        by_cases hlt : k < N
        · have HSZ := Lib.hid (show k < c3.size by rw [HU.out.1, HS2.out]; exact hlt)
          obtain ⟨j, hj, hjz⟩ := asMap_get (m := m) (z := z) hlt
          have hcell : wr.cell? ⟨g, k, none⟩ = some (.int .i64 (j : Int)) := (HR5.out.cell k).trans ((HU.out.2.2 k (.inr (Nat.le_refl _))).trans ((HC2.out k hlt).trans (by rw [hjz])))
          have hfr := HR5.out.frozen k
          obtain ⟨b, o, rfl, hbB, hc⟩ := HY.out.some (k := j) (by rw [HM'.out.1]; exact hj)
          have HBr := Lib.hid ((HB0.out.trans (HB4.out.mono HB0.out.size)).grown HGr.out (Nat.le_trans HB0.out.size HB4.out.size) (fun k h => by cases h; exact Nat.le_trans HB0.out.size HG.out))
          have hcj : wr.cell? ⟨b, o + j, none⟩ = some (.int .i64 (y j)) := (HBr.out.cell (p := ⟨b, o + j, none⟩) hbB).trans (hc j (by rw [HM'.out.1]; exact hj))
          have hjm : j < m' := by rw [HM'.out.1]; exact hj
          obtain ⟨Y, hY⟩ : ∃ Y, y j = Y := ⟨_, rfl⟩
          rw [hY] at hcj
          have HE := Lib.hid (show asMap N m' y (asMap N m z k).toNat = Y by rw [hjz, Int.toNat_natCast, ← hY]; exact if_pos HM'.out)
          clear hc hjz hY
          go_wp2
          go_roundw
          case rel => exact ⟨k + 1, by omega, by go_num, Lib.hid (grown_set HGr.out rfl _), _, Lib.hid (HR5.out.set k _), Lib.hid (HU.out.up (by omega) (by rw [HS2.out]; exact hlt) (by rw [HE.out]))⟩
          case measure => simp [intOf]; try omega
        · obtain rfl : k = N := by omega
          go_wp2
          go_ret
          exact ⟨g, c3, Nat.le_trans HB0.out.size HG.out, rfl, (HB0.out.trans (HB4.out.mono HB0.out.size)).grown HGr.out (Nat.le_trans HB0.out.size HB4.out.size) (fun k h => by cases h; exact Nat.le_trans HB0.out.size HG.out), HR5.out, by rw [HU.out.1, HS2.out], fun j hj => HU.out.2.1 j (by omega) hj⟩
    · have HM' := Lib.hid hV'
      clear hV'
      go_wp2_with (first | ((with_reducible refine wpList_loadR aggMaps HX3.out rfl _ rfl ?_ ?_); (go_simp <;> fail); go_simp) | fail)
      refine (HV'.out w3 HB3.out).mono ?_
      rintro e w4 ⟨v, rfl, hv, hb4⟩
      obtain rfl : v = false := by cases v with | false => rfl | true => exact absurd (hv.1 rfl) HM'.out
      have HR4 := Lib.hid (HR3.out.below' hb4)
      have HB4 := Lib.hid (HB3.out.trans (hb4.mono HB3.out.size))
      clear hv hb4
      go_wp2
      go_ret
      exact ⟨g, c2, Nat.le_trans HB0.out.size HG.out, rfl, HB0.out.trans (HB4.out.mono HB0.out.size), HR4.out, HS2.out, fun j hj => (HC2.out j hj).trans (by
        obtain ⟨i, hi, hiz⟩ := asMap_get (m := m) (z := z) hj
        show some (Value.int .i64 (asMap N m z j)) = some (.int .i64 (asMap N m' y (asMap N m z j).toNat))
        rw [show asMap N m' y (asMap N m z j).toNat = ((asMap N m z j).toNat : Int) from if_neg HM'.out, hiz]; rfl)⟩
end Go.Proofs.Ytbiecpejpkgngaa
