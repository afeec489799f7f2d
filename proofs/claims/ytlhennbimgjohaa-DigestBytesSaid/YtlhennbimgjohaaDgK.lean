/-
  Package digest: Take.
-/
import Derived.Test.YtlhennbimgjohaaDgZ
import Derived.Test.YtlhennbimgjohaaDgPt
import Derived.Test.YtlhennbimgjohaaReg
namespace Go.Proofs.Ytlhennbimgjohaa
open Go.RowKit
theorem equal_dg_ne {f g : Int × Int} (h : f ≠ g) (w : World) : (Op.equalIn 10000 26 (.agg (dc f)) (.agg (dc g))).run Try.prog w = .ok false w := by
  obtain ⟨a, b⟩ := f
  obtain ⟨c, d⟩ := g
  unfold dc
  have h1 := run_equalIn_int (P := Try.prog) w 9998 24 .u64 .u64 a c Try.underlying24
  have h2 := run_equalIn_int (P := Try.prog) w 9998 24 .u64 .u64 b d Try.underlying24
  rw [run_equalIn_struct w 9999 26 _ _ (by kernel_rfl) (by kernel_rfl)]
  by_cases e1 : a = c
  · subst e1
    have e2 : (b == d) = false := by
      have : ¬ b = d := fun e => h (by rw [e])
      simpa using this
    have e2' : ¬ b = d := fun e => h (by rw [e])
    go_simp
  · have e1' : (a == c) = false := by simpa using e1
    go_simp
theorem dg_take_len (A : Option Addr) (n c : Nat) (w : World) (hn : n ≠ 16) (hn2 : n ≤ 9223372036854775807) :
    Calls Try.prog 25 #[.slice A n c] w fun e w' => e = .returned (.tuple #[.agg (dc (0, 0)), .iface 46 (.int .i64 4)]) ∧ Below w.heap.size w w' := by
  have z0 := dg_zero
  have hne : ((n : Int) == 16) = false := by
    have : ¬ (n : Int) = 16 := by omega
    simpa using this
  have hne' : ¬ (n : Int) = 16 := by omega
  have R1 := Lib.hid (Row.new w 26 (dc (0, 0)))
  have HB := Lib.hid ((Below.refl w.heap.size w).alloc (Nat.le_refl _) (Obj.cells (dc (0, 0)) 26))
  clear hn
  go_enter Try.func25, Try.ntmps25
  go_wp2_with (first | ((with_reducible refine wpList_storeR (c' := dc (0, 0)) aggD R1.out rfl (dc_one _) rfl _ _ rfl ?_ ?_ ?_); (go_simp <;> fail); exact rfl; go_simp))
  refine bodyPost_ret (results_cellR2 (c := dc (0, 0)) aggD rfl _ (R1.out.setRow _) ?_) rfl ⟨rfl, below_setRow HB.out (Nat.le_refl _) _⟩
  go_simp
theorem rd_step {D : Int × Int} (h : ¬ InR D) : D ≠ rd D := fun e => h (by rw [e]; exact inR_rd _)
set_option maxRecDepth 20000 in
set_option maxHeartbeats 1600000 in
theorem dg_take (b off c : Nat) (z : Nat → Int) (w : World) (hc : 16 ≤ c) (hc2 : c ≤ maxLen) (hz : Rd w.heap.size w (some ⟨b, off, none⟩) 16 (u8 z)) (hb : InB z 16) :
    Calls Try.prog 25 #[.slice (some ⟨b, off, none⟩) 16 c] w fun e w' => (InR (tk z) → e = .returned (.tuple #[.agg (dc (tk z)), .nilIface])) ∧ (¬ InR (tk z) → e = .returned (.tuple #[.agg (dc (0, 0)), .iface 46 (.int .i64 4)])) ∧ Below w.heap.size w w' := by
  unfold maxLen at hc2
  have HD := Lib.hid (fun w => dg_reduced (tk z) w (tk_64 hb))
  obtain ⟨D, hD⟩ : ∃ D, D = tk z := ⟨_, rfl⟩
  have z0 := dg_zero
  obtain ⟨w1, hw1⟩ : ∃ w1, w1 = w.alloc (Obj.cells (dc (0, 0)) 26) := ⟨_, rfl⟩
  have HB1 := Lib.hid (show Below w.heap.size w w1 by rw [hw1]; exact (Below.refl w.heap.size w).alloc (Nat.le_refl _) (Obj.cells (dc (0, 0)) 26))
  have R1 := Lib.hid (show Row w1 w.heap.size 26 (dc (0, 0)) by rw [hw1]; exact Row.new w 26 (dc (0, 0)))
  have HZ := hz
  have later : ∀ u, Below w1.heap.size w1 u → Rd u.heap.size u (some ⟨b, off, none⟩) 16 (u8 z) := fun u hu => by
    have hh : Below w.heap.size w u := HB1.out.trans (hu.mono HB1.out.size)
    exact (hz.later hh).mono hh.size
  have C1 := Lib.hid (fun u (hu : Below w1.heap.size w1 u) => show Calls Try.prog 41 #[.slice (some ⟨b, off, none⟩) 8 c] u fun e w' => e = .returned (.int .u64 D.1) ∧ Below u.heap.size u w' by
    rw [hD]
    have h0 : Rd u.heap.size u (some ⟨b, off, none⟩) 8 (u8 z) := by
      rcases later u hu with h | ⟨b', off', h1, h2, h3⟩
      · omega
      · exact .inr ⟨b', off', h1, h2, fun k hk => h3 k (by omega)⟩
    exact (take_number (some ⟨b, off, none⟩) c z u h0 (fun k hk => hb k (by omega))).mono fun e w' ⟨he, hw⟩ => ⟨he, hw ▸ Below.refl _ _⟩)
  have C2 := Lib.hid (fun u (hu : Below w1.heap.size w1 u) => show Calls Try.prog 41 #[.slice (some ⟨b, off + 8, none⟩) 8 (c - 8)] u fun e w' => e = .returned (.int .u64 D.2) ∧ Below u.heap.size u w' by
    rw [hD]
    have h0 : Rd u.heap.size u (some ⟨b, off + 8, none⟩) 8 (u8 fun k => z (8 + k)) := by
      rcases later u hu with h | ⟨b', off', h1, h2, h3⟩
      · omega
      · cases h1
        exact .inr ⟨b, off + 8, rfl, h2, fun k hk => by rw [Nat.add_assoc]; exact h3 (8 + k) (by omega)⟩
    exact (take_number (some ⟨b, off + 8, none⟩) (c - 8) (fun k => z (8 + k)) u h0 (fun k hk => hb (8 + k) (by omega))).mono fun e w' ⟨he, hw⟩ => ⟨he, hw ▸ Below.refl _ _⟩)
  rw [← hD] at HD ⊢
  obtain ⟨s, hs⟩ : ∃ s, w.heap.size = s := ⟨_, rfl⟩
  rw [hs] at HB1 R1
  have HS := Lib.hid hs
  have c8 : ¬ c = 8 := by omega
  have i1 : (16 : Int) ≤ (c : Int) := by omega
  have i2 : (8 : Int) ≤ (c : Int) := by omega
  have i3 : (c : Int) ≤ 9223372036854775807 := by omega
  clear hz hb later HZ hD hs
  go_enter Try.func25, Try.ntmps25
  go_wp2_with fail
  have e : w.heap.size = s := HS.out
  rw [e]
  clear e
  rw [← hw1]
  clear hw1
  refine wp_region_named fun fra hfra => ?_
  have o0 : tm fra 0 = .slice (some ⟨b, off, none⟩) 16 c := by rw [hfra]; rfl
  have sz : fra.tmps.size = 24 := by rw [hfra]; rfl
  obtain ⟨PL, hPL⟩ : ∃ PL : List (Value → World → Prop), PL = [(fun v _ => v = .slice (some ⟨b, off, none⟩) 16 c), (fun v _ => v = .slice (some ⟨b, off, none⟩) 8 c), (fun v _ => v = .int .u64 D.1), (fun v _ => v = .slice (some ⟨b, off, none⟩) 16 c), (fun v _ => v = .slice (some ⟨b, off + 8, none⟩) 8 (c - 8)), (fun v _ => v = .int .u64 D.2), (fun v _ => v = .agg (dc D)), (fun _ _ => True), (fun _ _ => True)] := ⟨_, rfl⟩
  have hmono : AllMono PL := by rw [hPL]; exact ⟨mono_det _, mono_det _, mono_det _, mono_det _, mono_det _, mono_det _, mono_det _, mono_top, mono_top, trivial⟩
  have P0 : ∀ v w, PL.getD 0 (fun _ _ => True) v w = (fun v _ => v = .slice (some ⟨b, off, none⟩) 16 c) v w := fun v w => by rw [hPL]; rfl
  have P1 : ∀ v w, PL.getD 1 (fun _ _ => True) v w = (fun v _ => v = .slice (some ⟨b, off, none⟩) 8 c) v w := fun v w => by rw [hPL]; rfl
  have P2 : ∀ v w, PL.getD 2 (fun _ _ => True) v w = (fun v _ => v = .int .u64 D.1) v w := fun v w => by rw [hPL]; rfl
  have P3 : ∀ v w, PL.getD 3 (fun _ _ => True) v w = (fun v _ => v = .slice (some ⟨b, off, none⟩) 16 c) v w := fun v w => by rw [hPL]; rfl
  have P4 : ∀ v w, PL.getD 4 (fun _ _ => True) v w = (fun v _ => v = .slice (some ⟨b, off + 8, none⟩) 8 (c - 8)) v w := fun v w => by rw [hPL]; rfl
  have P5 : ∀ v w, PL.getD 5 (fun _ _ => True) v w = (fun v _ => v = .int .u64 D.2) v w := fun v w => by rw [hPL]; rfl
  have P6 : ∀ v w, PL.getD 6 (fun _ _ => True) v w = (fun v _ => v = .agg (dc D)) v w := fun v w => by rw [hPL]; rfl
  have hkeep : AllKeep PL := by rw [hPL]; exact ⟨keep_det _, keep_det _, keep_det _, keep_det _, keep_det _, keep_det _, keep_det _, keep_top, keep_top, trivial⟩
  refine wp_region_by (by kernel_rfl) (fun j => PL.getD j (fun _ _ => True)) 7 8 1 (fun _ => 26) (fun _ => dc (0, 0)) (fun i => [dc D].getD i #[]) (by rw [sz]; kernel_rfl) (fun j => all_mono hmono j) (fun j v w g i _ _ h => all_keep hkeep j v w g _ h) ?_ ?_ ?_ rfl ?_
  · intro j hj hn a' w' hb OX DX K hK
    have hc : j = 0 ∨ j = 1 ∨ j = 2 ∨ j = 3 ∨ j = 4 ∨ j = 5 ∨ j = 6 := by
      have h3 : j < 9 := hj
      have := normB_iff.1 hn
      omega
    clear hmono hj
    rcases hc with rfl | rfl | rfl | rfl | rfl | rfl | rfl
    · refine wpOp_of rfl rfl ?_
      have e0 := (OX 0 (by kernel_rfl)).trans o0
      replace hK : K (a'.put (some 10) (.slice (some ⟨b, off, none⟩) 16 c)) w' := hK _ _ (Below.refl _ _) ((P0 _ _).mpr rfl)
      have e0' := tm_simp e0
      clear OX DX
      go_simp
      exact hK
    · refine wpOp_of rfl rfl ?_
      have e10 : tm a' 10 = .slice (some ⟨b, off, none⟩) 16 c := (P0 _ _).mp (DX 0 10 (by kernel_rfl))
      replace hK : K (a'.put (some 11) (.slice (some ⟨b, off, none⟩) 8 c)) w' := hK _ _ (Below.refl _ _) ((P1 _ _).mpr rfl)
      have e10' := tm_simp e10
      clear OX DX
      go_simp
      exact hK
    · refine wpOp_of rfl rfl ?_
      have e11 : tm a' 11 = .slice (some ⟨b, off, none⟩) 8 c := (P1 _ _).mp (DX 1 11 (by kernel_rfl))
      replace hK : ∀ w'', Below w'.heap.size w' w'' → K (a'.put (some 12) (.int .u64 D.1)) w'' := fun w'' hb => hK _ _ hb ((P2 _ _).mpr rfl)
      have e11' := tm_simp e11
      clear OX DX
      go_simp
      go_at_call 41
      refine (C1.out _ hb).mono ?_
      rintro e w2 ⟨rfl, hb2⟩
      exact hK _ hb2
    · refine wpOp_of rfl rfl ?_
      have e0 := (OX 0 (by kernel_rfl)).trans o0
      replace hK : K (a'.put (some 13) (.slice (some ⟨b, off, none⟩) 16 c)) w' := hK _ _ (Below.refl _ _) ((P3 _ _).mpr rfl)
      have e0' := tm_simp e0
      clear OX DX
      go_simp
      exact hK
    · refine wpOp_of rfl rfl ?_
      have e13 : tm a' 13 = .slice (some ⟨b, off, none⟩) 16 c := (P3 _ _).mp (DX 3 13 (by kernel_rfl))
      replace hK : K (a'.put (some 14) (.slice (some ⟨b, off + 8, none⟩) 8 (c - 8))) w' := hK _ _ (Below.refl _ _) ((P4 _ _).mpr rfl)
      have e13' := tm_simp e13
      clear OX DX
      go_simp
      exact hK
    · refine wpOp_of rfl rfl ?_
      have e14 : tm a' 14 = .slice (some ⟨b, off + 8, none⟩) 8 (c - 8) := (P4 _ _).mp (DX 4 14 (by kernel_rfl))
      replace hK : ∀ w'', Below w'.heap.size w' w'' → K (a'.put (some 15) (.int .u64 D.2)) w'' := fun w'' hb => hK _ _ hb ((P5 _ _).mpr rfl)
      have e14' := tm_simp e14
      clear OX DX
      go_simp
      go_at_call 41
      refine (C2.out _ hb).mono ?_
      rintro e w2 ⟨rfl, hb2⟩
      exact hK _ hb2
    · refine wpOp_of rfl rfl ?_
      have e12 : tm a' 12 = .int .u64 D.1 := (P2 _ _).mp (DX 2 12 (by kernel_rfl))
      have e15 : tm a' 15 = .int .u64 D.2 := (P5 _ _).mp (DX 5 15 (by kernel_rfl))
      replace hK : K (a'.put (some 16) (.agg (dc D))) w' := hK _ _ (Below.refl _ _) ((P6 _ _).mpr rfl)
      have e12' := tm_simp e12
      have e15' := tm_simp e15
      clear OX DX
      go_simp
      exact hK
  · intro i hi a' w' K hK
    have hc : i = 0 := by omega
    rcases hc with rfl
    · refine wpOp_of rfl rfl ?_
      replace hK : K (a'.put (some 4) (.pointer (some ⟨w'.heap.size, 0, none⟩))) (w'.alloc (.cells (dc (0, 0)) 26)) := hK
      go_simp
      exact hK
  · intro i hi a' w' g' d OX DX hd hg hrow K hK
    have hc : i = 0 := by omega
    rcases hc with rfl
    · obtain rfl : 4 = d := Option.some.inj hd
      have ev : tm a' 16 = .agg (dc D) := (P6 _ _).mp (DX 6 16 (by kernel_rfl))
      exact wpOp_of rfl rfl (wp_storeR (c' := dc D) aggD hrow rfl (dc_one _) _ _ rfl (eval_of hg) (eval_of ev) hK)
  · intro V G w2 hb2 hV hG
    have v0 : V 0 = .slice (some ⟨b, off, none⟩) 16 c := (P0 _ _).mp (hV 0 rfl)
    have v1 : V 1 = .slice (some ⟨b, off, none⟩) 8 c := (P1 _ _).mp (hV 1 rfl)
    have v2 : V 2 = .int .u64 D.1 := (P2 _ _).mp (hV 2 rfl)
    have v3 : V 3 = .slice (some ⟨b, off, none⟩) 16 c := (P3 _ _).mp (hV 3 rfl)
    have v4 : V 4 = .slice (some ⟨b, off + 8, none⟩) 8 (c - 8) := (P4 _ _).mp (hV 4 rfl)
    have v5 : V 5 = .int .u64 D.2 := (P5 _ _).mp (hV 5 rfl)
    have v6 : V 6 = .agg (dc D) := (P6 _ _).mp (hV 6 rfl)
    have v7 := (hG 0 (by omega)).1
    have T4 := Lib.hid (show Row w2 (G 0) 26 (dc D) from (hG 0 (by omega)).2)
    obtain ⟨g0, hg0⟩ : ∃ g, g = G 0 := ⟨_, rfl⟩
    rw [← hg0] at v7 T4
    show Exit.then _ _ _ (puts [some 10, some 11, some 12, some 13, some 14, some 15, some 16, some 4, none] V 0 fra) w2
    simp only [Nat.reduceAdd] at v7
    simp only [puts, Nat.zero_add, Nat.reduceAdd, v0, v1, v2, v3, v4, v5, v6, v7]
    simp only [hfra]
    clear hV hG hmono hkeep hPL hfra sz v0 v1 v2 v3 v4 v5 v6 v7 hg0
    clear P0 P1 P2 P3 P4 P5 P6
    go_simp
    have S1 := Lib.hid (R1.out.below' hb2)
    have HB2 := Lib.hid (HB1.out.trans (hb2.mono (by have := HB1.out.size; have := HS.out; omega)))
    have ge := guard_dg
    clear hb2 R1 HB1 C1 C2 o0 i1 i2 i3 c8 z0
    by_cases hr : InR D
    · have ee := equal_dg D
      rw [rd_of hr] at HD
      have HRR := Lib.hid hr
      clear hr
      go_wp2_with fail
      refine wp_region_later (by kernel_rfl) (by kernel_rfl) ?_
      repeat (first | go_big_quiet_skip | (go_big_quiet_want; first | (with_reducible refine quiet_loadR aggD T4.out _ rfl ?_ ?_; (go_simp <;> fail); go_simp; go_big_quiet_on) | (go_big_quiet_op; first | go_big_quiet_on | go_big_quiet_call (first | with_reducible exact calls_later (HD.out _)))))
      refine wpQuiet_nil ?_
      rintro w3 ⟨u, rfl⟩
      have V2 := Lib.hid (S1.out.later u)
      have V4 := Lib.hid (T4.out.later u)
      have HB3 := Lib.hid (HB2.out.trans ((below_later w2 u).mono (by have := HB2.out.size; have := HS.out; omega)))
      go_wp2_with (first | ((with_reducible refine wpList_loadR aggD V4.out rfl _ rfl ?_ ?_); (go_simp <;> fail); go_simp) | ((with_reducible refine wpList_storeR (c' := dc D) aggD V2.out rfl (dc_one _) rfl _ _ rfl ?_ ?_ ?_); (go_simp <;> fail); (first | (go_simp <;> fail) | exact rfl); go_simp))
      refine bodyPost_ret (results_cellR2 (c := dc D) aggD rfl _ (V2.out.setRow _) ?_) rfl ⟨fun _ => rfl, fun h => absurd HRR.out h, ?_⟩
      · go_simp
      · rw [HS.out]; exact below_setRow HB3.out (Nat.le_refl _) _
    · have ee := equal_dg_ne (rd_step hr)
      have HRR := Lib.hid hr
      clear hr
      go_wp2_with fail
      refine wp_region_later (by kernel_rfl) (by kernel_rfl) ?_
      repeat (first | go_big_quiet_skip | (go_big_quiet_want; first | (with_reducible refine quiet_loadR aggD T4.out _ rfl ?_ ?_; (go_simp <;> fail); go_simp; go_big_quiet_on) | (go_big_quiet_op; first | go_big_quiet_on | go_big_quiet_call (first | with_reducible exact calls_later (HD.out _)))))
      refine wpQuiet_nil ?_
      rintro w3 ⟨u, rfl⟩
      have V2 := Lib.hid (S1.out.later u)
      have V4 := Lib.hid (T4.out.later u)
      have HB3 := Lib.hid (HB2.out.trans ((below_later w2 u).mono (by have := HB2.out.size; have := HS.out; omega)))
      go_wp2_with (first | ((with_reducible refine wpList_loadR aggD V4.out rfl _ rfl ?_ ?_); (go_simp <;> fail); go_simp) | ((with_reducible refine wpList_storeR (c' := dc (0, 0)) aggD V2.out rfl (dc_one _) rfl _ _ rfl ?_ ?_ ?_); (go_simp <;> fail); (first | (go_simp <;> fail) | exact rfl); go_simp))
      refine bodyPost_ret (results_cellR2 (c := dc (0, 0)) aggD rfl _ (V2.out.setRow _) ?_) rfl ⟨fun h => absurd h HRR.out, fun _ => rfl, ?_⟩
      · go_simp
      · rw [HS.out]; exact below_setRow HB3.out (Nat.le_refl _) _
end Go.Proofs.Ytlhennbimgjohaa
