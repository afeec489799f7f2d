/-
  DigestGroups: the walk.
-/
import Derived.Test.YtlhennbimgjohaaDgPt
import Derived.Test.YtlhennbimgjohaaReg
namespace Go.Proofs.Ytlhennbimgjohaa
open Go.RowKit
set_option maxRecDepth 20000 in
set_option maxHeartbeats 1600000 in
theorem groups_walk (f g h : Int × Int) (w : World) (hf : In64 f) (hg : In64 g) (hh : In64 h) :
    Calls Try.prog 5 #[.agg (dc f), .agg (dc g), .agg (dc h)] w fun e w' => e = .returned (.bool true) ∧ Below w.heap.size w w' := by
  have HA := Lib.hid awake_true
  obtain ⟨s, hs⟩ : ∃ s, w.heap.size = s := ⟨_, rfl⟩
  have z0 := dg_zero
  have ge := guard_dg
  have ee := equal_dg
  have CU := Lib.hid dg_unit
  have CR := Lib.hid (fun w => dg_rreduced f w hf)
  have J1 := Lib.hid (fun w => dg_join f g w hf hg)
  have J2 := Lib.hid (fun w => dg_join (mDig.j f g) h w (inR_j _ _).in64 hh)
  have J3 := Lib.hid (fun w => dg_join g h w hg hh)
  have J4 := Lib.hid (fun w => dg_join f (mDig.j g h) w hf (inR_j _ _).in64)
  have J5 := Lib.hid (fun w => dg_join mDig.e f w inR_e.in64 hf)
  have J6 := Lib.hid (fun w => dg_join f mDig.e w hf inR_e.in64)
  rw [← mDig.assoc] at J4
  rw [dg_left_rd] at J5
  rw [dg_right_rd] at J6
  obtain ⟨X, hX⟩ : ∃ X, X = mDig.j (mDig.j f g) h := ⟨_, rfl⟩
  obtain ⟨Y, hY⟩ : ∃ Y, Y = mDig.j f g := ⟨_, rfl⟩
  obtain ⟨Z, hZ⟩ : ∃ Z, Z = mDig.j g h := ⟨_, rfl⟩
  obtain ⟨D, hD⟩ : ∃ D, D = rd f := ⟨_, rfl⟩
  obtain ⟨E, hE⟩ : ∃ E, E = mDig.e := ⟨_, rfl⟩
  rw [← hX] at J2 J4
  rw [← hY] at J1 J2
  rw [← hZ] at J3 J4
  rw [← hD] at CR J5 J6
  rw [← hE] at CU J5 J6
  have HB0 := Lib.hid ((((Below.refl w.heap.size w).alloc (Nat.le_refl _) (Obj.cells (dc f) 26)).alloc (by simp) (Obj.cells (dc g) 26)).alloc (by simp; omega) (Obj.cells (dc h) 26))
  have R3 := Lib.hid (((Row.new w 26 (dc f)).alloc (Obj.cells (dc g) 26)).alloc (Obj.cells (dc h) 26))
  have R4 := Lib.hid ((Row.new (w.alloc (Obj.cells (dc f) 26)) 26 (dc g)).alloc (Obj.cells (dc h) 26))
  have R5 := Lib.hid (Row.new ((w.alloc (Obj.cells (dc f) 26)).alloc (Obj.cells (dc g) 26)) 26 (dc h))
  simp only [World.size_alloc] at R4 R5
  rw [hs] at R3 R4 R5 HB0
  have HS := Lib.hid hs
  clear hf hg hh hX hY hZ hD hE
  go_enter Try.func5, Try.ntmps5
  go_wp2_with fail
  refine (HA.out _).mono ?_
  rintro e w1 ⟨rfl, hb1⟩
  have S3 := Lib.hid (R3.out.below' hb1)
  have S4 := Lib.hid (R4.out.below' hb1)
  have S5 := Lib.hid (R5.out.below' hb1)
  have HB1 := Lib.hid (HB0.out.trans (hb1.mono (by have := HB0.out.size; have := HS.out; omega)))
  clear hb1 R3 R4 R5 HB0
  go_wp2_with fail
  refine wp_region_named fun fra hfra => ?_
  have o3 : tm fra 3 = .pointer (some ⟨s, 0, none⟩) := by rw [hfra]; rfl
  have sz : fra.tmps.size = 39 := by rw [hfra]; rfl
  refine wp_region_by (by kernel_rfl) (det [.agg (dc E), .agg (dc f), .agg (dc D)]) 3 5 2 (fun _ => 26) (fun _ => dc (0, 0)) (fun i => [dc E, dc D].getD i #[]) (by rw [sz]; kernel_rfl) (fun _ _ _ _ _ h => h) (fun _ _ _ _ _ _ _ h => h) ?_ ?_ ?_ rfl ?_
  · intro j hj hn a' w' hb O D' K hK
    have hc : j = 0 ∨ j = 1 ∨ j = 2 := by
      have h3 : j < 7 := hj
      have := normB_iff.1 hn
      omega
    rcases hc with rfl | rfl | rfl
    · refine wpOp_of rfl rfl ?_
      replace hK : ∀ w'', Below w'.heap.size w' w'' → K (a'.put (some 11) (.agg (dc E))) w'' := fun w'' hb => hK _ _ hb rfl
      clear O D'
      go_simp
      go_at_call 18
      refine (CU.out _).mono ?_
      rintro e w2 ⟨rfl, hb2⟩
      exact hK _ hb2
    · refine wpOp_of rfl rfl ?_
      replace hK : ∀ w'', Below w'.heap.size w' w'' → K (a'.put (some 12) (.agg (dc f))) w'' := fun w'' hb => hK _ _ hb rfl
      exact wp_loadR aggD (S3.out.below' hb) _ rfl (eval_of ((O 3 (by kernel_rfl)).trans o3)) (hK _ (Below.refl _ _))
    · refine wpOp_of rfl rfl ?_
      replace hK : ∀ w'', Below w'.heap.size w' w'' → K (a'.put (some 13) (.agg (dc D))) w'' := fun w'' hb => hK _ _ hb rfl
      have e1 := tm_simp (show tm a' 12 = .agg (dc f) from D' 1 12 (by kernel_rfl))
      clear O D'
      go_simp
      go_at_call 19
      refine (CR.out _).mono ?_
      rintro e w2 ⟨rfl, hb2⟩
      exact hK _ hb2
  · intro i hi a' w' K hK
    have hc : i = 0 ∨ i = 1 := by omega
    rcases hc with rfl | rfl
    · refine wpOp_of rfl rfl ?_
      replace hK : K (a'.put (some 7) (.pointer (some ⟨w'.heap.size, 0, none⟩))) (w'.alloc (.cells (dc (0, 0)) 26)) := hK
      go_simp
      exact hK
    · refine wpOp_of rfl rfl ?_
      replace hK : K (a'.put (some 8) (.pointer (some ⟨w'.heap.size, 0, none⟩))) (w'.alloc (.cells (dc (0, 0)) 26)) := hK
      go_simp
      exact hK
  · intro i hi a' w' g' d O D' hd hg hrow K hK
    have hc : i = 0 ∨ i = 1 := by omega
    rcases hc with rfl | rfl
    · obtain rfl : 7 = d := Option.some.inj hd
      exact wpOp_of rfl rfl (wp_storeR (c' := dc E) aggD hrow rfl (dc_one _) _ _ rfl (eval_of hg) (eval_of (show tm a' 11 = .agg (dc E) from D' 0 11 (by kernel_rfl))) hK)
    · obtain rfl : 8 = d := Option.some.inj hd
      exact wpOp_of rfl rfl (wp_storeR (c' := dc D) aggD hrow rfl (dc_one _) _ _ rfl (eval_of hg) (eval_of (show tm a' 13 = .agg (dc D) from D' 2 13 (by kernel_rfl))) hK)
  · intro V G w2 hb2 hV hG
    have v0 : V 0 = .agg (dc E) := hV 0 rfl
    have v1 : V 1 = .agg (dc f) := hV 1 rfl
    have v2 : V 2 = .agg (dc D) := hV 2 rfl
    have v3 := (hG 0 (by omega)).1
    have v4 := (hG 1 (by omega)).1
    have T7 := Lib.hid (show Row w2 (G 0) 26 (dc E) from (hG 0 (by omega)).2)
    have T8 := Lib.hid (show Row w2 (G 1) 26 (dc D) from (hG 1 (by omega)).2)
    obtain ⟨g0, hg0⟩ : ∃ g0, g0 = G 0 := ⟨_, rfl⟩
    obtain ⟨g1, hg1⟩ : ∃ g1, g1 = G 1 := ⟨_, rfl⟩
    rw [← hg0] at v3 T7
    rw [← hg1] at v4 T8
    have T3 := Lib.hid (S3.out.below' hb2)
    have T4 := Lib.hid (S4.out.below' hb2)
    have T5 := Lib.hid (S5.out.below' hb2)
    have HB2 := Lib.hid (HB1.out.trans (hb2.mono (by have := HB1.out.size; have := HS.out; omega)))
    show Exit.then _ _ _ (puts [some 11, some 12, some 13, some 7, some 8, none, none] V 0 fra) w2
    simp only [puts, Nat.zero_add, Nat.reduceAdd, v0, v1, v2] at v3 v4 ⊢
    simp only [v3, v4, hfra]
    clear hG hV hb2 v0 v1 v2 v3 v4 hg0 hg1 sz o3 hfra S3 S4 S5 HB1
    go_simp
    go_wp2
    refine wp_region_later (by kernel_rfl) (by kernel_rfl) ?_
    repeat (first | go_big_quiet_skip | (go_big_quiet_want; first | (with_reducible refine quiet_loadR aggD T3.out _ rfl ?_ ?_; (go_simp <;> fail); go_simp; go_big_quiet_on) | (with_reducible refine quiet_loadR aggD T4.out _ rfl ?_ ?_; (go_simp <;> fail); go_simp; go_big_quiet_on) | (with_reducible refine quiet_loadR aggD T5.out _ rfl ?_ ?_; (go_simp <;> fail); go_simp; go_big_quiet_on) | (with_reducible refine quiet_loadR aggD T7.out _ rfl ?_ ?_; (go_simp <;> fail); go_simp; go_big_quiet_on) | (with_reducible refine quiet_loadR aggD T8.out _ rfl ?_ ?_; (go_simp <;> fail); go_simp; go_big_quiet_on) | (go_big_quiet_op; first | go_big_quiet_on | go_big_quiet_call (first | with_reducible exact calls_later (J1.out _) | with_reducible exact calls_later (J2.out _) | with_reducible exact calls_later (J3.out _) | with_reducible exact calls_later (J4.out _) | with_reducible exact calls_later (J5.out _) | with_reducible exact calls_later (J6.out _)))))
    refine wpQuiet_nil ?_
    rintro w8 ⟨u, rfl⟩
    go_wp2
    go_ret
    exact ⟨rfl, by rw [HS.out]; exact HB2.out.trans ((below_later w2 u).mono (by have := HB2.out.size; have := HS.out; omega))⟩
end Go.Proofs.Ytlhennbimgjohaa
