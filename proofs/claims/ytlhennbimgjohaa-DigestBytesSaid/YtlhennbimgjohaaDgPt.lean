/-
  DigestParts: the walk.
-/
import Derived.Test.YtlhennbimgjohaaDgRs
namespace Go.Proofs.Ytlhennbimgjohaa
open Go.RowKit
theorem equal_none (w : World) : (Op.equalIn 10000 26 (.agg (dc (0, 0))) (.agg #[.int .u64 0, .int .u64 0])).run Try.prog w = .ok true w := equal_dg (0, 0) w
theorem inR_rs (f g : Int × Int) : InR (rs f g) := ⟨R_R _, R_R _⟩
theorem inR_fr (f g : Int × Int) : InR (fr f g) := ⟨R_R _, R_R _⟩
theorem tmod_R {x : Int} (h : 0 ≤ x) : x.tmod 2305843009213693951 = R x := Int.tmod_eq_emod_of_nonneg h
set_option maxRecDepth 20000 in
set_option maxHeartbeats 1600000 in
theorem parts_none (f g : Int × Int) (w : World) (hf : In64 f) (hg : In64 g) (h : R f.2 = 0 ∨ R g.2 = 0) :
    Calls Try.prog 8 #[.agg (dc f), .agg (dc g)] w fun e w' => e = .returned (.bool true) ∧ Below w.heap.size w w' := by
  have HA := Lib.hid awake_true
  obtain ⟨s, hs⟩ : ∃ s, w.heap.size = s := ⟨_, rfl⟩
  have z0 := dg_zero
  have ge := guard_dg
  have ee := equal_dg
  have en := equal_none
  have C3 := Lib.hid (fun w => dg_rest_none f g w hf hg h)
  have C4 := Lib.hid (fun w => dg_front_none f g w hf hg h)
  have HI := Lib.hid is_range
  obtain ⟨b, hb⟩ : ∃ b, b = f.2 := ⟨_, rfl⟩
  obtain ⟨d, hd⟩ : ∃ d, d = g.2 := ⟨_, rfl⟩
  have b0 : 0 ≤ b := by rw [hb]; exact hf.2.2.1
  have b1 : b < 18446744073709551616 := by rw [hb]; exact hf.2.2.2
  have d0 : 0 ≤ d := by rw [hd]; exact hg.2.2.1
  have d1 : d < 18446744073709551616 := by rw [hd]; exact hg.2.2.2
  have HBb := Lib.hid hb
  have HDd := Lib.hid hd
  have HH := Lib.hid h
  clear h hb hd
  have HB0 := Lib.hid (((Below.refl w.heap.size w).alloc (Nat.le_refl _) (Obj.cells (dc f) 26)).alloc (by simp) (Obj.cells (dc g) 26))
  have R2 := Lib.hid ((Row.new w 26 (dc f)).alloc (Obj.cells (dc g) 26))
  have R3 := Lib.hid (Row.new (w.alloc (Obj.cells (dc f) 26)) 26 (dc g))
  simp only [World.size_alloc] at R3
  rw [hs] at R2 R3 HB0
  have HS := Lib.hid hs
  clear hf hg
  go_enter Try.func8, Try.ntmps8
  go_wp2_with fail
  refine (HA.out _).mono ?_
  rintro e w1 ⟨rfl, hb1⟩
  have S2 := Lib.hid (R2.out.below' hb1)
  have S3 := Lib.hid (R3.out.below' hb1)
  have HB1 := Lib.hid (HB0.out.trans (hb1.mono (by have := HB0.out.size; have := HS.out; omega)))
  clear hb1 HB0 R2 R3
  clear hs
  go_wp2_with (first | ((with_reducible refine wpList_loadR aggD S2.out rfl _ rfl ?_ ?_); (go_simp <;> fail); go_simp) | ((with_reducible refine wpList_loadR aggD S3.out rfl _ rfl ?_ ?_); (go_simp <;> fail); go_simp))
  refine (C3.out _).mono ?_
  rintro e w2 ⟨rfl, hb2⟩
  have T2 := Lib.hid (S2.out.below' hb2)
  have T3 := Lib.hid (S3.out.below' hb2)
  have HB2 := Lib.hid (HB1.out.trans (hb2.mono (by have := HB1.out.size; have := HS.out; omega)))
  clear hb2 HB1 S2 S3
  go_wp2_with (first | ((with_reducible refine wpList_newR (c' := dc (0, 0)) aggD rfl (dc_one _) rfl _ _ rfl ?_ ?_ ?_); (go_simp <;> fail); (first | (go_simp <;> fail) | exact rfl); go_simp; have U5 := Lib.hid (Row.new w2 26 (dc (0, 0))); have U2 := Lib.hid (T2.out.alloc (.cells (dc (0, 0)) 26)); have U3 := Lib.hid (T3.out.alloc (.cells (dc (0, 0)) 26)); have HB3 := Lib.hid (HB2.out.alloc (by have := HB2.out.size; have := HS.out; omega) (.cells (dc (0, 0)) 26)); clear HB2 T2 T3; revert U5 U2 U3 HB3; generalize w2.alloc (.cells (dc (0, 0)) 26) = w3; intro U5 U2 U3 HB3) | ((with_reducible refine wpList_loadR aggD U2.out rfl _ rfl ?_ ?_); (go_simp <;> fail); go_simp) | ((with_reducible refine wpList_loadR aggD U3.out rfl _ rfl ?_ ?_); (go_simp <;> fail); go_simp))
  refine (C4.out _).mono ?_
  rintro e w4 ⟨rfl, hb4⟩
  have V2 := Lib.hid (U2.out.below' hb4)
  have V3 := Lib.hid (U3.out.below' hb4)
  have V5 := Lib.hid (U5.out.below' hb4)
  have HB4 := Lib.hid (HB3.out.trans (hb4.mono (by have := HB3.out.size; have := HS.out; omega)))
  clear hb4 HB3 U2 U3 U5
  by_cases h0 : R b = 0
  · have m1 : (b % 2305843009213693951 == 0) = true := by have : b % 2305843009213693951 = 0 := h0; simpa using this
    have m2 : (b.tmod 2305843009213693951 == 0) = true := by rw [tmod_R b0, h0]; rfl
    clear h0
    go_wp2_with (first | ((with_reducible refine wpList_newR (c' := dc (0, 0)) aggD rfl (dc_one _) rfl _ _ rfl ?_ ?_ ?_); (go_simp <;> fail); (first | (go_simp <;> fail) | exact rfl); go_simp; have W7 := Lib.hid (Row.new w4 26 (dc (0, 0))); have W2 := Lib.hid (V2.out.alloc (.cells (dc (0, 0)) 26)); have W3 := Lib.hid (V3.out.alloc (.cells (dc (0, 0)) 26)); have W5 := Lib.hid (V5.out.alloc (.cells (dc (0, 0)) 26)); have HB5 := Lib.hid (HB4.out.alloc (by have := HB4.out.size; have := HS.out; omega) (.cells (dc (0, 0)) 26)); clear HB4 V2 V3 V5; revert W7 W2 W3 W5 HB5; generalize w4.alloc (.cells (dc (0, 0)) 26) = w5; intro W7 W2 W3 W5 HB5; have p1 : w5.cell? ⟨s, 1, none⟩ = some (.int .u64 b) := (by rw [HBb.out]; exact W2.out.cell 1); have p3 : w5.cell? ⟨s + 1, 1, none⟩ = some (.int .u64 d) := (by rw [HDd.out]; exact W3.out.cell 1)) | (go_at_call 23; (with_reducible refine (HI.out _).mono ?_); rintro e w6 ⟨rfl, rfl⟩) | ((with_reducible refine wpList_loadR_g aggD W5.out ?_ _ rfl ?_ ?_); exact rfl; (go_simp <;> fail); go_simp) | ((with_reducible refine wpList_loadR_g aggD W7.out ?_ _ rfl ?_ ?_); exact rfl; (go_simp <;> fail); go_simp))
    go_ret
    exact ⟨rfl, by rw [HS.out]; exact HB5.out⟩
  · have m1 : (b % 2305843009213693951 == 0) = false := by have : ¬ b % 2305843009213693951 = 0 := h0; simpa using this
    have m2 : (b.tmod 2305843009213693951 == 0) = false := by rw [tmod_R b0]; simpa using h0
    have h4 : R d = 0 := by
      have := HH.out
      rw [← HBb.out, ← HDd.out] at this
      exact this.resolve_left h0
    have m3 : (d % 2305843009213693951 == 0) = true := by have : d % 2305843009213693951 = 0 := h4; simpa using this
    have m4 : (d.tmod 2305843009213693951 == 0) = true := by rw [tmod_R d0, h4]; rfl
    clear h0 h4
    go_wp2_with (first | ((with_reducible refine wpList_newR (c' := dc (0, 0)) aggD rfl (dc_one _) rfl _ _ rfl ?_ ?_ ?_); (go_simp <;> fail); (first | (go_simp <;> fail) | exact rfl); go_simp; have W7 := Lib.hid (Row.new w4 26 (dc (0, 0))); have W2 := Lib.hid (V2.out.alloc (.cells (dc (0, 0)) 26)); have W3 := Lib.hid (V3.out.alloc (.cells (dc (0, 0)) 26)); have W5 := Lib.hid (V5.out.alloc (.cells (dc (0, 0)) 26)); have HB5 := Lib.hid (HB4.out.alloc (by have := HB4.out.size; have := HS.out; omega) (.cells (dc (0, 0)) 26)); clear HB4 V2 V3 V5; revert W7 W2 W3 W5 HB5; generalize w4.alloc (.cells (dc (0, 0)) 26) = w5; intro W7 W2 W3 W5 HB5; have p1 : w5.cell? ⟨s, 1, none⟩ = some (.int .u64 b) := (by rw [HBb.out]; exact W2.out.cell 1); have p3 : w5.cell? ⟨s + 1, 1, none⟩ = some (.int .u64 d) := (by rw [HDd.out]; exact W3.out.cell 1)) | (go_at_call 23; (with_reducible refine (HI.out _).mono ?_); rintro e w6 ⟨rfl, rfl⟩) | ((with_reducible refine wpList_loadR_g aggD W5.out ?_ _ rfl ?_ ?_); exact rfl; (go_simp <;> fail); go_simp) | ((with_reducible refine wpList_loadR_g aggD W7.out ?_ _ rfl ?_ ?_); exact rfl; (go_simp <;> fail); go_simp))
    go_ret
    exact ⟨rfl, by rw [HS.out]; exact HB5.out⟩
set_option maxRecDepth 20000 in
set_option maxHeartbeats 1600000 in
theorem parts_some (f g : Int × Int) (w : World) (hf : In64 f) (hg : In64 g) (h0 : ¬ R f.2 = 0) (h1 : ¬ R g.2 = 0) :
    Calls Try.prog 8 #[.agg (dc f), .agg (dc g)] w fun e w' => e = .returned (.bool true) ∧ Below w.heap.size w w' := by
  have HA := Lib.hid awake_true
  obtain ⟨s, hs⟩ : ∃ s, w.heap.size = s := ⟨_, rfl⟩
  have z0 := dg_zero
  have ge := guard_dg
  have ee := equal_dg
  have C3 := Lib.hid (fun w => dg_rest f g w hf hg h0 h1)
  have C4 := Lib.hid (fun w => dg_front f g w hf hg h0 h1)
  obtain ⟨X, hX⟩ : ∃ X, X = rs f g := ⟨_, rfl⟩
  obtain ⟨Y, hY⟩ : ∃ Y, Y = fr f g := ⟨_, rfl⟩
  obtain ⟨D, hD⟩ : ∃ D, D = rd f := ⟨_, rfl⟩
  have C5 := Lib.hid (fun w => dg_rreduced f w hf)
  have C6 := Lib.hid (fun w => dg_rreduced (rs f g) w (inR_rs f g).in64)
  have C7 := Lib.hid (fun w => dg_rreduced (fr f g) w (inR_fr f g).in64)
  have C8 := Lib.hid (fun w => dg_rjoin g (rs f g) w hg (inR_rs f g).in64)
  have C9 := Lib.hid (fun w => dg_rjoin (fr f g) g w (inR_fr f g).in64 hg)
  rw [rd_of (inR_rs f g)] at C6
  rw [rd_of (inR_fr f g)] at C7
  rw [join_rs hg h1] at C8
  rw [join_fr hg h1] at C9
  rw [← hX] at C3 C6 C8
  rw [← hY] at C4 C7 C9
  rw [← hD] at C5 C8 C9
  obtain ⟨b, hb⟩ : ∃ b, b = f.2 := ⟨_, rfl⟩
  obtain ⟨d, hd⟩ : ∃ d, d = g.2 := ⟨_, rfl⟩
  have b0 : 0 ≤ b := by rw [hb]; exact hf.2.2.1
  have b1 : b < 18446744073709551616 := by rw [hb]; exact hf.2.2.2
  have d0 : 0 ≤ d := by rw [hd]; exact hg.2.2.1
  have d1 : d < 18446744073709551616 := by rw [hd]; exact hg.2.2.2
  have m1 : (b % 2305843009213693951 == 0) = false := by have : ¬ b % 2305843009213693951 = 0 := by rw [hb]; exact h0
                                                         simpa using this
  have m2 : (b.tmod 2305843009213693951 == 0) = false := by rw [tmod_R b0, hb]; simpa using h0
  have m3 : (d % 2305843009213693951 == 0) = false := by have : ¬ d % 2305843009213693951 = 0 := by rw [hd]; exact h1
                                                         simpa using this
  have m4 : (d.tmod 2305843009213693951 == 0) = false := by rw [tmod_R d0, hd]; simpa using h1
  have HBb := Lib.hid hb
  have HDd := Lib.hid hd
  clear h0 h1 hb hd hX hY hD
  have HB0 := Lib.hid (((Below.refl w.heap.size w).alloc (Nat.le_refl _) (Obj.cells (dc f) 26)).alloc (by simp) (Obj.cells (dc g) 26))
  have R2 := Lib.hid ((Row.new w 26 (dc f)).alloc (Obj.cells (dc g) 26))
  have R3 := Lib.hid (Row.new (w.alloc (Obj.cells (dc f) 26)) 26 (dc g))
  simp only [World.size_alloc] at R3
  rw [hs] at R2 R3 HB0
  have HS := Lib.hid hs
  clear hf hg
  go_enter Try.func8, Try.ntmps8
  go_wp2_with fail
  refine (HA.out _).mono ?_
  rintro e w1 ⟨rfl, hb1⟩
  have S2 := Lib.hid (R2.out.below' hb1)
  have S3 := Lib.hid (R3.out.below' hb1)
  have HB1 := Lib.hid (HB0.out.trans (hb1.mono (by have := HB0.out.size; have := HS.out; omega)))
  clear hb1 HB0 R2 R3
  clear hs
  go_wp2_with (first | ((with_reducible refine wpList_loadR aggD S2.out rfl _ rfl ?_ ?_); (go_simp <;> fail); go_simp) | ((with_reducible refine wpList_loadR aggD S3.out rfl _ rfl ?_ ?_); (go_simp <;> fail); go_simp))
  refine (C3.out _).mono ?_
  rintro e w2 ⟨rfl, hb2⟩
  have T2 := Lib.hid (S2.out.below' hb2)
  have T3 := Lib.hid (S3.out.below' hb2)
  have HB2 := Lib.hid (HB1.out.trans (hb2.mono (by have := HB1.out.size; have := HS.out; omega)))
  clear hb2 HB1 S2 S3
  go_wp2_with (first | ((with_reducible refine wpList_newR (c' := dc X) aggD rfl (dc_one _) rfl _ _ rfl ?_ ?_ ?_); (go_simp <;> fail); (first | (go_simp <;> fail) | exact rfl); go_simp; have U5 := Lib.hid (Row.new w2 26 (dc X)); have U2 := Lib.hid (T2.out.alloc (.cells (dc X) 26)); have U3 := Lib.hid (T3.out.alloc (.cells (dc X) 26)); have HB3 := Lib.hid (HB2.out.alloc (by have := HB2.out.size; have := HS.out; omega) (.cells (dc X) 26)); clear HB2 T2 T3; revert U5 U2 U3 HB3; generalize w2.alloc (.cells (dc X) 26) = w3; intro U5 U2 U3 HB3) | ((with_reducible refine wpList_loadR aggD U2.out rfl _ rfl ?_ ?_); (go_simp <;> fail); go_simp) | ((with_reducible refine wpList_loadR aggD U3.out rfl _ rfl ?_ ?_); (go_simp <;> fail); go_simp))
  refine (C4.out _).mono ?_
  rintro e w4 ⟨rfl, hb4⟩
  have V2 := Lib.hid (U2.out.below' hb4)
  have V3 := Lib.hid (U3.out.below' hb4)
  have V5 := Lib.hid (U5.out.below' hb4)
  have HB4 := Lib.hid (HB3.out.trans (hb4.mono (by have := HB3.out.size; have := HS.out; omega)))
  clear hb4 HB3 U2 U3 U5
  go_wp2_with (first | ((with_reducible refine wpList_newR (c' := dc Y) aggD rfl (dc_one _) rfl _ _ rfl ?_ ?_ ?_); (go_simp <;> fail); (first | (go_simp <;> fail) | exact rfl); go_simp; have W7 := Lib.hid (Row.new w4 26 (dc Y)); have W2 := Lib.hid (V2.out.alloc (.cells (dc Y) 26)); have W3 := Lib.hid (V3.out.alloc (.cells (dc Y) 26)); have W5 := Lib.hid (V5.out.alloc (.cells (dc Y) 26)); have HB5 := Lib.hid (HB4.out.alloc (by have := HB4.out.size; have := HS.out; omega) (.cells (dc Y) 26)); clear HB4 V2 V3 V5; revert W7 W2 W3 W5 HB5; generalize w4.alloc (.cells (dc Y) 26) = w5; intro W7 W2 W3 W5 HB5; have p1 : w5.cell? ⟨s, 1, none⟩ = some (.int .u64 b) := (by rw [HBb.out]; exact W2.out.cell 1); have p3 : w5.cell? ⟨s + 1, 1, none⟩ = some (.int .u64 d) := (by rw [HDd.out]; exact W3.out.cell 1)) | ((with_reducible refine wpList_loadR aggD W2.out rfl _ rfl ?_ ?_); (go_simp <;> fail); go_simp))
  refine (C5.out _).mono ?_
  rintro e w6 ⟨rfl, hb6⟩
  clear p1 p3
  have X2 := Lib.hid (W2.out.below' hb6)
  have X3 := Lib.hid (W3.out.below' hb6)
  have X5 := Lib.hid (W5.out.below' hb6)
  have X7 := Lib.hid (W7.out.below' hb6)
  have HB6 := Lib.hid (HB5.out.trans (hb6.mono (by have := HB5.out.size; have := HS.out; omega)))
  clear hb6 HB5 W2 W3 W5 W7
  go_wp2_with (first | ((with_reducible refine wpList_newR (c' := dc D) aggD rfl (dc_one _) rfl _ _ rfl ?_ ?_ ?_); (go_simp <;> fail); (first | (go_simp <;> fail) | exact rfl); go_simp; have Y9 := Lib.hid (Row.new w6 26 (dc D)); have Y2 := Lib.hid (X2.out.alloc (.cells (dc D) 26)); have Y3 := Lib.hid (X3.out.alloc (.cells (dc D) 26)); have Y5 := Lib.hid (X5.out.alloc (.cells (dc D) 26)); have Y7 := Lib.hid (X7.out.alloc (.cells (dc D) 26)); have HB7 := Lib.hid (HB6.out.alloc (by have := HB6.out.size; have := HS.out; omega) (.cells (dc D) 26)); clear HB6 X2 X3 X5 X7; revert Y9 Y2 Y3 Y5 Y7 HB7; generalize w6.alloc (.cells (dc D) 26) = w7; intro Y9 Y2 Y3 Y5 Y7 HB7) | fail)
  clear z0
  refine wp_region_later (by kernel_rfl) (by kernel_rfl) ?_
  repeat (first | go_big_quiet_skip | (go_big_quiet_want; first | (with_reducible refine quiet_loadR aggD Y3.out _ rfl ?_ ?_; (go_simp <;> fail); go_simp; go_big_quiet_on) | (with_reducible refine quiet_loadR aggD Y5.out _ rfl ?_ ?_; (go_simp <;> fail); go_simp; go_big_quiet_on) | (with_reducible refine quiet_loadR aggD Y7.out _ rfl ?_ ?_; (go_simp <;> fail); go_simp; go_big_quiet_on) | (with_reducible refine quiet_loadR aggD Y9.out _ rfl ?_ ?_; (go_simp <;> fail); go_simp; go_big_quiet_on) | (go_big_quiet_op; first | go_big_quiet_on | go_big_quiet_call (first | with_reducible exact calls_later (C6.out _) | with_reducible exact calls_later (C7.out _) | with_reducible exact calls_later (C8.out _) | with_reducible exact calls_later (C9.out _))))) 
  refine wpQuiet_nil ?_
  rintro w8 ⟨u, rfl⟩
  go_wp2
  go_ret
  exact ⟨rfl, by rw [HS.out]; exact HB7.out.trans ((below_later w7 u).mono (by have := HB7.out.size; have := HS.out; omega))⟩
theorem parts_walk (f g : Int × Int) (w : World) (hf : In64 f) (hg : In64 g) :
    Calls Try.prog 8 #[.agg (dc f), .agg (dc g)] w fun e w' => e = .returned (.bool true) ∧ Below w.heap.size w w' := by
  by_cases h0 : R f.2 = 0
  · exact parts_none f g w hf hg (.inl h0)
  · by_cases h1 : R g.2 = 0
    · exact parts_none f g w hf hg (.inr h1)
    · exact parts_some f g w hf hg h0 h1
end Go.Proofs.Ytlhennbimgjohaa
