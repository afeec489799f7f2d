/-
  DigestBytes: the walk.
-/
import Derived.Test.YtlhennbimgjohaaDgN
namespace Go.Proofs.Ytlhennbimgjohaa
open Go.RowKit
theorem is_form (w : World) :
    Calls Try.prog 23 #[.iface 46 (.int .i64 4), .int .i64 4] w fun e w' => e = .returned (.bool true) ∧ w = w' := by
  go_enter Try.func23, Try.ntmps23
  go_wp2_with (go_at_call 39; refine (num_some _ _).mono ?_; rintro e w' ⟨rfl, rfl⟩)
  go_ret
  exact ⟨rfl, rfl⟩
theorem mono_sl (n : Nat) (z : Nat → Int) : Mono (IsSl n z) := fun _ _ _ hb h => h.below hb
set_option maxRecDepth 20000 in
set_option maxHeartbeats 6400000 in
theorem bytes_ok (f : Int × Int) (A0 : Option Addr) (c0 : Nat) (z : Nat → Int) (w : World) (hf : In64 f) (hl : 16 ≤ c0) (hm : c0 ≤ maxLen) (hr : Rd w.heap.size w A0 16 (u8 z)) (hz : InB z 16) (hi : InR (tk z)) :
    Calls Try.prog 9 #[.agg (dc f), .slice A0 16 c0] w fun e w' => e = .returned (.bool true) ∧ Below w.heap.size w w' := by
  have HA := Lib.hid awake_true
  have C1 := Lib.hid (fun w => dg_put f w hf)
  have CP := Lib.hid (fun w => dg_rput f w hf)
  have CD := Lib.hid (fun w => dg_rreduced f w hf)
  have HTK := Lib.hid (tk_pb f)
  obtain ⟨D, hD⟩ : ∃ D, D = rd f := ⟨_, rfl⟩
  have HIR := Lib.hid (show InR D by rw [hD]; exact inR_rd f)
  rw [← hD] at CD HTK
  have CQ := Lib.hid (fun w => dg_put (tk z) w (tk_64 hz))
  have HXZ := Lib.hid (pb_tk hz hi)
  have CB := Lib.hid (fun u (hu : Below w.heap.size w u) => show Calls Try.prog 25 #[.slice A0 16 c0] u fun e w' => e = .returned (.tuple #[.agg (dc (tk z)), .nilIface]) ∧ Below u.heap.size u w' by
    obtain ⟨bb, oo, rfl, _, _⟩ := hr.some (k := 0) (by omega)
    exact (dg_take bb oo c0 z u hl hm ((hr.later hu).mono hu.size) hz).mono fun e w' h => ⟨h.1 hi, h.2.2⟩)
  have CR := Lib.hid (fun u (hu : Below w.heap.size w u) => show Calls Try.prog 26 #[.slice A0 16 c0] u fun e w' => e = .returned (.tuple #[.agg (dc (tk z)), .bool true]) ∧ Below u.heap.size u w' by
    obtain ⟨bb, oo, rfl, _, _⟩ := hr.some (k := 0) (by omega)
    exact (dg_rtake bb oo c0 z u ((hr.later hu).mono hu.size) hz).mono fun e w' h => ⟨h.1 hi, h.2.2⟩)
  obtain ⟨X, hX⟩ : ∃ X, X = tk z := ⟨_, rfl⟩
  rw [← hX] at CQ HXZ CB CR
  have HRb0 := Lib.hid hr
  clear hX hi hl hm hz hr
  have ge := guard_dg
  have ee := equal_dg
  have z0 := dg_zero
  obtain ⟨s, hs⟩ : ∃ s, w.heap.size = s := ⟨_, rfl⟩
  have HB0 := Lib.hid ((Below.refl w.heap.size w).alloc (Nat.le_refl _) (Obj.cells (dc f) 26))
  have R2 := Lib.hid (Row.new w 26 (dc f))
  rw [hs] at R2 HB0
  have HS := Lib.hid hs
  clear hf hD
  go_enter Try.func9, Try.ntmps9
  go_wp2_with fail
  refine (HA.out _).mono ?_
  rintro e w1 ⟨rfl, hb1⟩
  have S2 := Lib.hid (R2.out.below' hb1)
  have HB1 := Lib.hid (HB0.out.trans (hb1.mono (by have := HB0.out.size; have := HS.out; omega)))
  clear HB0 R2
  clear hs hb1
  go_wp2_with (first | ((with_reducible refine wpList_loadR aggD S2.out rfl _ rfl ?_ ?_); (go_simp <;> fail); go_simp))
  refine (C1.out _).mono ?_
  rintro e w2 ⟨⟨gp, rfl, hrp⟩, hb2⟩
  have T2 := Lib.hid (S2.out.below' hb2)
  have HB2 := Lib.hid (HB1.out.trans (hb2.mono (by have := HB1.out.size; have := HS.out; omega)))
  clear HB1 S2
  clear hb2
  have HRp2 := Lib.hid hrp
  clear hrp C1
  go_wp2_with fail
  have CT := Lib.hid (dg_take gp 0 16 (pb f) w2 (by omega) (by unfold maxLen; omega) HRp2.out (pb_in f 16))
  rw [HTK.out] at CT
  refine CT.out.mono ?_
  rintro e w3 ⟨h3, -, hb3⟩
  obtain rfl := h3 HIR.out
  clear h3
  have HRp3 := Lib.hid ((HRp2.out.later hb3).mono hb3.size)
  have U2 := Lib.hid (T2.out.below' hb3)
  have HB3 := Lib.hid (HB2.out.trans (hb3.mono (by have := HB2.out.size; have := HS.out; omega)))
  clear HB2 T2
  clear hb3 HRp2 CT
  go_wp2_with (first | ((with_reducible refine wpList_newR (c' := dc D) aggD rfl (dc_one _) rfl _ _ rfl ?_ ?_ ?_); (go_simp <;> fail); (first | (go_simp <;> fail) | exact rfl); go_simp; have V6 := Lib.hid (Row.new w3 26 (dc D)); have V2 := Lib.hid (U2.out.alloc (.cells (dc D) 26)); have HB4 := Lib.hid (HB3.out.alloc (by have := HB3.out.size; have := HS.out; omega) (.cells (dc D) 26)); have HXw4 := Lib.hid ((Below.refl w3.heap.size w3).alloc (Nat.le_refl _) (.cells (dc D) 26)); clear HB3 U2; revert V6 V2 HB4 HXw4; generalize w3.alloc (.cells (dc D) 26) = w4; intro V6 V2 HB4 HXw4))
  have HRp4 := Lib.hid ((HRp3.out.later HXw4.out).mono HXw4.out.size)
  have hw4 : Below w.heap.size w w4 := by rw [HS.out]; exact HB4.out
  refine (CR.out _ hw4).mono ?_
  rintro e w5 ⟨rfl, hb5⟩
  have HRp5 := Lib.hid ((HRp4.out.later hb5).mono hb5.size)
  have W2 := Lib.hid (V2.out.below' hb5)
  have W6 := Lib.hid (V6.out.below' hb5)
  have HB5 := Lib.hid (HB4.out.trans (hb5.mono (by have := HB4.out.size; have := HS.out; omega)))
  clear HB4 V2 V6
  clear hb5 HRp3 HRp4 HXw4 hw4
  go_wp2_with (first | ((with_reducible refine wpList_newR (c' := dc X) aggD rfl (dc_one _) rfl _ _ rfl ?_ ?_ ?_); (go_simp <;> fail); (first | (go_simp <;> fail) | exact rfl); go_simp; have X8 := Lib.hid (Row.new w5 26 (dc X)); have X2 := Lib.hid (W2.out.alloc (.cells (dc X) 26)); have X6 := Lib.hid (W6.out.alloc (.cells (dc X) 26)); have HB6 := Lib.hid (HB5.out.alloc (by have := HB5.out.size; have := HS.out; omega) (.cells (dc X) 26)); have HXw6 := Lib.hid ((Below.refl w5.heap.size w5).alloc (Nat.le_refl _) (.cells (dc X) 26)); clear HB5 W2 W6; revert X8 X2 X6 HB6 HXw6; generalize w5.alloc (.cells (dc X) 26) = w6; intro X8 X2 X6 HB6 HXw6))
  have HRp6 := Lib.hid ((HRp5.out.later HXw6.out).mono HXw6.out.size)
  have hw6 : Below w.heap.size w w6 := by rw [HS.out]; exact HB6.out
  refine (CB.out _ hw6).mono ?_
  rintro e w7 ⟨rfl, hb7⟩
  have HRp7 := Lib.hid ((HRp6.out.later hb7).mono hb7.size)
  have Y2 := Lib.hid (X2.out.below' hb7)
  have Y6 := Lib.hid (X6.out.below' hb7)
  have Y8 := Lib.hid (X8.out.below' hb7)
  have HB7 := Lib.hid (HB6.out.trans (hb7.mono (by have := HB6.out.size; have := HS.out; omega)))
  clear HB6 X2 X6 X8
  clear hb7 HRp5 HRp6 HXw6 hw6
  go_wp2_with (first | ((with_reducible refine wpList_newR (c' := dc X) aggD rfl (dc_one _) rfl _ _ rfl ?_ ?_ ?_); (go_simp <;> fail); (first | (go_simp <;> fail) | exact rfl); go_simp; have Z10 := Lib.hid (Row.new w7 26 (dc X)); have Z2 := Lib.hid (Y2.out.alloc (.cells (dc X) 26)); have Z6 := Lib.hid (Y6.out.alloc (.cells (dc X) 26)); have Z8 := Lib.hid (Y8.out.alloc (.cells (dc X) 26)); have HB8 := Lib.hid (HB7.out.alloc (by have := HB7.out.size; have := HS.out; omega) (.cells (dc X) 26)); have HXw8 := Lib.hid ((Below.refl w7.heap.size w7).alloc (Nat.le_refl _) (.cells (dc X) 26)); clear HB7 Y2 Y6 Y8; revert Z10 Z2 Z6 Z8 HB8 HXw8; generalize w7.alloc (.cells (dc X) 26) = w8; intro Z10 Z2 Z6 Z8 HB8 HXw8) | ((with_reducible refine wpList_loadR_g aggD Z10.out ?_ _ rfl ?_ ?_); exact rfl; (go_simp <;> fail); go_simp) | ((with_reducible refine wpList_loadR_g aggD Z8.out ?_ _ rfl ?_ ?_); exact rfl; (go_simp <;> fail); go_simp))
  have HRp := Lib.hid ((HRp7.out.later HXw8.out).mono HXw8.out.size)
  have hw8 : Below w.heap.size w w8 := by rw [HS.out]; exact HB8.out
  have HRb := Lib.hid ((HRb0.out.later hw8).mono hw8.size)
  clear hw8
  clear HRp7 HXw8 CB CR
  refine wp_region_named fun fra hfra => ?_
  have o1 : tm fra 1 = .slice A0 16 c0 := by rw [hfra]; rfl
  have o2 : tm fra 2 = .pointer (some ⟨s, 0, none⟩) := by rw [hfra]; rfl
  have o5 : tm fra 5 = .slice (some ⟨gp, 0, none⟩) 16 16 := by rw [hfra]; rfl
  have o6 : tm fra 6 = .pointer (some ⟨w3.heap.size, 0, none⟩) := by rw [hfra]; rfl
  have o7 : tm fra 7 = .nilIface := by rw [hfra]; rfl
  have o9 : tm fra 9 = .bool true := by rw [hfra]; rfl
  have o10 : tm fra 10 = .pointer (some ⟨w7.heap.size, 0, none⟩) := by rw [hfra]; rfl
  have sz : fra.tmps.size = 74 := by rw [hfra]; rfl
  obtain ⟨PL, hPL⟩ : ∃ PL : List (Value → World → Prop), PL = [(fun v _ => v = .slice (some ⟨gp, 0, none⟩) 16 16), (fun v _ => v = .agg (dc f)), (IsSl 16 (pb f)), (fun v _ => v = .bool true), (fun v _ => v = .bool true), (fun v _ => v = .nilIface), (fun v _ => v = .bool true), (fun v _ => v = .bool true), (fun v _ => v = .bool true), (fun v _ => v = .agg (dc D)), (fun v _ => v = .agg (dc f)), (fun v _ => v = .agg (dc D)), (fun v _ => v = .bool true), (fun v _ => v = .bool true), (fun v _ => v = .bool true), (fun v _ => v = .bool true), (fun v _ => v = .bool false), (fun v _ => v = .bool false), (fun v _ => v = .agg (dc X)), (IsSl 16 (pb X)), (fun v _ => v = .slice A0 16 c0), (fun v _ => v = .bool true), (fun v _ => v = .bool true), (fun v _ => v = .bool true), (fun v _ => v = .bool true)] := ⟨_, rfl⟩
  have hmono : AllMono PL := by rw [hPL]; exact ⟨mono_det _, mono_det _, mono_sl _ _, mono_det _, mono_det _, mono_det _, mono_det _, mono_det _, mono_det _, mono_det _, mono_det _, mono_det _, mono_det _, mono_det _, mono_det _, mono_det _, mono_det _, mono_det _, mono_det _, mono_sl _ _, mono_det _, mono_det _, mono_det _, mono_det _, mono_det _, trivial⟩
  have P0 : ∀ v w, PL.getD 0 (fun _ _ => True) v w = (fun v _ => v = .slice (some ⟨gp, 0, none⟩) 16 16) v w := fun v w => by rw [hPL]; rfl
  have P1 : ∀ v w, PL.getD 1 (fun _ _ => True) v w = (fun v _ => v = .agg (dc f)) v w := fun v w => by rw [hPL]; rfl
  have P2 : ∀ v w, PL.getD 2 (fun _ _ => True) v w = (IsSl 16 (pb f)) v w := fun v w => by rw [hPL]; rfl
  have P3 : ∀ v w, PL.getD 3 (fun _ _ => True) v w = (fun v _ => v = .bool true) v w := fun v w => by rw [hPL]; rfl
  have P4 : ∀ v w, PL.getD 4 (fun _ _ => True) v w = (fun v _ => v = .bool true) v w := fun v w => by rw [hPL]; rfl
  have P5 : ∀ v w, PL.getD 5 (fun _ _ => True) v w = (fun v _ => v = .nilIface) v w := fun v w => by rw [hPL]; rfl
  have P6 : ∀ v w, PL.getD 6 (fun _ _ => True) v w = (fun v _ => v = .bool true) v w := fun v w => by rw [hPL]; rfl
  have P7 : ∀ v w, PL.getD 7 (fun _ _ => True) v w = (fun v _ => v = .bool true) v w := fun v w => by rw [hPL]; rfl
  have P8 : ∀ v w, PL.getD 8 (fun _ _ => True) v w = (fun v _ => v = .bool true) v w := fun v w => by rw [hPL]; rfl
  have P9 : ∀ v w, PL.getD 9 (fun _ _ => True) v w = (fun v _ => v = .agg (dc D)) v w := fun v w => by rw [hPL]; rfl
  have P10 : ∀ v w, PL.getD 10 (fun _ _ => True) v w = (fun v _ => v = .agg (dc f)) v w := fun v w => by rw [hPL]; rfl
  have P11 : ∀ v w, PL.getD 11 (fun _ _ => True) v w = (fun v _ => v = .agg (dc D)) v w := fun v w => by rw [hPL]; rfl
  have P12 : ∀ v w, PL.getD 12 (fun _ _ => True) v w = (fun v _ => v = .bool true) v w := fun v w => by rw [hPL]; rfl
  have P13 : ∀ v w, PL.getD 13 (fun _ _ => True) v w = (fun v _ => v = .bool true) v w := fun v w => by rw [hPL]; rfl
  have P14 : ∀ v w, PL.getD 14 (fun _ _ => True) v w = (fun v _ => v = .bool true) v w := fun v w => by rw [hPL]; rfl
  have P15 : ∀ v w, PL.getD 15 (fun _ _ => True) v w = (fun v _ => v = .bool true) v w := fun v w => by rw [hPL]; rfl
  have P16 : ∀ v w, PL.getD 16 (fun _ _ => True) v w = (fun v _ => v = .bool false) v w := fun v w => by rw [hPL]; rfl
  have P17 : ∀ v w, PL.getD 17 (fun _ _ => True) v w = (fun v _ => v = .bool false) v w := fun v w => by rw [hPL]; rfl
  have P18 : ∀ v w, PL.getD 18 (fun _ _ => True) v w = (fun v _ => v = .agg (dc X)) v w := fun v w => by rw [hPL]; rfl
  have P19 : ∀ v w, PL.getD 19 (fun _ _ => True) v w = (IsSl 16 (pb X)) v w := fun v w => by rw [hPL]; rfl
  have P20 : ∀ v w, PL.getD 20 (fun _ _ => True) v w = (fun v _ => v = .slice A0 16 c0) v w := fun v w => by rw [hPL]; rfl
  have P21 : ∀ v w, PL.getD 21 (fun _ _ => True) v w = (fun v _ => v = .bool true) v w := fun v w => by rw [hPL]; rfl
  have P22 : ∀ v w, PL.getD 22 (fun _ _ => True) v w = (fun v _ => v = .bool true) v w := fun v w => by rw [hPL]; rfl
  have P23 : ∀ v w, PL.getD 23 (fun _ _ => True) v w = (fun v _ => v = .bool true) v w := fun v w => by rw [hPL]; rfl
  have P24 : ∀ v w, PL.getD 24 (fun _ _ => True) v w = (fun v _ => v = .bool true) v w := fun v w => by rw [hPL]; rfl
  refine wp_region_by0 (by kernel_rfl) (fun j => PL.getD j (fun _ _ => True)) (by rw [sz]; kernel_rfl) (fun j => all_mono hmono j) ?_ ?_
  · intro j hj a' w' hb OX DX K hK
    have hc : j = 0 ∨ j = 1 ∨ j = 2 ∨ j = 3 ∨ j = 4 ∨ j = 5 ∨ j = 6 ∨ j = 7 ∨ j = 8 ∨ j = 9 ∨ j = 10 ∨ j = 11 ∨ j = 12 ∨ j = 13 ∨ j = 14 ∨ j = 15 ∨ j = 16 ∨ j = 17 ∨ j = 18 ∨ j = 19 ∨ j = 20 ∨ j = 21 ∨ j = 22 ∨ j = 23 ∨ j = 24 := by
      have h3 : j < 25 := hj
      omega
    clear hmono hj
    rcases hc with rfl | rfl | rfl | rfl | rfl | rfl | rfl | rfl | rfl | rfl | rfl | rfl | rfl | rfl | rfl | rfl | rfl | rfl | rfl | rfl | rfl | rfl | rfl | rfl | rfl
    · refine wpOp_of rfl rfl ?_
      have e5 := (OX 5 (by kernel_rfl)).trans o5
      replace hK : K (a'.put (some 50) (.slice (some ⟨gp, 0, none⟩) 16 16)) w' := hK _ _ (Below.refl _ _) ((P0 _ _).mpr rfl)
      have e5' := tm_simp e5
      clear OX DX
      go_simp
      exact hK
    · refine wpOp_of rfl rfl ?_
      have e2 := (OX 2 (by kernel_rfl)).trans o2
      exact wp_loadR aggD (Z2.out.below' hb) _ rfl (eval_of e2) (hK _ _ (Below.refl _ _) ((P1 _ _).mpr rfl))
    · refine wpOp_of rfl rfl ?_
      have e51 : tm a' 51 = .agg (dc f) := (P1 _ _).mp (DX 1 51 (by kernel_rfl))
      replace hK : ∀ v w'', Below w'.heap.size w' w'' → IsSl 16 (pb f) v w'' → K (a'.put (some 52) v) w'' := fun v w'' hb hv => hK _ _ hb ((P2 _ _).mpr hv)
      have e51' := tm_simp e51
      clear OX DX
      go_simp
      go_at_call 28
      refine (CP.out _).mono ?_
      rintro e w2 ⟨⟨v, rfl, hv⟩, hb2⟩
      exact hK _ _ hb2 hv
    · refine wpOp_of rfl rfl ?_
      have e50 : tm a' 50 = .slice (some ⟨gp, 0, none⟩) 16 16 := (P0 _ _).mp (DX 0 50 (by kernel_rfl))
      have e52 := (P2 _ _).mp (DX 2 52 (by kernel_rfl))
      replace hK : ∀ w'', Below w'.heap.size w' w'' → K (a'.put (some 53) (.bool true)) w'' := fun w'' hb => hK _ _ hb ((P3 _ _).mpr rfl)
      obtain ⟨A, c, eA, hr⟩ := e52
      have e50' := tm_simp e50
      have eA' := tm_simp eA
      clear OX DX
      go_simp
      go_at_call 27
      refine (bytes_same (by omega) (((HRp.out.later hb).mono hb.size)) hr (fun _ _ => rfl)).mono ?_
      rintro e w2 ⟨rfl, rfl⟩
      exact hK _ (Below.refl _ _)
    · refine wpOp_of rfl rfl ?_
      have e53 : tm a' 53 = .bool true := (P3 _ _).mp (DX 3 53 (by kernel_rfl))
      replace hK : K (a'.put (some 54) (.bool true)) w' := hK _ _ (Below.refl _ _) ((P4 _ _).mpr rfl)
      have e53' := tm_simp e53
      clear OX DX
      go_simp
      exact hK
    · have hg : tm a' 54 = .bool true := (P4 _ _).mp (DX 4 54 (by kernel_rfl))
      refine wpOp_on 4 true 54 rfl rfl rfl hg ?_
      have e7 := (OX 7 (by kernel_rfl)).trans o7
      replace hK : K (a'.put (some 55) (.nilIface)) w' := hK _ _ (Below.refl _ _) ((P5 _ _).mpr rfl)
      have e7' := tm_simp e7
      clear OX DX
      go_simp
      exact hK
    · have hg : tm a' 54 = .bool true := (P4 _ _).mp (DX 4 54 (by kernel_rfl))
      refine wpOp_on 4 true 54 rfl rfl rfl hg ?_
      have e55 : tm a' 55 = .nilIface := (P5 _ _).mp (DX 5 55 (by kernel_rfl))
      replace hK : K (a'.put (some 56) (.bool true)) w' := hK _ _ (Below.refl _ _) ((P6 _ _).mpr rfl)
      have e55' := tm_simp e55
      clear OX DX
      go_simp
      exact hK
    · refine wpOp_of rfl rfl ?_
      have e54 : tm a' 54 = .bool true := (P4 _ _).mp (DX 4 54 (by kernel_rfl))
      have e56 : tm a' 56 = .bool true := (P6 _ _).mp (DX 6 56 (by kernel_rfl))
      replace hK : K (a'.put (some 57) (.bool true)) w' := hK _ _ (Below.refl _ _) ((P7 _ _).mpr rfl)
      have e54' := tm_simp e54
      have e56' := tm_simp e56
      clear OX DX
      go_simp
      exact hK
    · refine wpOp_of rfl rfl ?_
      have e57 : tm a' 57 = .bool true := (P7 _ _).mp (DX 7 57 (by kernel_rfl))
      replace hK : K (a'.put (some 58) (.bool true)) w' := hK _ _ (Below.refl _ _) ((P8 _ _).mpr rfl)
      have e57' := tm_simp e57
      clear OX DX
      go_simp
      exact hK
    · have hg : tm a' 58 = .bool true := (P8 _ _).mp (DX 8 58 (by kernel_rfl))
      refine wpOp_on 8 true 58 rfl rfl rfl hg ?_
      have e6 := (OX 6 (by kernel_rfl)).trans o6
      exact wp_loadR aggD (Z6.out.below' hb) _ rfl (eval_of e6) (hK _ _ (Below.refl _ _) ((P9 _ _).mpr rfl))
    · have hg : tm a' 58 = .bool true := (P8 _ _).mp (DX 8 58 (by kernel_rfl))
      refine wpOp_on 8 true 58 rfl rfl rfl hg ?_
      have e2 := (OX 2 (by kernel_rfl)).trans o2
      exact wp_loadR aggD (Z2.out.below' hb) _ rfl (eval_of e2) (hK _ _ (Below.refl _ _) ((P10 _ _).mpr rfl))
    · have hg : tm a' 58 = .bool true := (P8 _ _).mp (DX 8 58 (by kernel_rfl))
      refine wpOp_on 8 true 58 rfl rfl rfl hg ?_
      have e60 : tm a' 60 = .agg (dc f) := (P10 _ _).mp (DX 10 60 (by kernel_rfl))
      replace hK : ∀ w'', Below w'.heap.size w' w'' → K (a'.put (some 61) (.agg (dc D))) w'' := fun w'' hb => hK _ _ hb ((P11 _ _).mpr rfl)
      have e60' := tm_simp e60
      clear OX DX
      go_simp
      go_at_call 19
      refine (CD.out _).mono ?_
      rintro e w2 ⟨rfl, hb2⟩
      exact hK _ hb2
    · have hg : tm a' 58 = .bool true := (P8 _ _).mp (DX 8 58 (by kernel_rfl))
      refine wpOp_on 8 true 58 rfl rfl rfl hg ?_
      have e59 : tm a' 59 = .agg (dc D) := (P9 _ _).mp (DX 9 59 (by kernel_rfl))
      have e61 : tm a' 61 = .agg (dc D) := (P11 _ _).mp (DX 11 61 (by kernel_rfl))
      replace hK : K (a'.put (some 62) (.bool true)) w' := hK _ _ (Below.refl _ _) ((P12 _ _).mpr rfl)
      have e59' := tm_simp e59
      have e61' := tm_simp e61
      clear OX DX
      go_simp
      exact hK
    · refine wpOp_of rfl rfl ?_
      have e58 : tm a' 58 = .bool true := (P8 _ _).mp (DX 8 58 (by kernel_rfl))
      have e62 : tm a' 62 = .bool true := (P12 _ _).mp (DX 12 62 (by kernel_rfl))
      replace hK : K (a'.put (some 63) (.bool true)) w' := hK _ _ (Below.refl _ _) ((P13 _ _).mpr rfl)
      have e58' := tm_simp e58
      have e62' := tm_simp e62
      clear OX DX
      go_simp
      exact hK
    · refine wpOp_of rfl rfl ?_
      have e63 : tm a' 63 = .bool true := (P13 _ _).mp (DX 13 63 (by kernel_rfl))
      replace hK : K (a'.put (some 64) (.bool true)) w' := hK _ _ (Below.refl _ _) ((P14 _ _).mpr rfl)
      have e63' := tm_simp e63
      clear OX DX
      go_simp
      exact hK
    · have hg : tm a' 64 = .bool true := (P14 _ _).mp (DX 14 64 (by kernel_rfl))
      refine wpOp_on 14 true 64 rfl rfl rfl hg ?_
      have e9 := (OX 9 (by kernel_rfl)).trans o9
      replace hK : K (a'.put (some 65) (.bool true)) w' := hK _ _ (Below.refl _ _) ((P15 _ _).mpr rfl)
      have e9' := tm_simp e9
      clear OX DX
      go_simp
      exact hK
    · have hg : tm a' 64 = .bool true := (P14 _ _).mp (DX 14 64 (by kernel_rfl))
      refine wpOp_on 14 true 64 rfl rfl rfl hg ?_
      have e65 : tm a' 65 = .bool true := (P15 _ _).mp (DX 15 65 (by kernel_rfl))
      replace hK : K (a'.put (some 66) (.bool false)) w' := hK _ _ (Below.refl _ _) ((P16 _ _).mpr rfl)
      have e65' := tm_simp e65
      clear OX DX
      go_simp
      exact hK
    · have hg : tm a' 64 = .bool true := (P14 _ _).mp (DX 14 64 (by kernel_rfl))
      refine wpOp_on 14 true 64 rfl rfl rfl hg ?_
      have e66 : tm a' 66 = .bool false := (P16 _ _).mp (DX 16 66 (by kernel_rfl))
      replace hK : K (a'.put (some 67) (.bool false)) w' := hK _ _ (Below.refl _ _) ((P17 _ _).mpr rfl)
      have e66' := tm_simp e66
      clear OX DX
      go_simp
      exact hK
    · have hg : tm a' 67 = .bool false := (P17 _ _).mp (DX 17 67 (by kernel_rfl))
      refine wpOp_on 17 false 67 rfl rfl rfl hg ?_
      have e10 := (OX 10 (by kernel_rfl)).trans o10
      exact wp_loadR aggD (Z10.out.below' hb) _ rfl (eval_of e10) (hK _ _ (Below.refl _ _) ((P18 _ _).mpr rfl))
    · have hg : tm a' 67 = .bool false := (P17 _ _).mp (DX 17 67 (by kernel_rfl))
      refine wpOp_on 17 false 67 rfl rfl rfl hg ?_
      have e68 : tm a' 68 = .agg (dc X) := (P18 _ _).mp (DX 18 68 (by kernel_rfl))
      replace hK : ∀ v w'', Below w'.heap.size w' w'' → IsSl 16 (pb X) v w'' → K (a'.put (some 69) v) w'' := fun v w'' hb hv => hK _ _ hb ((P19 _ _).mpr hv)
      have e68' := tm_simp e68
      clear OX DX
      go_simp
      go_at_call 24
      refine (CQ.out _).mono ?_
      rintro e w2 ⟨⟨g, rfl, hr⟩, hb2⟩
      exact hK _ _ hb2 ⟨_, _, rfl, hr⟩
    · have hg : tm a' 67 = .bool false := (P17 _ _).mp (DX 17 67 (by kernel_rfl))
      refine wpOp_on 17 false 67 rfl rfl rfl hg ?_
      have e1 := (OX 1 (by kernel_rfl)).trans o1
      replace hK : K (a'.put (some 70) (.slice A0 16 c0)) w' := hK _ _ (Below.refl _ _) ((P20 _ _).mpr rfl)
      have e1' := tm_simp e1
      clear OX DX
      go_simp
      exact hK
    · have hg : tm a' 67 = .bool false := (P17 _ _).mp (DX 17 67 (by kernel_rfl))
      refine wpOp_on 17 false 67 rfl rfl rfl hg ?_
      have e69 := (P19 _ _).mp (DX 19 69 (by kernel_rfl))
      have e70 : tm a' 70 = .slice A0 16 c0 := (P20 _ _).mp (DX 20 70 (by kernel_rfl))
      replace hK : ∀ w'', Below w'.heap.size w' w'' → K (a'.put (some 71) (.bool true)) w'' := fun w'' hb => hK _ _ hb ((P21 _ _).mpr rfl)
      obtain ⟨A, c, eA, hr⟩ := e69
      have e70' := tm_simp e70
      have eA' := tm_simp eA
      clear OX DX
      go_simp
      go_at_call 27
      refine (bytes_same (by omega) hr ((HRb.out.later hb).mono hb.size) HXZ.out).mono ?_
      rintro e w2 ⟨rfl, rfl⟩
      exact hK _ (Below.refl _ _)
    · have hg : tm a' 64 = .bool true := (P14 _ _).mp (DX 14 64 (by kernel_rfl))
      refine wpOp_on 14 true 64 rfl rfl rfl hg ?_
      have e67 : tm a' 67 = .bool false := (P17 _ _).mp (DX 17 67 (by kernel_rfl))
      have e71 : tm a' 71 = .bool true := (P21 _ _).mp (DX 21 71 (by kernel_rfl))
      replace hK : K (a'.put (some 72) (.bool true)) w' := hK _ _ (Below.refl _ _) ((P22 _ _).mpr rfl)
      have e67' := tm_simp e67
      have e71' := tm_simp e71
      clear OX DX
      go_simp
      exact hK
    · refine wpOp_of rfl rfl ?_
      have e64 : tm a' 64 = .bool true := (P14 _ _).mp (DX 14 64 (by kernel_rfl))
      have e72 : tm a' 72 = .bool true := (P22 _ _).mp (DX 22 72 (by kernel_rfl))
      replace hK : K (a'.put (some 73) (.bool true)) w' := hK _ _ (Below.refl _ _) ((P23 _ _).mpr rfl)
      have e64' := tm_simp e64
      have e72' := tm_simp e72
      clear OX DX
      go_simp
      exact hK
    · refine wpOp_of rfl rfl ?_
      have e73 : tm a' 73 = .bool true := (P23 _ _).mp (DX 23 73 (by kernel_rfl))
      replace hK : K (a'.put (some 4) (.bool true)) w' := hK _ _ (Below.refl _ _) ((P24 _ _).mpr rfl)
      have e73' := tm_simp e73
      clear OX DX
      go_simp
      exact hK
  · intro V w9 hb9 hV
    have v0 : V 0 = .slice (some ⟨gp, 0, none⟩) 16 16 := (P0 _ _).mp (hV 0 (by show 0 < 25; omega))
    have v1 : V 1 = .agg (dc f) := (P1 _ _).mp (hV 1 (by show 1 < 25; omega))
    have v2 := (P2 _ _).mp (hV 2 (by show 2 < 25; omega))
    have v3 : V 3 = .bool true := (P3 _ _).mp (hV 3 (by show 3 < 25; omega))
    have v4 : V 4 = .bool true := (P4 _ _).mp (hV 4 (by show 4 < 25; omega))
    have v5 : V 5 = .nilIface := (P5 _ _).mp (hV 5 (by show 5 < 25; omega))
    have v6 : V 6 = .bool true := (P6 _ _).mp (hV 6 (by show 6 < 25; omega))
    have v7 : V 7 = .bool true := (P7 _ _).mp (hV 7 (by show 7 < 25; omega))
    have v8 : V 8 = .bool true := (P8 _ _).mp (hV 8 (by show 8 < 25; omega))
    have v9 : V 9 = .agg (dc D) := (P9 _ _).mp (hV 9 (by show 9 < 25; omega))
    have v10 : V 10 = .agg (dc f) := (P10 _ _).mp (hV 10 (by show 10 < 25; omega))
    have v11 : V 11 = .agg (dc D) := (P11 _ _).mp (hV 11 (by show 11 < 25; omega))
    have v12 : V 12 = .bool true := (P12 _ _).mp (hV 12 (by show 12 < 25; omega))
    have v13 : V 13 = .bool true := (P13 _ _).mp (hV 13 (by show 13 < 25; omega))
    have v14 : V 14 = .bool true := (P14 _ _).mp (hV 14 (by show 14 < 25; omega))
    have v15 : V 15 = .bool true := (P15 _ _).mp (hV 15 (by show 15 < 25; omega))
    have v16 : V 16 = .bool false := (P16 _ _).mp (hV 16 (by show 16 < 25; omega))
    have v17 : V 17 = .bool false := (P17 _ _).mp (hV 17 (by show 17 < 25; omega))
    have v18 : V 18 = .agg (dc X) := (P18 _ _).mp (hV 18 (by show 18 < 25; omega))
    have v19 := (P19 _ _).mp (hV 19 (by show 19 < 25; omega))
    have v20 : V 20 = .slice A0 16 c0 := (P20 _ _).mp (hV 20 (by show 20 < 25; omega))
    have v21 : V 21 = .bool true := (P21 _ _).mp (hV 21 (by show 21 < 25; omega))
    have v22 : V 22 = .bool true := (P22 _ _).mp (hV 22 (by show 22 < 25; omega))
    have v23 : V 23 = .bool true := (P23 _ _).mp (hV 23 (by show 23 < 25; omega))
    have v24 : V 24 = .bool true := (P24 _ _).mp (hV 24 (by show 24 < 25; omega))
    show Exit.then _ _ _ (puts [some 50, some 51, some 52, some 53, some 54, some 55, some 56, some 57, some 58, some 59, some 60, some 61, some 62, some 63, some 64, some 65, some 66, some 67, some 68, some 69, some 70, some 71, some 72, some 73, some 4] V 0 fra) w9
    simp only [puts, Nat.zero_add, Nat.reduceAdd, v0, v1, v3, v4, v5, v6, v7, v8, v9, v10, v11, v12, v13, v14, v15, v16, v17, v18, v20, v21, v22, v23, v24]
    simp only [hfra]
    clear hV hmono hPL hfra sz v0 v1 v3 v4 v5 v6 v7 v8 v9 v10 v11 v12 v13 v14 v15 v16 v17 v18 v20 v21 v22 v23 v24
    clear P0 P1 P2 P3 P4 P5 P6 P7 P8 P9 P10 P11 P12 P13 P14 P15 P16 P17 P18 P19 P20 P21 P22 P23 P24
    go_simp
    have HB9 := Lib.hid (HB8.out.trans (hb9.mono (by have := HB8.out.size; have := HS.out; omega)))
    go_wp2
    go_ret
    exact ⟨rfl, by rw [HS.out]; exact HB9.out⟩
set_option maxRecDepth 20000 in
set_option maxHeartbeats 6400000 in
theorem bytes_bad (f : Int × Int) (A0 : Option Addr) (n c0 : Nat) (z : Nat → Int) (w : World) (hf : In64 f) (hl : n ≤ c0) (hm : c0 ≤ maxLen) (hr : Rd w.heap.size w A0 n (u8 z)) (hz : InB z n) (hi : n = 16 → ¬ InR (tk z)) :
    Calls Try.prog 9 #[.agg (dc f), .slice A0 n c0] w fun e w' => e = .returned (.bool true) ∧ Below w.heap.size w w' := by
  have HA := Lib.hid awake_true
  have C1 := Lib.hid (fun w => dg_put f w hf)
  have CP := Lib.hid (fun w => dg_rput f w hf)
  have CD := Lib.hid (fun w => dg_rreduced f w hf)
  have HTK := Lib.hid (tk_pb f)
  obtain ⟨D, hD⟩ : ∃ D, D = rd f := ⟨_, rfl⟩
  have HIR := Lib.hid (show InR D by rw [hD]; exact inR_rd f)
  rw [← hD] at CD HTK
  have hn : n ≤ 9223372036854775807 := by unfold maxLen at hm; omega
  have CB := Lib.hid (fun u (hu : Below w.heap.size w u) => show Calls Try.prog 25 #[.slice A0 n c0] u fun e w' => e = .returned (.tuple #[.agg (dc (0, 0)), .iface 46 (.int .i64 4)]) ∧ Below u.heap.size u w' by
    by_cases h16 : n = 16
    · subst h16
      obtain ⟨bb, oo, rfl, _, _⟩ := hr.some (k := 0) (by omega)
      exact (dg_take bb oo c0 z u hl hm ((hr.later hu).mono hu.size) hz).mono fun e w' h => ⟨h.2.1 (hi rfl), h.2.2⟩
    · exact dg_take_len A0 n c0 u h16 hn)
  have CR := Lib.hid (fun u (hu : Below w.heap.size w u) => show Calls Try.prog 26 #[.slice A0 n c0] u fun e w' => e = .returned (.tuple #[.agg (dc (0, 0)), .bool false]) ∧ Below u.heap.size u w' by
    by_cases h16 : n = 16
    · subst h16
      obtain ⟨bb, oo, rfl, _, _⟩ := hr.some (k := 0) (by omega)
      exact (dg_rtake bb oo c0 z u ((hr.later hu).mono hu.size) hz).mono fun e w' h => ⟨h.2.1 (hi rfl), h.2.2⟩
    · exact dg_rtake_len A0 n c0 u h16 hn)
  obtain ⟨X, hX⟩ : ∃ X : Int × Int, X = (0, 0) := ⟨_, rfl⟩
  rw [← hX] at CB CR
  have HIS := Lib.hid is_form
  clear hX hi hl hm hz hr hn
  have ge := guard_dg
  have ee := equal_dg
  have z0 := dg_zero
  obtain ⟨s, hs⟩ : ∃ s, w.heap.size = s := ⟨_, rfl⟩
  have HB0 := Lib.hid ((Below.refl w.heap.size w).alloc (Nat.le_refl _) (Obj.cells (dc f) 26))
  have R2 := Lib.hid (Row.new w 26 (dc f))
  rw [hs] at R2 HB0
  have HS := Lib.hid hs
  clear hf hD
  go_enter Try.func9, Try.ntmps9
  go_wp2_with fail
  refine (HA.out _).mono ?_
  rintro e w1 ⟨rfl, hb1⟩
  have S2 := Lib.hid (R2.out.below' hb1)
  have HB1 := Lib.hid (HB0.out.trans (hb1.mono (by have := HB0.out.size; have := HS.out; omega)))
  clear HB0 R2
  clear hs hb1
  go_wp2_with (first | ((with_reducible refine wpList_loadR aggD S2.out rfl _ rfl ?_ ?_); (go_simp <;> fail); go_simp))
  refine (C1.out _).mono ?_
  rintro e w2 ⟨⟨gp, rfl, hrp⟩, hb2⟩
  have T2 := Lib.hid (S2.out.below' hb2)
  have HB2 := Lib.hid (HB1.out.trans (hb2.mono (by have := HB1.out.size; have := HS.out; omega)))
  clear HB1 S2
  clear hb2
  have HRp2 := Lib.hid hrp
  clear hrp C1
  go_wp2_with fail
  have CT := Lib.hid (dg_take gp 0 16 (pb f) w2 (by omega) (by unfold maxLen; omega) HRp2.out (pb_in f 16))
  rw [HTK.out] at CT
  refine CT.out.mono ?_
  rintro e w3 ⟨h3, -, hb3⟩
  obtain rfl := h3 HIR.out
  clear h3
  have HRp3 := Lib.hid ((HRp2.out.later hb3).mono hb3.size)
  have U2 := Lib.hid (T2.out.below' hb3)
  have HB3 := Lib.hid (HB2.out.trans (hb3.mono (by have := HB2.out.size; have := HS.out; omega)))
  clear HB2 T2
  clear hb3 HRp2 CT
  go_wp2_with (first | ((with_reducible refine wpList_newR (c' := dc D) aggD rfl (dc_one _) rfl _ _ rfl ?_ ?_ ?_); (go_simp <;> fail); (first | (go_simp <;> fail) | exact rfl); go_simp; have V6 := Lib.hid (Row.new w3 26 (dc D)); have V2 := Lib.hid (U2.out.alloc (.cells (dc D) 26)); have HB4 := Lib.hid (HB3.out.alloc (by have := HB3.out.size; have := HS.out; omega) (.cells (dc D) 26)); have HXw4 := Lib.hid ((Below.refl w3.heap.size w3).alloc (Nat.le_refl _) (.cells (dc D) 26)); clear HB3 U2; revert V6 V2 HB4 HXw4; generalize w3.alloc (.cells (dc D) 26) = w4; intro V6 V2 HB4 HXw4))
  have HRp4 := Lib.hid ((HRp3.out.later HXw4.out).mono HXw4.out.size)
  have hw4 : Below w.heap.size w w4 := by rw [HS.out]; exact HB4.out
  refine (CR.out _ hw4).mono ?_
  rintro e w5 ⟨rfl, hb5⟩
  have HRp5 := Lib.hid ((HRp4.out.later hb5).mono hb5.size)
  have W2 := Lib.hid (V2.out.below' hb5)
  have W6 := Lib.hid (V6.out.below' hb5)
  have HB5 := Lib.hid (HB4.out.trans (hb5.mono (by have := HB4.out.size; have := HS.out; omega)))
  clear HB4 V2 V6
  clear hb5 HRp3 HRp4 HXw4 hw4
  go_wp2_with (first | ((with_reducible refine wpList_newR (c' := dc X) aggD rfl (dc_one _) rfl _ _ rfl ?_ ?_ ?_); (go_simp <;> fail); (first | (go_simp <;> fail) | exact rfl); go_simp; have X8 := Lib.hid (Row.new w5 26 (dc X)); have X2 := Lib.hid (W2.out.alloc (.cells (dc X) 26)); have X6 := Lib.hid (W6.out.alloc (.cells (dc X) 26)); have HB6 := Lib.hid (HB5.out.alloc (by have := HB5.out.size; have := HS.out; omega) (.cells (dc X) 26)); have HXw6 := Lib.hid ((Below.refl w5.heap.size w5).alloc (Nat.le_refl _) (.cells (dc X) 26)); clear HB5 W2 W6; revert X8 X2 X6 HB6 HXw6; generalize w5.alloc (.cells (dc X) 26) = w6; intro X8 X2 X6 HB6 HXw6))
  have HRp6 := Lib.hid ((HRp5.out.later HXw6.out).mono HXw6.out.size)
  have hw6 : Below w.heap.size w w6 := by rw [HS.out]; exact HB6.out
  refine (CB.out _ hw6).mono ?_
  rintro e w7 ⟨rfl, hb7⟩
  have HRp7 := Lib.hid ((HRp6.out.later hb7).mono hb7.size)
  have Y2 := Lib.hid (X2.out.below' hb7)
  have Y6 := Lib.hid (X6.out.below' hb7)
  have Y8 := Lib.hid (X8.out.below' hb7)
  have HB7 := Lib.hid (HB6.out.trans (hb7.mono (by have := HB6.out.size; have := HS.out; omega)))
  clear HB6 X2 X6 X8
  clear hb7 HRp5 HRp6 HXw6 hw6
  go_wp2_with (first | ((with_reducible refine wpList_newR (c' := dc X) aggD rfl (dc_one _) rfl _ _ rfl ?_ ?_ ?_); (go_simp <;> fail); (first | (go_simp <;> fail) | exact rfl); go_simp; have Z10 := Lib.hid (Row.new w7 26 (dc X)); have Z2 := Lib.hid (Y2.out.alloc (.cells (dc X) 26)); have Z6 := Lib.hid (Y6.out.alloc (.cells (dc X) 26)); have Z8 := Lib.hid (Y8.out.alloc (.cells (dc X) 26)); have HB8 := Lib.hid (HB7.out.alloc (by have := HB7.out.size; have := HS.out; omega) (.cells (dc X) 26)); have HXw8 := Lib.hid ((Below.refl w7.heap.size w7).alloc (Nat.le_refl _) (.cells (dc X) 26)); clear HB7 Y2 Y6 Y8; revert Z10 Z2 Z6 Z8 HB8 HXw8; generalize w7.alloc (.cells (dc X) 26) = w8; intro Z10 Z2 Z6 Z8 HB8 HXw8) | ((with_reducible refine wpList_loadR_g aggD Z10.out ?_ _ rfl ?_ ?_); exact rfl; (go_simp <;> fail); go_simp) | ((with_reducible refine wpList_loadR_g aggD Z8.out ?_ _ rfl ?_ ?_); exact rfl; (go_simp <;> fail); go_simp) | (go_at_call 23; (with_reducible refine (HIS.out _).mono ?_); rintro e w9 ⟨rfl, rfl⟩))
  have HRp := Lib.hid ((HRp7.out.later HXw8.out).mono HXw8.out.size)
  clear HRp7 HXw8 CB CR
  refine wp_region_named fun fra hfra => ?_
  have o1 : tm fra 1 = .slice A0 n c0 := by rw [hfra]; rfl
  have o2 : tm fra 2 = .pointer (some ⟨s, 0, none⟩) := by rw [hfra]; rfl
  have o5 : tm fra 5 = .slice (some ⟨gp, 0, none⟩) 16 16 := by rw [hfra]; rfl
  have o6 : tm fra 6 = .pointer (some ⟨w3.heap.size, 0, none⟩) := by rw [hfra]; rfl
  have o7 : tm fra 7 = .nilIface := by rw [hfra]; rfl
  have o9 : tm fra 9 = .bool false := by rw [hfra]; rfl
  have o10 : tm fra 10 = .pointer (some ⟨w7.heap.size, 0, none⟩) := by rw [hfra]; rfl
  have sz : fra.tmps.size = 74 := by rw [hfra]; rfl
  obtain ⟨PL, hPL⟩ : ∃ PL : List (Value → World → Prop), PL = [(fun v _ => v = .slice (some ⟨gp, 0, none⟩) 16 16), (fun v _ => v = .agg (dc f)), (IsSl 16 (pb f)), (fun v _ => v = .bool true), (fun v _ => v = .bool true), (fun v _ => v = .nilIface), (fun v _ => v = .bool true), (fun v _ => v = .bool true), (fun v _ => v = .bool true), (fun v _ => v = .agg (dc D)), (fun v _ => v = .agg (dc f)), (fun v _ => v = .agg (dc D)), (fun v _ => v = .bool true), (fun v _ => v = .bool true), (fun v _ => v = .bool true), (fun v _ => v = .bool false), (fun v _ => v = .bool true), (fun v _ => v = .bool true), (fun v _ => v = undef), (fun v _ => v = undef), (fun v _ => v = undef), (fun v _ => v = undef), (fun v _ => v = .bool true), (fun v _ => v = .bool true), (fun v _ => v = .bool true)] := ⟨_, rfl⟩
  have hmono : AllMono PL := by rw [hPL]; exact ⟨mono_det _, mono_det _, mono_sl _ _, mono_det _, mono_det _, mono_det _, mono_det _, mono_det _, mono_det _, mono_det _, mono_det _, mono_det _, mono_det _, mono_det _, mono_det _, mono_det _, mono_det _, mono_det _, mono_det _, mono_det _, mono_det _, mono_det _, mono_det _, mono_det _, mono_det _, trivial⟩
  have P0 : ∀ v w, PL.getD 0 (fun _ _ => True) v w = (fun v _ => v = .slice (some ⟨gp, 0, none⟩) 16 16) v w := fun v w => by rw [hPL]; rfl
  have P1 : ∀ v w, PL.getD 1 (fun _ _ => True) v w = (fun v _ => v = .agg (dc f)) v w := fun v w => by rw [hPL]; rfl
  have P2 : ∀ v w, PL.getD 2 (fun _ _ => True) v w = (IsSl 16 (pb f)) v w := fun v w => by rw [hPL]; rfl
  have P3 : ∀ v w, PL.getD 3 (fun _ _ => True) v w = (fun v _ => v = .bool true) v w := fun v w => by rw [hPL]; rfl
  have P4 : ∀ v w, PL.getD 4 (fun _ _ => True) v w = (fun v _ => v = .bool true) v w := fun v w => by rw [hPL]; rfl
  have P5 : ∀ v w, PL.getD 5 (fun _ _ => True) v w = (fun v _ => v = .nilIface) v w := fun v w => by rw [hPL]; rfl
  have P6 : ∀ v w, PL.getD 6 (fun _ _ => True) v w = (fun v _ => v = .bool true) v w := fun v w => by rw [hPL]; rfl
  have P7 : ∀ v w, PL.getD 7 (fun _ _ => True) v w = (fun v _ => v = .bool true) v w := fun v w => by rw [hPL]; rfl
  have P8 : ∀ v w, PL.getD 8 (fun _ _ => True) v w = (fun v _ => v = .bool true) v w := fun v w => by rw [hPL]; rfl
  have P9 : ∀ v w, PL.getD 9 (fun _ _ => True) v w = (fun v _ => v = .agg (dc D)) v w := fun v w => by rw [hPL]; rfl
  have P10 : ∀ v w, PL.getD 10 (fun _ _ => True) v w = (fun v _ => v = .agg (dc f)) v w := fun v w => by rw [hPL]; rfl
  have P11 : ∀ v w, PL.getD 11 (fun _ _ => True) v w = (fun v _ => v = .agg (dc D)) v w := fun v w => by rw [hPL]; rfl
  have P12 : ∀ v w, PL.getD 12 (fun _ _ => True) v w = (fun v _ => v = .bool true) v w := fun v w => by rw [hPL]; rfl
  have P13 : ∀ v w, PL.getD 13 (fun _ _ => True) v w = (fun v _ => v = .bool true) v w := fun v w => by rw [hPL]; rfl
  have P14 : ∀ v w, PL.getD 14 (fun _ _ => True) v w = (fun v _ => v = .bool true) v w := fun v w => by rw [hPL]; rfl
  have P15 : ∀ v w, PL.getD 15 (fun _ _ => True) v w = (fun v _ => v = .bool false) v w := fun v w => by rw [hPL]; rfl
  have P16 : ∀ v w, PL.getD 16 (fun _ _ => True) v w = (fun v _ => v = .bool true) v w := fun v w => by rw [hPL]; rfl
  have P17 : ∀ v w, PL.getD 17 (fun _ _ => True) v w = (fun v _ => v = .bool true) v w := fun v w => by rw [hPL]; rfl
  have P18 : ∀ v w, PL.getD 18 (fun _ _ => True) v w = (fun v _ => v = undef) v w := fun v w => by rw [hPL]; rfl
  have P19 : ∀ v w, PL.getD 19 (fun _ _ => True) v w = (fun v _ => v = undef) v w := fun v w => by rw [hPL]; rfl
  have P20 : ∀ v w, PL.getD 20 (fun _ _ => True) v w = (fun v _ => v = undef) v w := fun v w => by rw [hPL]; rfl
  have P21 : ∀ v w, PL.getD 21 (fun _ _ => True) v w = (fun v _ => v = undef) v w := fun v w => by rw [hPL]; rfl
  have P22 : ∀ v w, PL.getD 22 (fun _ _ => True) v w = (fun v _ => v = .bool true) v w := fun v w => by rw [hPL]; rfl
  have P23 : ∀ v w, PL.getD 23 (fun _ _ => True) v w = (fun v _ => v = .bool true) v w := fun v w => by rw [hPL]; rfl
  have P24 : ∀ v w, PL.getD 24 (fun _ _ => True) v w = (fun v _ => v = .bool true) v w := fun v w => by rw [hPL]; rfl
  refine wp_region_by0 (by kernel_rfl) (fun j => PL.getD j (fun _ _ => True)) (by rw [sz]; kernel_rfl) (fun j => all_mono hmono j) ?_ ?_
  · intro j hj a' w' hb OX DX K hK
    have hc : j = 0 ∨ j = 1 ∨ j = 2 ∨ j = 3 ∨ j = 4 ∨ j = 5 ∨ j = 6 ∨ j = 7 ∨ j = 8 ∨ j = 9 ∨ j = 10 ∨ j = 11 ∨ j = 12 ∨ j = 13 ∨ j = 14 ∨ j = 15 ∨ j = 16 ∨ j = 17 ∨ j = 18 ∨ j = 19 ∨ j = 20 ∨ j = 21 ∨ j = 22 ∨ j = 23 ∨ j = 24 := by
      have h3 : j < 25 := hj
      omega
    clear hmono hj
    rcases hc with rfl | rfl | rfl | rfl | rfl | rfl | rfl | rfl | rfl | rfl | rfl | rfl | rfl | rfl | rfl | rfl | rfl | rfl | rfl | rfl | rfl | rfl | rfl | rfl | rfl
    · refine wpOp_of rfl rfl ?_
      have e5 := (OX 5 (by kernel_rfl)).trans o5
      replace hK : K (a'.put (some 50) (.slice (some ⟨gp, 0, none⟩) 16 16)) w' := hK _ _ (Below.refl _ _) ((P0 _ _).mpr rfl)
      have e5' := tm_simp e5
      clear OX DX
      go_simp
      exact hK
    · refine wpOp_of rfl rfl ?_
      have e2 := (OX 2 (by kernel_rfl)).trans o2
      exact wp_loadR aggD (Z2.out.below' hb) _ rfl (eval_of e2) (hK _ _ (Below.refl _ _) ((P1 _ _).mpr rfl))
    · refine wpOp_of rfl rfl ?_
      have e51 : tm a' 51 = .agg (dc f) := (P1 _ _).mp (DX 1 51 (by kernel_rfl))
      replace hK : ∀ v w'', Below w'.heap.size w' w'' → IsSl 16 (pb f) v w'' → K (a'.put (some 52) v) w'' := fun v w'' hb hv => hK _ _ hb ((P2 _ _).mpr hv)
      have e51' := tm_simp e51
      clear OX DX
      go_simp
      go_at_call 28
      refine (CP.out _).mono ?_
      rintro e w2 ⟨⟨v, rfl, hv⟩, hb2⟩
      exact hK _ _ hb2 hv
    · refine wpOp_of rfl rfl ?_
      have e50 : tm a' 50 = .slice (some ⟨gp, 0, none⟩) 16 16 := (P0 _ _).mp (DX 0 50 (by kernel_rfl))
      have e52 := (P2 _ _).mp (DX 2 52 (by kernel_rfl))
      replace hK : ∀ w'', Below w'.heap.size w' w'' → K (a'.put (some 53) (.bool true)) w'' := fun w'' hb => hK _ _ hb ((P3 _ _).mpr rfl)
      obtain ⟨A, c, eA, hr⟩ := e52
      have e50' := tm_simp e50
      have eA' := tm_simp eA
      clear OX DX
      go_simp
      go_at_call 27
      refine (bytes_same (by omega) (((HRp.out.later hb).mono hb.size)) hr (fun _ _ => rfl)).mono ?_
      rintro e w2 ⟨rfl, rfl⟩
      exact hK _ (Below.refl _ _)
    · refine wpOp_of rfl rfl ?_
      have e53 : tm a' 53 = .bool true := (P3 _ _).mp (DX 3 53 (by kernel_rfl))
      replace hK : K (a'.put (some 54) (.bool true)) w' := hK _ _ (Below.refl _ _) ((P4 _ _).mpr rfl)
      have e53' := tm_simp e53
      clear OX DX
      go_simp
      exact hK
    · have hg : tm a' 54 = .bool true := (P4 _ _).mp (DX 4 54 (by kernel_rfl))
      refine wpOp_on 4 true 54 rfl rfl rfl hg ?_
      have e7 := (OX 7 (by kernel_rfl)).trans o7
      replace hK : K (a'.put (some 55) (.nilIface)) w' := hK _ _ (Below.refl _ _) ((P5 _ _).mpr rfl)
      have e7' := tm_simp e7
      clear OX DX
      go_simp
      exact hK
    · have hg : tm a' 54 = .bool true := (P4 _ _).mp (DX 4 54 (by kernel_rfl))
      refine wpOp_on 4 true 54 rfl rfl rfl hg ?_
      have e55 : tm a' 55 = .nilIface := (P5 _ _).mp (DX 5 55 (by kernel_rfl))
      replace hK : K (a'.put (some 56) (.bool true)) w' := hK _ _ (Below.refl _ _) ((P6 _ _).mpr rfl)
      have e55' := tm_simp e55
      clear OX DX
      go_simp
      exact hK
    · refine wpOp_of rfl rfl ?_
      have e54 : tm a' 54 = .bool true := (P4 _ _).mp (DX 4 54 (by kernel_rfl))
      have e56 : tm a' 56 = .bool true := (P6 _ _).mp (DX 6 56 (by kernel_rfl))
      replace hK : K (a'.put (some 57) (.bool true)) w' := hK _ _ (Below.refl _ _) ((P7 _ _).mpr rfl)
      have e54' := tm_simp e54
      have e56' := tm_simp e56
      clear OX DX
      go_simp
      exact hK
    · refine wpOp_of rfl rfl ?_
      have e57 : tm a' 57 = .bool true := (P7 _ _).mp (DX 7 57 (by kernel_rfl))
      replace hK : K (a'.put (some 58) (.bool true)) w' := hK _ _ (Below.refl _ _) ((P8 _ _).mpr rfl)
      have e57' := tm_simp e57
      clear OX DX
      go_simp
      exact hK
    · have hg : tm a' 58 = .bool true := (P8 _ _).mp (DX 8 58 (by kernel_rfl))
      refine wpOp_on 8 true 58 rfl rfl rfl hg ?_
      have e6 := (OX 6 (by kernel_rfl)).trans o6
      exact wp_loadR aggD (Z6.out.below' hb) _ rfl (eval_of e6) (hK _ _ (Below.refl _ _) ((P9 _ _).mpr rfl))
    · have hg : tm a' 58 = .bool true := (P8 _ _).mp (DX 8 58 (by kernel_rfl))
      refine wpOp_on 8 true 58 rfl rfl rfl hg ?_
      have e2 := (OX 2 (by kernel_rfl)).trans o2
      exact wp_loadR aggD (Z2.out.below' hb) _ rfl (eval_of e2) (hK _ _ (Below.refl _ _) ((P10 _ _).mpr rfl))
    · have hg : tm a' 58 = .bool true := (P8 _ _).mp (DX 8 58 (by kernel_rfl))
      refine wpOp_on 8 true 58 rfl rfl rfl hg ?_
      have e60 : tm a' 60 = .agg (dc f) := (P10 _ _).mp (DX 10 60 (by kernel_rfl))
      replace hK : ∀ w'', Below w'.heap.size w' w'' → K (a'.put (some 61) (.agg (dc D))) w'' := fun w'' hb => hK _ _ hb ((P11 _ _).mpr rfl)
      have e60' := tm_simp e60
      clear OX DX
      go_simp
      go_at_call 19
      refine (CD.out _).mono ?_
      rintro e w2 ⟨rfl, hb2⟩
      exact hK _ hb2
    · have hg : tm a' 58 = .bool true := (P8 _ _).mp (DX 8 58 (by kernel_rfl))
      refine wpOp_on 8 true 58 rfl rfl rfl hg ?_
      have e59 : tm a' 59 = .agg (dc D) := (P9 _ _).mp (DX 9 59 (by kernel_rfl))
      have e61 : tm a' 61 = .agg (dc D) := (P11 _ _).mp (DX 11 61 (by kernel_rfl))
      replace hK : K (a'.put (some 62) (.bool true)) w' := hK _ _ (Below.refl _ _) ((P12 _ _).mpr rfl)
      have e59' := tm_simp e59
      have e61' := tm_simp e61
      clear OX DX
      go_simp
      exact hK
    · refine wpOp_of rfl rfl ?_
      have e58 : tm a' 58 = .bool true := (P8 _ _).mp (DX 8 58 (by kernel_rfl))
      have e62 : tm a' 62 = .bool true := (P12 _ _).mp (DX 12 62 (by kernel_rfl))
      replace hK : K (a'.put (some 63) (.bool true)) w' := hK _ _ (Below.refl _ _) ((P13 _ _).mpr rfl)
      have e58' := tm_simp e58
      have e62' := tm_simp e62
      clear OX DX
      go_simp
      exact hK
    · refine wpOp_of rfl rfl ?_
      have e63 : tm a' 63 = .bool true := (P13 _ _).mp (DX 13 63 (by kernel_rfl))
      replace hK : K (a'.put (some 64) (.bool true)) w' := hK _ _ (Below.refl _ _) ((P14 _ _).mpr rfl)
      have e63' := tm_simp e63
      clear OX DX
      go_simp
      exact hK
    · have hg : tm a' 64 = .bool true := (P14 _ _).mp (DX 14 64 (by kernel_rfl))
      refine wpOp_on 14 true 64 rfl rfl rfl hg ?_
      have e9 := (OX 9 (by kernel_rfl)).trans o9
      replace hK : K (a'.put (some 65) (.bool false)) w' := hK _ _ (Below.refl _ _) ((P15 _ _).mpr rfl)
      have e9' := tm_simp e9
      clear OX DX
      go_simp
      exact hK
    · have hg : tm a' 64 = .bool true := (P14 _ _).mp (DX 14 64 (by kernel_rfl))
      refine wpOp_on 14 true 64 rfl rfl rfl hg ?_
      have e65 : tm a' 65 = .bool false := (P15 _ _).mp (DX 15 65 (by kernel_rfl))
      replace hK : K (a'.put (some 66) (.bool true)) w' := hK _ _ (Below.refl _ _) ((P16 _ _).mpr rfl)
      have e65' := tm_simp e65
      clear OX DX
      go_simp
      exact hK
    · have hg : tm a' 64 = .bool true := (P14 _ _).mp (DX 14 64 (by kernel_rfl))
      refine wpOp_on 14 true 64 rfl rfl rfl hg ?_
      have e66 : tm a' 66 = .bool true := (P16 _ _).mp (DX 16 66 (by kernel_rfl))
      replace hK : K (a'.put (some 67) (.bool true)) w' := hK _ _ (Below.refl _ _) ((P17 _ _).mpr rfl)
      have e66' := tm_simp e66
      clear OX DX
      go_simp
      exact hK
    · have hg : tm a' 67 = .bool true := (P17 _ _).mp (DX 17 67 (by kernel_rfl))
      exact wpOp_off 17 true 67 rfl rfl rfl hg (hK _ _ (Below.refl _ _) ((P18 _ _).mpr rfl))
    · have hg : tm a' 67 = .bool true := (P17 _ _).mp (DX 17 67 (by kernel_rfl))
      exact wpOp_off 17 true 67 rfl rfl rfl hg (hK _ _ (Below.refl _ _) ((P19 _ _).mpr rfl))
    · have hg : tm a' 67 = .bool true := (P17 _ _).mp (DX 17 67 (by kernel_rfl))
      exact wpOp_off 17 true 67 rfl rfl rfl hg (hK _ _ (Below.refl _ _) ((P20 _ _).mpr rfl))
    · have hg : tm a' 67 = .bool true := (P17 _ _).mp (DX 17 67 (by kernel_rfl))
      exact wpOp_off 17 true 67 rfl rfl rfl hg (hK _ _ (Below.refl _ _) ((P21 _ _).mpr rfl))
    · have hg : tm a' 64 = .bool true := (P14 _ _).mp (DX 14 64 (by kernel_rfl))
      refine wpOp_on 14 true 64 rfl rfl rfl hg ?_
      have e67 : tm a' 67 = .bool true := (P17 _ _).mp (DX 17 67 (by kernel_rfl))
      have e71 : tm a' 71 = undef := (P21 _ _).mp (DX 21 71 (by kernel_rfl))
      replace hK : K (a'.put (some 72) (.bool true)) w' := hK _ _ (Below.refl _ _) ((P22 _ _).mpr rfl)
      have e67' := tm_simp e67
      have e71' := tm_simp e71
      clear OX DX
      go_simp
      exact hK
    · refine wpOp_of rfl rfl ?_
      have e64 : tm a' 64 = .bool true := (P14 _ _).mp (DX 14 64 (by kernel_rfl))
      have e72 : tm a' 72 = .bool true := (P22 _ _).mp (DX 22 72 (by kernel_rfl))
      replace hK : K (a'.put (some 73) (.bool true)) w' := hK _ _ (Below.refl _ _) ((P23 _ _).mpr rfl)
      have e64' := tm_simp e64
      have e72' := tm_simp e72
      clear OX DX
      go_simp
      exact hK
    · refine wpOp_of rfl rfl ?_
      have e73 : tm a' 73 = .bool true := (P23 _ _).mp (DX 23 73 (by kernel_rfl))
      replace hK : K (a'.put (some 4) (.bool true)) w' := hK _ _ (Below.refl _ _) ((P24 _ _).mpr rfl)
      have e73' := tm_simp e73
      clear OX DX
      go_simp
      exact hK
  · intro V w9 hb9 hV
    have v0 : V 0 = .slice (some ⟨gp, 0, none⟩) 16 16 := (P0 _ _).mp (hV 0 (by show 0 < 25; omega))
    have v1 : V 1 = .agg (dc f) := (P1 _ _).mp (hV 1 (by show 1 < 25; omega))
    have v2 := (P2 _ _).mp (hV 2 (by show 2 < 25; omega))
    have v3 : V 3 = .bool true := (P3 _ _).mp (hV 3 (by show 3 < 25; omega))
    have v4 : V 4 = .bool true := (P4 _ _).mp (hV 4 (by show 4 < 25; omega))
    have v5 : V 5 = .nilIface := (P5 _ _).mp (hV 5 (by show 5 < 25; omega))
    have v6 : V 6 = .bool true := (P6 _ _).mp (hV 6 (by show 6 < 25; omega))
    have v7 : V 7 = .bool true := (P7 _ _).mp (hV 7 (by show 7 < 25; omega))
    have v8 : V 8 = .bool true := (P8 _ _).mp (hV 8 (by show 8 < 25; omega))
    have v9 : V 9 = .agg (dc D) := (P9 _ _).mp (hV 9 (by show 9 < 25; omega))
    have v10 : V 10 = .agg (dc f) := (P10 _ _).mp (hV 10 (by show 10 < 25; omega))
    have v11 : V 11 = .agg (dc D) := (P11 _ _).mp (hV 11 (by show 11 < 25; omega))
    have v12 : V 12 = .bool true := (P12 _ _).mp (hV 12 (by show 12 < 25; omega))
    have v13 : V 13 = .bool true := (P13 _ _).mp (hV 13 (by show 13 < 25; omega))
    have v14 : V 14 = .bool true := (P14 _ _).mp (hV 14 (by show 14 < 25; omega))
    have v15 : V 15 = .bool false := (P15 _ _).mp (hV 15 (by show 15 < 25; omega))
    have v16 : V 16 = .bool true := (P16 _ _).mp (hV 16 (by show 16 < 25; omega))
    have v17 : V 17 = .bool true := (P17 _ _).mp (hV 17 (by show 17 < 25; omega))
    have v18 : V 18 = undef := (P18 _ _).mp (hV 18 (by show 18 < 25; omega))
    have v19 : V 19 = undef := (P19 _ _).mp (hV 19 (by show 19 < 25; omega))
    have v20 : V 20 = undef := (P20 _ _).mp (hV 20 (by show 20 < 25; omega))
    have v21 : V 21 = undef := (P21 _ _).mp (hV 21 (by show 21 < 25; omega))
    have v22 : V 22 = .bool true := (P22 _ _).mp (hV 22 (by show 22 < 25; omega))
    have v23 : V 23 = .bool true := (P23 _ _).mp (hV 23 (by show 23 < 25; omega))
    have v24 : V 24 = .bool true := (P24 _ _).mp (hV 24 (by show 24 < 25; omega))
    show Exit.then _ _ _ (puts [some 50, some 51, some 52, some 53, some 54, some 55, some 56, some 57, some 58, some 59, some 60, some 61, some 62, some 63, some 64, some 65, some 66, some 67, some 68, some 69, some 70, some 71, some 72, some 73, some 4] V 0 fra) w9
    simp only [puts, Nat.zero_add, Nat.reduceAdd, v0, v1, v3, v4, v5, v6, v7, v8, v9, v10, v11, v12, v13, v14, v15, v16, v17, v18, v19, v20, v21, v22, v23, v24]
    simp only [hfra]
    clear hV hmono hPL hfra sz v0 v1 v3 v4 v5 v6 v7 v8 v9 v10 v11 v12 v13 v14 v15 v16 v17 v18 v19 v20 v21 v22 v23 v24
    clear P0 P1 P2 P3 P4 P5 P6 P7 P8 P9 P10 P11 P12 P13 P14 P15 P16 P17 P18 P19 P20 P21 P22 P23 P24
    go_simp
    have HB9 := Lib.hid (HB8.out.trans (hb9.mono (by have := HB8.out.size; have := HS.out; omega)))
    go_wp2
    go_ret
    exact ⟨rfl, by rw [HS.out]; exact HB9.out⟩
theorem bytes_walk (f : Int × Int) (A0 : Option Addr) (n c0 : Nat) (z : Nat → Int) (w : World) (hf : In64 f) (hl : n ≤ c0) (hm : c0 ≤ maxLen) (hr : Rd w.heap.size w A0 n (u8 z)) (hz : InB z n) :
    Calls Try.prog 9 #[.agg (dc f), .slice A0 n c0] w fun e w' => e = .returned (.bool true) ∧ Below w.heap.size w w' := by
  by_cases h : n = 16 ∧ InR (tk z)
  · obtain ⟨rfl, hi⟩ := h
    exact bytes_ok f A0 c0 z w hf hl hm hr hz hi
  · exact bytes_bad f A0 n c0 z w hf hl hm hr hz fun h16 hi => h ⟨h16, hi⟩
end Go.Proofs.Ytlhennbimgjohaa
