/-
  DigestJoins: the walk.
-/
import Derived.Test.YtlhennbimgjohaaDgRs
import Derived.Test.YtlhennbimgjohaaReg
namespace Go.Proofs.Ytlhennbimgjohaa
open Go.RowKit
theorem mono_bytes (s : ByteArray) : Mono (IsBytes s) := fun _ _ _ hb h => h.below hb
set_option maxRecDepth 20000 in
set_option maxHeartbeats 3200000 in
theorem joins_walk (s t : ByteArray) (f g : Int × Int) (w : World) (hs : s.size ≤ maxLen) (ht : t.size ≤ maxLen) (hf : In64 f) (hg : In64 g) :
    Calls Try.prog 4 #[.string s, .string t, .agg (dc f), .agg (dc g)] w fun e w' => e = .returned (.bool true) ∧ Below w.heap.size w w' := by
  have HA := Lib.hid awake_true
  have HC := Lib.hid (fun w => cut_any s w hs)
  have HD := Lib.hid (fun w => cut_any t w ht)
  obtain ⟨x, hx⟩ : ∃ x, x = cutS s := ⟨_, rfl⟩
  obtain ⟨y, hy⟩ : ∃ y, y = cutS t := ⟨_, rfl⟩
  have hxs : x.size ≤ 300 := by rw [hx]; exact cutS_size s
  have hys : y.size ≤ 300 := by rw [hy]; exact cutS_size t
  rw [← hx] at HC
  rw [← hy] at HD
  have hcat : ¬ 9223372036854775807 < x.size + y.size := by omega
  obtain ⟨z, hz⟩ : ∃ z, x ++ y = z := ⟨_, rfl⟩
  have hzs : z.size ≤ 600 := by rw [← hz, ByteArray.size_append]; omega
  have hT : mDig.j (txs x) (txs y) = txs z := by rw [← hz, txs_append]
  have C1 := Lib.hid (fun w => dg_join (txs x) (txs y) w (inR_txs x).in64 (inR_txs y).in64)
  rw [hT] at C1
  have C2 := Lib.hid (fun w => dg_join f g w hf hg)
  have C3 := Lib.hid (fun w => dg_rjoin f g w hf hg)
  have G1 := Lib.hid (fun A c w hr => of_str x A c w (by omega) hr)
  have G2 := Lib.hid (fun A c w hr => of_str y A c w (by omega) hr)
  have G3 := Lib.hid (fun A c w hr => of_str z A c w (by omega) hr)
  obtain ⟨X, hX⟩ : ∃ X, X = txs x := ⟨_, rfl⟩
  obtain ⟨Y, hY⟩ : ∃ Y, Y = txs y := ⟨_, rfl⟩
  obtain ⟨Z, hZ⟩ : ∃ Z, Z = txs z := ⟨_, rfl⟩
  obtain ⟨J, hJ⟩ : ∃ J, J = mDig.j f g := ⟨_, rfl⟩
  rw [← hX] at G1 C1
  rw [← hY] at G2 C1
  rw [← hZ] at G3 C1
  rw [← hJ] at C2 C3
  have ge := guard_dg
  have ee := equal_dg
  have HZ := Lib.hid hz
  obtain ⟨c, hc⟩ : ∃ c, w.heap.size = c := ⟨_, rfl⟩
  have HB0 := Lib.hid (((Below.refl w.heap.size w).alloc (Nat.le_refl _) (Obj.cells (dc f) 26)).alloc (by simp) (Obj.cells (dc g) 26))
  have R6 := Lib.hid ((Row.new w 26 (dc f)).alloc (Obj.cells (dc g) 26))
  have R7 := Lib.hid (Row.new (w.alloc (Obj.cells (dc f) 26)) 26 (dc g))
  simp only [World.size_alloc] at R7
  rw [hc] at R6 R7 HB0
  have HS := Lib.hid hc
  clear hs ht hx hy hz hT hX hY hZ hJ hzs hf hg
  go_enter Try.func4, Try.ntmps4
  go_wp2_with fail
  refine (HA.out _).mono ?_
  rintro e w1 ⟨rfl, hb1⟩
  have S6 := Lib.hid (R6.out.below' hb1)
  have S7 := Lib.hid (R7.out.below' hb1)
  have HB1 := Lib.hid (HB0.out.trans (hb1.mono (by have := HB0.out.size; have := HS.out; omega)))
  clear hb1 R6 R7 HB0
  go_wp2_with (go_at_call 12; (first | with_reducible refine (HC.out _).mono ?_ | with_reducible refine (HD.out _).mono ?_); rintro e w1' ⟨rfl, rfl⟩)
  clear hc
  refine wp_region_named fun fra hfra => ?_
  have o0 : tm fra 0 = .string x := by rw [hfra]; rfl
  have o1 : tm fra 1 = .string y := by rw [hfra]; rfl
  have o6 : tm fra 6 = .pointer (some ⟨c, 0, none⟩) := by rw [hfra]; rfl
  have o7 : tm fra 7 = .pointer (some ⟨c + 1, 0, none⟩) := by rw [hfra]; rfl
  have sz : fra.tmps.size = 37 := by rw [hfra]; rfl
  obtain ⟨PL, hPL⟩ : ∃ PL : List (Value → World → Prop), PL = [(fun v _ => v = .string x), (IsBytes x), (fun v _ => v = .agg (dc X)), (fun v _ => v = .string y), (IsBytes y), (fun v _ => v = .agg (dc Y)), (fun v _ => v = .agg (dc Z)), (fun v _ => v = .string x), (fun v _ => v = .string y), (fun v _ => v = .string z), (IsBytes z), (fun v _ => v = .agg (dc Z)), (fun v _ => v = .bool true), (fun v _ => v = .bool true), (fun v _ => v = .agg (dc f)), (fun v _ => v = .agg (dc g)), (fun v _ => v = .agg (dc J)), (fun v _ => v = .agg (dc f)), (fun v _ => v = .agg (dc g)), (fun v _ => v = .agg (dc J)), (fun v _ => v = .bool true), (fun v _ => v = .bool true), (fun v _ => v = .bool true)] := ⟨_, rfl⟩
  have hmono : AllMono PL := by rw [hPL]; exact ⟨mono_det _, mono_bytes _, mono_det _, mono_det _, mono_bytes _, mono_det _, mono_det _, mono_det _, mono_det _, mono_det _, mono_bytes _, mono_det _, mono_det _, mono_det _, mono_det _, mono_det _, mono_det _, mono_det _, mono_det _, mono_det _, mono_det _, mono_det _, mono_det _, trivial⟩
  have P0 : ∀ v w, PL.getD 0 (fun _ _ => True) v w = (fun v _ => v = .string x) v w := fun v w => by rw [hPL]; rfl
  have P1 : ∀ v w, PL.getD 1 (fun _ _ => True) v w = (IsBytes x) v w := fun v w => by rw [hPL]; rfl
  have P2 : ∀ v w, PL.getD 2 (fun _ _ => True) v w = (fun v _ => v = .agg (dc X)) v w := fun v w => by rw [hPL]; rfl
  have P3 : ∀ v w, PL.getD 3 (fun _ _ => True) v w = (fun v _ => v = .string y) v w := fun v w => by rw [hPL]; rfl
  have P4 : ∀ v w, PL.getD 4 (fun _ _ => True) v w = (IsBytes y) v w := fun v w => by rw [hPL]; rfl
  have P5 : ∀ v w, PL.getD 5 (fun _ _ => True) v w = (fun v _ => v = .agg (dc Y)) v w := fun v w => by rw [hPL]; rfl
  have P6 : ∀ v w, PL.getD 6 (fun _ _ => True) v w = (fun v _ => v = .agg (dc Z)) v w := fun v w => by rw [hPL]; rfl
  have P7 : ∀ v w, PL.getD 7 (fun _ _ => True) v w = (fun v _ => v = .string x) v w := fun v w => by rw [hPL]; rfl
  have P8 : ∀ v w, PL.getD 8 (fun _ _ => True) v w = (fun v _ => v = .string y) v w := fun v w => by rw [hPL]; rfl
  have P9 : ∀ v w, PL.getD 9 (fun _ _ => True) v w = (fun v _ => v = .string z) v w := fun v w => by rw [hPL]; rfl
  have P10 : ∀ v w, PL.getD 10 (fun _ _ => True) v w = (IsBytes z) v w := fun v w => by rw [hPL]; rfl
  have P11 : ∀ v w, PL.getD 11 (fun _ _ => True) v w = (fun v _ => v = .agg (dc Z)) v w := fun v w => by rw [hPL]; rfl
  have P12 : ∀ v w, PL.getD 12 (fun _ _ => True) v w = (fun v _ => v = .bool true) v w := fun v w => by rw [hPL]; rfl
  have P13 : ∀ v w, PL.getD 13 (fun _ _ => True) v w = (fun v _ => v = .bool true) v w := fun v w => by rw [hPL]; rfl
  have P14 : ∀ v w, PL.getD 14 (fun _ _ => True) v w = (fun v _ => v = .agg (dc f)) v w := fun v w => by rw [hPL]; rfl
  have P15 : ∀ v w, PL.getD 15 (fun _ _ => True) v w = (fun v _ => v = .agg (dc g)) v w := fun v w => by rw [hPL]; rfl
  have P16 : ∀ v w, PL.getD 16 (fun _ _ => True) v w = (fun v _ => v = .agg (dc J)) v w := fun v w => by rw [hPL]; rfl
  have P17 : ∀ v w, PL.getD 17 (fun _ _ => True) v w = (fun v _ => v = .agg (dc f)) v w := fun v w => by rw [hPL]; rfl
  have P18 : ∀ v w, PL.getD 18 (fun _ _ => True) v w = (fun v _ => v = .agg (dc g)) v w := fun v w => by rw [hPL]; rfl
  have P19 : ∀ v w, PL.getD 19 (fun _ _ => True) v w = (fun v _ => v = .agg (dc J)) v w := fun v w => by rw [hPL]; rfl
  have P20 : ∀ v w, PL.getD 20 (fun _ _ => True) v w = (fun v _ => v = .bool true) v w := fun v w => by rw [hPL]; rfl
  have P21 : ∀ v w, PL.getD 21 (fun _ _ => True) v w = (fun v _ => v = .bool true) v w := fun v w => by rw [hPL]; rfl
  have P22 : ∀ v w, PL.getD 22 (fun _ _ => True) v w = (fun v _ => v = .bool true) v w := fun v w => by rw [hPL]; rfl
  refine wp_region_by0 (by kernel_rfl) (fun j => PL.getD j (fun _ _ => True)) (by rw [sz]; kernel_rfl) (fun j => all_mono hmono j) ?_ ?_
  · intro j hj a' w' hb O D K hK
    have hc : j = 0 ∨ j = 1 ∨ j = 2 ∨ j = 3 ∨ j = 4 ∨ j = 5 ∨ j = 6 ∨ j = 7 ∨ j = 8 ∨ j = 9 ∨ j = 10 ∨ j = 11 ∨ j = 12 ∨ j = 13 ∨ j = 14 ∨ j = 15 ∨ j = 16 ∨ j = 17 ∨ j = 18 ∨ j = 19 ∨ j = 20 ∨ j = 21 ∨ j = 22 := by
      have h3 : j < 23 := hj
      omega
    clear hmono hj
    rcases hc with rfl | rfl | rfl | rfl | rfl | rfl | rfl | rfl | rfl | rfl | rfl | rfl | rfl | rfl | rfl | rfl | rfl | rfl | rfl | rfl | rfl | rfl | rfl
    · refine wpOp_of rfl rfl ?_
      have e0 := (O 0 (by kernel_rfl)).trans o0
      replace hK : K (a'.put (some 15) (.string x)) w' := hK _ _ (Below.refl _ _) ((P0 _ _).mpr rfl)
      have e0' := tm_simp e0
      clear O D
      go_simp
      exact hK
    · refine wpOp_of rfl rfl ?_
      have e15 : tm a' 15 = .string x := (P0 _ _).mp (D 0 15 (by kernel_rfl))
      exact wp_bytes _ rfl (eval_of e15) fun A c w2 hb2 hr2 => hK _ _ hb2 ((P1 _ _).mpr ⟨A, c, rfl, hr2⟩)
    · refine wpOp_of rfl rfl ?_
      have e16 := (P1 _ _).mp (D 1 16 (by kernel_rfl))
      replace hK : ∀ w'', Below w'.heap.size w' w'' → K (a'.put (some 17) (.agg (dc X))) w'' := fun w'' hb => hK _ _ hb ((P2 _ _).mpr rfl)
      obtain ⟨A, c, eA, hr⟩ := e16
      have eA' := tm_simp eA
      clear O D
      go_simp
      go_at_call 15
      refine (G1.out A c _ hr).mono ?_
      rintro e w2 ⟨rfl, hb2⟩
      exact hK _ hb2
    · refine wpOp_of rfl rfl ?_
      have e1 := (O 1 (by kernel_rfl)).trans o1
      replace hK : K (a'.put (some 18) (.string y)) w' := hK _ _ (Below.refl _ _) ((P3 _ _).mpr rfl)
      have e1' := tm_simp e1
      clear O D
      go_simp
      exact hK
    · refine wpOp_of rfl rfl ?_
      have e18 : tm a' 18 = .string y := (P3 _ _).mp (D 3 18 (by kernel_rfl))
      exact wp_bytes _ rfl (eval_of e18) fun A c w2 hb2 hr2 => hK _ _ hb2 ((P4 _ _).mpr ⟨A, c, rfl, hr2⟩)
    · refine wpOp_of rfl rfl ?_
      have e19 := (P4 _ _).mp (D 4 19 (by kernel_rfl))
      replace hK : ∀ w'', Below w'.heap.size w' w'' → K (a'.put (some 20) (.agg (dc Y))) w'' := fun w'' hb => hK _ _ hb ((P5 _ _).mpr rfl)
      obtain ⟨A, c, eA, hr⟩ := e19
      have eA' := tm_simp eA
      clear O D
      go_simp
      go_at_call 15
      refine (G2.out A c _ hr).mono ?_
      rintro e w2 ⟨rfl, hb2⟩
      exact hK _ hb2
    · refine wpOp_of rfl rfl ?_
      have e17 : tm a' 17 = .agg (dc X) := (P2 _ _).mp (D 2 17 (by kernel_rfl))
      have e20 : tm a' 20 = .agg (dc Y) := (P5 _ _).mp (D 5 20 (by kernel_rfl))
      replace hK : ∀ w'', Below w'.heap.size w' w'' → K (a'.put (some 21) (.agg (dc Z))) w'' := fun w'' hb => hK _ _ hb ((P6 _ _).mpr rfl)
      have e17' := tm_simp e17
      have e20' := tm_simp e20
      clear O D
      go_simp
      go_at_call 16
      refine (C1.out _).mono ?_
      rintro e w2 ⟨rfl, hb2⟩
      exact hK _ hb2
    · refine wpOp_of rfl rfl ?_
      have e0 := (O 0 (by kernel_rfl)).trans o0
      replace hK : K (a'.put (some 22) (.string x)) w' := hK _ _ (Below.refl _ _) ((P7 _ _).mpr rfl)
      have e0' := tm_simp e0
      clear O D
      go_simp
      exact hK
    · refine wpOp_of rfl rfl ?_
      have e1 := (O 1 (by kernel_rfl)).trans o1
      replace hK : K (a'.put (some 23) (.string y)) w' := hK _ _ (Below.refl _ _) ((P8 _ _).mpr rfl)
      have e1' := tm_simp e1
      clear O D
      go_simp
      exact hK
    · refine wpOp_of rfl rfl ?_
      have e22 : tm a' 22 = .string x := (P7 _ _).mp (D 7 22 (by kernel_rfl))
      have e23 : tm a' 23 = .string y := (P8 _ _).mp (D 8 23 (by kernel_rfl))
      replace hK : K (a'.put (some 24) (.string z)) w' := hK _ _ (Below.refl _ _) ((P9 _ _).mpr rfl)
      have e22' := tm_simp e22
      have e23' := tm_simp e23
      have hz' := HZ.out
      clear O D
      go_simp
      exact hK
    · refine wpOp_of rfl rfl ?_
      have e24 : tm a' 24 = .string z := (P9 _ _).mp (D 9 24 (by kernel_rfl))
      exact wp_bytes _ rfl (eval_of e24) fun A c w2 hb2 hr2 => hK _ _ hb2 ((P10 _ _).mpr ⟨A, c, rfl, hr2⟩)
    · refine wpOp_of rfl rfl ?_
      have e25 := (P10 _ _).mp (D 10 25 (by kernel_rfl))
      replace hK : ∀ w'', Below w'.heap.size w' w'' → K (a'.put (some 26) (.agg (dc Z))) w'' := fun w'' hb => hK _ _ hb ((P11 _ _).mpr rfl)
      obtain ⟨A, c, eA, hr⟩ := e25
      have eA' := tm_simp eA
      clear O D
      go_simp
      go_at_call 15
      refine (G3.out A c _ hr).mono ?_
      rintro e w2 ⟨rfl, hb2⟩
      exact hK _ hb2
    · refine wpOp_of rfl rfl ?_
      have e21 : tm a' 21 = .agg (dc Z) := (P6 _ _).mp (D 6 21 (by kernel_rfl))
      have e26 : tm a' 26 = .agg (dc Z) := (P11 _ _).mp (D 11 26 (by kernel_rfl))
      replace hK : K (a'.put (some 27) (.bool true)) w' := hK _ _ (Below.refl _ _) ((P12 _ _).mpr rfl)
      have e21' := tm_simp e21
      have e26' := tm_simp e26
      clear O D
      go_simp
      exact hK
    · refine wpOp_of rfl rfl ?_
      have e27 : tm a' 27 = .bool true := (P12 _ _).mp (D 12 27 (by kernel_rfl))
      replace hK : K (a'.put (some 28) (.bool true)) w' := hK _ _ (Below.refl _ _) ((P13 _ _).mpr rfl)
      have e27' := tm_simp e27
      clear O D
      go_simp
      exact hK
    · have hg : tm a' 28 = .bool true := (P13 _ _).mp (D 13 28 (by kernel_rfl))
      refine wpOp_on 13 true 28 rfl rfl rfl hg ?_
      have e6 := (O 6 (by kernel_rfl)).trans o6
      exact wp_loadR aggD (S6.out.below' hb) _ rfl (eval_of e6) (hK _ _ (Below.refl _ _) ((P14 _ _).mpr rfl))
    · have hg : tm a' 28 = .bool true := (P13 _ _).mp (D 13 28 (by kernel_rfl))
      refine wpOp_on 13 true 28 rfl rfl rfl hg ?_
      have e7 := (O 7 (by kernel_rfl)).trans o7
      exact wp_loadR aggD (S7.out.below' hb) _ rfl (eval_of e7) (hK _ _ (Below.refl _ _) ((P15 _ _).mpr rfl))
    · have hg : tm a' 28 = .bool true := (P13 _ _).mp (D 13 28 (by kernel_rfl))
      refine wpOp_on 13 true 28 rfl rfl rfl hg ?_
      have e29 : tm a' 29 = .agg (dc f) := (P14 _ _).mp (D 14 29 (by kernel_rfl))
      have e30 : tm a' 30 = .agg (dc g) := (P15 _ _).mp (D 15 30 (by kernel_rfl))
      replace hK : ∀ w'', Below w'.heap.size w' w'' → K (a'.put (some 31) (.agg (dc J))) w'' := fun w'' hb => hK _ _ hb ((P16 _ _).mpr rfl)
      have e29' := tm_simp e29
      have e30' := tm_simp e30
      clear O D
      go_simp
      go_at_call 16
      refine (C2.out _).mono ?_
      rintro e w2 ⟨rfl, hb2⟩
      exact hK _ hb2
    · have hg : tm a' 28 = .bool true := (P13 _ _).mp (D 13 28 (by kernel_rfl))
      refine wpOp_on 13 true 28 rfl rfl rfl hg ?_
      have e6 := (O 6 (by kernel_rfl)).trans o6
      exact wp_loadR aggD (S6.out.below' hb) _ rfl (eval_of e6) (hK _ _ (Below.refl _ _) ((P17 _ _).mpr rfl))
    · have hg : tm a' 28 = .bool true := (P13 _ _).mp (D 13 28 (by kernel_rfl))
      refine wpOp_on 13 true 28 rfl rfl rfl hg ?_
      have e7 := (O 7 (by kernel_rfl)).trans o7
      exact wp_loadR aggD (S7.out.below' hb) _ rfl (eval_of e7) (hK _ _ (Below.refl _ _) ((P18 _ _).mpr rfl))
    · have hg : tm a' 28 = .bool true := (P13 _ _).mp (D 13 28 (by kernel_rfl))
      refine wpOp_on 13 true 28 rfl rfl rfl hg ?_
      have e32 : tm a' 32 = .agg (dc f) := (P17 _ _).mp (D 17 32 (by kernel_rfl))
      have e33 : tm a' 33 = .agg (dc g) := (P18 _ _).mp (D 18 33 (by kernel_rfl))
      replace hK : ∀ w'', Below w'.heap.size w' w'' → K (a'.put (some 34) (.agg (dc J))) w'' := fun w'' hb => hK _ _ hb ((P19 _ _).mpr rfl)
      have e32' := tm_simp e32
      have e33' := tm_simp e33
      clear O D
      go_simp
      go_at_call 17
      refine (C3.out _).mono ?_
      rintro e w2 ⟨rfl, hb2⟩
      exact hK _ hb2
    · have hg : tm a' 28 = .bool true := (P13 _ _).mp (D 13 28 (by kernel_rfl))
      refine wpOp_on 13 true 28 rfl rfl rfl hg ?_
      have e31 : tm a' 31 = .agg (dc J) := (P16 _ _).mp (D 16 31 (by kernel_rfl))
      have e34 : tm a' 34 = .agg (dc J) := (P19 _ _).mp (D 19 34 (by kernel_rfl))
      replace hK : K (a'.put (some 35) (.bool true)) w' := hK _ _ (Below.refl _ _) ((P20 _ _).mpr rfl)
      have e31' := tm_simp e31
      have e34' := tm_simp e34
      clear O D
      go_simp
      exact hK
    · refine wpOp_of rfl rfl ?_
      have e28 : tm a' 28 = .bool true := (P13 _ _).mp (D 13 28 (by kernel_rfl))
      have e35 : tm a' 35 = .bool true := (P20 _ _).mp (D 20 35 (by kernel_rfl))
      replace hK : K (a'.put (some 36) (.bool true)) w' := hK _ _ (Below.refl _ _) ((P21 _ _).mpr rfl)
      have e28' := tm_simp e28
      have e35' := tm_simp e35
      clear O D
      go_simp
      exact hK
    · refine wpOp_of rfl rfl ?_
      have e36 : tm a' 36 = .bool true := (P21 _ _).mp (D 21 36 (by kernel_rfl))
      replace hK : K (a'.put (some 8) (.bool true)) w' := hK _ _ (Below.refl _ _) ((P22 _ _).mpr rfl)
      have e36' := tm_simp e36
      clear O D
      go_simp
      exact hK
  · intro V w2 hb2 hV
    have v0 : V 0 = .string x := (P0 _ _).mp (hV 0 (by show 0 < 23; omega))
    have v1 := (P1 _ _).mp (hV 1 (by show 1 < 23; omega))
    have v2 : V 2 = .agg (dc X) := (P2 _ _).mp (hV 2 (by show 2 < 23; omega))
    have v3 : V 3 = .string y := (P3 _ _).mp (hV 3 (by show 3 < 23; omega))
    have v4 := (P4 _ _).mp (hV 4 (by show 4 < 23; omega))
    have v5 : V 5 = .agg (dc Y) := (P5 _ _).mp (hV 5 (by show 5 < 23; omega))
    have v6 : V 6 = .agg (dc Z) := (P6 _ _).mp (hV 6 (by show 6 < 23; omega))
    have v7 : V 7 = .string x := (P7 _ _).mp (hV 7 (by show 7 < 23; omega))
    have v8 : V 8 = .string y := (P8 _ _).mp (hV 8 (by show 8 < 23; omega))
    have v9 : V 9 = .string z := (P9 _ _).mp (hV 9 (by show 9 < 23; omega))
    have v10 := (P10 _ _).mp (hV 10 (by show 10 < 23; omega))
    have v11 : V 11 = .agg (dc Z) := (P11 _ _).mp (hV 11 (by show 11 < 23; omega))
    have v12 : V 12 = .bool true := (P12 _ _).mp (hV 12 (by show 12 < 23; omega))
    have v13 : V 13 = .bool true := (P13 _ _).mp (hV 13 (by show 13 < 23; omega))
    have v14 : V 14 = .agg (dc f) := (P14 _ _).mp (hV 14 (by show 14 < 23; omega))
    have v15 : V 15 = .agg (dc g) := (P15 _ _).mp (hV 15 (by show 15 < 23; omega))
    have v16 : V 16 = .agg (dc J) := (P16 _ _).mp (hV 16 (by show 16 < 23; omega))
    have v17 : V 17 = .agg (dc f) := (P17 _ _).mp (hV 17 (by show 17 < 23; omega))
    have v18 : V 18 = .agg (dc g) := (P18 _ _).mp (hV 18 (by show 18 < 23; omega))
    have v19 : V 19 = .agg (dc J) := (P19 _ _).mp (hV 19 (by show 19 < 23; omega))
    have v20 : V 20 = .bool true := (P20 _ _).mp (hV 20 (by show 20 < 23; omega))
    have v21 : V 21 = .bool true := (P21 _ _).mp (hV 21 (by show 21 < 23; omega))
    have v22 : V 22 = .bool true := (P22 _ _).mp (hV 22 (by show 22 < 23; omega))
    show Exit.then _ _ _ (puts [some 15, some 16, some 17, some 18, some 19, some 20, some 21, some 22, some 23, some 24, some 25, some 26, some 27, some 28, some 29, some 30, some 31, some 32, some 33, some 34, some 35, some 36, some 8] V 0 fra) w2
    simp only [puts, Nat.zero_add, Nat.reduceAdd, v0, v2, v3, v5, v6, v7, v8, v9, v11, v12, v13, v14, v15, v16, v17, v18, v19, v20, v21, v22]
    simp only [hfra]
    clear hV hmono hPL hfra sz v0 v2 v3 v5 v6 v7 v8 v9 v11 v12 v13 v14 v15 v16 v17 v18 v19 v20 v21 v22
    clear P0 P1 P2 P3 P4 P5 P6 P7 P8 P9 P10 P11 P12 P13 P14 P15 P16 P17 P18 P19 P20 P21 P22
    go_simp
    have HB2 := Lib.hid (HB1.out.trans (hb2.mono (by have := HB1.out.size; have := HS.out; omega)))
    go_wp2
    go_ret
    exact ⟨rfl, by rw [HS.out]; exact HB2.out⟩
end Go.Proofs.Ytlhennbimgjohaa
