/-
  WeightOf: the walk.
-/
import Derived.Test.YtgjhlmmhpcbnaaaWtF
import Derived.Test.YtgjhlmmhpcbnaaaWtQ
namespace Go.Proofs.Ytgjhlmmhpcbnaaa
open Go.RowKit
def IsSl (n : Nat) (z : Nat → Int) (v : Value) (w : World) : Prop := ∃ A c, v = .slice A n c ∧ Rd w.heap.size w A n (u8 z)
theorem IsSl.below {n : Nat} {z : Nat → Int} {v : Value} {w w' : World} (hb : Below w.heap.size w w') (h : IsSl n z v w) : IsSl n z v w' := by
  obtain ⟨A, c, hv, hr⟩ := h
  exact ⟨A, c, hv, (hr.later hb).mono hb.size⟩
theorem mono_sl (n : Nat) (z : Nat → Int) : Mono (IsSl n z) := fun _ _ _ hb h => h.below hb
theorem sl_one (w : World) (b : Int) : IsSl 1 (fun _ => b) (.slice (some ⟨w.heap.size, 0, none⟩) 1 1) (w.alloc (.cells #[.int .u8 b] 5)) :=
  ⟨_, _, rfl, .inr ⟨w.heap.size, 0, rfl, by simp, fun k hk => by
    obtain rfl : k = 0 := by omega
    exact (Row.new w 5 #[.int .u8 b]).cell 0⟩⟩
theorem of_big (A : Option Addr) (n c : Nat) (b : Int) (w : World) (hn : 5000 < n) (hn2 : n ≤ 9223372036854775807) :
    Calls Try.prog 3 #[.slice A n c, .int .u8 b] w fun e w' => e = .returned (.bool true) ∧ Below w.heap.size w w' := by
  go_enter Try.func3, Try.ntmps3
  go_wp2
  go_ret
  exact ⟨rfl, Below.refl _ _⟩
set_option maxRecDepth 20000 in
set_option maxHeartbeats 3200000 in
theorem of_walk (A : Option Addr) (n c : Nat) (z : Nat → Int) (b : Int) (w : World) (hm0 : n ≤ 9223372036854775807) (hA : A = none → n = 0 ∧ c = 0) (hz : Rd w.heap.size w A n (u8 z)) (hb : InB z n) (b0 : 0 ≤ b) (b1 : b < 256) :
    Calls Try.prog 3 #[.slice A n c, .int .u8 b] w fun e w' => e = .returned (.bool true) ∧ Below w.heap.size w w' := by
  rcases Nat.lt_or_ge 5000 n with hbig | hn
  · exact of_big A n c b w hbig hm0
  have hm : n ≤ 140737488355328 := by omega
  have HA := Lib.hid alive_true
  have hg := good_wx hb (by omega)
  have H1 := Lib.hid (w_of A n c z w hm hA hz hb)
  have CR := Lib.hid (fun u (hu : Below w.heap.size w u) => w_rof A n c z u hm ((hz.later hu).mono hu.size) hb)
  have CV := Lib.hid (fun w => gb_true hg ▸ w_valid (wx z n) w hg.w64)
  have CL := Lib.hid (fun w => w_letter b w b0 b1)
  have CB := Lib.hid (fun A2 c2 u (hr : Rd u.heap.size u A2 1 (u8 fun _ => b)) => w_rof A2 1 c2 (fun _ => b) u (by omega) hr (fun _ _ => ⟨b0, b1⟩))
  rw [show wx (fun _ => b) 1 = lw b from wj_left (wl_lw b0 b1)] at CB
  obtain ⟨X, hX⟩ : ∃ X, X = wx z n := ⟨_, rfl⟩
  obtain ⟨Y, hY⟩ : ∃ Y, Y = lw b := ⟨_, rfl⟩
  rw [← hX] at H1 CR CV
  rw [← hY] at CL CB
  have CU20 := Lib.hid w_unit
  have CU21 := Lib.hid w_runit
  have ge := guard_w
  have ee := equal_w
  have z0 := w_zero
  obtain ⟨s, hs⟩ : ∃ s, w.heap.size = s := ⟨_, rfl⟩
  have HS := Lib.hid hs
  clear hz hb hg hX hY hA
  go_enter Try.func3, Try.ntmps3
  go_wp2_with fail
  refine H1.out.mono ?_
  rintro e w1 ⟨rfl, hb1⟩
  have HB1 := Lib.hid hb1
  clear hb1 H1
  go_wp2_with (first | ((with_reducible refine wpList_newR (c' := wc X) aggW rfl (wc_one _) rfl _ _ rfl ?_ ?_ ?_); (go_simp <;> fail); (first | (go_simp <;> fail) | exact rfl); go_simp; have S5 := Lib.hid (Row.new w1 27 (wc X)); have HB2 := Lib.hid (HB1.out.alloc HB1.out.size (.cells (wc X) 27)); clear HB1; revert S5 HB2; generalize w1.alloc (.cells (wc X) 27) = w2; intro S5 HB2))
  clear hs
  replace CR := Lib.hid (fun u (hu : Below w2.heap.size w2 u) => CR.out u (HB2.out.trans (hu.mono HB2.out.size)))
  refine wp_region_named fun fra hfra => ?_
  have o0 : tm fra 0 = .slice A n c := by rw [hfra]; rfl
  have o1 : tm fra 1 = .int .u8 b := by rw [hfra]; rfl
  have o5 : tm fra 5 = .pointer (some ⟨w1.heap.size, 0, none⟩) := by rw [hfra]; rfl
  have sz : fra.tmps.size = 35 := by rw [hfra]; rfl
  obtain ⟨PL, hPL⟩ : ∃ PL : List (Value → World → Prop), PL = [(fun v _ => v = .bool true), (fun v _ => v = .bool true), (fun v _ => v = .agg (wc X)), (fun v _ => v = .slice A n c), (fun v _ => v = .agg (wc X)), (fun v _ => v = .bool true), (fun v _ => v = .bool true), (fun v _ => v = .bool true), (fun v _ => v = .agg (wc X)), (fun v _ => v = .bool true), (fun v _ => v = .bool true), (fun v _ => v = .bool true), (fun v _ => v = .int .u8 b), (fun v _ => v = .agg (wc Y)), (fun v _ => v = .int .u8 b), (IsSl 1 (fun _ => b)), (fun v _ => v = .agg (wc Y)), (fun v _ => v = .bool true), (fun v _ => v = .bool true), (fun v _ => v = .bool true), (fun v _ => v = .agg (wc wU)), (fun v _ => v = .agg (wc wU)), (fun v _ => v = .bool true), (fun v _ => v = .bool true), (fun v _ => v = .bool true)] := ⟨_, rfl⟩
  have hmono : AllMono PL := by rw [hPL]; exact ⟨mono_det _, mono_det _, mono_det _, mono_det _, mono_det _, mono_det _, mono_det _, mono_det _, mono_det _, mono_det _, mono_det _, mono_det _, mono_det _, mono_det _, mono_det _, mono_sl _ _, mono_det _, mono_det _, mono_det _, mono_det _, mono_det _, mono_det _, mono_det _, mono_det _, mono_det _, trivial⟩
  have P0 : ∀ v w, PL.getD 0 (fun _ _ => True) v w = (fun v _ => v = .bool true) v w := fun v w => by rw [hPL]; rfl
  have P1 : ∀ v w, PL.getD 1 (fun _ _ => True) v w = (fun v _ => v = .bool true) v w := fun v w => by rw [hPL]; rfl
  have P2 : ∀ v w, PL.getD 2 (fun _ _ => True) v w = (fun v _ => v = .agg (wc X)) v w := fun v w => by rw [hPL]; rfl
  have P3 : ∀ v w, PL.getD 3 (fun _ _ => True) v w = (fun v _ => v = .slice A n c) v w := fun v w => by rw [hPL]; rfl
  have P4 : ∀ v w, PL.getD 4 (fun _ _ => True) v w = (fun v _ => v = .agg (wc X)) v w := fun v w => by rw [hPL]; rfl
  have P5 : ∀ v w, PL.getD 5 (fun _ _ => True) v w = (fun v _ => v = .bool true) v w := fun v w => by rw [hPL]; rfl
  have P6 : ∀ v w, PL.getD 6 (fun _ _ => True) v w = (fun v _ => v = .bool true) v w := fun v w => by rw [hPL]; rfl
  have P7 : ∀ v w, PL.getD 7 (fun _ _ => True) v w = (fun v _ => v = .bool true) v w := fun v w => by rw [hPL]; rfl
  have P8 : ∀ v w, PL.getD 8 (fun _ _ => True) v w = (fun v _ => v = .agg (wc X)) v w := fun v w => by rw [hPL]; rfl
  have P9 : ∀ v w, PL.getD 9 (fun _ _ => True) v w = (fun v _ => v = .bool true) v w := fun v w => by rw [hPL]; rfl
  have P10 : ∀ v w, PL.getD 10 (fun _ _ => True) v w = (fun v _ => v = .bool true) v w := fun v w => by rw [hPL]; rfl
  have P11 : ∀ v w, PL.getD 11 (fun _ _ => True) v w = (fun v _ => v = .bool true) v w := fun v w => by rw [hPL]; rfl
  have P12 : ∀ v w, PL.getD 12 (fun _ _ => True) v w = (fun v _ => v = .int .u8 b) v w := fun v w => by rw [hPL]; rfl
  have P13 : ∀ v w, PL.getD 13 (fun _ _ => True) v w = (fun v _ => v = .agg (wc Y)) v w := fun v w => by rw [hPL]; rfl
  have P14 : ∀ v w, PL.getD 14 (fun _ _ => True) v w = (fun v _ => v = .int .u8 b) v w := fun v w => by rw [hPL]; rfl
  have P15 : ∀ v w, PL.getD 15 (fun _ _ => True) v w = (IsSl 1 (fun _ => b)) v w := fun v w => by rw [hPL]; rfl
  have P16 : ∀ v w, PL.getD 16 (fun _ _ => True) v w = (fun v _ => v = .agg (wc Y)) v w := fun v w => by rw [hPL]; rfl
  have P17 : ∀ v w, PL.getD 17 (fun _ _ => True) v w = (fun v _ => v = .bool true) v w := fun v w => by rw [hPL]; rfl
  have P18 : ∀ v w, PL.getD 18 (fun _ _ => True) v w = (fun v _ => v = .bool true) v w := fun v w => by rw [hPL]; rfl
  have P19 : ∀ v w, PL.getD 19 (fun _ _ => True) v w = (fun v _ => v = .bool true) v w := fun v w => by rw [hPL]; rfl
  have P20 : ∀ v w, PL.getD 20 (fun _ _ => True) v w = (fun v _ => v = .agg (wc wU)) v w := fun v w => by rw [hPL]; rfl
  have P21 : ∀ v w, PL.getD 21 (fun _ _ => True) v w = (fun v _ => v = .agg (wc wU)) v w := fun v w => by rw [hPL]; rfl
  have P22 : ∀ v w, PL.getD 22 (fun _ _ => True) v w = (fun v _ => v = .bool true) v w := fun v w => by rw [hPL]; rfl
  have P23 : ∀ v w, PL.getD 23 (fun _ _ => True) v w = (fun v _ => v = .bool true) v w := fun v w => by rw [hPL]; rfl
  have P24 : ∀ v w, PL.getD 24 (fun _ _ => True) v w = (fun v _ => v = .bool true) v w := fun v w => by rw [hPL]; rfl
  refine wp_region_by0 (by kernel_rfl) (fun j => PL.getD j (fun _ _ => True)) (by rw [sz]; kernel_rfl) (fun j => all_mono hmono j) ?_ ?_
  · intro j hj a' w' hb OX DX K hK
    have hc : j = 0 ∨ j = 1 ∨ j = 2 ∨ j = 3 ∨ j = 4 ∨ j = 5 ∨ j = 6 ∨ j = 7 ∨ j = 8 ∨ j = 9 ∨ j = 10 ∨ j = 11 ∨ j = 12 ∨ j = 13 ∨ j = 14 ∨ j = 15 ∨ j = 16 ∨ j = 17 ∨ j = 18 ∨ j = 19 ∨ j = 20 ∨ j = 21 ∨ j = 22 ∨ j = 23 ∨ j = 24 := by
      have h3 : j < 25 := hj
      omega
    clear hmono hj
    rcases hc with rfl | rfl | rfl | rfl | rfl | rfl | rfl | rfl | rfl | rfl | rfl | rfl | rfl | rfl | rfl | rfl | rfl | rfl | rfl | rfl | rfl | rfl | rfl | rfl | rfl
    · refine wpOp_of rfl rfl ?_
      replace hK : ∀ w'', Below w'.heap.size w' w'' → K (a'.put (some 11) (.bool true)) w'' := fun w'' hb => hK _ _ hb ((P0 _ _).mpr rfl)
      clear OX DX
      go_simp
      go_at_call 12
      refine (HA.out _).mono ?_
      rintro e w2 ⟨rfl, hb2⟩
      exact hK _ hb2
    · refine wpOp_of rfl rfl ?_
      have e11 : tm a' 11 = .bool true := (P0 _ _).mp (DX 0 11 (by kernel_rfl))
      replace hK : K (a'.put (some 12) (.bool true)) w' := hK _ _ (Below.refl _ _) ((P1 _ _).mpr rfl)
      have e11' := tm_simp e11
      clear OX DX
      go_simp
      exact hK
    · have hg : tm a' 12 = .bool true := (P1 _ _).mp (DX 1 12 (by kernel_rfl))
      refine wpOp_on 1 true 12 rfl rfl rfl hg ?_
      have e5 := (OX 5 (by kernel_rfl)).trans o5
      exact wp_loadR aggW (S5.out.below' hb) _ rfl (eval_of e5) (hK _ _ (Below.refl _ _) ((P2 _ _).mpr rfl))
    · have hg : tm a' 12 = .bool true := (P1 _ _).mp (DX 1 12 (by kernel_rfl))
      refine wpOp_on 1 true 12 rfl rfl rfl hg ?_
      have e0 := (OX 0 (by kernel_rfl)).trans o0
      replace hK : K (a'.put (some 14) (.slice A n c)) w' := hK _ _ (Below.refl _ _) ((P3 _ _).mpr rfl)
      have e0' := tm_simp e0
      clear OX DX
      go_simp
      exact hK
    · have hg : tm a' 12 = .bool true := (P1 _ _).mp (DX 1 12 (by kernel_rfl))
      refine wpOp_on 1 true 12 rfl rfl rfl hg ?_
      have e14 : tm a' 14 = .slice A n c := (P3 _ _).mp (DX 3 14 (by kernel_rfl))
      replace hK : ∀ w'', Below w'.heap.size w' w'' → K (a'.put (some 15) (.agg (wc X))) w'' := fun w'' hb => hK _ _ hb ((P4 _ _).mpr rfl)
      have e14' := tm_simp e14
      clear OX DX
      go_simp
      go_at_call 13
      refine (CR.out _ hb).mono ?_
      rintro e w2 ⟨rfl, hb2⟩
      exact hK _ hb2
    · have hg : tm a' 12 = .bool true := (P1 _ _).mp (DX 1 12 (by kernel_rfl))
      refine wpOp_on 1 true 12 rfl rfl rfl hg ?_
      have e13 : tm a' 13 = .agg (wc X) := (P2 _ _).mp (DX 2 13 (by kernel_rfl))
      have e15 : tm a' 15 = .agg (wc X) := (P4 _ _).mp (DX 4 15 (by kernel_rfl))
      replace hK : K (a'.put (some 16) (.bool true)) w' := hK _ _ (Below.refl _ _) ((P5 _ _).mpr rfl)
      have e13' := tm_simp e13
      have e15' := tm_simp e15
      clear OX DX
      go_simp
      exact hK
    · refine wpOp_of rfl rfl ?_
      have e12 : tm a' 12 = .bool true := (P1 _ _).mp (DX 1 12 (by kernel_rfl))
      have e16 : tm a' 16 = .bool true := (P5 _ _).mp (DX 5 16 (by kernel_rfl))
      replace hK : K (a'.put (some 17) (.bool true)) w' := hK _ _ (Below.refl _ _) ((P6 _ _).mpr rfl)
      have e12' := tm_simp e12
      have e16' := tm_simp e16
      clear OX DX
      go_simp
      exact hK
    · refine wpOp_of rfl rfl ?_
      have e17 : tm a' 17 = .bool true := (P6 _ _).mp (DX 6 17 (by kernel_rfl))
      replace hK : K (a'.put (some 18) (.bool true)) w' := hK _ _ (Below.refl _ _) ((P7 _ _).mpr rfl)
      have e17' := tm_simp e17
      clear OX DX
      go_simp
      exact hK
    · have hg : tm a' 18 = .bool true := (P7 _ _).mp (DX 7 18 (by kernel_rfl))
      refine wpOp_on 7 true 18 rfl rfl rfl hg ?_
      have e5 := (OX 5 (by kernel_rfl)).trans o5
      exact wp_loadR aggW (S5.out.below' hb) _ rfl (eval_of e5) (hK _ _ (Below.refl _ _) ((P8 _ _).mpr rfl))
    · have hg : tm a' 18 = .bool true := (P7 _ _).mp (DX 7 18 (by kernel_rfl))
      refine wpOp_on 7 true 18 rfl rfl rfl hg ?_
      have e19 : tm a' 19 = .agg (wc X) := (P8 _ _).mp (DX 8 19 (by kernel_rfl))
      replace hK : ∀ w'', Below w'.heap.size w' w'' → K (a'.put (some 20) (.bool true)) w'' := fun w'' hb => hK _ _ hb ((P9 _ _).mpr rfl)
      have e19' := tm_simp e19
      clear OX DX
      go_simp
      go_at_call 14
      refine (CV.out _).mono ?_
      rintro e w2 ⟨rfl, hb2⟩
      exact hK _ hb2
    · refine wpOp_of rfl rfl ?_
      have e18 : tm a' 18 = .bool true := (P7 _ _).mp (DX 7 18 (by kernel_rfl))
      have e20 : tm a' 20 = .bool true := (P9 _ _).mp (DX 9 20 (by kernel_rfl))
      replace hK : K (a'.put (some 21) (.bool true)) w' := hK _ _ (Below.refl _ _) ((P10 _ _).mpr rfl)
      have e18' := tm_simp e18
      have e20' := tm_simp e20
      clear OX DX
      go_simp
      exact hK
    · refine wpOp_of rfl rfl ?_
      have e21 : tm a' 21 = .bool true := (P10 _ _).mp (DX 10 21 (by kernel_rfl))
      replace hK : K (a'.put (some 22) (.bool true)) w' := hK _ _ (Below.refl _ _) ((P11 _ _).mpr rfl)
      have e21' := tm_simp e21
      clear OX DX
      go_simp
      exact hK
    · have hg : tm a' 22 = .bool true := (P11 _ _).mp (DX 11 22 (by kernel_rfl))
      refine wpOp_on 11 true 22 rfl rfl rfl hg ?_
      have e1 := (OX 1 (by kernel_rfl)).trans o1
      replace hK : K (a'.put (some 23) (.int .u8 b)) w' := hK _ _ (Below.refl _ _) ((P12 _ _).mpr rfl)
      have e1' := tm_simp e1
      clear OX DX
      go_simp
      exact hK
    · have hg : tm a' 22 = .bool true := (P11 _ _).mp (DX 11 22 (by kernel_rfl))
      refine wpOp_on 11 true 22 rfl rfl rfl hg ?_
      have e23 : tm a' 23 = .int .u8 b := (P12 _ _).mp (DX 12 23 (by kernel_rfl))
      replace hK : ∀ w'', Below w'.heap.size w' w'' → K (a'.put (some 24) (.agg (wc Y))) w'' := fun w'' hb => hK _ _ hb ((P13 _ _).mpr rfl)
      have e23' := tm_simp e23
      clear OX DX
      go_simp
      go_at_call 15
      refine (CL.out _).mono ?_
      rintro e w2 ⟨rfl, hb2⟩
      exact hK _ hb2
    · have hg : tm a' 22 = .bool true := (P11 _ _).mp (DX 11 22 (by kernel_rfl))
      refine wpOp_on 11 true 22 rfl rfl rfl hg ?_
      have e1 := (OX 1 (by kernel_rfl)).trans o1
      replace hK : K (a'.put (some 25) (.int .u8 b)) w' := hK _ _ (Below.refl _ _) ((P14 _ _).mpr rfl)
      have e1' := tm_simp e1
      clear OX DX
      go_simp
      exact hK
    · have hg : tm a' 22 = .bool true := (P11 _ _).mp (DX 11 22 (by kernel_rfl))
      refine wpOp_on 11 true 22 rfl rfl rfl hg ?_
      have e25 : tm a' 25 = .int .u8 b := (P14 _ _).mp (DX 14 25 (by kernel_rfl))
      replace hK : ∀ v w'', Below w'.heap.size w' w'' → IsSl 1 (fun _ => b) v w'' → K (a'.put (some 26) v) w'' := fun v w'' hb hv => hK _ _ hb ((P15 _ _).mpr hv)
      have e25' := tm_simp e25
      clear OX DX
      go_simp
      exact hK _ _ ((Below.refl w'.heap.size w').alloc (Nat.le_refl _) _) (sl_one w' b)
    · have hg : tm a' 22 = .bool true := (P11 _ _).mp (DX 11 22 (by kernel_rfl))
      refine wpOp_on 11 true 22 rfl rfl rfl hg ?_
      have e26 := (P15 _ _).mp (DX 15 26 (by kernel_rfl))
      replace hK : ∀ w'', Below w'.heap.size w' w'' → K (a'.put (some 27) (.agg (wc Y))) w'' := fun w'' hb => hK _ _ hb ((P16 _ _).mpr rfl)
      obtain ⟨A2, c2, eA, hr⟩ := e26
      have eA' := tm_simp eA
      clear OX DX
      go_simp
      go_at_call 13
      refine (CB.out A2 c2 _ hr).mono ?_
      rintro e w2 ⟨rfl, hb2⟩
      exact hK _ hb2
    · have hg : tm a' 22 = .bool true := (P11 _ _).mp (DX 11 22 (by kernel_rfl))
      refine wpOp_on 11 true 22 rfl rfl rfl hg ?_
      have e24 : tm a' 24 = .agg (wc Y) := (P13 _ _).mp (DX 13 24 (by kernel_rfl))
      have e27 : tm a' 27 = .agg (wc Y) := (P16 _ _).mp (DX 16 27 (by kernel_rfl))
      replace hK : K (a'.put (some 28) (.bool true)) w' := hK _ _ (Below.refl _ _) ((P17 _ _).mpr rfl)
      have e24' := tm_simp e24
      have e27' := tm_simp e27
      clear OX DX
      go_simp
      exact hK
    · refine wpOp_of rfl rfl ?_
      have e22 : tm a' 22 = .bool true := (P11 _ _).mp (DX 11 22 (by kernel_rfl))
      have e28 : tm a' 28 = .bool true := (P17 _ _).mp (DX 17 28 (by kernel_rfl))
      replace hK : K (a'.put (some 29) (.bool true)) w' := hK _ _ (Below.refl _ _) ((P18 _ _).mpr rfl)
      have e22' := tm_simp e22
      have e28' := tm_simp e28
      clear OX DX
      go_simp
      exact hK
    · refine wpOp_of rfl rfl ?_
      have e29 : tm a' 29 = .bool true := (P18 _ _).mp (DX 18 29 (by kernel_rfl))
      replace hK : K (a'.put (some 30) (.bool true)) w' := hK _ _ (Below.refl _ _) ((P19 _ _).mpr rfl)
      have e29' := tm_simp e29
      clear OX DX
      go_simp
      exact hK
    · have hg : tm a' 30 = .bool true := (P19 _ _).mp (DX 19 30 (by kernel_rfl))
      refine wpOp_on 19 true 30 rfl rfl rfl hg ?_
      replace hK : ∀ w'', Below w'.heap.size w' w'' → K (a'.put (some 31) (.agg (wc wU))) w'' := fun w'' hb => hK _ _ hb ((P20 _ _).mpr rfl)
      clear OX DX
      go_simp
      go_at_call 16
      refine (CU20.out _).mono ?_
      rintro e w2 ⟨rfl, hb2⟩
      exact hK _ hb2
    · have hg : tm a' 30 = .bool true := (P19 _ _).mp (DX 19 30 (by kernel_rfl))
      refine wpOp_on 19 true 30 rfl rfl rfl hg ?_
      replace hK : ∀ w'', Below w'.heap.size w' w'' → K (a'.put (some 32) (.agg (wc wU))) w'' := fun w'' hb => hK _ _ hb ((P21 _ _).mpr rfl)
      clear OX DX
      go_simp
      go_at_call 17
      refine (CU21.out _).mono ?_
      rintro e w2 ⟨rfl, hb2⟩
      exact hK _ hb2
    · have hg : tm a' 30 = .bool true := (P19 _ _).mp (DX 19 30 (by kernel_rfl))
      refine wpOp_on 19 true 30 rfl rfl rfl hg ?_
      have e31 : tm a' 31 = .agg (wc wU) := (P20 _ _).mp (DX 20 31 (by kernel_rfl))
      have e32 : tm a' 32 = .agg (wc wU) := (P21 _ _).mp (DX 21 32 (by kernel_rfl))
      replace hK : K (a'.put (some 33) (.bool true)) w' := hK _ _ (Below.refl _ _) ((P22 _ _).mpr rfl)
      have e31' := tm_simp e31
      have e32' := tm_simp e32
      clear OX DX
      go_simp
      exact hK
    · refine wpOp_of rfl rfl ?_
      have e30 : tm a' 30 = .bool true := (P19 _ _).mp (DX 19 30 (by kernel_rfl))
      have e33 : tm a' 33 = .bool true := (P22 _ _).mp (DX 22 33 (by kernel_rfl))
      replace hK : K (a'.put (some 34) (.bool true)) w' := hK _ _ (Below.refl _ _) ((P23 _ _).mpr rfl)
      have e30' := tm_simp e30
      have e33' := tm_simp e33
      clear OX DX
      go_simp
      exact hK
    · refine wpOp_of rfl rfl ?_
      have e34 : tm a' 34 = .bool true := (P23 _ _).mp (DX 23 34 (by kernel_rfl))
      replace hK : K (a'.put (some 4) (.bool true)) w' := hK _ _ (Below.refl _ _) ((P24 _ _).mpr rfl)
      have e34' := tm_simp e34
      clear OX DX
      go_simp
      exact hK
  · intro V w2 hb2 hV
    have v0 : V 0 = .bool true := (P0 _ _).mp (hV 0 (by show 0 < 25; omega))
    have v1 : V 1 = .bool true := (P1 _ _).mp (hV 1 (by show 1 < 25; omega))
    have v2 : V 2 = .agg (wc X) := (P2 _ _).mp (hV 2 (by show 2 < 25; omega))
    have v3 : V 3 = .slice A n c := (P3 _ _).mp (hV 3 (by show 3 < 25; omega))
    have v4 : V 4 = .agg (wc X) := (P4 _ _).mp (hV 4 (by show 4 < 25; omega))
    have v5 : V 5 = .bool true := (P5 _ _).mp (hV 5 (by show 5 < 25; omega))
    have v6 : V 6 = .bool true := (P6 _ _).mp (hV 6 (by show 6 < 25; omega))
    have v7 : V 7 = .bool true := (P7 _ _).mp (hV 7 (by show 7 < 25; omega))
    have v8 : V 8 = .agg (wc X) := (P8 _ _).mp (hV 8 (by show 8 < 25; omega))
    have v9 : V 9 = .bool true := (P9 _ _).mp (hV 9 (by show 9 < 25; omega))
    have v10 : V 10 = .bool true := (P10 _ _).mp (hV 10 (by show 10 < 25; omega))
    have v11 : V 11 = .bool true := (P11 _ _).mp (hV 11 (by show 11 < 25; omega))
    have v12 : V 12 = .int .u8 b := (P12 _ _).mp (hV 12 (by show 12 < 25; omega))
    have v13 : V 13 = .agg (wc Y) := (P13 _ _).mp (hV 13 (by show 13 < 25; omega))
    have v14 : V 14 = .int .u8 b := (P14 _ _).mp (hV 14 (by show 14 < 25; omega))
    have v15 := (P15 _ _).mp (hV 15 (by show 15 < 25; omega))
    have v16 : V 16 = .agg (wc Y) := (P16 _ _).mp (hV 16 (by show 16 < 25; omega))
    have v17 : V 17 = .bool true := (P17 _ _).mp (hV 17 (by show 17 < 25; omega))
    have v18 : V 18 = .bool true := (P18 _ _).mp (hV 18 (by show 18 < 25; omega))
    have v19 : V 19 = .bool true := (P19 _ _).mp (hV 19 (by show 19 < 25; omega))
    have v20 : V 20 = .agg (wc wU) := (P20 _ _).mp (hV 20 (by show 20 < 25; omega))
    have v21 : V 21 = .agg (wc wU) := (P21 _ _).mp (hV 21 (by show 21 < 25; omega))
    have v22 : V 22 = .bool true := (P22 _ _).mp (hV 22 (by show 22 < 25; omega))
    have v23 : V 23 = .bool true := (P23 _ _).mp (hV 23 (by show 23 < 25; omega))
    have v24 : V 24 = .bool true := (P24 _ _).mp (hV 24 (by show 24 < 25; omega))
    show Exit.then _ _ _ (puts [some 11, some 12, some 13, some 14, some 15, some 16, some 17, some 18, some 19, some 20, some 21, some 22, some 23, some 24, some 25, some 26, some 27, some 28, some 29, some 30, some 31, some 32, some 33, some 34, some 4] V 0 fra) w2
    simp only [puts, Nat.zero_add, Nat.reduceAdd, v0, v1, v2, v3, v4, v5, v6, v7, v8, v9, v10, v11, v12, v13, v14, v16, v17, v18, v19, v20, v21, v22, v23, v24]
    simp only [hfra]
    clear hV hmono hPL hfra sz v0 v1 v2 v3 v4 v5 v6 v7 v8 v9 v10 v11 v12 v13 v14 v16 v17 v18 v19 v20 v21 v22 v23 v24
    clear P0 P1 P2 P3 P4 P5 P6 P7 P8 P9 P10 P11 P12 P13 P14 P15 P16 P17 P18 P19 P20 P21 P22 P23 P24
    go_simp
    have HB3 := Lib.hid (HB2.out.trans (hb2.mono HB2.out.size))
    go_wp2
    go_ret
    exact ⟨rfl, HB3.out⟩
end Go.Proofs.Ytgjhlmmhpcbnaaa
