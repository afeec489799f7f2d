/-
  WeightParts: the walk.
-/
import Derived.Test.YtgjhlmmhpcbnaaaWtF
import Derived.Test.YtgjhlmmhpcbnaaaWtK
import Derived.Laws.Slices
namespace Go.Proofs.Ytgjhlmmhpcbnaaa
open Go.RowKit
theorem wp_sliceH {o : Oper} {a : Act} {w : World} {K : Act → World → Prop} {Q : Exit → Act → World → Prop} (A : Option Addr) (n c m : Nat) (A1 : Option Addr) (c1 : Nat) (hs : sliced A 0 m c 1 = .slice A1 m c1) (hm : m ≤ c) (x y : Operand) (ho : o.op = .slice 22 x none (some y) none) (hx : a.eval x = .slice A n c) (hy : a.eval y = .int .i64 (m : Nat)) (h : K (a.put o.dst (.slice A1 m c1)) w) : o.wp Try.prog a w K Q := by
  have hr : (Instr.slice 22 (.slice A n c) none (some (.int .i64 (m : Nat))) none).run Try.prog w = .ok (.slice A1 m c1) w := by
    rw [run_slice_h (P := Try.prog) w 22 A n c Try.underlying22 .i64 (m : Int) (by omega) (by omega)]
    rw [show (sizeOf (Try.prog.elem 22)).run Try.prog w = .ok 1 w by kernel_rfl]
    simp only [Result.andThen_ok, Int.toNat_natCast, hs]
  unfold Oper.wp execOp
  simp only [ho, hx, hy, Option.map_none, Option.map_some, run_sliceAt_slice _ _ _ _ _ _ Try.underlying22, Sem.run_bind, Sem.run_pure, Result.andThen_ok, hr]
  exact h
theorem wp_sliceL {o : Oper} {a : Act} {w : World} {K : Act → World → Prop} {Q : Exit → Act → World → Prop} (A : Option Addr) (n c m q : Nat) (A1 : Option Addr) (c1 : Nat) (hs : sliced A m n c 1 = .slice A1 q c1) (hm : m ≤ n) (x y : Operand) (ho : o.op = .slice 22 x (some y) none none) (hx : a.eval x = .slice A n c) (hy : a.eval y = .int .i64 (m : Nat)) (h : K (a.put o.dst (.slice A1 q c1)) w) : o.wp Try.prog a w K Q := by
  have hr : (Instr.slice 22 (.slice A n c) (some (.int .i64 (m : Nat))) none none).run Try.prog w = .ok (.slice A1 q c1) w := by
    rw [run_slice_l (P := Try.prog) w 22 A n c Try.underlying22 .i64 (m : Int) (by omega) (by omega)]
    rw [show (sizeOf (Try.prog.elem 22)).run Try.prog w = .ok 1 w by kernel_rfl]
    simp only [Result.andThen_ok, Int.toNat_natCast, hs]
  unfold Oper.wp execOp
  simp only [ho, hx, hy, Option.map_none, Option.map_some, run_sliceAt_slice _ _ _ _ _ _ Try.underlying22, Sem.run_bind, Sem.run_pure, Result.andThen_ok, hr]
  exact h
theorem parts_out (A : Option Addr) (n c : Nat) (at1 : Int) (w : World) (hn : n ≤ 9223372036854775807) (h0 : -9223372036854775808 ≤ at1) (h1 : at1 ≤ 9223372036854775807) (h : 5000 < n ∨ at1 < 0 ∨ (n : Int) < at1) :
    Calls Try.prog 7 #[.slice A n c, .int .i64 at1] w fun e w' => e = .returned (.bool true) ∧ Below w.heap.size w w' := by
  by_cases h2 : 5000 < n
  · clear h
    go_enter Try.func7, Try.ntmps7
    go_wp2
    go_ret
    exact ⟨rfl, Below.refl _ _⟩
  · by_cases h3 : at1 < 0
    · clear h
      go_enter Try.func7, Try.ntmps7
      go_wp2
      go_ret
      exact ⟨rfl, Below.refl _ _⟩
    · have h4 : (n : Int) < at1 := by omega
      clear h
      go_enter Try.func7, Try.ntmps7
      go_wp2
      go_ret
      exact ⟨rfl, Below.refl _ _⟩
set_option maxRecDepth 20000 in
set_option maxHeartbeats 3200000 in
theorem parts_in (A : Option Addr) (n c m : Nat) (z : Nat → Int) (w : World) (hn : n ≤ 5000) (hmn : m ≤ n) (hl : n ≤ c) (hA : A = none → n = 0 ∧ c = 0) (hz : Rd w.heap.size w A n (u8 z)) (hb : InB z n) :
    Calls Try.prog 7 #[.slice A n c, .int .i64 (m : Nat)] w fun e w' => e = .returned (.bool true) ∧ Below w.heap.size w w' := by
  have HA := Lib.hid alive_true
  have hb1 : InB z m := fun k hk => hb k (by omega)
  have hb2 : InB (fun k => z (m + k)) (n - m) := fun k hk => hb (m + k) (by omega)
  obtain ⟨q, hq⟩ : ∃ q, n - m = q := ⟨_, rfl⟩
  rw [hq] at hb2
  obtain ⟨A1, hA1⟩ : ∃ A1, A1 = (if c = 0 then A else A.map (·.add 0)) := ⟨_, rfl⟩
  obtain ⟨A2, hA2⟩ : ∃ A2, A2 = (if c = m then A else A.map (·.add m)) := ⟨_, rfl⟩
  have z1 : ∀ u, Below w.heap.size w u → Rd u.heap.size u A1 m (u8 z) := fun u hu => by
    rw [hA1]
    exact (((hz.later hu).mono hu.size).part hl 0 m (by omega)).congr fun k _ => by show u8 z (0 + k) = _; rw [Nat.zero_add]
  have z2 : ∀ u, Below w.heap.size w u → Rd u.heap.size u A2 q (u8 fun k => z (m + k)) := fun u hu => by
    rw [hA2]
    exact ((hz.later hu).mono hu.size).part hl m q (by omega)
  have n1 : A1 = none → m = 0 ∧ c - 0 = 0 := fun h => by
    have : A = none := by
      rw [hA1] at h
      by_cases e : c = 0
      · rw [if_pos e] at h; exact h
      · rw [if_neg e] at h; simpa using h
    have := hA this; omega
  have n2 : A2 = none → q = 0 ∧ c - m = 0 := fun h => by
    have : A = none := by
      rw [hA2] at h
      by_cases e : c = m
      · rw [if_pos e] at h; exact h
      · rw [if_neg e] at h; simpa using h
    have := hA this; omega
  have HS1 := Lib.hid (show sliced A 0 m c 1 = .slice A1 m (c - 0) by unfold sliced; rw [hA1]; rfl)
  have HS2 := Lib.hid (show sliced A m n c 1 = .slice A2 q (c - m) by unfold sliced; rw [hA2, hq, Nat.mul_one])
  obtain ⟨c1, hc1⟩ : ∃ c1, c1 = c - 0 := ⟨_, rfl⟩
  obtain ⟨c2, hc2⟩ : ∃ c2, c2 = c - m := ⟨_, rfl⟩
  rw [← hc1] at n1 HS1
  rw [← hc2] at n2 HS2
  have C1 := Lib.hid (fun u (hu : Below w.heap.size w u) => w_of A1 m c1 z u (by omega) n1 (z1 u hu) hb1)
  have C2 := Lib.hid (fun u (hu : Below w.heap.size w u) => w_of A2 q c2 (fun k => z (m + k)) u (by omega) n2 (z2 u hu) hb2)
  have CO := Lib.hid (fun u (hu : Below w.heap.size w u) => w_of A n c z u (by omega) hA ((hz.later hu).mono hu.size) hb)
  have g1 := good_wx hb1 (by omega)
  have g2 := good_wx hb2 (by omega)
  have hsum : (wx z m).l + (wx (fun k => z (m + k)) q).l ≤ 1152921504606846976 := by rw [wx_l, wx_l]; omega
  have CJ := Lib.hid (fun u => join_ok (wx z m) (wx (fun k => z (m + k)) q) u g1 g2 hsum)
  have hJ : wj (wx z m) (wx (fun k => z (m + k)) q) = wx z n := by
    have := wx_add (z := z) (n := m) (m := q) (by rw [show m + q = n by omega]; exact hb)
    rw [show m + q = n by omega] at this
    exact this.symm
  rw [hJ] at CJ
  obtain ⟨X, hX⟩ : ∃ X, X = wx z m := ⟨_, rfl⟩
  obtain ⟨Y, hY⟩ : ∃ Y, Y = wx (fun k => z (m + k)) q := ⟨_, rfl⟩
  obtain ⟨J, hJJ⟩ : ∃ J, J = wx z n := ⟨_, rfl⟩
  rw [← hX] at C1 CJ
  rw [← hY] at C2 CJ
  rw [← hJJ] at CJ CO
  have hmc : m ≤ c := by omega
  have h5 : ¬ (5000 : Int) < (n : Int) := by omega
  have ge := guard_w
  have ee := equal_w
  have z0 := w_zero
  have d1 : ¬ ((m : Int) < 0) := by omega
  have d2 : ¬ ((n : Int) < (m : Int)) := by omega
  clear hb1 hb2 hA1 hA2 z1 z2 n1 n2 hc1 hc2 g1 g2 hsum hJ hX hY hJJ hz hb hA
  go_enter Try.func7, Try.ntmps7
  go_wp2_with fail
  refine wp_region_named fun fra hfra => ?_
  have o0 : tm fra 0 = .slice A n c := by rw [hfra]; rfl
  have o1 : tm fra 1 = .int .i64 (m : Nat) := by rw [hfra]; rfl
  have sz : fra.tmps.size = 43 := by rw [hfra]; rfl
  obtain ⟨PL, hPL⟩ : ∃ PL : List (Value → World → Prop), PL = [(fun v _ => v = .slice A n c), (fun v _ => v = .int .i64 (m : Nat)), (fun v _ => v = .slice A1 m c1), (fun v _ => v = .agg (wc X)), (fun v _ => v = .slice A n c), (fun v _ => v = .int .i64 (m : Nat)), (fun v _ => v = .slice A2 q c2), (fun v _ => v = .agg (wc Y)), (fun v _ => v = .tuple #[.agg (wc J), .nilIface]), (fun v _ => v = .tuple #[.agg (wc J), .nilIface]), (fun v _ => v = .agg (wc J)), (fun v _ => v = .nilIface), (fun _ _ => True), (fun _ _ => True), (fun v _ => v = .nilIface)] := ⟨_, rfl⟩
  have hmono : AllMono PL := by rw [hPL]; exact ⟨mono_det _, mono_det _, mono_det _, mono_det _, mono_det _, mono_det _, mono_det _, mono_det _, mono_det _, mono_det _, mono_det _, mono_det _, mono_top, mono_top, mono_det _, trivial⟩
  have P0 : ∀ v w, PL.getD 0 (fun _ _ => True) v w = (fun v _ => v = .slice A n c) v w := fun v w => by rw [hPL]; rfl
  have P1 : ∀ v w, PL.getD 1 (fun _ _ => True) v w = (fun v _ => v = .int .i64 (m : Nat)) v w := fun v w => by rw [hPL]; rfl
  have P2 : ∀ v w, PL.getD 2 (fun _ _ => True) v w = (fun v _ => v = .slice A1 m c1) v w := fun v w => by rw [hPL]; rfl
  have P3 : ∀ v w, PL.getD 3 (fun _ _ => True) v w = (fun v _ => v = .agg (wc X)) v w := fun v w => by rw [hPL]; rfl
  have P4 : ∀ v w, PL.getD 4 (fun _ _ => True) v w = (fun v _ => v = .slice A n c) v w := fun v w => by rw [hPL]; rfl
  have P5 : ∀ v w, PL.getD 5 (fun _ _ => True) v w = (fun v _ => v = .int .i64 (m : Nat)) v w := fun v w => by rw [hPL]; rfl
  have P6 : ∀ v w, PL.getD 6 (fun _ _ => True) v w = (fun v _ => v = .slice A2 q c2) v w := fun v w => by rw [hPL]; rfl
  have P7 : ∀ v w, PL.getD 7 (fun _ _ => True) v w = (fun v _ => v = .agg (wc Y)) v w := fun v w => by rw [hPL]; rfl
  have P8 : ∀ v w, PL.getD 8 (fun _ _ => True) v w = (fun v _ => v = .tuple #[.agg (wc J), .nilIface]) v w := fun v w => by rw [hPL]; rfl
  have P9 : ∀ v w, PL.getD 9 (fun _ _ => True) v w = (fun v _ => v = .tuple #[.agg (wc J), .nilIface]) v w := fun v w => by rw [hPL]; rfl
  have P10 : ∀ v w, PL.getD 10 (fun _ _ => True) v w = (fun v _ => v = .agg (wc J)) v w := fun v w => by rw [hPL]; rfl
  have P11 : ∀ v w, PL.getD 11 (fun _ _ => True) v w = (fun v _ => v = .nilIface) v w := fun v w => by rw [hPL]; rfl
  have P14 : ∀ v w, PL.getD 14 (fun _ _ => True) v w = (fun v _ => v = .nilIface) v w := fun v w => by rw [hPL]; rfl
  have hkeep : AllKeep PL := by rw [hPL]; exact ⟨keep_det _, keep_det _, keep_det _, keep_det _, keep_det _, keep_det _, keep_det _, keep_det _, keep_det _, keep_det _, keep_det _, keep_det _, keep_top, keep_top, keep_det _, trivial⟩
  refine wp_region_by (by kernel_rfl) (fun j => PL.getD j (fun _ _ => True)) 12 13 1 (fun _ => 27) (fun _ => wc wZ) (fun i => [wc J].getD i #[]) (by rw [sz]; kernel_rfl) (fun j => all_mono hmono j) (fun j v w g i _ _ h => all_keep hkeep j v w g _ h) ?_ ?_ ?_ rfl ?_
  · intro j hj hn a' w' hb OX DX K hK
    have hc : j = 0 ∨ j = 1 ∨ j = 2 ∨ j = 3 ∨ j = 4 ∨ j = 5 ∨ j = 6 ∨ j = 7 ∨ j = 8 ∨ j = 9 ∨ j = 10 ∨ j = 11 ∨ j = 14 := by
      have h3 : j < 15 := hj
      have := normB_iff.1 hn
      omega
    clear hmono hj
    rcases hc with rfl | rfl | rfl | rfl | rfl | rfl | rfl | rfl | rfl | rfl | rfl | rfl | rfl
    · refine wpOp_of rfl rfl ?_
      have e0 := (OX 0 (by kernel_rfl)).trans o0
      replace hK : K (a'.put (some 21) (.slice A n c)) w' := hK _ _ (Below.refl _ _) ((P0 _ _).mpr rfl)
      have e0' := tm_simp e0
      clear OX DX
      go_simp
      exact hK
    · refine wpOp_of rfl rfl ?_
      have e1 := (OX 1 (by kernel_rfl)).trans o1
      replace hK : K (a'.put (some 22) (.int .i64 (m : Nat))) w' := hK _ _ (Below.refl _ _) ((P1 _ _).mpr rfl)
      have e1' := tm_simp e1
      clear OX DX
      go_simp
      exact hK
    · refine wpOp_of rfl rfl ?_
      have e21 : tm a' 21 = .slice A n c := (P0 _ _).mp (DX 0 21 (by kernel_rfl))
      have e22 : tm a' 22 = .int .i64 (m : Nat) := (P1 _ _).mp (DX 1 22 (by kernel_rfl))
      exact wp_sliceH A n c m A1 c1 HS1.out hmc _ _ rfl (eval_of e21) (eval_of e22) (hK _ _ (Below.refl _ _) ((P2 _ _).mpr rfl))
    · refine wpOp_of rfl rfl ?_
      have e23 : tm a' 23 = .slice A1 m c1 := (P2 _ _).mp (DX 2 23 (by kernel_rfl))
      replace hK : ∀ w'', Below w'.heap.size w' w'' → K (a'.put (some 24) (.agg (wc X))) w'' := fun w'' hb => hK _ _ hb ((P3 _ _).mpr rfl)
      have e23' := tm_simp e23
      clear OX DX
      go_simp
      go_at_call 11
      refine (C1.out _ hb).mono ?_
      rintro e w2 ⟨rfl, hb2⟩
      exact hK _ hb2
    · refine wpOp_of rfl rfl ?_
      have e0 := (OX 0 (by kernel_rfl)).trans o0
      replace hK : K (a'.put (some 25) (.slice A n c)) w' := hK _ _ (Below.refl _ _) ((P4 _ _).mpr rfl)
      have e0' := tm_simp e0
      clear OX DX
      go_simp
      exact hK
    · refine wpOp_of rfl rfl ?_
      have e1 := (OX 1 (by kernel_rfl)).trans o1
      replace hK : K (a'.put (some 26) (.int .i64 (m : Nat))) w' := hK _ _ (Below.refl _ _) ((P5 _ _).mpr rfl)
      have e1' := tm_simp e1
      clear OX DX
      go_simp
      exact hK
    · refine wpOp_of rfl rfl ?_
      have e25 : tm a' 25 = .slice A n c := (P4 _ _).mp (DX 4 25 (by kernel_rfl))
      have e26 : tm a' 26 = .int .i64 (m : Nat) := (P5 _ _).mp (DX 5 26 (by kernel_rfl))
      exact wp_sliceL A n c m q A2 c2 HS2.out hmn _ _ rfl (eval_of e25) (eval_of e26) (hK _ _ (Below.refl _ _) ((P6 _ _).mpr rfl))
    · refine wpOp_of rfl rfl ?_
      have e27 : tm a' 27 = .slice A2 q c2 := (P6 _ _).mp (DX 6 27 (by kernel_rfl))
      replace hK : ∀ w'', Below w'.heap.size w' w'' → K (a'.put (some 28) (.agg (wc Y))) w'' := fun w'' hb => hK _ _ hb ((P7 _ _).mpr rfl)
      have e27' := tm_simp e27
      clear OX DX
      go_simp
      go_at_call 11
      refine (C2.out _ hb).mono ?_
      rintro e w2 ⟨rfl, hb2⟩
      exact hK _ hb2
    · refine wpOp_of rfl rfl ?_
      have e24 : tm a' 24 = .agg (wc X) := (P3 _ _).mp (DX 3 24 (by kernel_rfl))
      have e28 : tm a' 28 = .agg (wc Y) := (P7 _ _).mp (DX 7 28 (by kernel_rfl))
      replace hK : ∀ w'', Below w'.heap.size w' w'' → K (a'.put (some 29) (.tuple #[.agg (wc J), .nilIface])) w'' := fun w'' hb => hK _ _ hb ((P8 _ _).mpr rfl)
      have e24' := tm_simp e24
      have e28' := tm_simp e28
      clear OX DX
      go_simp
      go_at_call 19
      refine (CJ.out _).mono ?_
      rintro e w2 ⟨rfl, hb2⟩
      exact hK _ hb2
    · refine wpOp_of rfl rfl ?_
      have e29 : tm a' 29 = .tuple #[.agg (wc J), .nilIface] := (P8 _ _).mp (DX 8 29 (by kernel_rfl))
      replace hK : K (a'.put (some 20) (.tuple #[.agg (wc J), .nilIface])) w' := hK _ _ (Below.refl _ _) ((P9 _ _).mpr rfl)
      have e29' := tm_simp e29
      clear OX DX
      go_simp
      exact hK
    · refine wpOp_of rfl rfl ?_
      have e20 : tm a' 20 = .tuple #[.agg (wc J), .nilIface] := (P9 _ _).mp (DX 9 20 (by kernel_rfl))
      replace hK : K (a'.put (some 30) (.agg (wc J))) w' := hK _ _ (Below.refl _ _) ((P10 _ _).mpr rfl)
      have e20' := tm_simp e20
      clear OX DX
      go_simp
      exact hK
    · refine wpOp_of rfl rfl ?_
      have e20 : tm a' 20 = .tuple #[.agg (wc J), .nilIface] := (P9 _ _).mp (DX 9 20 (by kernel_rfl))
      replace hK : K (a'.put (some 31) (.nilIface)) w' := hK _ _ (Below.refl _ _) ((P11 _ _).mpr rfl)
      have e20' := tm_simp e20
      clear OX DX
      go_simp
      exact hK
    · refine wpOp_of rfl rfl ?_
      have e31 : tm a' 31 = .nilIface := (P11 _ _).mp (DX 11 31 (by kernel_rfl))
      replace hK : K (a'.put (some 6) (.nilIface)) w' := hK _ _ (Below.refl _ _) ((P14 _ _).mpr rfl)
      have e31' := tm_simp e31
      clear OX DX
      go_simp
      exact hK
  · intro i hi a' w' K hK
    have hc : i = 0 := by omega
    rcases hc with rfl
    · refine wpOp_of rfl rfl ?_
      replace hK : K (a'.put (some 5) (.pointer (some ⟨w'.heap.size, 0, none⟩))) (w'.alloc (.cells (wc wZ) 27)) := hK
      go_simp
      exact hK
  · intro i hi a' w' g' d OX DX hd hg hrow K hK
    have hc : i = 0 := by omega
    rcases hc with rfl
    · obtain rfl : 5 = d := Option.some.inj hd
      have ev : tm a' 30 = .agg (wc J) := (P10 _ _).mp (DX 10 30 (by kernel_rfl))
      exact wpOp_of rfl rfl (wp_storeR (c' := wc J) aggW hrow rfl (wc_one _) _ _ rfl (eval_of hg) (eval_of ev) hK)
  · intro V G w2 hb2 hV hG hge
    have v0 : V 0 = .slice A n c := (P0 _ _).mp (hV 0 rfl)
    have v1 : V 1 = .int .i64 (m : Nat) := (P1 _ _).mp (hV 1 rfl)
    have v2 : V 2 = .slice A1 m c1 := (P2 _ _).mp (hV 2 rfl)
    have v3 : V 3 = .agg (wc X) := (P3 _ _).mp (hV 3 rfl)
    have v4 : V 4 = .slice A n c := (P4 _ _).mp (hV 4 rfl)
    have v5 : V 5 = .int .i64 (m : Nat) := (P5 _ _).mp (hV 5 rfl)
    have v6 : V 6 = .slice A2 q c2 := (P6 _ _).mp (hV 6 rfl)
    have v7 : V 7 = .agg (wc Y) := (P7 _ _).mp (hV 7 rfl)
    have v8 : V 8 = .tuple #[.agg (wc J), .nilIface] := (P8 _ _).mp (hV 8 rfl)
    have v9 : V 9 = .tuple #[.agg (wc J), .nilIface] := (P9 _ _).mp (hV 9 rfl)
    have v10 : V 10 = .agg (wc J) := (P10 _ _).mp (hV 10 rfl)
    have v11 : V 11 = .nilIface := (P11 _ _).mp (hV 11 rfl)
    have v14 : V 14 = .nilIface := (P14 _ _).mp (hV 14 rfl)
    have v12 := (hG 0 (by omega)).1
    have T5 := Lib.hid (show Row w2 (G 0) 27 (wc J) from (hG 0 (by omega)).2)
    obtain ⟨g0, hg0⟩ : ∃ g, g = G 0 := ⟨_, rfl⟩
    rw [← hg0] at v12 T5
    show Exit.then _ _ _ (puts [some 21, some 22, some 23, some 24, some 25, some 26, some 27, some 28, some 29, some 20, some 30, some 31, some 5, none, some 6] V 0 fra) w2
    simp only [Nat.reduceAdd] at v12
    simp only [puts, Nat.zero_add, Nat.reduceAdd, v0, v1, v2, v3, v4, v5, v6, v7, v8, v9, v10, v11, v14, v12]
    simp only [hfra]
    clear hV hG hge hmono hkeep hPL hfra sz v0 v1 v2 v3 v4 v5 v6 v7 v8 v9 v10 v11 v14 v12 hg0
    clear P0 P1 P2 P3 P4 P5 P6 P7 P8 P9 P10 P11 P14
    go_simp
    have HB2 := Lib.hid hb2
    clear hb2 z0 o0 o1 C1 C2 CJ HS1 HS2
    have CF := Lib.hid (fun u => CO.out (later w2 u) (HB2.out.trans ((below_later w2 u).mono HB2.out.size)))
    go_wp2_with fail
    refine wp_region_later (by kernel_rfl) (by kernel_rfl) ?_
    repeat (first | go_big_quiet_skip | (go_big_quiet_want; first | (with_reducible refine quiet_loadR aggW T5.out _ rfl ?_ ?_; (go_simp <;> fail); go_simp; go_big_quiet_on) | (go_big_quiet_op; first | go_big_quiet_on | go_big_quiet_call (first | with_reducible exact calls_later (HA.out _) | with_reducible exact calls_later (CF.out _)))))
    refine wpQuiet_nil ?_
    rintro w6 ⟨u, rfl⟩
    go_wp2
    go_ret
    exact ⟨rfl, HB2.out.trans ((below_later w2 u).mono HB2.out.size)⟩
theorem parts_walk (A : Option Addr) (n c : Nat) (z : Nat → Int) (at1 : Int) (w : World) (hm : n ≤ 9223372036854775807) (hl : n ≤ c) (hA : A = none → n = 0 ∧ c = 0) (hz : Rd w.heap.size w A n (u8 z)) (hb : InB z n) (ha : (Lit.int .i64 at1).wf = true) :
    Calls Try.prog 7 #[.slice A n c, .int .i64 at1] w fun e w' => e = .returned (.bool true) ∧ Below w.heap.size w w' := by
  have hi := i64_of ha
  unfold I64 at hi
  by_cases h : 5000 < n ∨ at1 < 0 ∨ (n : Int) < at1
  · exact parts_out A n c at1 w hm hi.1 hi.2 h
  · have := parts_in A n c at1.toNat z w (by omega) (by omega) hl hA hz hb
    rwa [show ((at1.toNat : Nat) : Int) = at1 by omega] at this
end Go.Proofs.Ytgjhlmmhpcbnaaa
