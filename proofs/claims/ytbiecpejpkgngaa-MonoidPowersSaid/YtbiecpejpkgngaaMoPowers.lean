/-
  MonoidPowers: the walk.
-/
import Derived.Test.YtbiecpejpkgngaaMoPow
import Derived.Test.YtbiecpejpkgngaaMoAwake
import Derived.Test.YtbiecpejpkgngaaMoAffE
import Derived.Test.YtbiecpejpkgngaaMix
import Derived.Deep.DeepCutAuto
namespace Go.Proofs.Ytbiecpejpkgngaa
open Go.RowKit
def FinP (w : World) (e : Ending) (w' : World) : Prop := e = .returned (.bool true) ∧ Below w.heap.size w w'
theorem words_pw (s : ByteArray) (k : Nat) : pw mWords s (k + 1) = pw mWords s k ++ s := by
  rcases Nat.eq_zero_or_pos k with rfl | h
  · show s = ByteArray.empty ++ s
    rw [ByteArray.empty_append]
  · rw [← pw_add h (Nat.le_refl 1)]; rfl
theorem later_tr {w u v : World} (h : Below w.heap.size w u) (h' : Below u.heap.size u v) : Below w.heap.size w v := h.trans (h'.mono h.size)
theorem wpOp_skip {P : Program} {Q : Exit → Act → World → Prop} {ops : Array Oper} {i : Nat} {o : Oper} {a : Act} {w w' : World} {K : Act → World → Prop} (hi : ops[i]? = some o) (hd : o.dst = none) (hg : Region.wanted o (yielded ops a.tmps) = true)
    (hrun : (execOp a.eval o).run P w = .ok .skip w') (h : K a w') : wpOp P ops Q i K a w := by
  unfold wpOp
  simp only [hi, hg, if_true]
  refine .inl ?_
  unfold Oper.wp
  rw [hrun]
  unfold Oper.upon
  rw [hd]
  exact h
theorem run_storeR {o : Oper} {a : Act} {w : World} {g : Nat} {t ty : TypeId} {c c' : Array Value} (ht : AggT ty c'.size) (hr : Row w g t c) (hs : c.size = c'.size) (h1 : c'.all (·.oneCell') = true) (x y : Operand) (ho : o.op = .store ty x y) (hx : a.eval x = .pointer (some ⟨g, 0, none⟩)) (hy : a.eval y = .agg c') :
    (execOp a.eval o).run Try.prog w = .ok .skip (w.setRow g c') := by
  have hl := run_storeVar_row (P := Try.prog) w g t ty c c' hr ht.2 hs h1
  unfold execOp
  simp only [ho, hx, hy, Instr.storeAt, Instr.sureAddr, Sem.run_bind, Sem.run_pure, Result.andThen_ok, hl]
theorem words_pow_any (x : ByteArray) (n : Int) (K : Nat) (hK : K = n.toNat) (w : World) (hb : n ≤ 1000) (hx : x.size ≤ 1000) :
    Calls Try.prog 31 #[.agg #[], .string x, .int .i64 n] w fun e w' => e = .returned (.string (pw mWords x K)) ∧ Below w.heap.size w w' := by
  by_cases h : n < 1
  · obtain rfl : K = 0 := by omega
    exact words_pow_none x n w h
  · obtain rfl : n = (K : Int) := by omega
    exact words_pow x K w (by omega) (by omega) (by
      have h1 : x.size * K ≤ 1000 * 1000 := Nat.mul_le_mul hx (by omega)
      show x.size * K ≤ _
      omega)
set_option maxRecDepth 20000 in
set_option maxHeartbeats 3200000 in
theorem powers_walk (s : ByteArray) (k : Int) (f : Int × Int) (i j : Nat) (w : World) (hs : s.size ≤ maxLen) (hk : (Lit.int .i8 k).wf = true) (hf : InR f) (hi : i < 4294967296) (hj : j < 4294967296) :
    Calls Try.prog 7 #[.string s, .int .i8 k, .agg (ac f), .int .u32 i, .int .u32 j] w (FinP w) := by
  have HA := Lib.hid awake_true
  unfold maxLen at hs
  obtain ⟨q, hq⟩ : ∃ q, q = min s.size 6 := ⟨_, rfl⟩
  have hmin : (if (6 : Int) < (s.size : Int) then (6 : Int) else (s.size : Int)) = (q : Int) := by split <;> omega
  have hqs : q ≤ s.size := by omega
  have hq6 : q ≤ 6 := by omega
  obtain ⟨x, hx⟩ : ∃ x, s.extract 0 q = x := ⟨_, rfl⟩
  have hxs : x.size ≤ 6 := by rw [← hx, ByteArray.size_extract]; omega
  have hkb := bounds_i8 hk
  obtain ⟨K, hK⟩ : ∃ K, K = k.toNat := ⟨_, rfl⟩
  have hmax : (if k < 0 then (0 : Int) else k) = (K : Int) := by split <;> omega
  have hK7 : K ≤ 127 := by omega
  have hk7 : k ≤ 127 := by omega
  have hk8 : -128 ≤ k := by omega
  have z0 := aff_zero
  have HF := Lib.hid hf
  have HK := Lib.hid hK
  have RF := Lib.hid (Row.new w 40 (ac f))
  have HB0 := Lib.hid (show Below w.heap.size w (w.alloc (.cells (ac f) 40)) from (Below.refl _ _).alloc (Nat.le_refl _) _)
  clear hk hK hf hq hkb
  go_enter Try.func7, Try.ntmps7
  go_wp2_with fail
  refine (HA.out _).mono ?_
  rintro e w1 ⟨rfl, hb1⟩
  have HB1 := Lib.hid (HB0.out.trans (hb1.mono HB0.out.size))
  have RF1 := Lib.hid (RF.out.below' hb1)
  clear hb1 HB0 RF
  go_wp2_with fail
  go_loop [11, 25] (fun v i => ∃ t : Nat, t ≤ K ∧ i = .int .i64 t ∧ v = .string (pw mWords x t)) (fun _ i => K - (intOf i).toNat)
  case atStart => exact ⟨0, Nat.zero_le _, rfl, rfl⟩
  case round =>
    obtain ⟨t, ht, rfl, rfl⟩ := hrel
    by_cases hlt : t < K
    · have hsz : (pw mWords x t).size ≤ x.size * t := pw_sz (M := mWords) (x := x) (a := t)
      have hsz2 : x.size * t ≤ 6 * 127 := Nat.mul_le_mul hxs (by omega)
      obtain ⟨f', hf'⟩ : ∃ f', pw mWords x t = f' := ⟨_, rfl⟩
      rw [hf'] at hsz
      have hroom : ¬ 9223372036854775807 < f'.size + x.size := by omega
      have HF' := Lib.hid (show pw mWords x (t + 1) = f' ++ x by rw [words_pw, hf'])
      rw [hf']
      clear hf' hsz hsz2
      go_wp2
      go_round
      case rel => exact ⟨t + 1, by omega, by go_num, by rw [HF'.out]⟩
      case measure => simp [intOf]; try omega
    · obtain rfl : t = K := by omega
      go_upto_region 10 with fail
      obtain ⟨PA, hPA⟩ : ∃ PA, pw mAff f i = PA := ⟨_, rfl⟩
      obtain ⟨PB, hPB⟩ : ∃ PB, pw mAff f j = PB := ⟨_, rfl⟩
      obtain ⟨gm, hgm⟩ : ∃ gm, gm = w1.heap.size := ⟨_, rfl⟩
      obtain ⟨w5, hw5⟩ : ∃ w5, w5 = w1.alloc (Obj.cells #[] 42) := ⟨_, rfl⟩
      have RM := Lib.hid (show Row w5 gm 42 #[] by rw [hw5, hgm]; exact Row.new _ _ _)
      have HB15 := Lib.hid (show Below w1.heap.size w1 w5 by rw [hw5]; exact (Below.refl _ _).alloc (Nat.le_refl _) _)
      have RF5 := Lib.hid (RF1.out.below' HB15.out)
      have HB5 := Lib.hid (HB1.out.trans (HB15.out.mono HB1.out.size))
      have HPA := Lib.hid (fun u => aff_pow_any f i u (by omega))
      have HPB := Lib.hid (fun u => aff_pow_any f j u (by omega))
      rw [hPA] at HPA
      rw [hPB] at HPB
      have HA' := Lib.hid hPA
      have HB' := Lib.hid hPB
      rw [← hw5, ← hgm]
      clear hPA hPB hgm hw5
      go_cut [13, 14] (fun v13 v14 wx => ∃ g h : Nat, v13 = .pointer (some ⟨g, 0, none⟩) ∧ v14 = .pointer (some ⟨h, 0, none⟩) ∧ Hid (Below w5.heap.size w5 wx) ∧ Hid (Row wx g 40 (ac PA)) ∧ Hid (Row wx h 40 (ac PB)))
      case first =>
        have L0 := Lib.hid (Below.refl w5.heap.size w5).drew
        refine wp_region_mix (S := fun w' => ∃ u, w' = later w5 u) (f := 6) [0, 1, 2, 3, 5, 6, 7, 8] (by kernel_rfl) (by kernel_rfl) (by kernel_rfl) (fun c a d v w h => by cases d <;> exact h) ⟨_, (later_of L0.out).symm⟩ (by kernel_rfl) ?_
        simp only [pickL, List.flatMap_cons, List.flatMap_nil, List.drop_succ_cons, List.drop_zero, List.take_succ_cons, List.take_zero, List.append_nil, List.cons_append, List.nil_append]
        repeat (first | go_big_quiet_skip | (go_big_quiet_want; first | (with_reducible refine quiet_loadR aggAffines RM.out _ rfl ?_ ?_; (go_simp <;> fail); go_simp; go_big_quiet_on) | (with_reducible refine quiet_loadR aggAffine RF5.out _ rfl ?_ ?_; (go_simp <;> fail); go_simp; go_big_quiet_on) | (go_big_quiet_op; go_big_quiet_on)))
        refine wpQuiet_nil ?_
        -- TREE
        refine wpAnyH_all (rs := [4, 10, 11]) (by kernel_rfl) (by simp) (List.forall_mem_cons.2 ⟨?_, List.forall_mem_cons.2 ⟨?_, List.forall_mem_cons.2 ⟨?_, fun _ h => by cases h⟩⟩⟩)
        · refine wpOp_enter (f := 30) (args := #[.agg #[], .agg (ac f), .int .i64 i]) 35 rfl rfl (by kernel_rfl) (by go_simp) (HPA.out _) ?_
          intro v1 hb
          have L1 := Lib.hid (later_tr L0.out hb)
          refine ⟨⟨_, (later_of L1.out).symm⟩, ?_⟩
          simp only [Act.put, List.setIfInBounds_toArray, List.set_cons_succ, List.set_cons_zero]
          refine wpAnyH_all (rs := [9, 10, 11]) (by kernel_rfl) (by simp) (List.forall_mem_cons.2 ⟨?_, List.forall_mem_cons.2 ⟨?_, List.forall_mem_cons.2 ⟨?_, fun _ h => by cases h⟩⟩⟩)
          · refine wpOp_enter (f := 30) (args := #[.agg #[], .agg (ac f), .int .i64 j]) 40 rfl rfl (by kernel_rfl) (by go_simp) (HPB.out _) ?_
            intro v2 hb
            have L2 := Lib.hid (later_tr L1.out hb)
            refine ⟨⟨_, (later_of L2.out).symm⟩, ?_⟩
            simp only [Act.put, List.setIfInBounds_toArray, List.set_cons_succ, List.set_cons_zero]
            refine wpAnyH_all (rs := [10, 11]) (by kernel_rfl) (by simp) (List.forall_mem_cons.2 ⟨?_, List.forall_mem_cons.2 ⟨?_, fun _ h => by cases h⟩⟩)
            · obtain ⟨g3, hg⟩ : ∃ g, g = v2.heap.size := ⟨_, rfl⟩
              obtain ⟨v3, hv⟩ : ∃ v, v = v2.alloc (.cells (ac (0, 0)) 40) := ⟨_, rfl⟩
              have RN := Lib.hid (show Row v3 g3 40 (ac (0, 0)) by rw [hv, hg]; exact Row.new _ _ _)
              have L3 := Lib.hid (show Below w5.heap.size w5 v3 by rw [hv]; exact L2.out.alloc L2.out.size _)
              refine wpOp_val (v := .pointer (some ⟨g3, 0, none⟩)) (w' := v3) 13 rfl rfl (by kernel_rfl) (by rw [hg, hv]; go_simp) ?_
              have Kg3 : w5.heap.size ≤ g3 := by rw [hg]; exact L2.out.size
              clear hg hv
              have R3_a := RN
              clear RN
              refine ⟨⟨_, (later_of L3.out).symm⟩, ?_⟩
              simp only [Act.put, List.setIfInBounds_toArray, List.set_cons_succ, List.set_cons_zero]
              refine wpAnyH_one (i := 11) (by kernel_rfl) ?_
              obtain ⟨g4, hg⟩ : ∃ g, g = v3.heap.size := ⟨_, rfl⟩
              obtain ⟨v4, hv⟩ : ∃ v, v = v3.alloc (.cells (ac (0, 0)) 40) := ⟨_, rfl⟩
              have RN := Lib.hid (show Row v4 g4 40 (ac (0, 0)) by rw [hv, hg]; exact Row.new _ _ _)
              have L4 := Lib.hid (show Below w5.heap.size w5 v4 by rw [hv]; exact L3.out.alloc L3.out.size _)
              have R4_a := Lib.hid (show Row v4 g3 40 _ by rw [hv]; exact R3_a.out.alloc _)
              have N4 := Lib.hid (show g3 ≠ g4 by rw [hg]; exact Nat.ne_of_lt R3_a.out.lt)
              refine wpOp_val (v := .pointer (some ⟨g4, 0, none⟩)) (w' := v4) 14 rfl rfl (by kernel_rfl) (by rw [hg, hv]; go_simp) ?_
              have Kg4 : w5.heap.size ≤ g4 := by rw [hg]; exact L3.out.size
              clear hg hv
              have R4_b := RN
              clear RN
              refine ⟨⟨_, (later_of L4.out).symm⟩, ?_⟩
              simp only [Act.put, List.setIfInBounds_toArray, List.set_cons_succ, List.set_cons_zero]
              refine wpAnyH_one (i := 12) (by kernel_rfl) ?_
              obtain ⟨v5, hv⟩ : ∃ v, v = v4.setRow g3 (ac PA) := ⟨_, rfl⟩
              have R5_a := Lib.hid (show Row v5 g3 40 (ac PA) by rw [hv]; exact R4_a.out.setRow _)
              have R5_b := Lib.hid (show Row v5 g4 40 _ by rw [hv]; exact R4_b.out.setRow_far (Ne.symm N4.out) _)
              have L5 := Lib.hid (show Below w5.heap.size w5 v5 by rw [hv]; exact below_setRow L4.out Kg3 _)
              refine wpOp_skip (w' := v5) rfl rfl (by kernel_rfl) (by rw [hv]; exact run_storeR aggAffine R4_a.out rfl (ac_one _) _ _ rfl rfl rfl) ?_
              clear hv
              refine ⟨⟨_, (later_of L5.out).symm⟩, ?_⟩
              refine wpAnyH_one (i := 13) (by kernel_rfl) ?_
              obtain ⟨v6, hv⟩ : ∃ v, v = v5.setRow g4 (ac PB) := ⟨_, rfl⟩
              have R6_b := Lib.hid (show Row v6 g4 40 (ac PB) by rw [hv]; exact R5_b.out.setRow _)
              have R6_a := Lib.hid (show Row v6 g3 40 _ by rw [hv]; exact R5_a.out.setRow_far N4.out _)
              have L6 := Lib.hid (show Below w5.heap.size w5 v6 by rw [hv]; exact below_setRow L5.out Kg4 _)
              refine wpOp_skip (w' := v6) rfl rfl (by kernel_rfl) (by rw [hv]; exact run_storeR aggAffine R5_b.out rfl (ac_one _) _ _ rfl rfl rfl) ?_
              clear hv
              refine ⟨⟨_, (later_of L6.out).symm⟩, ?_⟩
              refine wpAnyH_done (by kernel_rfl) ?_ _
              go_wp2_with fail
              go_meet
              exact ⟨g3, g4, rfl, rfl, L6, R6_a, R6_b⟩
            · obtain ⟨g7, hg⟩ : ∃ g, g = v2.heap.size := ⟨_, rfl⟩
              obtain ⟨v7, hv⟩ : ∃ v, v = v2.alloc (.cells (ac (0, 0)) 40) := ⟨_, rfl⟩
              have RN := Lib.hid (show Row v7 g7 40 (ac (0, 0)) by rw [hv, hg]; exact Row.new _ _ _)
              have L7 := Lib.hid (show Below w5.heap.size w5 v7 by rw [hv]; exact L2.out.alloc L2.out.size _)
              refine wpOp_val (v := .pointer (some ⟨g7, 0, none⟩)) (w' := v7) 14 rfl rfl (by kernel_rfl) (by rw [hg, hv]; go_simp) ?_
              have Kg7 : w5.heap.size ≤ g7 := by rw [hg]; exact L2.out.size
              clear hg hv
              have R7_b := RN
              clear RN
              refine ⟨⟨_, (later_of L7.out).symm⟩, ?_⟩
              simp only [Act.put, List.setIfInBounds_toArray, List.set_cons_succ, List.set_cons_zero]
              refine wpAnyH_one (i := 10) (by kernel_rfl) ?_
              obtain ⟨g8, hg⟩ : ∃ g, g = v7.heap.size := ⟨_, rfl⟩
              obtain ⟨v8, hv⟩ : ∃ v, v = v7.alloc (.cells (ac (0, 0)) 40) := ⟨_, rfl⟩
              have RN := Lib.hid (show Row v8 g8 40 (ac (0, 0)) by rw [hv, hg]; exact Row.new _ _ _)
              have L8 := Lib.hid (show Below w5.heap.size w5 v8 by rw [hv]; exact L7.out.alloc L7.out.size _)
              have R8_b := Lib.hid (show Row v8 g7 40 _ by rw [hv]; exact R7_b.out.alloc _)
              have N8 := Lib.hid (show g8 ≠ g7 by rw [hg]; exact Nat.ne_of_gt R7_b.out.lt)
              refine wpOp_val (v := .pointer (some ⟨g8, 0, none⟩)) (w' := v8) 13 rfl rfl (by kernel_rfl) (by rw [hg, hv]; go_simp) ?_
              have Kg8 : w5.heap.size ≤ g8 := by rw [hg]; exact L7.out.size
              clear hg hv
              have R8_a := RN
              clear RN
              refine ⟨⟨_, (later_of L8.out).symm⟩, ?_⟩
              simp only [Act.put, List.setIfInBounds_toArray, List.set_cons_succ, List.set_cons_zero]
              refine wpAnyH_one (i := 12) (by kernel_rfl) ?_
              obtain ⟨v9, hv⟩ : ∃ v, v = v8.setRow g8 (ac PA) := ⟨_, rfl⟩
              have R9_a := Lib.hid (show Row v9 g8 40 (ac PA) by rw [hv]; exact R8_a.out.setRow _)
              have R9_b := Lib.hid (show Row v9 g7 40 _ by rw [hv]; exact R8_b.out.setRow_far (Ne.symm N8.out) _)
              have L9 := Lib.hid (show Below w5.heap.size w5 v9 by rw [hv]; exact below_setRow L8.out Kg8 _)
              refine wpOp_skip (w' := v9) rfl rfl (by kernel_rfl) (by rw [hv]; exact run_storeR aggAffine R8_a.out rfl (ac_one _) _ _ rfl rfl rfl) ?_
              clear hv
              refine ⟨⟨_, (later_of L9.out).symm⟩, ?_⟩
              refine wpAnyH_one (i := 13) (by kernel_rfl) ?_
              obtain ⟨v10, hv⟩ : ∃ v, v = v9.setRow g7 (ac PB) := ⟨_, rfl⟩
              have R10_b := Lib.hid (show Row v10 g7 40 (ac PB) by rw [hv]; exact R9_b.out.setRow _)
              have R10_a := Lib.hid (show Row v10 g8 40 _ by rw [hv]; exact R9_a.out.setRow_far N8.out _)
              have L10 := Lib.hid (show Below w5.heap.size w5 v10 by rw [hv]; exact below_setRow L9.out Kg7 _)
              refine wpOp_skip (w' := v10) rfl rfl (by kernel_rfl) (by rw [hv]; exact run_storeR aggAffine R9_b.out rfl (ac_one _) _ _ rfl rfl rfl) ?_
              clear hv
              refine ⟨⟨_, (later_of L10.out).symm⟩, ?_⟩
              refine wpAnyH_done (by kernel_rfl) ?_ _
              go_wp2_with fail
              go_meet
              exact ⟨g8, g7, rfl, rfl, L10, R10_a, R10_b⟩
          · obtain ⟨g11, hg⟩ : ∃ g, g = v1.heap.size := ⟨_, rfl⟩
            obtain ⟨v11, hv⟩ : ∃ v, v = v1.alloc (.cells (ac (0, 0)) 40) := ⟨_, rfl⟩
            have RN := Lib.hid (show Row v11 g11 40 (ac (0, 0)) by rw [hv, hg]; exact Row.new _ _ _)
            have L11 := Lib.hid (show Below w5.heap.size w5 v11 by rw [hv]; exact L1.out.alloc L1.out.size _)
            refine wpOp_val (v := .pointer (some ⟨g11, 0, none⟩)) (w' := v11) 13 rfl rfl (by kernel_rfl) (by rw [hg, hv]; go_simp) ?_
            have Kg11 : w5.heap.size ≤ g11 := by rw [hg]; exact L1.out.size
            clear hg hv
            have R11_a := RN
            clear RN
            refine ⟨⟨_, (later_of L11.out).symm⟩, ?_⟩
            simp only [Act.put, List.setIfInBounds_toArray, List.set_cons_succ, List.set_cons_zero]
            refine wpAnyH_all (rs := [9, 11]) (by kernel_rfl) (by simp) (List.forall_mem_cons.2 ⟨?_, List.forall_mem_cons.2 ⟨?_, fun _ h => by cases h⟩⟩)
            · refine wpOp_enter (f := 30) (args := #[.agg #[], .agg (ac f), .int .i64 j]) 40 rfl rfl (by kernel_rfl) (by go_simp) (HPB.out _) ?_
              intro v12 hb
              have L12 := Lib.hid (later_tr L11.out hb)
              have R12_a := Lib.hid (R11_a.out.below' hb)
              refine ⟨⟨_, (later_of L12.out).symm⟩, ?_⟩
              simp only [Act.put, List.setIfInBounds_toArray, List.set_cons_succ, List.set_cons_zero]
              refine wpAnyH_one (i := 11) (by kernel_rfl) ?_
              obtain ⟨g13, hg⟩ : ∃ g, g = v12.heap.size := ⟨_, rfl⟩
              obtain ⟨v13, hv⟩ : ∃ v, v = v12.alloc (.cells (ac (0, 0)) 40) := ⟨_, rfl⟩
              have RN := Lib.hid (show Row v13 g13 40 (ac (0, 0)) by rw [hv, hg]; exact Row.new _ _ _)
              have L13 := Lib.hid (show Below w5.heap.size w5 v13 by rw [hv]; exact L12.out.alloc L12.out.size _)
              have R13_a := Lib.hid (show Row v13 g11 40 _ by rw [hv]; exact R12_a.out.alloc _)
              have N13 := Lib.hid (show g11 ≠ g13 by rw [hg]; exact Nat.ne_of_lt R12_a.out.lt)
              refine wpOp_val (v := .pointer (some ⟨g13, 0, none⟩)) (w' := v13) 14 rfl rfl (by kernel_rfl) (by rw [hg, hv]; go_simp) ?_
              have Kg13 : w5.heap.size ≤ g13 := by rw [hg]; exact L12.out.size
              clear hg hv
              have R13_b := RN
              clear RN
              refine ⟨⟨_, (later_of L13.out).symm⟩, ?_⟩
              simp only [Act.put, List.setIfInBounds_toArray, List.set_cons_succ, List.set_cons_zero]
              refine wpAnyH_one (i := 12) (by kernel_rfl) ?_
              obtain ⟨v14, hv⟩ : ∃ v, v = v13.setRow g11 (ac PA) := ⟨_, rfl⟩
              have R14_a := Lib.hid (show Row v14 g11 40 (ac PA) by rw [hv]; exact R13_a.out.setRow _)
              have R14_b := Lib.hid (show Row v14 g13 40 _ by rw [hv]; exact R13_b.out.setRow_far (Ne.symm N13.out) _)
              have L14 := Lib.hid (show Below w5.heap.size w5 v14 by rw [hv]; exact below_setRow L13.out Kg11 _)
              refine wpOp_skip (w' := v14) rfl rfl (by kernel_rfl) (by rw [hv]; exact run_storeR aggAffine R13_a.out rfl (ac_one _) _ _ rfl rfl rfl) ?_
              clear hv
              refine ⟨⟨_, (later_of L14.out).symm⟩, ?_⟩
              refine wpAnyH_one (i := 13) (by kernel_rfl) ?_
              obtain ⟨v15, hv⟩ : ∃ v, v = v14.setRow g13 (ac PB) := ⟨_, rfl⟩
              have R15_b := Lib.hid (show Row v15 g13 40 (ac PB) by rw [hv]; exact R14_b.out.setRow _)
              have R15_a := Lib.hid (show Row v15 g11 40 _ by rw [hv]; exact R14_a.out.setRow_far N13.out _)
              have L15 := Lib.hid (show Below w5.heap.size w5 v15 by rw [hv]; exact below_setRow L14.out Kg13 _)
              refine wpOp_skip (w' := v15) rfl rfl (by kernel_rfl) (by rw [hv]; exact run_storeR aggAffine R14_b.out rfl (ac_one _) _ _ rfl rfl rfl) ?_
              clear hv
              refine ⟨⟨_, (later_of L15.out).symm⟩, ?_⟩
              refine wpAnyH_done (by kernel_rfl) ?_ _
              go_wp2_with fail
              go_meet
              exact ⟨g11, g13, rfl, rfl, L15, R15_a, R15_b⟩
            · obtain ⟨g16, hg⟩ : ∃ g, g = v11.heap.size := ⟨_, rfl⟩
              obtain ⟨v16, hv⟩ : ∃ v, v = v11.alloc (.cells (ac (0, 0)) 40) := ⟨_, rfl⟩
              have RN := Lib.hid (show Row v16 g16 40 (ac (0, 0)) by rw [hv, hg]; exact Row.new _ _ _)
              have L16 := Lib.hid (show Below w5.heap.size w5 v16 by rw [hv]; exact L11.out.alloc L11.out.size _)
              have R16_a := Lib.hid (show Row v16 g11 40 _ by rw [hv]; exact R11_a.out.alloc _)
              have N16 := Lib.hid (show g11 ≠ g16 by rw [hg]; exact Nat.ne_of_lt R11_a.out.lt)
              refine wpOp_val (v := .pointer (some ⟨g16, 0, none⟩)) (w' := v16) 14 rfl rfl (by kernel_rfl) (by rw [hg, hv]; go_simp) ?_
              have Kg16 : w5.heap.size ≤ g16 := by rw [hg]; exact L11.out.size
              clear hg hv
              have R16_b := RN
              clear RN
              refine ⟨⟨_, (later_of L16.out).symm⟩, ?_⟩
              simp only [Act.put, List.setIfInBounds_toArray, List.set_cons_succ, List.set_cons_zero]
              refine wpAnyH_one (i := 9) (by kernel_rfl) ?_
              refine wpOp_enter (f := 30) (args := #[.agg #[], .agg (ac f), .int .i64 j]) 40 rfl rfl (by kernel_rfl) (by go_simp) (HPB.out _) ?_
              intro v17 hb
              have L17 := Lib.hid (later_tr L16.out hb)
              have R17_a := Lib.hid (R16_a.out.below' hb)
              have R17_b := Lib.hid (R16_b.out.below' hb)
              refine ⟨⟨_, (later_of L17.out).symm⟩, ?_⟩
              simp only [Act.put, List.setIfInBounds_toArray, List.set_cons_succ, List.set_cons_zero]
              refine wpAnyH_one (i := 12) (by kernel_rfl) ?_
              obtain ⟨v18, hv⟩ : ∃ v, v = v17.setRow g11 (ac PA) := ⟨_, rfl⟩
              have R18_a := Lib.hid (show Row v18 g11 40 (ac PA) by rw [hv]; exact R17_a.out.setRow _)
              have R18_b := Lib.hid (show Row v18 g16 40 _ by rw [hv]; exact R17_b.out.setRow_far (Ne.symm N16.out) _)
              have L18 := Lib.hid (show Below w5.heap.size w5 v18 by rw [hv]; exact below_setRow L17.out Kg11 _)
              refine wpOp_skip (w' := v18) rfl rfl (by kernel_rfl) (by rw [hv]; exact run_storeR aggAffine R17_a.out rfl (ac_one _) _ _ rfl rfl rfl) ?_
              clear hv
              refine ⟨⟨_, (later_of L18.out).symm⟩, ?_⟩
              refine wpAnyH_one (i := 13) (by kernel_rfl) ?_
              obtain ⟨v19, hv⟩ : ∃ v, v = v18.setRow g16 (ac PB) := ⟨_, rfl⟩
              have R19_b := Lib.hid (show Row v19 g16 40 (ac PB) by rw [hv]; exact R18_b.out.setRow _)
              have R19_a := Lib.hid (show Row v19 g11 40 _ by rw [hv]; exact R18_a.out.setRow_far N16.out _)
              have L19 := Lib.hid (show Below w5.heap.size w5 v19 by rw [hv]; exact below_setRow L18.out Kg16 _)
              refine wpOp_skip (w' := v19) rfl rfl (by kernel_rfl) (by rw [hv]; exact run_storeR aggAffine R18_b.out rfl (ac_one _) _ _ rfl rfl rfl) ?_
              clear hv
              refine ⟨⟨_, (later_of L19.out).symm⟩, ?_⟩
              refine wpAnyH_done (by kernel_rfl) ?_ _
              go_wp2_with fail
              go_meet
              exact ⟨g11, g16, rfl, rfl, L19, R19_a, R19_b⟩
          · obtain ⟨g20, hg⟩ : ∃ g, g = v1.heap.size := ⟨_, rfl⟩
            obtain ⟨v20, hv⟩ : ∃ v, v = v1.alloc (.cells (ac (0, 0)) 40) := ⟨_, rfl⟩
            have RN := Lib.hid (show Row v20 g20 40 (ac (0, 0)) by rw [hv, hg]; exact Row.new _ _ _)
            have L20 := Lib.hid (show Below w5.heap.size w5 v20 by rw [hv]; exact L1.out.alloc L1.out.size _)
            refine wpOp_val (v := .pointer (some ⟨g20, 0, none⟩)) (w' := v20) 14 rfl rfl (by kernel_rfl) (by rw [hg, hv]; go_simp) ?_
            have Kg20 : w5.heap.size ≤ g20 := by rw [hg]; exact L1.out.size
            clear hg hv
            have R20_b := RN
            clear RN
            refine ⟨⟨_, (later_of L20.out).symm⟩, ?_⟩
            simp only [Act.put, List.setIfInBounds_toArray, List.set_cons_succ, List.set_cons_zero]
            refine wpAnyH_all (rs := [9, 10]) (by kernel_rfl) (by simp) (List.forall_mem_cons.2 ⟨?_, List.forall_mem_cons.2 ⟨?_, fun _ h => by cases h⟩⟩)
            · refine wpOp_enter (f := 30) (args := #[.agg #[], .agg (ac f), .int .i64 j]) 40 rfl rfl (by kernel_rfl) (by go_simp) (HPB.out _) ?_
              intro v21 hb
              have L21 := Lib.hid (later_tr L20.out hb)
              have R21_b := Lib.hid (R20_b.out.below' hb)
              refine ⟨⟨_, (later_of L21.out).symm⟩, ?_⟩
              simp only [Act.put, List.setIfInBounds_toArray, List.set_cons_succ, List.set_cons_zero]
              refine wpAnyH_one (i := 10) (by kernel_rfl) ?_
              obtain ⟨g22, hg⟩ : ∃ g, g = v21.heap.size := ⟨_, rfl⟩
              obtain ⟨v22, hv⟩ : ∃ v, v = v21.alloc (.cells (ac (0, 0)) 40) := ⟨_, rfl⟩
              have RN := Lib.hid (show Row v22 g22 40 (ac (0, 0)) by rw [hv, hg]; exact Row.new _ _ _)
              have L22 := Lib.hid (show Below w5.heap.size w5 v22 by rw [hv]; exact L21.out.alloc L21.out.size _)
              have R22_b := Lib.hid (show Row v22 g20 40 _ by rw [hv]; exact R21_b.out.alloc _)
              have N22 := Lib.hid (show g22 ≠ g20 by rw [hg]; exact Nat.ne_of_gt R21_b.out.lt)
              refine wpOp_val (v := .pointer (some ⟨g22, 0, none⟩)) (w' := v22) 13 rfl rfl (by kernel_rfl) (by rw [hg, hv]; go_simp) ?_
              have Kg22 : w5.heap.size ≤ g22 := by rw [hg]; exact L21.out.size
              clear hg hv
              have R22_a := RN
              clear RN
              refine ⟨⟨_, (later_of L22.out).symm⟩, ?_⟩
              simp only [Act.put, List.setIfInBounds_toArray, List.set_cons_succ, List.set_cons_zero]
              refine wpAnyH_one (i := 12) (by kernel_rfl) ?_
              obtain ⟨v23, hv⟩ : ∃ v, v = v22.setRow g22 (ac PA) := ⟨_, rfl⟩
              have R23_a := Lib.hid (show Row v23 g22 40 (ac PA) by rw [hv]; exact R22_a.out.setRow _)
              have R23_b := Lib.hid (show Row v23 g20 40 _ by rw [hv]; exact R22_b.out.setRow_far (Ne.symm N22.out) _)
              have L23 := Lib.hid (show Below w5.heap.size w5 v23 by rw [hv]; exact below_setRow L22.out Kg22 _)
              refine wpOp_skip (w' := v23) rfl rfl (by kernel_rfl) (by rw [hv]; exact run_storeR aggAffine R22_a.out rfl (ac_one _) _ _ rfl rfl rfl) ?_
              clear hv
              refine ⟨⟨_, (later_of L23.out).symm⟩, ?_⟩
              refine wpAnyH_one (i := 13) (by kernel_rfl) ?_
              obtain ⟨v24, hv⟩ : ∃ v, v = v23.setRow g20 (ac PB) := ⟨_, rfl⟩
              have R24_b := Lib.hid (show Row v24 g20 40 (ac PB) by rw [hv]; exact R23_b.out.setRow _)
              have R24_a := Lib.hid (show Row v24 g22 40 _ by rw [hv]; exact R23_a.out.setRow_far N22.out _)
              have L24 := Lib.hid (show Below w5.heap.size w5 v24 by rw [hv]; exact below_setRow L23.out Kg20 _)
              refine wpOp_skip (w' := v24) rfl rfl (by kernel_rfl) (by rw [hv]; exact run_storeR aggAffine R23_b.out rfl (ac_one _) _ _ rfl rfl rfl) ?_
              clear hv
              refine ⟨⟨_, (later_of L24.out).symm⟩, ?_⟩
              refine wpAnyH_done (by kernel_rfl) ?_ _
              go_wp2_with fail
              go_meet
              exact ⟨g22, g20, rfl, rfl, L24, R24_a, R24_b⟩
            · obtain ⟨g25, hg⟩ : ∃ g, g = v20.heap.size := ⟨_, rfl⟩
              obtain ⟨v25, hv⟩ : ∃ v, v = v20.alloc (.cells (ac (0, 0)) 40) := ⟨_, rfl⟩
              have RN := Lib.hid (show Row v25 g25 40 (ac (0, 0)) by rw [hv, hg]; exact Row.new _ _ _)
              have L25 := Lib.hid (show Below w5.heap.size w5 v25 by rw [hv]; exact L20.out.alloc L20.out.size _)
              have R25_b := Lib.hid (show Row v25 g20 40 _ by rw [hv]; exact R20_b.out.alloc _)
              have N25 := Lib.hid (show g25 ≠ g20 by rw [hg]; exact Nat.ne_of_gt R20_b.out.lt)
              refine wpOp_val (v := .pointer (some ⟨g25, 0, none⟩)) (w' := v25) 13 rfl rfl (by kernel_rfl) (by rw [hg, hv]; go_simp) ?_
              have Kg25 : w5.heap.size ≤ g25 := by rw [hg]; exact L20.out.size
              clear hg hv
              have R25_a := RN
              clear RN
              refine ⟨⟨_, (later_of L25.out).symm⟩, ?_⟩
              simp only [Act.put, List.setIfInBounds_toArray, List.set_cons_succ, List.set_cons_zero]
              refine wpAnyH_one (i := 9) (by kernel_rfl) ?_
              refine wpOp_enter (f := 30) (args := #[.agg #[], .agg (ac f), .int .i64 j]) 40 rfl rfl (by kernel_rfl) (by go_simp) (HPB.out _) ?_
              intro v26 hb
              have L26 := Lib.hid (later_tr L25.out hb)
              have R26_a := Lib.hid (R25_a.out.below' hb)
              have R26_b := Lib.hid (R25_b.out.below' hb)
              refine ⟨⟨_, (later_of L26.out).symm⟩, ?_⟩
              simp only [Act.put, List.setIfInBounds_toArray, List.set_cons_succ, List.set_cons_zero]
              refine wpAnyH_one (i := 12) (by kernel_rfl) ?_
              obtain ⟨v27, hv⟩ : ∃ v, v = v26.setRow g25 (ac PA) := ⟨_, rfl⟩
              have R27_a := Lib.hid (show Row v27 g25 40 (ac PA) by rw [hv]; exact R26_a.out.setRow _)
              have R27_b := Lib.hid (show Row v27 g20 40 _ by rw [hv]; exact R26_b.out.setRow_far (Ne.symm N25.out) _)
              have L27 := Lib.hid (show Below w5.heap.size w5 v27 by rw [hv]; exact below_setRow L26.out Kg25 _)
              refine wpOp_skip (w' := v27) rfl rfl (by kernel_rfl) (by rw [hv]; exact run_storeR aggAffine R26_a.out rfl (ac_one _) _ _ rfl rfl rfl) ?_
              clear hv
              refine ⟨⟨_, (later_of L27.out).symm⟩, ?_⟩
              refine wpAnyH_one (i := 13) (by kernel_rfl) ?_
              obtain ⟨v28, hv⟩ : ∃ v, v = v27.setRow g20 (ac PB) := ⟨_, rfl⟩
              have R28_b := Lib.hid (show Row v28 g20 40 (ac PB) by rw [hv]; exact R27_b.out.setRow _)
              have R28_a := Lib.hid (show Row v28 g25 40 _ by rw [hv]; exact R27_a.out.setRow_far N25.out _)
              have L28 := Lib.hid (show Below w5.heap.size w5 v28 by rw [hv]; exact below_setRow L27.out Kg20 _)
              refine wpOp_skip (w' := v28) rfl rfl (by kernel_rfl) (by rw [hv]; exact run_storeR aggAffine R27_b.out rfl (ac_one _) _ _ rfl rfl rfl) ?_
              clear hv
              refine ⟨⟨_, (later_of L28.out).symm⟩, ?_⟩
              refine wpAnyH_done (by kernel_rfl) ?_ _
              go_wp2_with fail
              go_meet
              exact ⟨g25, g20, rfl, rfl, L28, R28_a, R28_b⟩
        · obtain ⟨g29, hg⟩ : ∃ g, g = w5.drew.heap.size := ⟨_, rfl⟩
          obtain ⟨v29, hv⟩ : ∃ v, v = w5.drew.alloc (.cells (ac (0, 0)) 40) := ⟨_, rfl⟩
          have RN := Lib.hid (show Row v29 g29 40 (ac (0, 0)) by rw [hv, hg]; exact Row.new _ _ _)
          have L29 := Lib.hid (show Below w5.heap.size w5 v29 by rw [hv]; exact L0.out.alloc L0.out.size _)
          refine wpOp_val (v := .pointer (some ⟨g29, 0, none⟩)) (w' := v29) 13 rfl rfl (by kernel_rfl) (by rw [hg, hv]; go_simp) ?_
          have Kg29 : w5.heap.size ≤ g29 := by rw [hg]; exact L0.out.size
          clear hg hv
          have R29_a := RN
          clear RN
          refine ⟨⟨_, (later_of L29.out).symm⟩, ?_⟩
          simp only [Act.put, List.setIfInBounds_toArray, List.set_cons_succ, List.set_cons_zero]
          refine wpAnyH_all (rs := [4, 11]) (by kernel_rfl) (by simp) (List.forall_mem_cons.2 ⟨?_, List.forall_mem_cons.2 ⟨?_, fun _ h => by cases h⟩⟩)
          · refine wpOp_enter (f := 30) (args := #[.agg #[], .agg (ac f), .int .i64 i]) 35 rfl rfl (by kernel_rfl) (by go_simp) (HPA.out _) ?_
            intro v30 hb
            have L30 := Lib.hid (later_tr L29.out hb)
            have R30_a := Lib.hid (R29_a.out.below' hb)
            refine ⟨⟨_, (later_of L30.out).symm⟩, ?_⟩
            simp only [Act.put, List.setIfInBounds_toArray, List.set_cons_succ, List.set_cons_zero]
            refine wpAnyH_all (rs := [9, 11]) (by kernel_rfl) (by simp) (List.forall_mem_cons.2 ⟨?_, List.forall_mem_cons.2 ⟨?_, fun _ h => by cases h⟩⟩)
            · refine wpOp_enter (f := 30) (args := #[.agg #[], .agg (ac f), .int .i64 j]) 40 rfl rfl (by kernel_rfl) (by go_simp) (HPB.out _) ?_
              intro v31 hb
              have L31 := Lib.hid (later_tr L30.out hb)
              have R31_a := Lib.hid (R30_a.out.below' hb)
              refine ⟨⟨_, (later_of L31.out).symm⟩, ?_⟩
              simp only [Act.put, List.setIfInBounds_toArray, List.set_cons_succ, List.set_cons_zero]
              refine wpAnyH_one (i := 11) (by kernel_rfl) ?_
              obtain ⟨g32, hg⟩ : ∃ g, g = v31.heap.size := ⟨_, rfl⟩
              obtain ⟨v32, hv⟩ : ∃ v, v = v31.alloc (.cells (ac (0, 0)) 40) := ⟨_, rfl⟩
              have RN := Lib.hid (show Row v32 g32 40 (ac (0, 0)) by rw [hv, hg]; exact Row.new _ _ _)
              have L32 := Lib.hid (show Below w5.heap.size w5 v32 by rw [hv]; exact L31.out.alloc L31.out.size _)
              have R32_a := Lib.hid (show Row v32 g29 40 _ by rw [hv]; exact R31_a.out.alloc _)
              have N32 := Lib.hid (show g29 ≠ g32 by rw [hg]; exact Nat.ne_of_lt R31_a.out.lt)
              refine wpOp_val (v := .pointer (some ⟨g32, 0, none⟩)) (w' := v32) 14 rfl rfl (by kernel_rfl) (by rw [hg, hv]; go_simp) ?_
              have Kg32 : w5.heap.size ≤ g32 := by rw [hg]; exact L31.out.size
              clear hg hv
              have R32_b := RN
              clear RN
              refine ⟨⟨_, (later_of L32.out).symm⟩, ?_⟩
              simp only [Act.put, List.setIfInBounds_toArray, List.set_cons_succ, List.set_cons_zero]
              refine wpAnyH_one (i := 12) (by kernel_rfl) ?_
              obtain ⟨v33, hv⟩ : ∃ v, v = v32.setRow g29 (ac PA) := ⟨_, rfl⟩
              have R33_a := Lib.hid (show Row v33 g29 40 (ac PA) by rw [hv]; exact R32_a.out.setRow _)
              have R33_b := Lib.hid (show Row v33 g32 40 _ by rw [hv]; exact R32_b.out.setRow_far (Ne.symm N32.out) _)
              have L33 := Lib.hid (show Below w5.heap.size w5 v33 by rw [hv]; exact below_setRow L32.out Kg29 _)
              refine wpOp_skip (w' := v33) rfl rfl (by kernel_rfl) (by rw [hv]; exact run_storeR aggAffine R32_a.out rfl (ac_one _) _ _ rfl rfl rfl) ?_
              clear hv
              refine ⟨⟨_, (later_of L33.out).symm⟩, ?_⟩
              refine wpAnyH_one (i := 13) (by kernel_rfl) ?_
              obtain ⟨v34, hv⟩ : ∃ v, v = v33.setRow g32 (ac PB) := ⟨_, rfl⟩
              have R34_b := Lib.hid (show Row v34 g32 40 (ac PB) by rw [hv]; exact R33_b.out.setRow _)
              have R34_a := Lib.hid (show Row v34 g29 40 _ by rw [hv]; exact R33_a.out.setRow_far N32.out _)
              have L34 := Lib.hid (show Below w5.heap.size w5 v34 by rw [hv]; exact below_setRow L33.out Kg32 _)
              refine wpOp_skip (w' := v34) rfl rfl (by kernel_rfl) (by rw [hv]; exact run_storeR aggAffine R33_b.out rfl (ac_one _) _ _ rfl rfl rfl) ?_
              clear hv
              refine ⟨⟨_, (later_of L34.out).symm⟩, ?_⟩
              refine wpAnyH_done (by kernel_rfl) ?_ _
              go_wp2_with fail
              go_meet
              exact ⟨g29, g32, rfl, rfl, L34, R34_a, R34_b⟩
            · obtain ⟨g35, hg⟩ : ∃ g, g = v30.heap.size := ⟨_, rfl⟩
              obtain ⟨v35, hv⟩ : ∃ v, v = v30.alloc (.cells (ac (0, 0)) 40) := ⟨_, rfl⟩
              have RN := Lib.hid (show Row v35 g35 40 (ac (0, 0)) by rw [hv, hg]; exact Row.new _ _ _)
              have L35 := Lib.hid (show Below w5.heap.size w5 v35 by rw [hv]; exact L30.out.alloc L30.out.size _)
              have R35_a := Lib.hid (show Row v35 g29 40 _ by rw [hv]; exact R30_a.out.alloc _)
              have N35 := Lib.hid (show g29 ≠ g35 by rw [hg]; exact Nat.ne_of_lt R30_a.out.lt)
              refine wpOp_val (v := .pointer (some ⟨g35, 0, none⟩)) (w' := v35) 14 rfl rfl (by kernel_rfl) (by rw [hg, hv]; go_simp) ?_
              have Kg35 : w5.heap.size ≤ g35 := by rw [hg]; exact L30.out.size
              clear hg hv
              have R35_b := RN
              clear RN
              refine ⟨⟨_, (later_of L35.out).symm⟩, ?_⟩
              simp only [Act.put, List.setIfInBounds_toArray, List.set_cons_succ, List.set_cons_zero]
              refine wpAnyH_one (i := 9) (by kernel_rfl) ?_
              refine wpOp_enter (f := 30) (args := #[.agg #[], .agg (ac f), .int .i64 j]) 40 rfl rfl (by kernel_rfl) (by go_simp) (HPB.out _) ?_
              intro v36 hb
              have L36 := Lib.hid (later_tr L35.out hb)
              have R36_a := Lib.hid (R35_a.out.below' hb)
              have R36_b := Lib.hid (R35_b.out.below' hb)
              refine ⟨⟨_, (later_of L36.out).symm⟩, ?_⟩
              simp only [Act.put, List.setIfInBounds_toArray, List.set_cons_succ, List.set_cons_zero]
              refine wpAnyH_one (i := 12) (by kernel_rfl) ?_
              obtain ⟨v37, hv⟩ : ∃ v, v = v36.setRow g29 (ac PA) := ⟨_, rfl⟩
              have R37_a := Lib.hid (show Row v37 g29 40 (ac PA) by rw [hv]; exact R36_a.out.setRow _)
              have R37_b := Lib.hid (show Row v37 g35 40 _ by rw [hv]; exact R36_b.out.setRow_far (Ne.symm N35.out) _)
              have L37 := Lib.hid (show Below w5.heap.size w5 v37 by rw [hv]; exact below_setRow L36.out Kg29 _)
              refine wpOp_skip (w' := v37) rfl rfl (by kernel_rfl) (by rw [hv]; exact run_storeR aggAffine R36_a.out rfl (ac_one _) _ _ rfl rfl rfl) ?_
              clear hv
              refine ⟨⟨_, (later_of L37.out).symm⟩, ?_⟩
              refine wpAnyH_one (i := 13) (by kernel_rfl) ?_
              obtain ⟨v38, hv⟩ : ∃ v, v = v37.setRow g35 (ac PB) := ⟨_, rfl⟩
              have R38_b := Lib.hid (show Row v38 g35 40 (ac PB) by rw [hv]; exact R37_b.out.setRow _)
              have R38_a := Lib.hid (show Row v38 g29 40 _ by rw [hv]; exact R37_a.out.setRow_far N35.out _)
              have L38 := Lib.hid (show Below w5.heap.size w5 v38 by rw [hv]; exact below_setRow L37.out Kg35 _)
              refine wpOp_skip (w' := v38) rfl rfl (by kernel_rfl) (by rw [hv]; exact run_storeR aggAffine R37_b.out rfl (ac_one _) _ _ rfl rfl rfl) ?_
              clear hv
              refine ⟨⟨_, (later_of L38.out).symm⟩, ?_⟩
              refine wpAnyH_done (by kernel_rfl) ?_ _
              go_wp2_with fail
              go_meet
              exact ⟨g29, g35, rfl, rfl, L38, R38_a, R38_b⟩
          · obtain ⟨g39, hg⟩ : ∃ g, g = v29.heap.size := ⟨_, rfl⟩
            obtain ⟨v39, hv⟩ : ∃ v, v = v29.alloc (.cells (ac (0, 0)) 40) := ⟨_, rfl⟩
            have RN := Lib.hid (show Row v39 g39 40 (ac (0, 0)) by rw [hv, hg]; exact Row.new _ _ _)
            have L39 := Lib.hid (show Below w5.heap.size w5 v39 by rw [hv]; exact L29.out.alloc L29.out.size _)
            have R39_a := Lib.hid (show Row v39 g29 40 _ by rw [hv]; exact R29_a.out.alloc _)
            have N39 := Lib.hid (show g29 ≠ g39 by rw [hg]; exact Nat.ne_of_lt R29_a.out.lt)
            refine wpOp_val (v := .pointer (some ⟨g39, 0, none⟩)) (w' := v39) 14 rfl rfl (by kernel_rfl) (by rw [hg, hv]; go_simp) ?_
            have Kg39 : w5.heap.size ≤ g39 := by rw [hg]; exact L29.out.size
            clear hg hv
            have R39_b := RN
            clear RN
            refine ⟨⟨_, (later_of L39.out).symm⟩, ?_⟩
            simp only [Act.put, List.setIfInBounds_toArray, List.set_cons_succ, List.set_cons_zero]
            refine wpAnyH_one (i := 4) (by kernel_rfl) ?_
            refine wpOp_enter (f := 30) (args := #[.agg #[], .agg (ac f), .int .i64 i]) 35 rfl rfl (by kernel_rfl) (by go_simp) (HPA.out _) ?_
            intro v40 hb
            have L40 := Lib.hid (later_tr L39.out hb)
            have R40_a := Lib.hid (R39_a.out.below' hb)
            have R40_b := Lib.hid (R39_b.out.below' hb)
            refine ⟨⟨_, (later_of L40.out).symm⟩, ?_⟩
            simp only [Act.put, List.setIfInBounds_toArray, List.set_cons_succ, List.set_cons_zero]
            refine wpAnyH_one (i := 9) (by kernel_rfl) ?_
            refine wpOp_enter (f := 30) (args := #[.agg #[], .agg (ac f), .int .i64 j]) 40 rfl rfl (by kernel_rfl) (by go_simp) (HPB.out _) ?_
            intro v41 hb
            have L41 := Lib.hid (later_tr L40.out hb)
            have R41_a := Lib.hid (R40_a.out.below' hb)
            have R41_b := Lib.hid (R40_b.out.below' hb)
            refine ⟨⟨_, (later_of L41.out).symm⟩, ?_⟩
            simp only [Act.put, List.setIfInBounds_toArray, List.set_cons_succ, List.set_cons_zero]
            refine wpAnyH_one (i := 12) (by kernel_rfl) ?_
            obtain ⟨v42, hv⟩ : ∃ v, v = v41.setRow g29 (ac PA) := ⟨_, rfl⟩
            have R42_a := Lib.hid (show Row v42 g29 40 (ac PA) by rw [hv]; exact R41_a.out.setRow _)
            have R42_b := Lib.hid (show Row v42 g39 40 _ by rw [hv]; exact R41_b.out.setRow_far (Ne.symm N39.out) _)
            have L42 := Lib.hid (show Below w5.heap.size w5 v42 by rw [hv]; exact below_setRow L41.out Kg29 _)
            refine wpOp_skip (w' := v42) rfl rfl (by kernel_rfl) (by rw [hv]; exact run_storeR aggAffine R41_a.out rfl (ac_one _) _ _ rfl rfl rfl) ?_
            clear hv
            refine ⟨⟨_, (later_of L42.out).symm⟩, ?_⟩
            refine wpAnyH_one (i := 13) (by kernel_rfl) ?_
            obtain ⟨v43, hv⟩ : ∃ v, v = v42.setRow g39 (ac PB) := ⟨_, rfl⟩
            have R43_b := Lib.hid (show Row v43 g39 40 (ac PB) by rw [hv]; exact R42_b.out.setRow _)
            have R43_a := Lib.hid (show Row v43 g29 40 _ by rw [hv]; exact R42_a.out.setRow_far N39.out _)
            have L43 := Lib.hid (show Below w5.heap.size w5 v43 by rw [hv]; exact below_setRow L42.out Kg39 _)
            refine wpOp_skip (w' := v43) rfl rfl (by kernel_rfl) (by rw [hv]; exact run_storeR aggAffine R42_b.out rfl (ac_one _) _ _ rfl rfl rfl) ?_
            clear hv
            refine ⟨⟨_, (later_of L43.out).symm⟩, ?_⟩
            refine wpAnyH_done (by kernel_rfl) ?_ _
            go_wp2_with fail
            go_meet
            exact ⟨g29, g39, rfl, rfl, L43, R43_a, R43_b⟩
        · obtain ⟨g44, hg⟩ : ∃ g, g = w5.drew.heap.size := ⟨_, rfl⟩
          obtain ⟨v44, hv⟩ : ∃ v, v = w5.drew.alloc (.cells (ac (0, 0)) 40) := ⟨_, rfl⟩
          have RN := Lib.hid (show Row v44 g44 40 (ac (0, 0)) by rw [hv, hg]; exact Row.new _ _ _)
          have L44 := Lib.hid (show Below w5.heap.size w5 v44 by rw [hv]; exact L0.out.alloc L0.out.size _)
          refine wpOp_val (v := .pointer (some ⟨g44, 0, none⟩)) (w' := v44) 14 rfl rfl (by kernel_rfl) (by rw [hg, hv]; go_simp) ?_
          have Kg44 : w5.heap.size ≤ g44 := by rw [hg]; exact L0.out.size
          clear hg hv
          have R44_b := RN
          clear RN
          refine ⟨⟨_, (later_of L44.out).symm⟩, ?_⟩
          simp only [Act.put, List.setIfInBounds_toArray, List.set_cons_succ, List.set_cons_zero]
          refine wpAnyH_all (rs := [4, 10]) (by kernel_rfl) (by simp) (List.forall_mem_cons.2 ⟨?_, List.forall_mem_cons.2 ⟨?_, fun _ h => by cases h⟩⟩)
          · refine wpOp_enter (f := 30) (args := #[.agg #[], .agg (ac f), .int .i64 i]) 35 rfl rfl (by kernel_rfl) (by go_simp) (HPA.out _) ?_
            intro v45 hb
            have L45 := Lib.hid (later_tr L44.out hb)
            have R45_b := Lib.hid (R44_b.out.below' hb)
            refine ⟨⟨_, (later_of L45.out).symm⟩, ?_⟩
            simp only [Act.put, List.setIfInBounds_toArray, List.set_cons_succ, List.set_cons_zero]
            refine wpAnyH_all (rs := [9, 10]) (by kernel_rfl) (by simp) (List.forall_mem_cons.2 ⟨?_, List.forall_mem_cons.2 ⟨?_, fun _ h => by cases h⟩⟩)
            · refine wpOp_enter (f := 30) (args := #[.agg #[], .agg (ac f), .int .i64 j]) 40 rfl rfl (by kernel_rfl) (by go_simp) (HPB.out _) ?_
              intro v46 hb
              have L46 := Lib.hid (later_tr L45.out hb)
              have R46_b := Lib.hid (R45_b.out.below' hb)
              refine ⟨⟨_, (later_of L46.out).symm⟩, ?_⟩
              simp only [Act.put, List.setIfInBounds_toArray, List.set_cons_succ, List.set_cons_zero]
              refine wpAnyH_one (i := 10) (by kernel_rfl) ?_
              obtain ⟨g47, hg⟩ : ∃ g, g = v46.heap.size := ⟨_, rfl⟩
              obtain ⟨v47, hv⟩ : ∃ v, v = v46.alloc (.cells (ac (0, 0)) 40) := ⟨_, rfl⟩
              have RN := Lib.hid (show Row v47 g47 40 (ac (0, 0)) by rw [hv, hg]; exact Row.new _ _ _)
              have L47 := Lib.hid (show Below w5.heap.size w5 v47 by rw [hv]; exact L46.out.alloc L46.out.size _)
              have R47_b := Lib.hid (show Row v47 g44 40 _ by rw [hv]; exact R46_b.out.alloc _)
              have N47 := Lib.hid (show g47 ≠ g44 by rw [hg]; exact Nat.ne_of_gt R46_b.out.lt)
              refine wpOp_val (v := .pointer (some ⟨g47, 0, none⟩)) (w' := v47) 13 rfl rfl (by kernel_rfl) (by rw [hg, hv]; go_simp) ?_
              have Kg47 : w5.heap.size ≤ g47 := by rw [hg]; exact L46.out.size
              clear hg hv
              have R47_a := RN
              clear RN
              refine ⟨⟨_, (later_of L47.out).symm⟩, ?_⟩
              simp only [Act.put, List.setIfInBounds_toArray, List.set_cons_succ, List.set_cons_zero]
              refine wpAnyH_one (i := 12) (by kernel_rfl) ?_
              obtain ⟨v48, hv⟩ : ∃ v, v = v47.setRow g47 (ac PA) := ⟨_, rfl⟩
              have R48_a := Lib.hid (show Row v48 g47 40 (ac PA) by rw [hv]; exact R47_a.out.setRow _)
              have R48_b := Lib.hid (show Row v48 g44 40 _ by rw [hv]; exact R47_b.out.setRow_far (Ne.symm N47.out) _)
              have L48 := Lib.hid (show Below w5.heap.size w5 v48 by rw [hv]; exact below_setRow L47.out Kg47 _)
              refine wpOp_skip (w' := v48) rfl rfl (by kernel_rfl) (by rw [hv]; exact run_storeR aggAffine R47_a.out rfl (ac_one _) _ _ rfl rfl rfl) ?_
              clear hv
              refine ⟨⟨_, (later_of L48.out).symm⟩, ?_⟩
              refine wpAnyH_one (i := 13) (by kernel_rfl) ?_
              obtain ⟨v49, hv⟩ : ∃ v, v = v48.setRow g44 (ac PB) := ⟨_, rfl⟩
              have R49_b := Lib.hid (show Row v49 g44 40 (ac PB) by rw [hv]; exact R48_b.out.setRow _)
              have R49_a := Lib.hid (show Row v49 g47 40 _ by rw [hv]; exact R48_a.out.setRow_far N47.out _)
              have L49 := Lib.hid (show Below w5.heap.size w5 v49 by rw [hv]; exact below_setRow L48.out Kg44 _)
              refine wpOp_skip (w' := v49) rfl rfl (by kernel_rfl) (by rw [hv]; exact run_storeR aggAffine R48_b.out rfl (ac_one _) _ _ rfl rfl rfl) ?_
              clear hv
              refine ⟨⟨_, (later_of L49.out).symm⟩, ?_⟩
              refine wpAnyH_done (by kernel_rfl) ?_ _
              go_wp2_with fail
              go_meet
              exact ⟨g47, g44, rfl, rfl, L49, R49_a, R49_b⟩
            · obtain ⟨g50, hg⟩ : ∃ g, g = v45.heap.size := ⟨_, rfl⟩
              obtain ⟨v50, hv⟩ : ∃ v, v = v45.alloc (.cells (ac (0, 0)) 40) := ⟨_, rfl⟩
              have RN := Lib.hid (show Row v50 g50 40 (ac (0, 0)) by rw [hv, hg]; exact Row.new _ _ _)
              have L50 := Lib.hid (show Below w5.heap.size w5 v50 by rw [hv]; exact L45.out.alloc L45.out.size _)
              have R50_b := Lib.hid (show Row v50 g44 40 _ by rw [hv]; exact R45_b.out.alloc _)
              have N50 := Lib.hid (show g50 ≠ g44 by rw [hg]; exact Nat.ne_of_gt R45_b.out.lt)
              refine wpOp_val (v := .pointer (some ⟨g50, 0, none⟩)) (w' := v50) 13 rfl rfl (by kernel_rfl) (by rw [hg, hv]; go_simp) ?_
              have Kg50 : w5.heap.size ≤ g50 := by rw [hg]; exact L45.out.size
              clear hg hv
              have R50_a := RN
              clear RN
              refine ⟨⟨_, (later_of L50.out).symm⟩, ?_⟩
              simp only [Act.put, List.setIfInBounds_toArray, List.set_cons_succ, List.set_cons_zero]
              refine wpAnyH_one (i := 9) (by kernel_rfl) ?_
              refine wpOp_enter (f := 30) (args := #[.agg #[], .agg (ac f), .int .i64 j]) 40 rfl rfl (by kernel_rfl) (by go_simp) (HPB.out _) ?_
              intro v51 hb
              have L51 := Lib.hid (later_tr L50.out hb)
              have R51_a := Lib.hid (R50_a.out.below' hb)
              have R51_b := Lib.hid (R50_b.out.below' hb)
              refine ⟨⟨_, (later_of L51.out).symm⟩, ?_⟩
              simp only [Act.put, List.setIfInBounds_toArray, List.set_cons_succ, List.set_cons_zero]
              refine wpAnyH_one (i := 12) (by kernel_rfl) ?_
              obtain ⟨v52, hv⟩ : ∃ v, v = v51.setRow g50 (ac PA) := ⟨_, rfl⟩
              have R52_a := Lib.hid (show Row v52 g50 40 (ac PA) by rw [hv]; exact R51_a.out.setRow _)
              have R52_b := Lib.hid (show Row v52 g44 40 _ by rw [hv]; exact R51_b.out.setRow_far (Ne.symm N50.out) _)
              have L52 := Lib.hid (show Below w5.heap.size w5 v52 by rw [hv]; exact below_setRow L51.out Kg50 _)
              refine wpOp_skip (w' := v52) rfl rfl (by kernel_rfl) (by rw [hv]; exact run_storeR aggAffine R51_a.out rfl (ac_one _) _ _ rfl rfl rfl) ?_
              clear hv
              refine ⟨⟨_, (later_of L52.out).symm⟩, ?_⟩
              refine wpAnyH_one (i := 13) (by kernel_rfl) ?_
              obtain ⟨v53, hv⟩ : ∃ v, v = v52.setRow g44 (ac PB) := ⟨_, rfl⟩
              have R53_b := Lib.hid (show Row v53 g44 40 (ac PB) by rw [hv]; exact R52_b.out.setRow _)
              have R53_a := Lib.hid (show Row v53 g50 40 _ by rw [hv]; exact R52_a.out.setRow_far N50.out _)
              have L53 := Lib.hid (show Below w5.heap.size w5 v53 by rw [hv]; exact below_setRow L52.out Kg44 _)
              refine wpOp_skip (w' := v53) rfl rfl (by kernel_rfl) (by rw [hv]; exact run_storeR aggAffine R52_b.out rfl (ac_one _) _ _ rfl rfl rfl) ?_
              clear hv
              refine ⟨⟨_, (later_of L53.out).symm⟩, ?_⟩
              refine wpAnyH_done (by kernel_rfl) ?_ _
              go_wp2_with fail
              go_meet
              exact ⟨g50, g44, rfl, rfl, L53, R53_a, R53_b⟩
          · obtain ⟨g54, hg⟩ : ∃ g, g = v44.heap.size := ⟨_, rfl⟩
            obtain ⟨v54, hv⟩ : ∃ v, v = v44.alloc (.cells (ac (0, 0)) 40) := ⟨_, rfl⟩
            have RN := Lib.hid (show Row v54 g54 40 (ac (0, 0)) by rw [hv, hg]; exact Row.new _ _ _)
            have L54 := Lib.hid (show Below w5.heap.size w5 v54 by rw [hv]; exact L44.out.alloc L44.out.size _)
            have R54_b := Lib.hid (show Row v54 g44 40 _ by rw [hv]; exact R44_b.out.alloc _)
            have N54 := Lib.hid (show g54 ≠ g44 by rw [hg]; exact Nat.ne_of_gt R44_b.out.lt)
            refine wpOp_val (v := .pointer (some ⟨g54, 0, none⟩)) (w' := v54) 13 rfl rfl (by kernel_rfl) (by rw [hg, hv]; go_simp) ?_
            have Kg54 : w5.heap.size ≤ g54 := by rw [hg]; exact L44.out.size
            clear hg hv
            have R54_a := RN
            clear RN
            refine ⟨⟨_, (later_of L54.out).symm⟩, ?_⟩
            simp only [Act.put, List.setIfInBounds_toArray, List.set_cons_succ, List.set_cons_zero]
            refine wpAnyH_one (i := 4) (by kernel_rfl) ?_
            refine wpOp_enter (f := 30) (args := #[.agg #[], .agg (ac f), .int .i64 i]) 35 rfl rfl (by kernel_rfl) (by go_simp) (HPA.out _) ?_
            intro v55 hb
            have L55 := Lib.hid (later_tr L54.out hb)
            have R55_a := Lib.hid (R54_a.out.below' hb)
            have R55_b := Lib.hid (R54_b.out.below' hb)
            refine ⟨⟨_, (later_of L55.out).symm⟩, ?_⟩
            simp only [Act.put, List.setIfInBounds_toArray, List.set_cons_succ, List.set_cons_zero]
            refine wpAnyH_one (i := 9) (by kernel_rfl) ?_
            refine wpOp_enter (f := 30) (args := #[.agg #[], .agg (ac f), .int .i64 j]) 40 rfl rfl (by kernel_rfl) (by go_simp) (HPB.out _) ?_
            intro v56 hb
            have L56 := Lib.hid (later_tr L55.out hb)
            have R56_a := Lib.hid (R55_a.out.below' hb)
            have R56_b := Lib.hid (R55_b.out.below' hb)
            refine ⟨⟨_, (later_of L56.out).symm⟩, ?_⟩
            simp only [Act.put, List.setIfInBounds_toArray, List.set_cons_succ, List.set_cons_zero]
            refine wpAnyH_one (i := 12) (by kernel_rfl) ?_
            obtain ⟨v57, hv⟩ : ∃ v, v = v56.setRow g54 (ac PA) := ⟨_, rfl⟩
            have R57_a := Lib.hid (show Row v57 g54 40 (ac PA) by rw [hv]; exact R56_a.out.setRow _)
            have R57_b := Lib.hid (show Row v57 g44 40 _ by rw [hv]; exact R56_b.out.setRow_far (Ne.symm N54.out) _)
            have L57 := Lib.hid (show Below w5.heap.size w5 v57 by rw [hv]; exact below_setRow L56.out Kg54 _)
            refine wpOp_skip (w' := v57) rfl rfl (by kernel_rfl) (by rw [hv]; exact run_storeR aggAffine R56_a.out rfl (ac_one _) _ _ rfl rfl rfl) ?_
            clear hv
            refine ⟨⟨_, (later_of L57.out).symm⟩, ?_⟩
            refine wpAnyH_one (i := 13) (by kernel_rfl) ?_
            obtain ⟨v58, hv⟩ : ∃ v, v = v57.setRow g44 (ac PB) := ⟨_, rfl⟩
            have R58_b := Lib.hid (show Row v58 g44 40 (ac PB) by rw [hv]; exact R57_b.out.setRow _)
            have R58_a := Lib.hid (show Row v58 g54 40 _ by rw [hv]; exact R57_a.out.setRow_far N54.out _)
            have L58 := Lib.hid (show Below w5.heap.size w5 v58 by rw [hv]; exact below_setRow L57.out Kg44 _)
            refine wpOp_skip (w' := v58) rfl rfl (by kernel_rfl) (by rw [hv]; exact run_storeR aggAffine R57_b.out rfl (ac_one _) _ _ rfl rfl rfl) ?_
            clear hv
            refine ⟨⟨_, (later_of L58.out).symm⟩, ?_⟩
            refine wpAnyH_done (by kernel_rfl) ?_ _
            go_wp2_with fail
            go_meet
            exact ⟨g54, g44, rfl, rfl, L58, R58_a, R58_b⟩
        -- ENDTREE
      case rest =>
        obtain ⟨g, h, rfl, rfl, HB, R13, R14⟩ := hcut
        have RM6 := Lib.hid (RM.out.below' HB.out)
        have RF6 := Lib.hid (RF5.out.below' HB.out)
        have HB6 := Lib.hid (HB5.out.trans (HB.out.mono HB5.out.size))
        obtain ⟨T, hT⟩ : ∃ T, pw mWords x t = T := ⟨_, rfl⟩
        have J1 := Lib.hid (fun u => words_pow_any x k t HK.out u (by omega) (by omega))
        rw [hT] at J1 ⊢
        obtain ⟨ij, hij⟩ : ∃ ij, ij = i + j := ⟨_, rfl⟩
        obtain ⟨n, hn⟩ : ∃ n, n = j % 1073741824 := ⟨_, rfl⟩
        have hn3 : n < 1073741824 := by omega
        obtain ⟨m, hm⟩ : ∃ m, m = i * n := ⟨_, rfl⟩
        have hmb : m ≤ 4294967296 * 1073741824 := by rw [hm]; exact Nat.mul_le_mul (by omega) (by omega)
        obtain ⟨PS, hPS⟩ : ∃ PS, pw mAff f ij = PS := ⟨_, rfl⟩
        obtain ⟨PM, hPM⟩ : ∃ PM, pw mAff f m = PM := ⟨_, rfl⟩
        have J2 := Lib.hid (fun u => aff_pow_any f ij u (by omega))
        have J3 := Lib.hid (fun u => affJoin PA PB u)
        have J4 := Lib.hid (fun u => aff_pow_any PA n u (by omega))
        have J5 := Lib.hid (fun u => aff_pow_any f m u (by omega))
        rw [hPS] at J2
        rw [← HA'.out, ← HB'.out, pw_add' HF.out, ← hij, hPS, HA'.out, HB'.out] at J3
        rw [← HA'.out, pw_mul HF.out, ← hm, hPM, HA'.out] at J4
        rw [hPM] at J5
        have e1 : (i : Int) + (j : Int) = (ij : Int) := by omega
        have e1w : IntKind.i64.wrap (ij : Int) = (ij : Int) := by simp [IntKind.wrap, IntKind.bits, IntKind.signed]; omega
        have e2 : (j : Int) % 1073741824 = (n : Int) := by omega
        have e2t : (j : Int).tmod 1073741824 = (n : Int) := by rw [hn]; rfl
        have e3 : (i : Int) * (n : Int) = (m : Int) := by rw [hm]; rfl
        have e3w : IntKind.i64.wrap (m : Int) = (m : Int) := by simp [IntKind.wrap, IntKind.bits, IntKind.signed]; omega
        have e4w : IntKind.i64.wrap (i : Int) = (i : Int) := by simp [IntKind.wrap, IntKind.bits, IntKind.signed]; omega
        have e5w : IntKind.i64.wrap (j : Int) = (j : Int) := by simp [IntKind.wrap, IntKind.bits, IntKind.signed]; omega
        have e6w : IntKind.i64.wrap (n : Int) = (n : Int) := by simp [IntKind.wrap, IntKind.bits, IntKind.signed]; omega
        have e7w : IntKind.i64.wrap k = k := by simp [IntKind.wrap, IntKind.bits, IntKind.signed]; omega
        have ge := guard_aff
        have ee := equal_aff
        clear hT hij hn hm hPS hPM z0
        go_wp2
        refine wp_region_later (by kernel_rfl) (by kernel_rfl) ?_
        repeat (first | go_big_quiet_skip | (go_big_quiet_want; first | (with_reducible refine quiet_loadR aggAffines RM6.out _ rfl ?_ ?_; (go_simp <;> fail); go_simp; go_big_quiet_on) | (with_reducible refine quiet_loadR aggAffine RF6.out _ rfl ?_ ?_; (go_simp <;> fail); go_simp; go_big_quiet_on) | (with_reducible refine quiet_loadR aggAffine R13.out _ rfl ?_ ?_; (go_simp <;> fail); go_simp; go_big_quiet_on) | (with_reducible refine quiet_loadR aggAffine R14.out _ rfl ?_ ?_; (go_simp <;> fail); go_simp; go_big_quiet_on) | (go_big_quiet_op; first | go_big_quiet_on | go_big_quiet_call (first | with_reducible exact calls_later (J1.out _) | with_reducible exact calls_later (J2.out _) | with_reducible exact calls_later (J3.out _) | with_reducible exact calls_later (J4.out _) | with_reducible exact calls_later (J5.out _)))))
        refine wpQuiet_nil ?_
        rintro w6 ⟨u, rfl⟩
        go_wp2
        go_ret
        exact ⟨rfl, HB6.out.trans ((below_later _ u).mono HB6.out.size)⟩
end Go.Proofs.Ytbiecpejpkgngaa
