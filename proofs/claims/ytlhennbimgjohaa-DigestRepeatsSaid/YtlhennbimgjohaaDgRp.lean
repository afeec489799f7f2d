/-
  DigestRepeats: the walk.
-/
import Derived.Test.YtlhennbimgjohaaDgJ
namespace Go.Proofs.Ytlhennbimgjohaa
open Go.RowKit
/-- s, t times. -/
def rp (s : ByteArray) : Nat → ByteArray
  | 0 => ByteArray.empty
  | t + 1 => rp s t ++ s
theorem rp_size (s : ByteArray) : ∀ t, (rp s t).size = s.size * t
  | 0 => rfl
  | t + 1 => by rw [rp, ByteArray.size_append, rp_size s t, Nat.mul_succ]
theorem txs_rp (s : ByteArray) : ∀ t, txs (rp s t) = cw mDig (txs s) t
  | 0 => rfl
  | t + 1 => by
    rw [rp, txs_append, txs_rp s t]
    have := cw_add' (inR_txs s) t 1
    rw [cw_one] at this
    exact this
def cutN (s : ByteArray) : ByteArray := s.extract 0 (min s.size 9)
theorem i64_id {x : Int} (h0 : -9223372036854775808 ≤ x) (h1 : x < 9223372036854775808) : IntKind.i64.wrap x = x := by simp [IntKind.wrap, IntKind.bits, IntKind.signed]; omega
theorem rep_nat (f : Int × Int) (n : Nat) (w : World) (hf : In64 f) (hn : (n : Int) ≤ 9223372036854775807) :
    Calls Try.prog 20 #[.agg (dc f), .int .i64 n] w fun e w' => e = .returned (.agg (dc (cw mDig (rd f) n))) ∧ Below w.heap.size w w' := dg_repeat f n w hf hn
set_option maxRecDepth 20000 in
set_option maxHeartbeats 6400000 in
theorem repeats_walk (s : ByteArray) (k : Int) (d : Int × Int) (i j : Nat) (w : World) (hs : s.size ≤ maxLen) (hk : (Lit.int .i8 k).wf = true) (hd : In64 d) (hi : i < 4294967296) (hj : j < 4294967296) :
    Calls Try.prog 6 #[.string s, .int .i8 k, .agg (dc d), .int .u32 i, .int .u32 j] w fun e w' => e = .returned (.bool true) ∧ Below w.heap.size w w' := by
  have HA := Lib.hid awake_true
  unfold maxLen at hs
  obtain ⟨q, hq⟩ : ∃ q, q = min s.size 9 := ⟨_, rfl⟩
  have hmin : (if (9 : Int) < (s.size : Int) then (9 : Int) else (s.size : Int)) = (q : Int) := by split <;> omega
  have hqs : q ≤ s.size := by omega
  have hq9 : q ≤ 9 := by omega
  obtain ⟨x, hx⟩ : ∃ x, s.extract 0 q = x := ⟨_, rfl⟩
  have hxs : x.size ≤ 9 := by rw [← hx, ByteArray.size_extract]; omega
  have hkb := bounds_i8 hk
  obtain ⟨K, hK⟩ : ∃ K, K = k.toNat := ⟨_, rfl⟩
  have hmax : (if k < 0 then (0 : Int) else k) = (K : Int) := by split <;> omega
  have hK7 : K ≤ 127 := by omega
  have hk7 : k ≤ 127 := by omega
  have hk8 : -128 ≤ k := by omega
  have z0 := dg_zero
  have HDD := Lib.hid hd
  have HK := Lib.hid hK
  obtain ⟨c, hc⟩ : ∃ c, w.heap.size = c := ⟨_, rfl⟩
  have HB0 := Lib.hid ((Below.refl w.heap.size w).alloc (Nat.le_refl _) (Obj.cells (dc d) 26))
  have R7 := Lib.hid (Row.new w 26 (dc d))
  rw [hc] at R7 HB0
  have HS := Lib.hid hc
  clear hk hK hd hq hkb
  go_enter Try.func6, Try.ntmps6
  go_wp2_with fail
  refine (HA.out _).mono ?_
  rintro e w1 ⟨rfl, hb1⟩
  have S7 := Lib.hid (R7.out.below' hb1)
  have HB1 := Lib.hid (HB0.out.trans (hb1.mono (by have := HB0.out.size; have := HS.out; omega)))
  clear hb1 R7 HB0 hc
  go_wp2_with fail
  go_loop [11, 25] (fun v i => ∃ t : Nat, t ≤ K ∧ i = .int .i64 t ∧ v = .string (rp x t)) (fun _ i => K - (intOf i).toNat)
  case atStart => exact ⟨0, Nat.zero_le _, rfl, rfl⟩
  case round =>
    obtain ⟨t, ht, rfl, rfl⟩ := hrel
    by_cases hlt : t < K
    · have hsz : (rp x t).size = x.size * t := rp_size x t
      have hsz2 : x.size * t ≤ 9 * 127 := Nat.mul_le_mul hxs (by omega)
      obtain ⟨f', hf'⟩ : ∃ f', rp x t = f' := ⟨_, rfl⟩
      rw [hf'] at hsz
      have hroom : ¬ 9223372036854775807 < f'.size + x.size := by omega
      have HF' := Lib.hid (show rp x (t + 1) = f' ++ x by rw [rp, hf'])
      rw [hf']
      clear hf' hsz hsz2
      go_wp2
      go_round
      case rel => exact ⟨t + 1, by omega, by go_num, by rw [HF'.out]⟩
      case measure => simp [intOf]; try omega
    · obtain rfl : t = K := by omega
      have HT := Lib.hid (show txs (rp x t) = cw mDig (txs x) t from txs_rp x t)
      have hts : (rp x t).size ≤ 1143 := by
        rw [rp_size]
        have : x.size * t ≤ 9 * 127 := Nat.mul_le_mul hxs (by omega)
        omega
      obtain ⟨tt, htt⟩ : ∃ tt, rp x t = tt := ⟨_, rfl⟩
      rw [htt] at HT hts ⊢
      clear htt hlt
      have CX := Lib.hid (fun u => rep_nat d i u HDD.out (by omega))
      have CY := Lib.hid (fun u => rep_nat d j u HDD.out (by omega))
      have CJ := Lib.hid (fun u => dg_join (cw mDig (rd d) i) (cw mDig (rd d) j) u (inR_cw (inR_rd d) i).in64 (inR_cw (inR_rd d) j).in64)
      rw [cw_add' (inR_rd d)] at CJ
      have CS := Lib.hid (fun u => rep_nat d (i + j) u HDD.out (by omega))
      obtain ⟨n, hn⟩ : ∃ n, n = j % 1073741824 := ⟨_, rfl⟩
      have hn3 : n < 1073741824 := by omega
      obtain ⟨m, hm⟩ : ∃ m, m = i * n := ⟨_, rfl⟩
      have hmb : m ≤ 4294967296 * 1073741824 := by rw [hm]; exact Nat.mul_le_mul (by omega) (by omega)
      have CN := Lib.hid (fun u => rep_nat (cw mDig (rd d) i) n u (inR_cw (inR_rd d) i).in64 (by omega))
      rw [rd_of (inR_cw (inR_rd d) i), cw_mul (inR_rd d) i n, ← hm] at CN
      have CM := Lib.hid (fun u => rep_nat d m u HDD.out (by omega))
      have CW := Lib.hid (fun u => show Calls Try.prog 20 #[.agg (dc (txs x)), .int .i64 k] u fun e w' => e = .returned (.agg (dc (cw mDig (txs x) t))) ∧ Below u.heap.size u w' by
        have := dg_repeat (txs x) k u (inR_txs x).in64 (by omega)
        rw [rd_of (inR_txs x), ← HK.out] at this
        exact this)
      have G1 := Lib.hid (fun A c w hr => of_str x A c w (by omega) hr)
      have G2 := Lib.hid (fun A c w hr => rof_str tt A c w (by omega) hr)
      rw [HT.out] at G2
      obtain ⟨ij, hij⟩ : ∃ ij, ij = i + j := ⟨_, rfl⟩
      rw [← hij] at CS CJ
      obtain ⟨X9, hX9⟩ : ∃ X9, X9 = cw mDig (rd d) i := ⟨_, rfl⟩
      obtain ⟨Y9, hY9⟩ : ∃ Y9, Y9 = cw mDig (rd d) j := ⟨_, rfl⟩
      obtain ⟨SS, hSS⟩ : ∃ SS, SS = cw mDig (rd d) ij := ⟨_, rfl⟩
      obtain ⟨M, hM⟩ : ∃ M, M = cw mDig (rd d) m := ⟨_, rfl⟩
      rw [← hX9] at CX CJ CN
      rw [← hY9] at CY CJ
      rw [← hSS] at CS CJ
      rw [← hM] at CM CN
      obtain ⟨X, hX⟩ : ∃ X, X = txs x := ⟨_, rfl⟩
      obtain ⟨W, hW⟩ : ∃ W, W = cw mDig (txs x) t := ⟨_, rfl⟩
      rw [← hW] at CW G2
      rw [← hX] at CW G1
      have HWi := Lib.hid (show IntKind.i64.wrap (i : Int) = (i : Int) from i64_id (by omega) (by omega))
      have HWj := Lib.hid (show IntKind.i64.wrap (j : Int) = (j : Int) from i64_id (by omega) (by omega))
      have HWk := Lib.hid (show IntKind.i64.wrap k = k from i64_id (by omega) (by omega))
      have HIJ := Lib.hid (show (i : Int) + (j : Int) = (ij : Int) ∧ IntKind.i64.wrap (ij : Int) = (ij : Int) from ⟨by omega, i64_id (by omega) (by omega)⟩)
      have HM := Lib.hid (show (i : Int) * (n : Int) = (m : Int) ∧ IntKind.i64.wrap (m : Int) = (m : Int) from ⟨by rw [hm]; simp, i64_id (by omega) (by omega)⟩)
      have HN := Lib.hid (show (j : Int) % 1073741824 = (n : Int) ∧ (j : Int).tmod 1073741824 = (n : Int) from ⟨by omega, by rw [hn]; rfl⟩)
      have ge := guard_dg
      have ee := equal_dg
      clear hij hX9 hY9 hSS hM hX hW hm hn HT
      go_wp2_with fail
      refine wp_region_named fun fra hfra => ?_
      have o7 : tm fra 7 = .pointer (some ⟨c, 0, none⟩) := by rw [hfra]; rfl
      have o3 : tm fra 3 = .int .u32 i := by rw [hfra]; rfl
      have o4 : tm fra 4 = .int .u32 j := by rw [hfra]; rfl
      have sz : fra.tmps.size = 77 := by rw [hfra]; rfl
      obtain ⟨PL, hPL⟩ : ∃ PL : List (Value → World → Prop), PL = [(fun v _ => v = .agg (dc d)), (fun v _ => v = .int .u32 i), (fun v _ => v = .int .i64 i), (fun v _ => v = .agg (dc X9)), (fun v _ => v = .agg (dc d)), (fun v _ => v = .int .u32 j), (fun v _ => v = .int .i64 j), (fun v _ => v = .agg (dc Y9)), (fun _ _ => True), (fun _ _ => True), (fun _ _ => True), (fun _ _ => True)] := ⟨_, rfl⟩
      have hmono : AllMono PL := by rw [hPL]; exact ⟨mono_det _, mono_det _, mono_det _, mono_det _, mono_det _, mono_det _, mono_det _, mono_det _, mono_top, mono_top, mono_top, mono_top, trivial⟩
      have P0 : ∀ v w, PL.getD 0 (fun _ _ => True) v w = (fun v _ => v = .agg (dc d)) v w := fun v w => by rw [hPL]; rfl
      have P1 : ∀ v w, PL.getD 1 (fun _ _ => True) v w = (fun v _ => v = .int .u32 i) v w := fun v w => by rw [hPL]; rfl
      have P2 : ∀ v w, PL.getD 2 (fun _ _ => True) v w = (fun v _ => v = .int .i64 i) v w := fun v w => by rw [hPL]; rfl
      have P3 : ∀ v w, PL.getD 3 (fun _ _ => True) v w = (fun v _ => v = .agg (dc X9)) v w := fun v w => by rw [hPL]; rfl
      have P4 : ∀ v w, PL.getD 4 (fun _ _ => True) v w = (fun v _ => v = .agg (dc d)) v w := fun v w => by rw [hPL]; rfl
      have P5 : ∀ v w, PL.getD 5 (fun _ _ => True) v w = (fun v _ => v = .int .u32 j) v w := fun v w => by rw [hPL]; rfl
      have P6 : ∀ v w, PL.getD 6 (fun _ _ => True) v w = (fun v _ => v = .int .i64 j) v w := fun v w => by rw [hPL]; rfl
      have P7 : ∀ v w, PL.getD 7 (fun _ _ => True) v w = (fun v _ => v = .agg (dc Y9)) v w := fun v w => by rw [hPL]; rfl
      have hkeep : AllKeep PL := by rw [hPL]; exact ⟨keep_det _, keep_det _, keep_det _, keep_det _, keep_det _, keep_det _, keep_det _, keep_det _, keep_top, keep_top, keep_top, keep_top, trivial⟩
      refine wp_region_by (by kernel_rfl) (fun j => PL.getD j (fun _ _ => True)) 8 10 2 (fun _ => 26) (fun _ => dc (0, 0)) (fun i => [dc X9, dc Y9].getD i #[]) (by rw [sz]; kernel_rfl) (fun j => all_mono hmono j) (fun j v w g i _ _ h => all_keep hkeep j v w g _ h) ?_ ?_ ?_ rfl ?_
      · intro j hj hn a' w' hb O D K hK
        have hc : j = 0 ∨ j = 1 ∨ j = 2 ∨ j = 3 ∨ j = 4 ∨ j = 5 ∨ j = 6 ∨ j = 7 := by
          have h3 : j < 12 := hj
          have := normB_iff.1 hn
          omega
        clear hmono hj
        rcases hc with rfl | rfl | rfl | rfl | rfl | rfl | rfl | rfl
        · refine wpOp_of rfl rfl ?_
          have e7 := (O 7 (by kernel_rfl)).trans o7
          exact wp_loadR aggD (S7.out.below' hb) _ rfl (eval_of e7) (hK _ _ (Below.refl _ _) ((P0 _ _).mpr rfl))
        · refine wpOp_of rfl rfl ?_
          have e3 := (O 3 (by kernel_rfl)).trans o3
          replace hK : K (a'.put (some 32) (.int .u32 i)) w' := hK _ _ (Below.refl _ _) ((P1 _ _).mpr rfl)
          have e3' := tm_simp e3
          clear O D
          go_simp
          exact hK
        · refine wpOp_of rfl rfl ?_
          have e32 : tm a' 32 = .int .u32 i := (P1 _ _).mp (D 1 32 (by kernel_rfl))
          replace hK : K (a'.put (some 33) (.int .i64 i)) w' := hK _ _ (Below.refl _ _) ((P2 _ _).mpr rfl)
          have e32' := tm_simp e32
          have hw' := HWi.out
          clear O D
          go_simp
          exact hK
        · refine wpOp_of rfl rfl ?_
          have e31 : tm a' 31 = .agg (dc d) := (P0 _ _).mp (D 0 31 (by kernel_rfl))
          have e33 : tm a' 33 = .int .i64 i := (P2 _ _).mp (D 2 33 (by kernel_rfl))
          replace hK : ∀ w'', Below w'.heap.size w' w'' → K (a'.put (some 34) (.agg (dc X9))) w'' := fun w'' hb => hK _ _ hb ((P3 _ _).mpr rfl)
          have e31' := tm_simp e31
          have e33' := tm_simp e33
          clear O D
          go_simp
          go_at_call 20
          refine (CX.out _).mono ?_
          rintro e w2 ⟨rfl, hb2⟩
          exact hK _ hb2
        · refine wpOp_of rfl rfl ?_
          have e7 := (O 7 (by kernel_rfl)).trans o7
          exact wp_loadR aggD (S7.out.below' hb) _ rfl (eval_of e7) (hK _ _ (Below.refl _ _) ((P4 _ _).mpr rfl))
        · refine wpOp_of rfl rfl ?_
          have e4 := (O 4 (by kernel_rfl)).trans o4
          replace hK : K (a'.put (some 36) (.int .u32 j)) w' := hK _ _ (Below.refl _ _) ((P5 _ _).mpr rfl)
          have e4' := tm_simp e4
          clear O D
          go_simp
          exact hK
        · refine wpOp_of rfl rfl ?_
          have e36 : tm a' 36 = .int .u32 j := (P5 _ _).mp (D 5 36 (by kernel_rfl))
          replace hK : K (a'.put (some 37) (.int .i64 j)) w' := hK _ _ (Below.refl _ _) ((P6 _ _).mpr rfl)
          have e36' := tm_simp e36
          have hw' := HWj.out
          clear O D
          go_simp
          exact hK
        · refine wpOp_of rfl rfl ?_
          have e35 : tm a' 35 = .agg (dc d) := (P4 _ _).mp (D 4 35 (by kernel_rfl))
          have e37 : tm a' 37 = .int .i64 j := (P6 _ _).mp (D 6 37 (by kernel_rfl))
          replace hK : ∀ w'', Below w'.heap.size w' w'' → K (a'.put (some 38) (.agg (dc Y9))) w'' := fun w'' hb => hK _ _ hb ((P7 _ _).mpr rfl)
          have e35' := tm_simp e35
          have e37' := tm_simp e37
          clear O D
          go_simp
          go_at_call 20
          refine (CY.out _).mono ?_
          rintro e w2 ⟨rfl, hb2⟩
          exact hK _ hb2
      · intro i hi a' w' K hK
        have hc : i = 0 ∨ i = 1 := by omega
        rcases hc with rfl | rfl
        · refine wpOp_of rfl rfl ?_
          replace hK : K (a'.put (some 12) (.pointer (some ⟨w'.heap.size, 0, none⟩))) (w'.alloc (.cells (dc (0, 0)) 26)) := hK
          go_simp
          exact hK
        · refine wpOp_of rfl rfl ?_
          replace hK : K (a'.put (some 13) (.pointer (some ⟨w'.heap.size, 0, none⟩))) (w'.alloc (.cells (dc (0, 0)) 26)) := hK
          go_simp
          exact hK
      · intro i hi a' w' g' d O D hd hg hrow K hK
        have hc : i = 0 ∨ i = 1 := by omega
        rcases hc with rfl | rfl
        · obtain rfl : 12 = d := Option.some.inj hd
          have ev : tm a' 34 = .agg (dc X9) := (P3 _ _).mp (D 3 34 (by kernel_rfl))
          exact wpOp_of rfl rfl (wp_storeR (c' := dc X9) aggD hrow rfl (dc_one _) _ _ rfl (eval_of hg) (eval_of ev) hK)
        · obtain rfl : 13 = d := Option.some.inj hd
          have ev : tm a' 38 = .agg (dc Y9) := (P7 _ _).mp (D 7 38 (by kernel_rfl))
          exact wpOp_of rfl rfl (wp_storeR (c' := dc Y9) aggD hrow rfl (dc_one _) _ _ rfl (eval_of hg) (eval_of ev) hK)
      · intro V G w2 hb2 hV hG
        have v0 : V 0 = .agg (dc d) := (P0 _ _).mp (hV 0 rfl)
        have v1 : V 1 = .int .u32 i := (P1 _ _).mp (hV 1 rfl)
        have v2 : V 2 = .int .i64 i := (P2 _ _).mp (hV 2 rfl)
        have v3 : V 3 = .agg (dc X9) := (P3 _ _).mp (hV 3 rfl)
        have v4 : V 4 = .agg (dc d) := (P4 _ _).mp (hV 4 rfl)
        have v5 : V 5 = .int .u32 j := (P5 _ _).mp (hV 5 rfl)
        have v6 : V 6 = .int .i64 j := (P6 _ _).mp (hV 6 rfl)
        have v7 : V 7 = .agg (dc Y9) := (P7 _ _).mp (hV 7 rfl)
        have v8 := (hG 0 (by omega)).1
        have T12 := Lib.hid (show Row w2 (G 0) 26 (dc X9) from (hG 0 (by omega)).2)
        obtain ⟨g0, hg0⟩ : ∃ g, g = G 0 := ⟨_, rfl⟩
        rw [← hg0] at v8 T12
        have v9 := (hG 1 (by omega)).1
        have T13 := Lib.hid (show Row w2 (G 1) 26 (dc Y9) from (hG 1 (by omega)).2)
        obtain ⟨g1, hg1⟩ : ∃ g, g = G 1 := ⟨_, rfl⟩
        rw [← hg1] at v9 T13
        show Exit.then _ _ _ (puts [some 31, some 32, some 33, some 34, some 35, some 36, some 37, some 38, some 12, some 13, none, none] V 0 fra) w2
        simp only [Nat.reduceAdd] at v8 v9
        simp only [puts, Nat.zero_add, Nat.reduceAdd, v0, v1, v2, v3, v4, v5, v6, v7, v8, v9]
        simp only [hfra]
        clear hV hG hmono hkeep hPL hfra sz v0 v1 v2 v3 v4 v5 v6 v7 v8 hg0 v9 hg1
        clear P0 P1 P2 P3 P4 P5 P6 P7
        go_simp
        have U7 := Lib.hid (S7.out.below' hb2)
        have U12 := Lib.hid T12.out
        have U13 := Lib.hid T13.out
        have HB2 := Lib.hid (HB1.out.trans (hb2.mono (by have := HB1.out.size; have := HS.out; omega)))
        have hn1 := HN.out.1
        have hn2 := HN.out.2
        clear hb2 S7 T12 T13 HB1 o7 o3 o4
        go_wp2_with fail
        refine wp_region_named fun fra hfra => ?_
        have o0 : tm fra 0 = .string x := by rw [hfra]; rfl
        have o1 : tm fra 1 = .int .i8 k := by rw [hfra]; rfl
        have o3 : tm fra 3 = .int .u32 i := by rw [hfra]; rfl
        have o4 : tm fra 4 = .int .u32 j := by rw [hfra]; rfl
        have o7 : tm fra 7 = .pointer (some ⟨c, 0, none⟩) := by rw [hfra]; rfl
        have o11 : tm fra 11 = .string tt := by rw [hfra]; rfl
        have o12 : tm fra 12 = .pointer (some ⟨g0, 0, none⟩) := by rw [hfra]; rfl
        have o13 : tm fra 13 = .pointer (some ⟨g1, 0, none⟩) := by rw [hfra]; rfl
        have o14 : tm fra 14 = .int .i64 n := by rw [hfra]; rfl
        have sz : fra.tmps.size = 77 := by rw [hfra]; rfl
        clear hn1 hn2
        obtain ⟨PL, hPL⟩ : ∃ PL : List (Value → World → Prop), PL = [(fun v _ => v = .string x), (IsBytes x), (fun v _ => v = .agg (dc X)), (fun v _ => v = .int .i8 k), (fun v _ => v = .int .i64 k), (fun v _ => v = .agg (dc W)), (fun v _ => v = .string tt), (IsBytes tt), (fun v _ => v = .agg (dc W)), (fun v _ => v = .bool true), (fun v _ => v = .bool true), (fun v _ => v = .agg (dc d)), (fun v _ => v = .int .u32 i), (fun v _ => v = .int .i64 i), (fun v _ => v = .int .u32 j), (fun v _ => v = .int .i64 j), (fun v _ => v = .int .i64 (ij : Nat)), (fun v _ => v = .agg (dc SS)), (fun v _ => v = .agg (dc X9)), (fun v _ => v = .agg (dc Y9)), (fun v _ => v = .agg (dc SS)), (fun v _ => v = .bool true), (fun v _ => v = .bool true), (fun v _ => v = .bool true), (fun v _ => v = .agg (dc X9)), (fun v _ => v = .int .i64 n), (fun v _ => v = .agg (dc M)), (fun v _ => v = .agg (dc d)), (fun v _ => v = .int .u32 i), (fun v _ => v = .int .i64 i), (fun v _ => v = .int .i64 n), (fun v _ => v = .int .i64 (m : Nat)), (fun v _ => v = .agg (dc M)), (fun v _ => v = .bool true), (fun v _ => v = .bool true), (fun v _ => v = .bool true)] := ⟨_, rfl⟩
        have hmono : AllMono PL := by rw [hPL]; exact ⟨mono_det _, mono_bytes _, mono_det _, mono_det _, mono_det _, mono_det _, mono_det _, mono_bytes _, mono_det _, mono_det _, mono_det _, mono_det _, mono_det _, mono_det _, mono_det _, mono_det _, mono_det _, mono_det _, mono_det _, mono_det _, mono_det _, mono_det _, mono_det _, mono_det _, mono_det _, mono_det _, mono_det _, mono_det _, mono_det _, mono_det _, mono_det _, mono_det _, mono_det _, mono_det _, mono_det _, mono_det _, trivial⟩
        have P0 : ∀ v w, PL.getD 0 (fun _ _ => True) v w = (fun v _ => v = .string x) v w := fun v w => by rw [hPL]; rfl
        have P1 : ∀ v w, PL.getD 1 (fun _ _ => True) v w = (IsBytes x) v w := fun v w => by rw [hPL]; rfl
        have P2 : ∀ v w, PL.getD 2 (fun _ _ => True) v w = (fun v _ => v = .agg (dc X)) v w := fun v w => by rw [hPL]; rfl
        have P3 : ∀ v w, PL.getD 3 (fun _ _ => True) v w = (fun v _ => v = .int .i8 k) v w := fun v w => by rw [hPL]; rfl
        have P4 : ∀ v w, PL.getD 4 (fun _ _ => True) v w = (fun v _ => v = .int .i64 k) v w := fun v w => by rw [hPL]; rfl
        have P5 : ∀ v w, PL.getD 5 (fun _ _ => True) v w = (fun v _ => v = .agg (dc W)) v w := fun v w => by rw [hPL]; rfl
        have P6 : ∀ v w, PL.getD 6 (fun _ _ => True) v w = (fun v _ => v = .string tt) v w := fun v w => by rw [hPL]; rfl
        have P7 : ∀ v w, PL.getD 7 (fun _ _ => True) v w = (IsBytes tt) v w := fun v w => by rw [hPL]; rfl
        have P8 : ∀ v w, PL.getD 8 (fun _ _ => True) v w = (fun v _ => v = .agg (dc W)) v w := fun v w => by rw [hPL]; rfl
        have P9 : ∀ v w, PL.getD 9 (fun _ _ => True) v w = (fun v _ => v = .bool true) v w := fun v w => by rw [hPL]; rfl
        have P10 : ∀ v w, PL.getD 10 (fun _ _ => True) v w = (fun v _ => v = .bool true) v w := fun v w => by rw [hPL]; rfl
        have P11 : ∀ v w, PL.getD 11 (fun _ _ => True) v w = (fun v _ => v = .agg (dc d)) v w := fun v w => by rw [hPL]; rfl
        have P12 : ∀ v w, PL.getD 12 (fun _ _ => True) v w = (fun v _ => v = .int .u32 i) v w := fun v w => by rw [hPL]; rfl
        have P13 : ∀ v w, PL.getD 13 (fun _ _ => True) v w = (fun v _ => v = .int .i64 i) v w := fun v w => by rw [hPL]; rfl
        have P14 : ∀ v w, PL.getD 14 (fun _ _ => True) v w = (fun v _ => v = .int .u32 j) v w := fun v w => by rw [hPL]; rfl
        have P15 : ∀ v w, PL.getD 15 (fun _ _ => True) v w = (fun v _ => v = .int .i64 j) v w := fun v w => by rw [hPL]; rfl
        have P16 : ∀ v w, PL.getD 16 (fun _ _ => True) v w = (fun v _ => v = .int .i64 (ij : Nat)) v w := fun v w => by rw [hPL]; rfl
        have P17 : ∀ v w, PL.getD 17 (fun _ _ => True) v w = (fun v _ => v = .agg (dc SS)) v w := fun v w => by rw [hPL]; rfl
        have P18 : ∀ v w, PL.getD 18 (fun _ _ => True) v w = (fun v _ => v = .agg (dc X9)) v w := fun v w => by rw [hPL]; rfl
        have P19 : ∀ v w, PL.getD 19 (fun _ _ => True) v w = (fun v _ => v = .agg (dc Y9)) v w := fun v w => by rw [hPL]; rfl
        have P20 : ∀ v w, PL.getD 20 (fun _ _ => True) v w = (fun v _ => v = .agg (dc SS)) v w := fun v w => by rw [hPL]; rfl
        have P21 : ∀ v w, PL.getD 21 (fun _ _ => True) v w = (fun v _ => v = .bool true) v w := fun v w => by rw [hPL]; rfl
        have P22 : ∀ v w, PL.getD 22 (fun _ _ => True) v w = (fun v _ => v = .bool true) v w := fun v w => by rw [hPL]; rfl
        have P23 : ∀ v w, PL.getD 23 (fun _ _ => True) v w = (fun v _ => v = .bool true) v w := fun v w => by rw [hPL]; rfl
        have P24 : ∀ v w, PL.getD 24 (fun _ _ => True) v w = (fun v _ => v = .agg (dc X9)) v w := fun v w => by rw [hPL]; rfl
        have P25 : ∀ v w, PL.getD 25 (fun _ _ => True) v w = (fun v _ => v = .int .i64 n) v w := fun v w => by rw [hPL]; rfl
        have P26 : ∀ v w, PL.getD 26 (fun _ _ => True) v w = (fun v _ => v = .agg (dc M)) v w := fun v w => by rw [hPL]; rfl
        have P27 : ∀ v w, PL.getD 27 (fun _ _ => True) v w = (fun v _ => v = .agg (dc d)) v w := fun v w => by rw [hPL]; rfl
        have P28 : ∀ v w, PL.getD 28 (fun _ _ => True) v w = (fun v _ => v = .int .u32 i) v w := fun v w => by rw [hPL]; rfl
        have P29 : ∀ v w, PL.getD 29 (fun _ _ => True) v w = (fun v _ => v = .int .i64 i) v w := fun v w => by rw [hPL]; rfl
        have P30 : ∀ v w, PL.getD 30 (fun _ _ => True) v w = (fun v _ => v = .int .i64 n) v w := fun v w => by rw [hPL]; rfl
        have P31 : ∀ v w, PL.getD 31 (fun _ _ => True) v w = (fun v _ => v = .int .i64 (m : Nat)) v w := fun v w => by rw [hPL]; rfl
        have P32 : ∀ v w, PL.getD 32 (fun _ _ => True) v w = (fun v _ => v = .agg (dc M)) v w := fun v w => by rw [hPL]; rfl
        have P33 : ∀ v w, PL.getD 33 (fun _ _ => True) v w = (fun v _ => v = .bool true) v w := fun v w => by rw [hPL]; rfl
        have P34 : ∀ v w, PL.getD 34 (fun _ _ => True) v w = (fun v _ => v = .bool true) v w := fun v w => by rw [hPL]; rfl
        have P35 : ∀ v w, PL.getD 35 (fun _ _ => True) v w = (fun v _ => v = .bool true) v w := fun v w => by rw [hPL]; rfl
        refine wp_region_by0 (by kernel_rfl) (fun j => PL.getD j (fun _ _ => True)) (by rw [sz]; kernel_rfl) (fun j => all_mono hmono j) ?_ ?_
        · intro j hj a' w' hb O D K hK
          have hc : j = 0 ∨ j = 1 ∨ j = 2 ∨ j = 3 ∨ j = 4 ∨ j = 5 ∨ j = 6 ∨ j = 7 ∨ j = 8 ∨ j = 9 ∨ j = 10 ∨ j = 11 ∨ j = 12 ∨ j = 13 ∨ j = 14 ∨ j = 15 ∨ j = 16 ∨ j = 17 ∨ j = 18 ∨ j = 19 ∨ j = 20 ∨ j = 21 ∨ j = 22 ∨ j = 23 ∨ j = 24 ∨ j = 25 ∨ j = 26 ∨ j = 27 ∨ j = 28 ∨ j = 29 ∨ j = 30 ∨ j = 31 ∨ j = 32 ∨ j = 33 ∨ j = 34 ∨ j = 35 := by
            have h3 : j < 36 := hj
            omega
          clear hmono hj
          rcases hc with rfl | rfl | rfl | rfl | rfl | rfl | rfl | rfl | rfl | rfl | rfl | rfl | rfl | rfl | rfl | rfl | rfl | rfl | rfl | rfl | rfl | rfl | rfl | rfl | rfl | rfl | rfl | rfl | rfl | rfl | rfl | rfl | rfl | rfl | rfl | rfl
          · refine wpOp_of rfl rfl ?_
            have e0 := (O 0 (by kernel_rfl)).trans o0
            replace hK : K (a'.put (some 42) (.string x)) w' := hK _ _ (Below.refl _ _) ((P0 _ _).mpr rfl)
            have e0' := tm_simp e0
            clear O D
            go_simp
            exact hK
          · refine wpOp_of rfl rfl ?_
            have e42 : tm a' 42 = .string x := (P0 _ _).mp (D 0 42 (by kernel_rfl))
            exact wp_bytes _ rfl (eval_of e42) fun A c w2 hb9 hr2 => hK _ _ hb9 ((P1 _ _).mpr ⟨A, c, rfl, hr2⟩)
          · refine wpOp_of rfl rfl ?_
            have e43 := (P1 _ _).mp (D 1 43 (by kernel_rfl))
            replace hK : ∀ w'', Below w'.heap.size w' w'' → K (a'.put (some 44) (.agg (dc X))) w'' := fun w'' hb => hK _ _ hb ((P2 _ _).mpr rfl)
            obtain ⟨A, c, eA, hr⟩ := e43
            have eA' := tm_simp eA
            clear O D
            go_simp
            go_at_call 15
            refine (G1.out A c _ hr).mono ?_
            rintro e w3 ⟨rfl, hb9⟩
            exact hK _ hb9
          · refine wpOp_of rfl rfl ?_
            have e1 := (O 1 (by kernel_rfl)).trans o1
            replace hK : K (a'.put (some 45) (.int .i8 k)) w' := hK _ _ (Below.refl _ _) ((P3 _ _).mpr rfl)
            have e1' := tm_simp e1
            clear O D
            go_simp
            exact hK
          · refine wpOp_of rfl rfl ?_
            have e45 : tm a' 45 = .int .i8 k := (P3 _ _).mp (D 3 45 (by kernel_rfl))
            replace hK : K (a'.put (some 46) (.int .i64 k)) w' := hK _ _ (Below.refl _ _) ((P4 _ _).mpr rfl)
            have e45' := tm_simp e45
            have hw' := HWk.out
            clear O D
            go_simp
            exact hK
          · refine wpOp_of rfl rfl ?_
            have e44 : tm a' 44 = .agg (dc X) := (P2 _ _).mp (D 2 44 (by kernel_rfl))
            have e46 : tm a' 46 = .int .i64 k := (P4 _ _).mp (D 4 46 (by kernel_rfl))
            replace hK : ∀ w'', Below w'.heap.size w' w'' → K (a'.put (some 47) (.agg (dc W))) w'' := fun w'' hb => hK _ _ hb ((P5 _ _).mpr rfl)
            have e44' := tm_simp e44
            have e46' := tm_simp e46
            clear O D
            go_simp
            go_at_call 20
            refine (CW.out _).mono ?_
            rintro e w3 ⟨rfl, hb9⟩
            exact hK _ hb9
          · refine wpOp_of rfl rfl ?_
            have e11 := (O 11 (by kernel_rfl)).trans o11
            replace hK : K (a'.put (some 48) (.string tt)) w' := hK _ _ (Below.refl _ _) ((P6 _ _).mpr rfl)
            have e11' := tm_simp e11
            clear O D
            go_simp
            exact hK
          · refine wpOp_of rfl rfl ?_
            have e48 : tm a' 48 = .string tt := (P6 _ _).mp (D 6 48 (by kernel_rfl))
            exact wp_bytes _ rfl (eval_of e48) fun A c w2 hb9 hr2 => hK _ _ hb9 ((P7 _ _).mpr ⟨A, c, rfl, hr2⟩)
          · refine wpOp_of rfl rfl ?_
            have e49 := (P7 _ _).mp (D 7 49 (by kernel_rfl))
            replace hK : ∀ w'', Below w'.heap.size w' w'' → K (a'.put (some 50) (.agg (dc W))) w'' := fun w'' hb => hK _ _ hb ((P8 _ _).mpr rfl)
            obtain ⟨A, c, eA, hr⟩ := e49
            have eA' := tm_simp eA
            clear O D
            go_simp
            go_at_call 14
            refine (G2.out A c _ hr).mono ?_
            rintro e w3 ⟨rfl, hb9⟩
            exact hK _ hb9
          · refine wpOp_of rfl rfl ?_
            have e47 : tm a' 47 = .agg (dc W) := (P5 _ _).mp (D 5 47 (by kernel_rfl))
            have e50 : tm a' 50 = .agg (dc W) := (P8 _ _).mp (D 8 50 (by kernel_rfl))
            replace hK : K (a'.put (some 51) (.bool true)) w' := hK _ _ (Below.refl _ _) ((P9 _ _).mpr rfl)
            have e47' := tm_simp e47
            have e50' := tm_simp e50
            clear O D
            go_simp
            exact hK
          · refine wpOp_of rfl rfl ?_
            have e51 : tm a' 51 = .bool true := (P9 _ _).mp (D 9 51 (by kernel_rfl))
            replace hK : K (a'.put (some 52) (.bool true)) w' := hK _ _ (Below.refl _ _) ((P10 _ _).mpr rfl)
            have e51' := tm_simp e51
            clear O D
            go_simp
            exact hK
          · have hg : tm a' 52 = .bool true := (P10 _ _).mp (D 10 52 (by kernel_rfl))
            refine wpOp_on 10 true 52 rfl rfl rfl hg ?_
            have e7 := (O 7 (by kernel_rfl)).trans o7
            exact wp_loadR aggD (U7.out.below' hb) _ rfl (eval_of e7) (hK _ _ (Below.refl _ _) ((P11 _ _).mpr rfl))
          · have hg : tm a' 52 = .bool true := (P10 _ _).mp (D 10 52 (by kernel_rfl))
            refine wpOp_on 10 true 52 rfl rfl rfl hg ?_
            have e3 := (O 3 (by kernel_rfl)).trans o3
            replace hK : K (a'.put (some 54) (.int .u32 i)) w' := hK _ _ (Below.refl _ _) ((P12 _ _).mpr rfl)
            have e3' := tm_simp e3
            clear O D
            go_simp
            exact hK
          · have hg : tm a' 52 = .bool true := (P10 _ _).mp (D 10 52 (by kernel_rfl))
            refine wpOp_on 10 true 52 rfl rfl rfl hg ?_
            have e54 : tm a' 54 = .int .u32 i := (P12 _ _).mp (D 12 54 (by kernel_rfl))
            replace hK : K (a'.put (some 55) (.int .i64 i)) w' := hK _ _ (Below.refl _ _) ((P13 _ _).mpr rfl)
            have e54' := tm_simp e54
            have hw' := HWi.out
            clear O D
            go_simp
            exact hK
          · have hg : tm a' 52 = .bool true := (P10 _ _).mp (D 10 52 (by kernel_rfl))
            refine wpOp_on 10 true 52 rfl rfl rfl hg ?_
            have e4 := (O 4 (by kernel_rfl)).trans o4
            replace hK : K (a'.put (some 56) (.int .u32 j)) w' := hK _ _ (Below.refl _ _) ((P14 _ _).mpr rfl)
            have e4' := tm_simp e4
            clear O D
            go_simp
            exact hK
          · have hg : tm a' 52 = .bool true := (P10 _ _).mp (D 10 52 (by kernel_rfl))
            refine wpOp_on 10 true 52 rfl rfl rfl hg ?_
            have e56 : tm a' 56 = .int .u32 j := (P14 _ _).mp (D 14 56 (by kernel_rfl))
            replace hK : K (a'.put (some 57) (.int .i64 j)) w' := hK _ _ (Below.refl _ _) ((P15 _ _).mpr rfl)
            have e56' := tm_simp e56
            have hw' := HWj.out
            clear O D
            go_simp
            exact hK
          · have hg : tm a' 52 = .bool true := (P10 _ _).mp (D 10 52 (by kernel_rfl))
            refine wpOp_on 10 true 52 rfl rfl rfl hg ?_
            have e55 : tm a' 55 = .int .i64 i := (P13 _ _).mp (D 13 55 (by kernel_rfl))
            have e57 : tm a' 57 = .int .i64 j := (P15 _ _).mp (D 15 57 (by kernel_rfl))
            replace hK : K (a'.put (some 58) (.int .i64 (ij : Nat))) w' := hK _ _ (Below.refl _ _) ((P16 _ _).mpr rfl)
            have e55' := tm_simp e55
            have e57' := tm_simp e57
            have hw1 := HIJ.out.1
            have hw2 := HIJ.out.2
            clear O D
            go_simp
            exact hK
          · have hg : tm a' 52 = .bool true := (P10 _ _).mp (D 10 52 (by kernel_rfl))
            refine wpOp_on 10 true 52 rfl rfl rfl hg ?_
            have e53 : tm a' 53 = .agg (dc d) := (P11 _ _).mp (D 11 53 (by kernel_rfl))
            have e58 : tm a' 58 = .int .i64 (ij : Nat) := (P16 _ _).mp (D 16 58 (by kernel_rfl))
            replace hK : ∀ w'', Below w'.heap.size w' w'' → K (a'.put (some 59) (.agg (dc SS))) w'' := fun w'' hb => hK _ _ hb ((P17 _ _).mpr rfl)
            have e53' := tm_simp e53
            have e58' := tm_simp e58
            clear O D
            go_simp
            go_at_call 20
            refine (CS.out _).mono ?_
            rintro e w3 ⟨rfl, hb9⟩
            exact hK _ hb9
          · have hg : tm a' 52 = .bool true := (P10 _ _).mp (D 10 52 (by kernel_rfl))
            refine wpOp_on 10 true 52 rfl rfl rfl hg ?_
            have e12 := (O 12 (by kernel_rfl)).trans o12
            exact wp_loadR aggD (U12.out.below' hb) _ rfl (eval_of e12) (hK _ _ (Below.refl _ _) ((P18 _ _).mpr rfl))
          · have hg : tm a' 52 = .bool true := (P10 _ _).mp (D 10 52 (by kernel_rfl))
            refine wpOp_on 10 true 52 rfl rfl rfl hg ?_
            have e13 := (O 13 (by kernel_rfl)).trans o13
            exact wp_loadR aggD (U13.out.below' hb) _ rfl (eval_of e13) (hK _ _ (Below.refl _ _) ((P19 _ _).mpr rfl))
          · have hg : tm a' 52 = .bool true := (P10 _ _).mp (D 10 52 (by kernel_rfl))
            refine wpOp_on 10 true 52 rfl rfl rfl hg ?_
            have e60 : tm a' 60 = .agg (dc X9) := (P18 _ _).mp (D 18 60 (by kernel_rfl))
            have e61 : tm a' 61 = .agg (dc Y9) := (P19 _ _).mp (D 19 61 (by kernel_rfl))
            replace hK : ∀ w'', Below w'.heap.size w' w'' → K (a'.put (some 62) (.agg (dc SS))) w'' := fun w'' hb => hK _ _ hb ((P20 _ _).mpr rfl)
            have e60' := tm_simp e60
            have e61' := tm_simp e61
            clear O D
            go_simp
            go_at_call 16
            refine (CJ.out _).mono ?_
            rintro e w3 ⟨rfl, hb9⟩
            exact hK _ hb9
          · have hg : tm a' 52 = .bool true := (P10 _ _).mp (D 10 52 (by kernel_rfl))
            refine wpOp_on 10 true 52 rfl rfl rfl hg ?_
            have e59 : tm a' 59 = .agg (dc SS) := (P17 _ _).mp (D 17 59 (by kernel_rfl))
            have e62 : tm a' 62 = .agg (dc SS) := (P20 _ _).mp (D 20 62 (by kernel_rfl))
            replace hK : K (a'.put (some 63) (.bool true)) w' := hK _ _ (Below.refl _ _) ((P21 _ _).mpr rfl)
            have e59' := tm_simp e59
            have e62' := tm_simp e62
            clear O D
            go_simp
            exact hK
          · refine wpOp_of rfl rfl ?_
            have e52 : tm a' 52 = .bool true := (P10 _ _).mp (D 10 52 (by kernel_rfl))
            have e63 : tm a' 63 = .bool true := (P21 _ _).mp (D 21 63 (by kernel_rfl))
            replace hK : K (a'.put (some 64) (.bool true)) w' := hK _ _ (Below.refl _ _) ((P22 _ _).mpr rfl)
            have e52' := tm_simp e52
            have e63' := tm_simp e63
            clear O D
            go_simp
            exact hK
          · refine wpOp_of rfl rfl ?_
            have e64 : tm a' 64 = .bool true := (P22 _ _).mp (D 22 64 (by kernel_rfl))
            replace hK : K (a'.put (some 65) (.bool true)) w' := hK _ _ (Below.refl _ _) ((P23 _ _).mpr rfl)
            have e64' := tm_simp e64
            clear O D
            go_simp
            exact hK
          · have hg : tm a' 65 = .bool true := (P23 _ _).mp (D 23 65 (by kernel_rfl))
            refine wpOp_on 23 true 65 rfl rfl rfl hg ?_
            have e12 := (O 12 (by kernel_rfl)).trans o12
            exact wp_loadR aggD (U12.out.below' hb) _ rfl (eval_of e12) (hK _ _ (Below.refl _ _) ((P24 _ _).mpr rfl))
          · have hg : tm a' 65 = .bool true := (P23 _ _).mp (D 23 65 (by kernel_rfl))
            refine wpOp_on 23 true 65 rfl rfl rfl hg ?_
            have e14 := (O 14 (by kernel_rfl)).trans o14
            replace hK : K (a'.put (some 67) (.int .i64 n)) w' := hK _ _ (Below.refl _ _) ((P25 _ _).mpr rfl)
            have e14' := tm_simp e14
            clear O D
            go_simp
            exact hK
          · have hg : tm a' 65 = .bool true := (P23 _ _).mp (D 23 65 (by kernel_rfl))
            refine wpOp_on 23 true 65 rfl rfl rfl hg ?_
            have e66 : tm a' 66 = .agg (dc X9) := (P24 _ _).mp (D 24 66 (by kernel_rfl))
            have e67 : tm a' 67 = .int .i64 n := (P25 _ _).mp (D 25 67 (by kernel_rfl))
            replace hK : ∀ w'', Below w'.heap.size w' w'' → K (a'.put (some 68) (.agg (dc M))) w'' := fun w'' hb => hK _ _ hb ((P26 _ _).mpr rfl)
            have e66' := tm_simp e66
            have e67' := tm_simp e67
            clear O D
            go_simp
            go_at_call 20
            refine (CN.out _).mono ?_
            rintro e w3 ⟨rfl, hb9⟩
            exact hK _ hb9
          · have hg : tm a' 65 = .bool true := (P23 _ _).mp (D 23 65 (by kernel_rfl))
            refine wpOp_on 23 true 65 rfl rfl rfl hg ?_
            have e7 := (O 7 (by kernel_rfl)).trans o7
            exact wp_loadR aggD (U7.out.below' hb) _ rfl (eval_of e7) (hK _ _ (Below.refl _ _) ((P27 _ _).mpr rfl))
          · have hg : tm a' 65 = .bool true := (P23 _ _).mp (D 23 65 (by kernel_rfl))
            refine wpOp_on 23 true 65 rfl rfl rfl hg ?_
            have e3 := (O 3 (by kernel_rfl)).trans o3
            replace hK : K (a'.put (some 70) (.int .u32 i)) w' := hK _ _ (Below.refl _ _) ((P28 _ _).mpr rfl)
            have e3' := tm_simp e3
            clear O D
            go_simp
            exact hK
          · have hg : tm a' 65 = .bool true := (P23 _ _).mp (D 23 65 (by kernel_rfl))
            refine wpOp_on 23 true 65 rfl rfl rfl hg ?_
            have e70 : tm a' 70 = .int .u32 i := (P28 _ _).mp (D 28 70 (by kernel_rfl))
            replace hK : K (a'.put (some 71) (.int .i64 i)) w' := hK _ _ (Below.refl _ _) ((P29 _ _).mpr rfl)
            have e70' := tm_simp e70
            have hw' := HWi.out
            clear O D
            go_simp
            exact hK
          · have hg : tm a' 65 = .bool true := (P23 _ _).mp (D 23 65 (by kernel_rfl))
            refine wpOp_on 23 true 65 rfl rfl rfl hg ?_
            have e14 := (O 14 (by kernel_rfl)).trans o14
            replace hK : K (a'.put (some 72) (.int .i64 n)) w' := hK _ _ (Below.refl _ _) ((P30 _ _).mpr rfl)
            have e14' := tm_simp e14
            clear O D
            go_simp
            exact hK
          · have hg : tm a' 65 = .bool true := (P23 _ _).mp (D 23 65 (by kernel_rfl))
            refine wpOp_on 23 true 65 rfl rfl rfl hg ?_
            have e71 : tm a' 71 = .int .i64 i := (P29 _ _).mp (D 29 71 (by kernel_rfl))
            have e72 : tm a' 72 = .int .i64 n := (P30 _ _).mp (D 30 72 (by kernel_rfl))
            replace hK : K (a'.put (some 73) (.int .i64 (m : Nat))) w' := hK _ _ (Below.refl _ _) ((P31 _ _).mpr rfl)
            have e71' := tm_simp e71
            have e72' := tm_simp e72
            have hw1 := HM.out.1
            have hw2 := HM.out.2
            clear O D
            go_simp
            exact hK
          · have hg : tm a' 65 = .bool true := (P23 _ _).mp (D 23 65 (by kernel_rfl))
            refine wpOp_on 23 true 65 rfl rfl rfl hg ?_
            have e69 : tm a' 69 = .agg (dc d) := (P27 _ _).mp (D 27 69 (by kernel_rfl))
            have e73 : tm a' 73 = .int .i64 (m : Nat) := (P31 _ _).mp (D 31 73 (by kernel_rfl))
            replace hK : ∀ w'', Below w'.heap.size w' w'' → K (a'.put (some 74) (.agg (dc M))) w'' := fun w'' hb => hK _ _ hb ((P32 _ _).mpr rfl)
            have e69' := tm_simp e69
            have e73' := tm_simp e73
            clear O D
            go_simp
            go_at_call 20
            refine (CM.out _).mono ?_
            rintro e w3 ⟨rfl, hb9⟩
            exact hK _ hb9
          · have hg : tm a' 65 = .bool true := (P23 _ _).mp (D 23 65 (by kernel_rfl))
            refine wpOp_on 23 true 65 rfl rfl rfl hg ?_
            have e68 : tm a' 68 = .agg (dc M) := (P26 _ _).mp (D 26 68 (by kernel_rfl))
            have e74 : tm a' 74 = .agg (dc M) := (P32 _ _).mp (D 32 74 (by kernel_rfl))
            replace hK : K (a'.put (some 75) (.bool true)) w' := hK _ _ (Below.refl _ _) ((P33 _ _).mpr rfl)
            have e68' := tm_simp e68
            have e74' := tm_simp e74
            clear O D
            go_simp
            exact hK
          · refine wpOp_of rfl rfl ?_
            have e65 : tm a' 65 = .bool true := (P23 _ _).mp (D 23 65 (by kernel_rfl))
            have e75 : tm a' 75 = .bool true := (P33 _ _).mp (D 33 75 (by kernel_rfl))
            replace hK : K (a'.put (some 76) (.bool true)) w' := hK _ _ (Below.refl _ _) ((P34 _ _).mpr rfl)
            have e65' := tm_simp e65
            have e75' := tm_simp e75
            clear O D
            go_simp
            exact hK
          · refine wpOp_of rfl rfl ?_
            have e76 : tm a' 76 = .bool true := (P34 _ _).mp (D 34 76 (by kernel_rfl))
            replace hK : K (a'.put (some 10) (.bool true)) w' := hK _ _ (Below.refl _ _) ((P35 _ _).mpr rfl)
            have e76' := tm_simp e76
            clear O D
            go_simp
            exact hK
        · intro V w9 hb9 hV
          have v0 : V 0 = .string x := (P0 _ _).mp (hV 0 (by show 0 < 36; omega))
          have v1 := (P1 _ _).mp (hV 1 (by show 1 < 36; omega))
          have v2 : V 2 = .agg (dc X) := (P2 _ _).mp (hV 2 (by show 2 < 36; omega))
          have v3 : V 3 = .int .i8 k := (P3 _ _).mp (hV 3 (by show 3 < 36; omega))
          have v4 : V 4 = .int .i64 k := (P4 _ _).mp (hV 4 (by show 4 < 36; omega))
          have v5 : V 5 = .agg (dc W) := (P5 _ _).mp (hV 5 (by show 5 < 36; omega))
          have v6 : V 6 = .string tt := (P6 _ _).mp (hV 6 (by show 6 < 36; omega))
          have v7 := (P7 _ _).mp (hV 7 (by show 7 < 36; omega))
          have v8 : V 8 = .agg (dc W) := (P8 _ _).mp (hV 8 (by show 8 < 36; omega))
          have v9 : V 9 = .bool true := (P9 _ _).mp (hV 9 (by show 9 < 36; omega))
          have v10 : V 10 = .bool true := (P10 _ _).mp (hV 10 (by show 10 < 36; omega))
          have v11 : V 11 = .agg (dc d) := (P11 _ _).mp (hV 11 (by show 11 < 36; omega))
          have v12 : V 12 = .int .u32 i := (P12 _ _).mp (hV 12 (by show 12 < 36; omega))
          have v13 : V 13 = .int .i64 i := (P13 _ _).mp (hV 13 (by show 13 < 36; omega))
          have v14 : V 14 = .int .u32 j := (P14 _ _).mp (hV 14 (by show 14 < 36; omega))
          have v15 : V 15 = .int .i64 j := (P15 _ _).mp (hV 15 (by show 15 < 36; omega))
          have v16 : V 16 = .int .i64 (ij : Nat) := (P16 _ _).mp (hV 16 (by show 16 < 36; omega))
          have v17 : V 17 = .agg (dc SS) := (P17 _ _).mp (hV 17 (by show 17 < 36; omega))
          have v18 : V 18 = .agg (dc X9) := (P18 _ _).mp (hV 18 (by show 18 < 36; omega))
          have v19 : V 19 = .agg (dc Y9) := (P19 _ _).mp (hV 19 (by show 19 < 36; omega))
          have v20 : V 20 = .agg (dc SS) := (P20 _ _).mp (hV 20 (by show 20 < 36; omega))
          have v21 : V 21 = .bool true := (P21 _ _).mp (hV 21 (by show 21 < 36; omega))
          have v22 : V 22 = .bool true := (P22 _ _).mp (hV 22 (by show 22 < 36; omega))
          have v23 : V 23 = .bool true := (P23 _ _).mp (hV 23 (by show 23 < 36; omega))
          have v24 : V 24 = .agg (dc X9) := (P24 _ _).mp (hV 24 (by show 24 < 36; omega))
          have v25 : V 25 = .int .i64 n := (P25 _ _).mp (hV 25 (by show 25 < 36; omega))
          have v26 : V 26 = .agg (dc M) := (P26 _ _).mp (hV 26 (by show 26 < 36; omega))
          have v27 : V 27 = .agg (dc d) := (P27 _ _).mp (hV 27 (by show 27 < 36; omega))
          have v28 : V 28 = .int .u32 i := (P28 _ _).mp (hV 28 (by show 28 < 36; omega))
          have v29 : V 29 = .int .i64 i := (P29 _ _).mp (hV 29 (by show 29 < 36; omega))
          have v30 : V 30 = .int .i64 n := (P30 _ _).mp (hV 30 (by show 30 < 36; omega))
          have v31 : V 31 = .int .i64 (m : Nat) := (P31 _ _).mp (hV 31 (by show 31 < 36; omega))
          have v32 : V 32 = .agg (dc M) := (P32 _ _).mp (hV 32 (by show 32 < 36; omega))
          have v33 : V 33 = .bool true := (P33 _ _).mp (hV 33 (by show 33 < 36; omega))
          have v34 : V 34 = .bool true := (P34 _ _).mp (hV 34 (by show 34 < 36; omega))
          have v35 : V 35 = .bool true := (P35 _ _).mp (hV 35 (by show 35 < 36; omega))
          show Exit.then _ _ _ (puts [some 42, some 43, some 44, some 45, some 46, some 47, some 48, some 49, some 50, some 51, some 52, some 53, some 54, some 55, some 56, some 57, some 58, some 59, some 60, some 61, some 62, some 63, some 64, some 65, some 66, some 67, some 68, some 69, some 70, some 71, some 72, some 73, some 74, some 75, some 76, some 10] V 0 fra) w9
          simp only [puts, Nat.zero_add, Nat.reduceAdd, v0, v2, v3, v4, v5, v6, v8, v9, v10, v11, v12, v13, v14, v15, v16, v17, v18, v19, v20, v21, v22, v23, v24, v25, v26, v27, v28, v29, v30, v31, v32, v33, v34, v35]
          simp only [hfra]
          clear hV hmono hPL hfra sz v0 v2 v3 v4 v5 v6 v8 v9 v10 v11 v12 v13 v14 v15 v16 v17 v18 v19 v20 v21 v22 v23 v24 v25 v26 v27 v28 v29 v30 v31 v32 v33 v34 v35
          clear P0 P1 P2 P3 P4 P5 P6 P7 P8 P9 P10 P11 P12 P13 P14 P15 P16 P17 P18 P19 P20 P21 P22 P23 P24 P25 P26 P27 P28 P29 P30 P31 P32 P33 P34 P35
          go_simp
          have HB9 := Lib.hid (HB2.out.trans (hb9.mono (by have := HB2.out.size; have := HS.out; omega)))
          go_wp2
          go_ret
          exact ⟨rfl, by rw [HS.out]; exact HB9.out⟩
end Go.Proofs.Ytlhennbimgjohaa
