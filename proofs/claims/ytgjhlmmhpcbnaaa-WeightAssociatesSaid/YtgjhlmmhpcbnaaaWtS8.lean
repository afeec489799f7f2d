/-
  WeightAssociates: the walk.
-/
import Derived.Test.YtgjhlmmhpcbnaaaWtT
import Derived.Test.YtgjhlmmhpcbnaaaReg
namespace Go.Proofs.Ytgjhlmmhpcbnaaa
open Go.RowKit
set_option linter.unusedVariables false
theorem guard_o : Try.prog.eqGuardType Try.prog.depth 48 = false := by kernel_rfl
theorem equal_o (r : Wt) (e : Int) (w : World) : (Op.equalIn 10000 48 (.agg (oc r e)) (.agg (oc r e))).run Try.prog w = .ok true w := by
  obtain ⟨a, b, c, d, v, s⟩ := r
  unfold oc
  have i0 := run_equalIn_int (P := Try.prog) w 9998 3 .i64 .i64 e e Try.underlying3
  have i1 := fun (x : Int) => run_equalIn_int (P := Try.prog) w 9997 3 .i64 .i64 x x Try.underlying3
  have i2 := fun (x : Int) => run_equalIn_int (P := Try.prog) w 9996 23 .u64 .u64 x x Try.underlying23
  have hd := run_equalIn_struct (P := Try.prog) w 9997 25 #[.int .u64 v, .int .u64 s] #[.int .u64 v, .int .u64 s] (by kernel_rfl) (by kernel_rfl)
  have hw := run_equalIn_struct (P := Try.prog) w 9998 27 #[.int .i64 a, .int .i64 b, .int .i64 c, .int .i64 d, .int .u64 v, .int .u64 s] #[.int .i64 a, .int .i64 b, .int .i64 c, .int .i64 d, .int .u64 v, .int .u64 s] (by kernel_rfl) (by kernel_rfl)
  rw [run_equalIn_struct w 9999 48 _ _ (by kernel_rfl) (by kernel_rfl)]
  go_simp
theorem both {a b c : Wt} (ga : Good a) (gb' : Good b) (gc : Good c) : ∃ V E, (∀ w, Calls Try.prog 24 #[.agg (w3 a b c)] w fun e w' => e = .returned (.agg (oc V E)) ∧ Below w.heap.size w w') ∧ (∀ w, Calls Try.prog 25 #[.agg (w3 a b c)] w fun e w' => e = .returned (.agg (oc V E)) ∧ Below w.heap.size w w') := by
  have a0 := ga.l0
  have b0 := gb'.l0
  have c0 := gc.l0
  have a1 := ga.l1
  have c1 := gc.l1
  by_cases h : 1152921504606846976 < a.l + b.l + c.l
  · refine ⟨wZ, 2, fun w => ?_, fun w => ?_⟩
    · by_cases h1 : 1152921504606846976 < a.l + b.l
      · exact left_stop a b c wZ 2 w (fun w => join_long a b w ga gb' h1) rfl
      · exact left_go a b c wZ (wj a b) 2 _ w (fun w => join_ok a b w ga gb' (by omega)) (fun w => join_long (wj a b) c w (good_j ga gb' (by omega)) gc h) (fun w => num_some 2 w)
    · by_cases h1 : 1152921504606846976 < b.l + c.l
      · exact right_stop a b c wZ 2 w (fun w => join_long b c w gb' gc h1) rfl
      · exact right_go a b c wZ (wj b c) 2 _ w (fun w => join_ok b c w gb' gc (by omega)) (fun w => join_long a (wj b c) w ga (good_j gb' gc (by omega)) (by show _ < a.l + (b.l + c.l); omega)) (fun w => num_some 2 w)
  · refine ⟨wj (wj a b) c, 0, fun w => ?_, fun w => ?_⟩
    · exact left_go a b c _ (wj a b) 0 _ w (fun w => join_ok a b w ga gb' (by omega)) (fun w => join_ok (wj a b) c w (good_j ga gb' (by omega)) gc (by show a.l + b.l + c.l ≤ _; omega)) (fun w => num_nil w)
    · rw [wj_assoc ga.wl.n0 gb'.wl.n0 gc.wl.n0]
      exact right_go a b c _ (wj b c) 0 _ w (fun w => join_ok b c w gb' gc (by omega)) (fun w => join_ok a (wj b c) w ga (good_j gb' gc (by omega)) (by show a.l + (b.l + c.l) ≤ _; omega)) (fun w => num_nil w)
def nth (a b c : Wt) (j : Nat) : Wt := if j = 0 then a else if j = 1 then b else c
theorem ix3 (a b c : Wt) (w : World) : ∀ m, m < 3 → (Instr.index 46 (.agg (w3 a b c)) (.int .i64 (m : Nat))).run Try.prog w = .ok (.agg (wc (nth a b c m))) w
  | 0, _ => by kernel_rfl
  | 1, _ => by kernel_rfl
  | 2, _ => by kernel_rfl
set_option maxRecDepth 20000 in
set_option maxHeartbeats 6400000 in
theorem assoc_walk (a b c : Wt) (w : World) (ha : W64 a) (hb : W64 b) (hc : W64 c) :
    Calls Try.prog 9 #[.agg (wc3 a b c)] w fun e w' => e = .returned (.bool true) ∧ Below w.heap.size w w' := by
  rw [wc3_lit]
  have HA := Lib.hid alive_true
  have HU := Lib.hid w_unit
  have HV := Lib.hid (fun j u (hj : j < 3) => w_valid (nth a b c j) u (by
    match j, hj with
    | 0, _ => exact ha
    | 1, _ => exact hb
    | 2, _ => exact hc))
  have HBO := Lib.hid (fun (h : ∀ j, j < 3 → Good (nth a b c j)) => both (a := a) (b := b) (c := c) (h 0 (by omega)) (h 1 (by omega)) (h 2 (by omega)))
  have HIX := Lib.hid (ix3 a b c)
  have ge := guard_w
  have ee := equal_w
  have go := guard_o
  have eo := equal_o
  have z0 := w_zero
  obtain ⟨s, hs⟩ : ∃ s, w.heap.size = s := ⟨_, rfl⟩
  have HB0 := Lib.hid ((Below.refl w.heap.size w).alloc (Nat.le_refl _) (Obj.cells (w3 a b c) 46))
  have R1 := Lib.hid (Row.new w 46 (w3 a b c))
  rw [hs] at R1 HB0
  have HS := Lib.hid hs
  obtain ⟨X3, hX3⟩ : ∃ x, x = w3 a b c := ⟨_, rfl⟩
  have hsz3 : X3.size = 18 := by rw [hX3]; rfl
  have ag3 : AggT 46 X3.size := by rw [hsz3]; exact agg3
  rw [← hX3] at R1 HB0 HIX HBO ⊢
  clear ha hb hc hX3 hsz3
  go_enter Try.func9, Try.ntmps9
  go_wp2_with fail
  clear hs
  refine (HA.out _).mono ?_
  rintro e w1 ⟨rfl, hb1⟩
  have S1 := Lib.hid (R1.out.below' hb1)
  have HB1 := Lib.hid (HB0.out.trans (hb1.mono (by have := HB0.out.size; have := HS.out; omega)))
  clear hb1 R1 HB0
  go_wp2_with (first | ((with_reducible refine wpList_loadR ag3 S1.out rfl _ rfl ?_ ?_); (go_simp <;> fail); go_simp))
  go_loopw [12] (fun i wr => ∃ m : Nat, m ≤ 3 ∧ i = .int .i64 m ∧ Hid (Below s w wr) ∧ Hid (Row wr s 46 X3) ∧ Hid (∀ j, j < m → Good (nth a b c j))) (fun i _ => 3 - (intOf i).toNat)
  case atStart => exact ⟨0, by omega, rfl, HB1, S1, Lib.hid (fun j hj => by omega)⟩
  case round =>
    clear HB1 S1
    obtain ⟨m, hm, rfl, HB1, S1, HG⟩ := hrel
    by_cases hlt : m < 3
    · have ix := fun w => HIX.out w m hlt
      have K1 := Lib.hid (fun u => HV.out m u hlt)
      obtain ⟨r, hr⟩ : ∃ r, r = nth a b c m := ⟨_, rfl⟩
      have HR := Lib.hid hr
      rw [← hr] at ix K1
      clear hr
      by_cases g : Good r
      · have K2 := Lib.hid (fun u => gb_true g ▸ K1.out u)
        have J1 := Lib.hid (fun u => wj_right g.wl ▸ join_ok r wU u g good_U (by show r.l + 0 ≤ _; have := g.l1; omega))
        have J2 := Lib.hid (fun u => wj_left g.wl ▸ join_ok wU r u good_U g (by show 0 + r.l ≤ _; have := g.l1; omega))
        have HGG := Lib.hid g
        clear K1 g
        go_wp2_with (first | ((with_reducible refine wpList_newR (c' := wc r) aggW rfl (wc_one _) rfl _ _ rfl ?_ ?_ ?_); (go_simp <;> fail); (first | (go_simp <;> fail) | exact rfl); go_simp; have R4 := Lib.hid (Row.new wr 27 (wc r)); have S2 := Lib.hid (S1.out.alloc (.cells (wc r) 27)); have HB5 := Lib.hid (HB1.out.alloc (by have hh := HB1.out.size; have := HS.out; omega) (.cells (wc r) 27)); revert R4 S2 HB5; generalize wr.alloc (.cells (wc r) 27) = w5; intro R4 S2 HB5) | ((with_reducible refine wpList_loadR aggW R4.out rfl _ rfl ?_ ?_); (go_simp <;> fail); go_simp) | (go_at_call 14; (with_reducible refine (K2.out _).mono ?_); rintro e w6 ⟨rfl, hb⟩; have S4 := Lib.hid (R4.out.below' hb); have S3 := Lib.hid (S2.out.below' hb); have HB6 := Lib.hid (HB5.out.trans (hb.mono (by have := HB5.out.size; have := HS.out; omega))); clear hb R4 S2 HB5))
        refine wp_region_named fun fra hfra => ?_
        have o4 : tm fra 4 = .pointer (some ⟨wr.heap.size, 0, none⟩) := by rw [hfra]; rfl
        have sz : fra.tmps.size = 52 := by rw [hfra]; rfl
        obtain ⟨PL, hPL⟩ : ∃ PL : List (Value → World → Prop), PL = [(fun v _ => v = .agg (wc r)), (fun v _ => v = .agg (wc wU)), (fun v _ => v = .tuple #[.agg (wc r), .nilIface]), (fun v _ => v = .tuple #[.agg (wc r), .nilIface]), (fun v _ => v = .agg (wc r)), (fun v _ => v = .nilIface), (fun _ _ => True), (fun _ _ => True), (fun v _ => v = .nilIface)] := ⟨_, rfl⟩
        have hmono : AllMono PL := by rw [hPL]; exact ⟨mono_det _, mono_det _, mono_det _, mono_det _, mono_det _, mono_det _, mono_top, mono_top, mono_det _, trivial⟩
        have P0 : ∀ v w, PL.getD 0 (fun _ _ => True) v w = (fun v _ => v = .agg (wc r)) v w := fun v w => by rw [hPL]; rfl
        have P1 : ∀ v w, PL.getD 1 (fun _ _ => True) v w = (fun v _ => v = .agg (wc wU)) v w := fun v w => by rw [hPL]; rfl
        have P2 : ∀ v w, PL.getD 2 (fun _ _ => True) v w = (fun v _ => v = .tuple #[.agg (wc r), .nilIface]) v w := fun v w => by rw [hPL]; rfl
        have P3 : ∀ v w, PL.getD 3 (fun _ _ => True) v w = (fun v _ => v = .tuple #[.agg (wc r), .nilIface]) v w := fun v w => by rw [hPL]; rfl
        have P4 : ∀ v w, PL.getD 4 (fun _ _ => True) v w = (fun v _ => v = .agg (wc r)) v w := fun v w => by rw [hPL]; rfl
        have P5 : ∀ v w, PL.getD 5 (fun _ _ => True) v w = (fun v _ => v = .nilIface) v w := fun v w => by rw [hPL]; rfl
        have P8 : ∀ v w, PL.getD 8 (fun _ _ => True) v w = (fun v _ => v = .nilIface) v w := fun v w => by rw [hPL]; rfl
        have hkeep : AllKeep PL := by rw [hPL]; exact ⟨keep_det _, keep_det _, keep_det _, keep_det _, keep_det _, keep_det _, keep_top, keep_top, keep_det _, trivial⟩
        refine wp_region_by (by kernel_rfl) (fun j => PL.getD j (fun _ _ => True)) 6 7 1 (fun _ => 27) (fun _ => wc wZ) (fun i => [wc r].getD i #[]) (by rw [sz]; kernel_rfl) (fun j => all_mono hmono j) (fun j v w g i _ _ h => all_keep hkeep j v w g _ h) ?_ ?_ ?_ rfl ?_
        · intro j hj hn a' w' hb OX DX K hK
          have hc : j = 0 ∨ j = 1 ∨ j = 2 ∨ j = 3 ∨ j = 4 ∨ j = 5 ∨ j = 8 := by
            have h3 : j < 9 := hj
            have := normB_iff.1 hn
            omega
          clear hmono hj
          rcases hc with rfl | rfl | rfl | rfl | rfl | rfl | rfl
          · refine wpOp_of rfl rfl ?_
            have e4 := (OX 4 (by kernel_rfl)).trans o4
            exact wp_loadR aggW (S4.out.below' hb) _ rfl (eval_of e4) (hK _ _ (Below.refl _ _) ((P0 _ _).mpr rfl))
          · refine wpOp_of rfl rfl ?_
            replace hK : ∀ w'', Below w'.heap.size w' w'' → K (a'.put (some 20) (.agg (wc wU))) w'' := fun w'' hb => hK _ _ hb ((P1 _ _).mpr rfl)
            clear OX DX
            go_simp
            go_at_call 16
            refine (HU.out _).mono ?_
            rintro e w2 ⟨rfl, hb2⟩
            exact hK _ hb2
          · refine wpOp_of rfl rfl ?_
            have e19 : tm a' 19 = .agg (wc r) := (P0 _ _).mp (DX 0 19 (by kernel_rfl))
            have e20 : tm a' 20 = .agg (wc wU) := (P1 _ _).mp (DX 1 20 (by kernel_rfl))
            replace hK : ∀ w'', Below w'.heap.size w' w'' → K (a'.put (some 21) (.tuple #[.agg (wc r), .nilIface])) w'' := fun w'' hb => hK _ _ hb ((P2 _ _).mpr rfl)
            have e19' := tm_simp e19
            have e20' := tm_simp e20
            clear OX DX
            go_simp
            go_at_call 19
            refine (J1.out _).mono ?_
            rintro e w2 ⟨rfl, hb2⟩
            exact hK _ hb2
          · refine wpOp_of rfl rfl ?_
            have e21 : tm a' 21 = .tuple #[.agg (wc r), .nilIface] := (P2 _ _).mp (DX 2 21 (by kernel_rfl))
            replace hK : K (a'.put (some 18) (.tuple #[.agg (wc r), .nilIface])) w' := hK _ _ (Below.refl _ _) ((P3 _ _).mpr rfl)
            have e21' := tm_simp e21
            clear OX DX
            go_simp
            exact hK
          · refine wpOp_of rfl rfl ?_
            have e18 : tm a' 18 = .tuple #[.agg (wc r), .nilIface] := (P3 _ _).mp (DX 3 18 (by kernel_rfl))
            replace hK : K (a'.put (some 22) (.agg (wc r))) w' := hK _ _ (Below.refl _ _) ((P4 _ _).mpr rfl)
            have e18' := tm_simp e18
            clear OX DX
            go_simp
            exact hK
          · refine wpOp_of rfl rfl ?_
            have e18 : tm a' 18 = .tuple #[.agg (wc r), .nilIface] := (P3 _ _).mp (DX 3 18 (by kernel_rfl))
            replace hK : K (a'.put (some 23) (.nilIface)) w' := hK _ _ (Below.refl _ _) ((P5 _ _).mpr rfl)
            have e18' := tm_simp e18
            clear OX DX
            go_simp
            exact hK
          · refine wpOp_of rfl rfl ?_
            have e23 : tm a' 23 = .nilIface := (P5 _ _).mp (DX 5 23 (by kernel_rfl))
            replace hK : K (a'.put (some 6) (.nilIface)) w' := hK _ _ (Below.refl _ _) ((P8 _ _).mpr rfl)
            have e23' := tm_simp e23
            clear OX DX
            go_simp
            exact hK
        · intro i hi a' w' K hK
          have hc : i = 0 := by omega
          rcases hc with rfl
          · refine wpOp_of rfl rfl ?_
            replace hK : K (a'.put (some 5) (.pointer (some ⟨w'.heap.size, 0, none⟩))) (w'.alloc (.cells (wc wZ) 27)) := hK
            go_simp
            exact hK
        · intro i hi a' w' g' d OX DX hd hg hrow K hK
          have hc : i = 0 := by omega
          rcases hc with rfl
          · obtain rfl : 5 = d := Option.some.inj hd
            have ev : tm a' 22 = .agg (wc r) := (P4 _ _).mp (DX 4 22 (by kernel_rfl))
            exact wpOp_of rfl rfl (wp_storeR (c' := wc r) aggW hrow rfl (wc_one _) _ _ rfl (eval_of hg) (eval_of ev) hK)
        · intro V G w7 hbw7 hV hG hge
          have v0 : V 0 = .agg (wc r) := (P0 _ _).mp (hV 0 rfl)
          have v1 : V 1 = .agg (wc wU) := (P1 _ _).mp (hV 1 rfl)
          have v2 : V 2 = .tuple #[.agg (wc r), .nilIface] := (P2 _ _).mp (hV 2 rfl)
          have v3 : V 3 = .tuple #[.agg (wc r), .nilIface] := (P3 _ _).mp (hV 3 rfl)
          have v4 : V 4 = .agg (wc r) := (P4 _ _).mp (hV 4 rfl)
          have v5 : V 5 = .nilIface := (P5 _ _).mp (hV 5 rfl)
          have v8 : V 8 = .nilIface := (P8 _ _).mp (hV 8 rfl)
          have v6 := (hG 0 (by omega)).1
          have T5 := Lib.hid (show Row w7 (G 0) 27 (wc r) from (hG 0 (by omega)).2)
          obtain ⟨g5, hg0⟩ : ∃ g, g = G 0 := ⟨_, rfl⟩
          rw [← hg0] at v6 T5
          show Exit.then _ _ _ (puts [some 19, some 20, some 21, some 18, some 22, some 23, some 5, none, some 6] V 0 fra) w7
          simp only [Nat.reduceAdd] at v6
          simp only [puts, Nat.zero_add, Nat.reduceAdd, v0, v1, v2, v3, v4, v5, v8, v6]
          simp only [hfra]
          clear hV hG hge hmono hkeep hPL hfra sz v0 v1 v2 v3 v4 v5 v8 v6 hg0
          clear P0 P1 P2 P3 P4 P5 P8
          go_simp
          have X4 := Lib.hid (S4.out.below' hbw7)
          have X1 := Lib.hid (S3.out.below' hbw7)
          have HB7 := Lib.hid (HB6.out.trans (hbw7.mono (by have := HB6.out.size; have := HS.out; omega)))
          clear hbw7 HB6 S4 S3
          clear o4
          go_wp2_with fail
          refine wp_region_named fun fra hfra => ?_
          have o4 : tm fra 4 = .pointer (some ⟨wr.heap.size, 0, none⟩) := by rw [hfra]; rfl
          have sz : fra.tmps.size = 52 := by rw [hfra]; rfl
          obtain ⟨PL, hPL⟩ : ∃ PL : List (Value → World → Prop), PL = [(fun v _ => v = .agg (wc wU)), (fun v _ => v = .agg (wc r)), (fun v _ => v = .tuple #[.agg (wc r), .nilIface]), (fun v _ => v = .tuple #[.agg (wc r), .nilIface]), (fun v _ => v = .agg (wc r)), (fun v _ => v = .nilIface), (fun _ _ => True), (fun _ _ => True), (fun v _ => v = .nilIface)] := ⟨_, rfl⟩
          have hmono : AllMono PL := by rw [hPL]; exact ⟨mono_det _, mono_det _, mono_det _, mono_det _, mono_det _, mono_det _, mono_top, mono_top, mono_det _, trivial⟩
          have P0 : ∀ v w, PL.getD 0 (fun _ _ => True) v w = (fun v _ => v = .agg (wc wU)) v w := fun v w => by rw [hPL]; rfl
          have P1 : ∀ v w, PL.getD 1 (fun _ _ => True) v w = (fun v _ => v = .agg (wc r)) v w := fun v w => by rw [hPL]; rfl
          have P2 : ∀ v w, PL.getD 2 (fun _ _ => True) v w = (fun v _ => v = .tuple #[.agg (wc r), .nilIface]) v w := fun v w => by rw [hPL]; rfl
          have P3 : ∀ v w, PL.getD 3 (fun _ _ => True) v w = (fun v _ => v = .tuple #[.agg (wc r), .nilIface]) v w := fun v w => by rw [hPL]; rfl
          have P4 : ∀ v w, PL.getD 4 (fun _ _ => True) v w = (fun v _ => v = .agg (wc r)) v w := fun v w => by rw [hPL]; rfl
          have P5 : ∀ v w, PL.getD 5 (fun _ _ => True) v w = (fun v _ => v = .nilIface) v w := fun v w => by rw [hPL]; rfl
          have P8 : ∀ v w, PL.getD 8 (fun _ _ => True) v w = (fun v _ => v = .nilIface) v w := fun v w => by rw [hPL]; rfl
          have hkeep : AllKeep PL := by rw [hPL]; exact ⟨keep_det _, keep_det _, keep_det _, keep_det _, keep_det _, keep_det _, keep_top, keep_top, keep_det _, trivial⟩
          refine wp_region_by (by kernel_rfl) (fun j => PL.getD j (fun _ _ => True)) 6 7 1 (fun _ => 27) (fun _ => wc wZ) (fun i => [wc r].getD i #[]) (by rw [sz]; kernel_rfl) (fun j => all_mono hmono j) (fun j v w g i _ _ h => all_keep hkeep j v w g _ h) ?_ ?_ ?_ rfl ?_
          · intro j hj hn a' w' hb OX DX K hK
            have hc : j = 0 ∨ j = 1 ∨ j = 2 ∨ j = 3 ∨ j = 4 ∨ j = 5 ∨ j = 8 := by
              have h3 : j < 9 := hj
              have := normB_iff.1 hn
              omega
            clear hmono hj
            rcases hc with rfl | rfl | rfl | rfl | rfl | rfl | rfl
            · refine wpOp_of rfl rfl ?_
              replace hK : ∀ w'', Below w'.heap.size w' w'' → K (a'.put (some 25) (.agg (wc wU))) w'' := fun w'' hb => hK _ _ hb ((P0 _ _).mpr rfl)
              clear OX DX
              go_simp
              go_at_call 16
              refine (HU.out _).mono ?_
              rintro e w2 ⟨rfl, hb2⟩
              exact hK _ hb2
            · refine wpOp_of rfl rfl ?_
              have e4 := (OX 4 (by kernel_rfl)).trans o4
              exact wp_loadR aggW (X4.out.below' hb) _ rfl (eval_of e4) (hK _ _ (Below.refl _ _) ((P1 _ _).mpr rfl))
            · refine wpOp_of rfl rfl ?_
              have e25 : tm a' 25 = .agg (wc wU) := (P0 _ _).mp (DX 0 25 (by kernel_rfl))
              have e26 : tm a' 26 = .agg (wc r) := (P1 _ _).mp (DX 1 26 (by kernel_rfl))
              replace hK : ∀ w'', Below w'.heap.size w' w'' → K (a'.put (some 27) (.tuple #[.agg (wc r), .nilIface])) w'' := fun w'' hb => hK _ _ hb ((P2 _ _).mpr rfl)
              have e25' := tm_simp e25
              have e26' := tm_simp e26
              clear OX DX
              go_simp
              go_at_call 19
              refine (J2.out _).mono ?_
              rintro e w2 ⟨rfl, hb2⟩
              exact hK _ hb2
            · refine wpOp_of rfl rfl ?_
              have e27 : tm a' 27 = .tuple #[.agg (wc r), .nilIface] := (P2 _ _).mp (DX 2 27 (by kernel_rfl))
              replace hK : K (a'.put (some 24) (.tuple #[.agg (wc r), .nilIface])) w' := hK _ _ (Below.refl _ _) ((P3 _ _).mpr rfl)
              have e27' := tm_simp e27
              clear OX DX
              go_simp
              exact hK
            · refine wpOp_of rfl rfl ?_
              have e24 : tm a' 24 = .tuple #[.agg (wc r), .nilIface] := (P3 _ _).mp (DX 3 24 (by kernel_rfl))
              replace hK : K (a'.put (some 28) (.agg (wc r))) w' := hK _ _ (Below.refl _ _) ((P4 _ _).mpr rfl)
              have e24' := tm_simp e24
              clear OX DX
              go_simp
              exact hK
            · refine wpOp_of rfl rfl ?_
              have e24 : tm a' 24 = .tuple #[.agg (wc r), .nilIface] := (P3 _ _).mp (DX 3 24 (by kernel_rfl))
              replace hK : K (a'.put (some 29) (.nilIface)) w' := hK _ _ (Below.refl _ _) ((P5 _ _).mpr rfl)
              have e24' := tm_simp e24
              clear OX DX
              go_simp
              exact hK
            · refine wpOp_of rfl rfl ?_
              have e29 : tm a' 29 = .nilIface := (P5 _ _).mp (DX 5 29 (by kernel_rfl))
              replace hK : K (a'.put (some 8) (.nilIface)) w' := hK _ _ (Below.refl _ _) ((P8 _ _).mpr rfl)
              have e29' := tm_simp e29
              clear OX DX
              go_simp
              exact hK
          · intro i hi a' w' K hK
            have hc : i = 0 := by omega
            rcases hc with rfl
            · refine wpOp_of rfl rfl ?_
              replace hK : K (a'.put (some 7) (.pointer (some ⟨w'.heap.size, 0, none⟩))) (w'.alloc (.cells (wc wZ) 27)) := hK
              go_simp
              exact hK
          · intro i hi a' w' g' d OX DX hd hg hrow K hK
            have hc : i = 0 := by omega
            rcases hc with rfl
            · obtain rfl : 7 = d := Option.some.inj hd
              have ev : tm a' 28 = .agg (wc r) := (P4 _ _).mp (DX 4 28 (by kernel_rfl))
              exact wpOp_of rfl rfl (wp_storeR (c' := wc r) aggW hrow rfl (wc_one _) _ _ rfl (eval_of hg) (eval_of ev) hK)
          · intro V G w8 hbw8 hV hG hge
            have v0 : V 0 = .agg (wc wU) := (P0 _ _).mp (hV 0 rfl)
            have v1 : V 1 = .agg (wc r) := (P1 _ _).mp (hV 1 rfl)
            have v2 : V 2 = .tuple #[.agg (wc r), .nilIface] := (P2 _ _).mp (hV 2 rfl)
            have v3 : V 3 = .tuple #[.agg (wc r), .nilIface] := (P3 _ _).mp (hV 3 rfl)
            have v4 : V 4 = .agg (wc r) := (P4 _ _).mp (hV 4 rfl)
            have v5 : V 5 = .nilIface := (P5 _ _).mp (hV 5 rfl)
            have v8 : V 8 = .nilIface := (P8 _ _).mp (hV 8 rfl)
            have v6 := (hG 0 (by omega)).1
            have T7 := Lib.hid (show Row w8 (G 0) 27 (wc r) from (hG 0 (by omega)).2)
            obtain ⟨g7, hg0⟩ : ∃ g, g = G 0 := ⟨_, rfl⟩
            rw [← hg0] at v6 T7
            show Exit.then _ _ _ (puts [some 25, some 26, some 27, some 24, some 28, some 29, some 7, none, some 8] V 0 fra) w8
            simp only [Nat.reduceAdd] at v6
            simp only [puts, Nat.zero_add, Nat.reduceAdd, v0, v1, v2, v3, v4, v5, v8, v6]
            simp only [hfra]
            clear hV hG hge hmono hkeep hPL hfra sz v0 v1 v2 v3 v4 v5 v8 v6 hg0
            clear P0 P1 P2 P3 P4 P5 P8
            go_simp
            have Y4 := Lib.hid (X4.out.below' hbw8)
            have Z1 := Lib.hid (X1.out.below' hbw8)
            have Y5 := Lib.hid (T5.out.below' hbw8)
            have HB9 := Lib.hid (HB7.out.trans (hbw8.mono (by have := HB7.out.size; have := HS.out; omega)))
            clear hbw8 HB7 X4 X1 T5
            go_wp2_with (first | ((with_reducible refine wpList_loadR_g aggW Y4.out ?_ _ rfl ?_ ?_); exact rfl; (go_simp <;> fail); go_simp) | ((with_reducible refine wpList_loadR_g aggW Y5.out ?_ _ rfl ?_ ?_); exact rfl; (go_simp <;> fail); go_simp) | ((with_reducible refine wpList_loadR_g aggW T7.out ?_ _ rfl ?_ ?_); exact rfl; (go_simp <;> fail); go_simp))
            go_roundw
            case rel => exact ⟨m + 1, by omega, by go_num, HB9, Z1, Lib.hid (fun j hj => by
              by_cases e : j = m
              · rw [e, ← HR.out]; exact HGG.out
              · exact HG.out j (by omega))⟩
            case measure => simp [intOf]; try omega
      · have K2 := Lib.hid (fun u => gb_false g ▸ K1.out u)
        clear K1 g
        go_wp2_with (first | ((with_reducible refine wpList_newR (c' := wc r) aggW rfl (wc_one _) rfl _ _ rfl ?_ ?_ ?_); (go_simp <;> fail); (first | (go_simp <;> fail) | exact rfl); go_simp; have R4 := Lib.hid (Row.new wr 27 (wc r)); have S2 := Lib.hid (S1.out.alloc (.cells (wc r) 27)); have HB5 := Lib.hid (HB1.out.alloc (by have hh := HB1.out.size; have := HS.out; omega) (.cells (wc r) 27)); revert R4 S2 HB5; generalize wr.alloc (.cells (wc r) 27) = w5; intro R4 S2 HB5) | ((with_reducible refine wpList_loadR aggW R4.out rfl _ rfl ?_ ?_); (go_simp <;> fail); go_simp) | (go_at_call 14; (with_reducible refine (K2.out _).mono ?_); rintro e w6 ⟨rfl, hb⟩; have S4 := Lib.hid (R4.out.below' hb); have S3 := Lib.hid (S2.out.below' hb); have HB6 := Lib.hid (HB5.out.trans (hb.mono (by have := HB5.out.size; have := HS.out; omega))); clear hb R4 S2 HB5))
        go_ret
        exact ⟨rfl, by rw [HS.out]; exact HB6.out⟩
    · obtain rfl : m = 3 := by omega
      clear hlt
      obtain ⟨V, E, cl, cr⟩ := HBO.out HG.out
      have CL := Lib.hid cl
      have CR := Lib.hid cr
      clear cl cr HG
      go_wp2_with fail
      refine wp_region_later (by kernel_rfl) (by kernel_rfl) ?_
      repeat (first | go_big_quiet_skip | (go_big_quiet_want; first | (with_reducible refine quiet_loadR ag3 S1.out _ rfl ?_ ?_; (go_simp <;> fail); go_simp; go_big_quiet_on) | (go_big_quiet_op; first | go_big_quiet_on | go_big_quiet_call (first | with_reducible exact calls_later (CL.out _) | with_reducible exact calls_later (CR.out _)))))
      refine wpQuiet_nil ?_
      rintro w6 ⟨u, rfl⟩
      go_wp2
      go_ret
      exact ⟨rfl, by rw [HS.out]; exact HB1.out.trans ((below_later wr u).mono (by have := HB1.out.size; have := HS.out; omega))⟩
end Go.Proofs.Ytgjhlmmhpcbnaaa
