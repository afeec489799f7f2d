/-
  WeightAssociates: three weights in a row, outcomes, left and right.
-/
import Derived.Test.YtgjhlmmhpcbnaaaWtF
import Derived.Test.YtgjhlmmhpcbnaaaWtK
namespace Go.Proofs.Ytgjhlmmhpcbnaaa
open Go.RowKit
set_option linter.unusedVariables false
def w3 (a b c : Wt) : Array Value := #[.int .i64 a.l, .int .i64 a.n, .int .i64 a.h, .int .i64 a.t, .int .u64 a.d.1, .int .u64 a.d.2, .int .i64 b.l, .int .i64 b.n, .int .i64 b.h, .int .i64 b.t, .int .u64 b.d.1, .int .u64 b.d.2, .int .i64 c.l, .int .i64 c.n, .int .i64 c.h, .int .i64 c.t, .int .u64 c.d.1, .int .u64 c.d.2]
theorem wc3_lit (a b c : Wt) : wc3 a b c = w3 a b c := by simp [wc3, wc, w3]
theorem agg3 : AggT 46 18 := ⟨⟨_, Try.underlying46, rfl⟩, by kernel_rfl⟩
/-- An outcome: a weight and an error's number. -/
def oc (r : Wt) (e : Int) : Array Value := #[.int .i64 r.l, .int .i64 r.n, .int .i64 r.h, .int .i64 r.t, .int .u64 r.d.1, .int .u64 r.d.2, .int .i64 e]
theorem aggO : AggT 48 7 := ⟨⟨_, Try.underlying48, rfl⟩, by kernel_rfl⟩
theorem oc_one (r : Wt) (e : Int) : (oc r e).all (·.oneCell') = true := by simp [oc]; exact ⟨rfl, rfl, rfl, rfl, rfl, rfl, rfl⟩
theorem o_info : (Try.prog.info? 48).map (fun i => (i.zero, i.size)) = some (some (.agg #[.int .i64 0, .int .i64 0, .int .i64 0, .int .i64 0, .int .u64 0, .int .u64 0, .int .i64 0]), 7) := by kernel_rfl
theorem o_zero (w : World) : (zeroValue 48).run Try.prog w = .ok (.agg (oc wZ 0)) w := (zero_of_info o_info).1 w
theorem wpList_loadV {ops : Array Oper} {rest : List Oper} {o : Oper} {a : Act} {w : World} {Q : Exit → Act → World → Prop} {ty : TypeId} {p : Addr} {v : Value} (hgd : o.guard = none) (x : Operand) (ho : o.op = .load ty x) (hx : a.eval x = .pointer (some p)) (hl : (loadVar ty p).run Try.prog w = .ok v w) (h : wpList Try.prog ops Q rest (a.put o.dst v) w) : wpList Try.prog ops Q (o :: rest) a w := by
  refine wpList_plain hgd fun K hK => ?_
  unfold Oper.wp execOp
  simp only [ho, hx, Instr.loadAt, Instr.sureAddr, Sem.run_bind, Sem.run_pure, Result.andThen_ok, hl]
  exact hK _ _ h
theorem build_o (V : Wt) (E : Int) (w : World) : (Instr.build 48 #[(0, Value.agg (wc V)), (1, Value.int .i64 E)]).run Try.prog w = .ok (.agg (oc V E)) w := by kernel_rfl
theorem wpList_buildO {ops : Array Oper} {rest : List Oper} {o : Oper} {a : Act} {w : World} {Q : Exit → Act → World → Prop} {V : Wt} {E : Int} (hgd : o.guard = none) (x y : Operand) (ho : o.op = .build 48 #[(0, x), (1, y)]) (hx : a.eval x = .agg (wc V)) (hy : a.eval y = .int .i64 E) (h : wpList Try.prog ops Q rest (a.put o.dst (.agg (oc V E))) w) : wpList Try.prog ops Q (o :: rest) a w := by
  refine wpList_plain hgd fun K hK => ?_
  unfold Oper.wp execOp
  simp only [ho, List.map_toArray, List.map_cons, List.map_nil, hx, hy, Sem.run_bind, Sem.run_pure, Result.andThen_ok, build_o]
  exact hK _ _ h
theorem load3a {w : World} {g : Nat} {t : TypeId} {a b c : Wt} (h : Row w g t (w3 a b c)) : (loadVar 27 ⟨g, 0, none⟩).run Try.prog w = .ok (.agg (wc a)) w :=
  run_loadVar_mid w g 0 27 [.int .i64 a.l, .int .i64 a.n, .int .i64 a.h, .int .i64 a.t, .int .u64 a.d.1, .int .u64 a.d.2] _ (fun j v hv => by
    rw [h.cell]
    match j, hv with
    | 0, hv => cases hv; rfl
    | 1, hv => cases hv; rfl
    | 2, hv => cases hv; rfl
    | 3, hv => cases hv; rfl
    | 4, hv => cases hv; rfl
    | 5, hv => cases hv; rfl) Try.underlying27 rfl (by kernel_rfl)
theorem load3b {w : World} {g : Nat} {t : TypeId} {a b c : Wt} (h : Row w g t (w3 a b c)) : (loadVar 27 ⟨g, 6, none⟩).run Try.prog w = .ok (.agg (wc b)) w :=
  run_loadVar_mid w g 6 27 [.int .i64 b.l, .int .i64 b.n, .int .i64 b.h, .int .i64 b.t, .int .u64 b.d.1, .int .u64 b.d.2] _ (fun j v hv => by
    rw [h.cell]
    match j, hv with
    | 0, hv => cases hv; rfl
    | 1, hv => cases hv; rfl
    | 2, hv => cases hv; rfl
    | 3, hv => cases hv; rfl
    | 4, hv => cases hv; rfl
    | 5, hv => cases hv; rfl) Try.underlying27 rfl (by kernel_rfl)
theorem load3c {w : World} {g : Nat} {t : TypeId} {a b c : Wt} (h : Row w g t (w3 a b c)) : (loadVar 27 ⟨g, 12, none⟩).run Try.prog w = .ok (.agg (wc c)) w :=
  run_loadVar_mid w g 12 27 [.int .i64 c.l, .int .i64 c.n, .int .i64 c.h, .int .i64 c.t, .int .u64 c.d.1, .int .u64 c.d.2] _ (fun j v hv => by
    rw [h.cell]
    match j, hv with
    | 0, hv => cases hv; rfl
    | 1, hv => cases hv; rfl
    | 2, hv => cases hv; rfl
    | 3, hv => cases hv; rfl
    | 4, hv => cases hv; rfl
    | 5, hv => cases hv; rfl) Try.underlying27 rfl (by kernel_rfl)
set_option maxRecDepth 20000 in
set_option maxHeartbeats 1600000 in
theorem left_stop (a b c V : Wt) (E : Int) (w : World) (h : ∀ w, Calls Try.prog 19 #[.agg (wc a), .agg (wc b)] w fun e w' => e = .returned (.tuple #[.agg (wc V), .iface 52 (.int .i64 E)]) ∧ Below w.heap.size w w') (hV : V = wZ) :
    Calls Try.prog 24 #[.agg (w3 a b c)] w fun e w' => e = .returned (.agg (oc V E)) ∧ Below w.heap.size w w' := by
  subst hV
  have H1 := Lib.hid h
  have HN := Lib.hid (fun w => num_some E w)
  have z0 := o_zero
  have z1 := w_zero
  obtain ⟨s, hs⟩ : ∃ s, w.heap.size = s := ⟨_, rfl⟩
  have HB0 := Lib.hid (((Below.refl w.heap.size w).alloc (Nat.le_refl _) (Obj.cells (w3 a b c) 46)).alloc (by simp) (Obj.cells (oc wZ 0) 48))
  have R1 := Lib.hid ((Row.new w 46 (w3 a b c)).alloc (Obj.cells (oc wZ 0) 48))
  have R2 := Lib.hid (Row.new (w.alloc (Obj.cells (w3 a b c) 46)) 48 (oc wZ 0))
  simp only [World.size_alloc] at R2
  rw [hs] at R1 R2 HB0
  have HS := Lib.hid hs
  clear h
  go_enter Try.func24, Try.ntmps24
  go_wp2_with (first | ((with_reducible refine wpList_loadV rfl _ rfl ?_ (load3a R1.out) ?_); (go_simp <;> fail); go_simp) | ((with_reducible refine wpList_loadV rfl _ rfl ?_ (load3b R1.out) ?_); (go_simp <;> fail); go_simp) | (go_at_call 19; (with_reducible refine (H1.out _).mono ?_); rintro e w1 ⟨rfl, hb⟩; have S1 := Lib.hid (R1.out.below' hb); have S2 := Lib.hid (R2.out.below' hb); have HB1 := Lib.hid (HB0.out.trans (hb.mono (by have := HB0.out.size; have := HS.out; omega))); clear hb HB0 R1 R2) | ((with_reducible refine wpList_newR (c' := wc wZ) aggW rfl (wc_one _) rfl _ _ rfl ?_ ?_ ?_); (go_simp <;> fail); (first | (go_simp <;> fail) | exact rfl); go_simp; have T3 := Lib.hid (Row.new w1 27 (wc wZ)); have T2 := Lib.hid (S2.out.alloc (.cells (wc wZ) 27)); have HB2 := Lib.hid (HB1.out.alloc (by have hs := HB1.out.size; have := HS.out; omega) (.cells (wc wZ) 27)); clear HB1 S2; revert T3 T2 HB2; generalize w1.alloc (.cells (wc wZ) 27) = w2; intro T3 T2 HB2) | (go_at_call 21; with_reducible refine (HN.out _).mono ?_; rintro e w' ⟨rfl, rfl⟩) | ((with_reducible refine wpList_storeR (c' := oc wZ E) aggO T2.out rfl (oc_one _ _) rfl _ _ rfl ?_ ?_ ?_); (go_simp <;> fail); (first | (go_simp <;> fail) | exact rfl); go_simp))
  refine bodyPost_ret (results_cellR (c := oc wZ E) aggO rfl _ (T2.out.setRow _) ?_) rfl ⟨rfl, ?_⟩
  · go_simp
  · rw [HS.out]; exact below_setRow HB2.out (by omega) _
set_option maxRecDepth 20000 in
set_option maxHeartbeats 1600000 in
theorem left_go (a b c V AB : Wt) (E : Int) (EV : Value) (w : World) (h : ∀ w, Calls Try.prog 19 #[.agg (wc a), .agg (wc b)] w fun e w' => e = .returned (.tuple #[.agg (wc AB), .nilIface]) ∧ Below w.heap.size w w') (h2 : ∀ w, Calls Try.prog 19 #[.agg (wc AB), .agg (wc c)] w fun e w' => e = .returned (.tuple #[.agg (wc V), EV]) ∧ Below w.heap.size w w') (hn : ∀ w, Calls Try.prog 21 #[EV] w fun e w' => e = .returned (.int .i64 E) ∧ w = w') :
    Calls Try.prog 24 #[.agg (w3 a b c)] w fun e w' => e = .returned (.agg (oc V E)) ∧ Below w.heap.size w w' := by
  have H1 := Lib.hid h
  have H2 := Lib.hid h2
  have HN := Lib.hid hn
  have z0 := o_zero
  have z1 := w_zero
  obtain ⟨s, hs⟩ : ∃ s, w.heap.size = s := ⟨_, rfl⟩
  have HB0 := Lib.hid (((Below.refl w.heap.size w).alloc (Nat.le_refl _) (Obj.cells (w3 a b c) 46)).alloc (by simp) (Obj.cells (oc wZ 0) 48))
  have R1 := Lib.hid ((Row.new w 46 (w3 a b c)).alloc (Obj.cells (oc wZ 0) 48))
  have R2 := Lib.hid (Row.new (w.alloc (Obj.cells (w3 a b c) 46)) 48 (oc wZ 0))
  simp only [World.size_alloc] at R2
  rw [hs] at R1 R2 HB0
  have HS := Lib.hid hs
  clear h h2 hn
  go_enter Try.func24, Try.ntmps24
  go_wp2_with (first | ((with_reducible refine wpList_loadV rfl _ rfl ?_ (load3a R1.out) ?_); (go_simp <;> fail); go_simp) | ((with_reducible refine wpList_loadV rfl _ rfl ?_ (load3b R1.out) ?_); (go_simp <;> fail); go_simp) | (go_at_call 19; (with_reducible refine (H1.out _).mono ?_); rintro e w1 ⟨rfl, hb⟩; have S1 := Lib.hid (R1.out.below' hb); have S2 := Lib.hid (R2.out.below' hb); have HB1 := Lib.hid (HB0.out.trans (hb.mono (by have := HB0.out.size; have := HS.out; omega))); clear hb HB0 R1 R2) | ((with_reducible refine wpList_newR (c' := wc AB) aggW rfl (wc_one _) rfl _ _ rfl ?_ ?_ ?_); (go_simp <;> fail); (first | (go_simp <;> fail) | exact rfl); go_simp; have T3 := Lib.hid (Row.new w1 27 (wc AB)); have T1 := Lib.hid (S1.out.alloc (.cells (wc AB) 27)); have T2 := Lib.hid (S2.out.alloc (.cells (wc AB) 27)); have HB2 := Lib.hid (HB1.out.alloc (by have hs := HB1.out.size; have := HS.out; omega) (.cells (wc AB) 27)); have L3 := Lib.hid (show s + 1 ≠ w1.heap.size by have hh := S2.out.lt; omega); have L4 := Lib.hid (show s ≤ w1.heap.size by have hh := S2.out.lt; omega); clear HB1 S1 S2; revert T3 T1 T2 HB2; generalize w1.alloc (.cells (wc AB) 27) = w2; intro T3 T1 T2 HB2) | ((with_reducible refine wpList_loadR aggW T3.out rfl _ rfl ?_ ?_); (go_simp <;> fail); go_simp) | ((with_reducible refine wpList_loadV rfl _ rfl ?_ (load3c T1.out) ?_); (go_simp <;> fail); go_simp) | (go_at_call 19; (with_reducible refine (H2.out _).mono ?_); rintro e w3 ⟨rfl, hb⟩; have U2 := Lib.hid (T2.out.below' hb); have U3 := Lib.hid (T3.out.below' hb); have HB3 := Lib.hid (HB2.out.trans (hb.mono (by have := HB2.out.size; have := HS.out; omega))); clear hb HB2 T2 T3) | ((with_reducible refine wpList_storeR (c' := wc V) aggW U3.out rfl (wc_one _) rfl _ _ rfl ?_ ?_ ?_); (go_simp <;> fail); (first | (go_simp <;> fail) | exact rfl); go_simp; have V3 := Lib.hid (U3.out.setRow (wc V)); have V2 := Lib.hid (U2.out.setRow_far L3.out (wc V)); have HB4 := Lib.hid (below_setRow HB3.out L4.out (wc V)); clear U2 U3 HB3; revert V3 V2 HB4; generalize w3.setRow w1.heap.size (wc V) = w4; intro V3 V2 HB4))
  have hz : (wc V).size = 6 := rfl
  refine wp_region_tail 3 (by kernel_rfl) (by kernel_rfl) ?_
  simp only [List.take_succ_cons, List.take_zero, List.drop_succ_cons, List.drop_zero]
  repeat (first | go_big_quiet_skip | (go_big_quiet_want; first | (with_reducible refine quiet_loadR aggW V3.out _ rfl ?_ ?_; (go_simp <;> fail); go_simp; go_big_quiet_on) | (go_big_quiet_op; first | go_big_quiet_on | go_big_quiet_call (with_reducible exact calls_later_eq (HN.out _)))))
  refine wpQuiet_nil ?_
  rintro w5 ⟨u, rfl⟩
  have X2 := Lib.hid (V2.out.later u)
  have HB5 := Lib.hid (HB4.out.trans ((below_later w4 u).mono (by have := HB4.out.size; have := HS.out; omega)))
  go_wp2_with (first | ((with_reducible refine wpList_buildO (V := V) (E := E) rfl _ _ rfl ?_ ?_ ?_); (go_simp <;> fail); (go_simp <;> fail); go_simp) | ((with_reducible refine wpList_storeR (c' := oc V E) aggO X2.out rfl (oc_one _ _) rfl _ _ rfl ?_ ?_ ?_); (go_simp <;> fail); (first | (go_simp <;> fail) | exact rfl); go_simp))
  refine bodyPost_ret (results_cellR (c := oc V E) aggO rfl _ (X2.out.setRow _) ?_) rfl ⟨rfl, ?_⟩
  · go_simp
  · rw [HS.out]; exact below_setRow HB5.out (by omega) _
set_option maxRecDepth 20000 in
set_option maxHeartbeats 1600000 in
theorem right_stop (a b c V : Wt) (E : Int) (w : World) (h : ∀ w, Calls Try.prog 19 #[.agg (wc b), .agg (wc c)] w fun e w' => e = .returned (.tuple #[.agg (wc V), .iface 52 (.int .i64 E)]) ∧ Below w.heap.size w w') (hV : V = wZ) :
    Calls Try.prog 25 #[.agg (w3 a b c)] w fun e w' => e = .returned (.agg (oc V E)) ∧ Below w.heap.size w w' := by
  subst hV
  have H1 := Lib.hid h
  have HN := Lib.hid (fun w => num_some E w)
  have z0 := o_zero
  have z1 := w_zero
  obtain ⟨s, hs⟩ : ∃ s, w.heap.size = s := ⟨_, rfl⟩
  have HB0 := Lib.hid (((Below.refl w.heap.size w).alloc (Nat.le_refl _) (Obj.cells (w3 a b c) 46)).alloc (by simp) (Obj.cells (oc wZ 0) 48))
  have R1 := Lib.hid ((Row.new w 46 (w3 a b c)).alloc (Obj.cells (oc wZ 0) 48))
  have R2 := Lib.hid (Row.new (w.alloc (Obj.cells (w3 a b c) 46)) 48 (oc wZ 0))
  simp only [World.size_alloc] at R2
  rw [hs] at R1 R2 HB0
  have HS := Lib.hid hs
  clear h
  go_enter Try.func25, Try.ntmps25
  go_wp2_with (first | ((with_reducible refine wpList_loadV rfl _ rfl ?_ (load3b R1.out) ?_); (go_simp <;> fail); go_simp) | ((with_reducible refine wpList_loadV rfl _ rfl ?_ (load3c R1.out) ?_); (go_simp <;> fail); go_simp) | (go_at_call 19; (with_reducible refine (H1.out _).mono ?_); rintro e w1 ⟨rfl, hb⟩; have S1 := Lib.hid (R1.out.below' hb); have S2 := Lib.hid (R2.out.below' hb); have HB1 := Lib.hid (HB0.out.trans (hb.mono (by have := HB0.out.size; have := HS.out; omega))); clear hb HB0 R1 R2) | ((with_reducible refine wpList_newR (c' := wc wZ) aggW rfl (wc_one _) rfl _ _ rfl ?_ ?_ ?_); (go_simp <;> fail); (first | (go_simp <;> fail) | exact rfl); go_simp; have T3 := Lib.hid (Row.new w1 27 (wc wZ)); have T2 := Lib.hid (S2.out.alloc (.cells (wc wZ) 27)); have HB2 := Lib.hid (HB1.out.alloc (by have hs := HB1.out.size; have := HS.out; omega) (.cells (wc wZ) 27)); clear HB1 S2; revert T3 T2 HB2; generalize w1.alloc (.cells (wc wZ) 27) = w2; intro T3 T2 HB2) | (go_at_call 21; with_reducible refine (HN.out _).mono ?_; rintro e w' ⟨rfl, rfl⟩) | ((with_reducible refine wpList_storeR (c' := oc wZ E) aggO T2.out rfl (oc_one _ _) rfl _ _ rfl ?_ ?_ ?_); (go_simp <;> fail); (first | (go_simp <;> fail) | exact rfl); go_simp))
  refine bodyPost_ret (results_cellR (c := oc wZ E) aggO rfl _ (T2.out.setRow _) ?_) rfl ⟨rfl, ?_⟩
  · go_simp
  · rw [HS.out]; exact below_setRow HB2.out (by omega) _
set_option maxRecDepth 20000 in
set_option maxHeartbeats 1600000 in
theorem right_go (a b c V AB : Wt) (E : Int) (EV : Value) (w : World) (h : ∀ w, Calls Try.prog 19 #[.agg (wc b), .agg (wc c)] w fun e w' => e = .returned (.tuple #[.agg (wc AB), .nilIface]) ∧ Below w.heap.size w w') (h2 : ∀ w, Calls Try.prog 19 #[.agg (wc a), .agg (wc AB)] w fun e w' => e = .returned (.tuple #[.agg (wc V), EV]) ∧ Below w.heap.size w w') (hn : ∀ w, Calls Try.prog 21 #[EV] w fun e w' => e = .returned (.int .i64 E) ∧ w = w') :
    Calls Try.prog 25 #[.agg (w3 a b c)] w fun e w' => e = .returned (.agg (oc V E)) ∧ Below w.heap.size w w' := by
  have H1 := Lib.hid h
  have H2 := Lib.hid h2
  have HN := Lib.hid hn
  have z0 := o_zero
  have z1 := w_zero
  obtain ⟨s, hs⟩ : ∃ s, w.heap.size = s := ⟨_, rfl⟩
  have HB0 := Lib.hid (((Below.refl w.heap.size w).alloc (Nat.le_refl _) (Obj.cells (w3 a b c) 46)).alloc (by simp) (Obj.cells (oc wZ 0) 48))
  have R1 := Lib.hid ((Row.new w 46 (w3 a b c)).alloc (Obj.cells (oc wZ 0) 48))
  have R2 := Lib.hid (Row.new (w.alloc (Obj.cells (w3 a b c) 46)) 48 (oc wZ 0))
  simp only [World.size_alloc] at R2
  rw [hs] at R1 R2 HB0
  have HS := Lib.hid hs
  clear h h2 hn
  go_enter Try.func25, Try.ntmps25
  go_wp2_with (first | ((with_reducible refine wpList_loadV rfl _ rfl ?_ (load3b R1.out) ?_); (go_simp <;> fail); go_simp) | ((with_reducible refine wpList_loadV rfl _ rfl ?_ (load3c R1.out) ?_); (go_simp <;> fail); go_simp) | (go_at_call 19; (with_reducible refine (H1.out _).mono ?_); rintro e w1 ⟨rfl, hb⟩; have S1 := Lib.hid (R1.out.below' hb); have S2 := Lib.hid (R2.out.below' hb); have HB1 := Lib.hid (HB0.out.trans (hb.mono (by have := HB0.out.size; have := HS.out; omega))); clear hb HB0 R1 R2) | ((with_reducible refine wpList_newR (c' := wc AB) aggW rfl (wc_one _) rfl _ _ rfl ?_ ?_ ?_); (go_simp <;> fail); (first | (go_simp <;> fail) | exact rfl); go_simp; have T3 := Lib.hid (Row.new w1 27 (wc AB)); have T1 := Lib.hid (S1.out.alloc (.cells (wc AB) 27)); have T2 := Lib.hid (S2.out.alloc (.cells (wc AB) 27)); have HB2 := Lib.hid (HB1.out.alloc (by have hs := HB1.out.size; have := HS.out; omega) (.cells (wc AB) 27)); have L3 := Lib.hid (show s + 1 ≠ w1.heap.size by have hh := S2.out.lt; omega); have L4 := Lib.hid (show s ≤ w1.heap.size by have hh := S2.out.lt; omega); clear HB1 S1 S2; revert T3 T1 T2 HB2; generalize w1.alloc (.cells (wc AB) 27) = w2; intro T3 T1 T2 HB2) | ((with_reducible refine wpList_loadR aggW T3.out rfl _ rfl ?_ ?_); (go_simp <;> fail); go_simp) | ((with_reducible refine wpList_loadV rfl _ rfl ?_ (load3a T1.out) ?_); (go_simp <;> fail); go_simp) | (go_at_call 19; (with_reducible refine (H2.out _).mono ?_); rintro e w3 ⟨rfl, hb⟩; have U2 := Lib.hid (T2.out.below' hb); have U3 := Lib.hid (T3.out.below' hb); have HB3 := Lib.hid (HB2.out.trans (hb.mono (by have := HB2.out.size; have := HS.out; omega))); clear hb HB2 T2 T3) | ((with_reducible refine wpList_storeR (c' := wc V) aggW U3.out rfl (wc_one _) rfl _ _ rfl ?_ ?_ ?_); (go_simp <;> fail); (first | (go_simp <;> fail) | exact rfl); go_simp; have V3 := Lib.hid (U3.out.setRow (wc V)); have V2 := Lib.hid (U2.out.setRow_far L3.out (wc V)); have HB4 := Lib.hid (below_setRow HB3.out L4.out (wc V)); clear U2 U3 HB3; revert V3 V2 HB4; generalize w3.setRow w1.heap.size (wc V) = w4; intro V3 V2 HB4))
  have hz : (wc V).size = 6 := rfl
  refine wp_region_tail 3 (by kernel_rfl) (by kernel_rfl) ?_
  simp only [List.take_succ_cons, List.take_zero, List.drop_succ_cons, List.drop_zero]
  repeat (first | go_big_quiet_skip | (go_big_quiet_want; first | (with_reducible refine quiet_loadR aggW V3.out _ rfl ?_ ?_; (go_simp <;> fail); go_simp; go_big_quiet_on) | (go_big_quiet_op; first | go_big_quiet_on | go_big_quiet_call (with_reducible exact calls_later_eq (HN.out _)))))
  refine wpQuiet_nil ?_
  rintro w5 ⟨u, rfl⟩
  have X2 := Lib.hid (V2.out.later u)
  have HB5 := Lib.hid (HB4.out.trans ((below_later w4 u).mono (by have := HB4.out.size; have := HS.out; omega)))
  go_wp2_with (first | ((with_reducible refine wpList_buildO (V := V) (E := E) rfl _ _ rfl ?_ ?_ ?_); (go_simp <;> fail); (go_simp <;> fail); go_simp) | ((with_reducible refine wpList_storeR (c' := oc V E) aggO X2.out rfl (oc_one _ _) rfl _ _ rfl ?_ ?_ ?_); (go_simp <;> fail); (first | (go_simp <;> fail) | exact rfl); go_simp))
  refine bodyPost_ret (results_cellR (c := oc V E) aggO rfl _ (X2.out.setRow _) ?_) rfl ⟨rfl, ?_⟩
  · go_simp
  · rw [HS.out]; exact below_setRow HB5.out (by omega) _
end Go.Proofs.Ytgjhlmmhpcbnaaa
