/-
  Package weight: the reference's mul and Scale; a weight's cells, loads of a part of them; Unit.
-/
import Derived.Test.YtgjhlmmhpcbnaaaWt
import Derived.Deep.MidRow
namespace Go.Proofs.Ytgjhlmmhpcbnaaa
open Go.RowKit
theorem w_rmul (a b : Int) (w : World) (h0 : 0 ≤ a) (h1 : a < 2305843009213693951) (k0 : 0 ≤ b) (k1 : b < 18446744073709551616) :
    Calls Try.prog 31 #[.int .u64 a, .int .u64 b] w fun e w' => e = .returned (.int .u64 (mP a b)) ∧ w = w' := by
  obtain ⟨z, hz⟩ : ∃ z, z = mP a b := ⟨_, rfl⟩
  rw [← hz]
  have HZ := Lib.hid (show R (0 + a * b) = z by rw [Int.zero_add, hz]; rfl)
  have HA := Lib.hid (And.intro h0 h1)
  have HB := Lib.hid (And.intro k0 k1)
  clear hz
  go_enter Try.func31, Try.ntmps31
  go_wp2
  go_loop [0, 1, 5] (fun a b n => ∃ (x y t : Int), a = .int .u64 x ∧ b = .int .u64 y ∧ n = .int .u64 t ∧ 0 ≤ x ∧ x < 2305843009213693951 ∧ 0 ≤ y ∧ y < 18446744073709551616 ∧ 0 ≤ t ∧ t < 2305843009213693951 ∧ Hid (R (t + x * y) = z)) (fun _ b _ => (intOf b).toNat)
  case atStart => exact ⟨a, b, 0, rfl, rfl, rfl, HA.out.1, HA.out.2, HB.out.1, HB.out.2, by omega, by omega, HZ⟩
  case round =>
    clear HZ HA HB h0 h1 k0 k1
    obtain ⟨x, y, t, rfl, rfl, rfl, x0, x1, y0, y1, t0, t1, HR⟩ := hrel
    by_cases hm : y = 0
    · subst hm
      have HE := Lib.hid (show t = z by rw [← HR.out, Int.mul_zero, Int.add_zero, R_id t0 t1])
      go_wp2
      go_ret
      exact ⟨congrArg (fun x => Ending.returned (.int .u64 x)) HE.out, rfl⟩
    · have hpos : 0 < y := by omega
      clear hm
      by_cases hc : y % 2 = 1
      · have hce : (y % 2 == 1) = true := by simpa using hc
        have HC := Lib.hid hc
        clear hc
        go_wp2
        refine ⟨⟨aP x x, y / 2, aP t x, by go_num, by go_num, by go_num, R_ge _, R_lt _, by omega, by omega, R_ge _, R_lt _, Lib.hid ?_⟩, by simp [intOf]; try omega⟩
        rw [← HR.out, dbl_odd _ _ _ HC.out]
      · have hce : (y % 2 == 1) = false := by simpa using hc
        have HC := Lib.hid (show y % 2 = 0 by omega)
        clear hc
        go_wp2
        refine ⟨⟨aP x x, y / 2, t, by go_num, by go_num, rfl, R_ge _, R_lt _, by omega, by omega, t0, t1, Lib.hid ?_⟩, by simp [intOf]; try omega⟩
        rw [← HR.out, dbl_even _ _ _ HC.out]
theorem w_scale (n : Int) (w : World) (h0 : 0 ≤ n) (h1 : n ≤ 9223372036854775807) :
    Calls Try.prog 36 #[.int .i64 n] w fun e w' => e = .returned (.int .u64 (sc n)) ∧ w = w' := by
  obtain ⟨z, hz⟩ : ∃ z, z = sc n := ⟨_, rfl⟩
  rw [← hz]
  have HZ := Lib.hid (show R (1 * 1103515245 ^ n.toNat) = z by rw [hz, Int.one_mul]; rfl)
  have HK := Lib.hid (And.intro h0 h1)
  clear hz
  go_enter Try.func36, Try.ntmps36
  go_wp2
  go_loop [0, 3, 4] (fun n t i => ∃ (m r s : Int), n = .int .i64 m ∧ t = .int .u64 r ∧ i = .int .u64 s ∧ 0 ≤ m ∧ m ≤ 9223372036854775807 ∧ 0 ≤ r ∧ r < 2305843009213693951 ∧ 0 ≤ s ∧ s < 2305843009213693951 ∧ Hid (R (r * s ^ m.toNat) = z)) (fun n _ _ => (intOf n).toNat)
  case atStart => exact ⟨n, 1, 1103515245, rfl, rfl, rfl, HK.out.1, HK.out.2, by omega, by omega, by omega, by omega, HZ⟩
  case round =>
    clear HZ HK h0 h1
    obtain ⟨m, r, s, rfl, rfl, rfl, m0, m1, r0, r1, s0, s1, HR⟩ := hrel
    by_cases hm : m = 0
    · subst hm
      have HE := Lib.hid (show r = z by rw [← HR.out, show (0 : Int).toNat = 0 from rfl, Int.pow_zero, Int.mul_one, R_id r0 r1])
      go_wp2
      go_ret
      exact ⟨congrArg (fun x => Ending.returned (.int .u64 x)) HE.out, rfl⟩
    · have hpos : 0 < m := by omega
      clear hm
      have HA1 := Lib.hid (fun w => w_rmul r s w r0 r1 s0 (by omega))
      have HA2 := Lib.hid (fun w => w_rmul s s w s0 s1 s0 (by omega))
      by_cases hc : m % 2 = 1
      · have hce : (m % 2 == 1) = true := by simpa using hc
        have HC := Lib.hid hc
        clear hc
        go_wp2_with (first | (go_at_call 31; with_reducible refine (HA1.out _).mono ?_; rintro e w' ⟨rfl, rfl⟩) | (go_at_call 31; with_reducible refine (HA2.out _).mono ?_; rintro e w' ⟨rfl, rfl⟩))
        refine ⟨⟨m / 2, mP r s, mP s s, by go_num, rfl, rfl, by omega, by omega, R_ge _, R_lt _, R_ge _, R_lt _, Lib.hid ?_⟩, by simp [intOf]; try omega⟩
        have := HC.out
        rw [← HR.out, show (m / 2).toNat = m.toNat / 2 by omega, pow_odd _ _ _ (by omega)]
      · have hce : (m % 2 == 1) = false := by simpa using hc
        have HC := Lib.hid (show m % 2 = 0 by omega)
        clear hc
        go_wp2_with (first | (go_at_call 31; with_reducible refine (HA2.out _).mono ?_; rintro e w' ⟨rfl, rfl⟩))
        refine ⟨⟨m / 2, r, mP s s, by go_num, rfl, rfl, by omega, by omega, r0, r1, R_ge _, R_lt _, Lib.hid ?_⟩, by simp [intOf]; try omega⟩
        have := HC.out
        rw [← HR.out, show (m / 2).toNat = m.toNat / 2 by omega, pow_even _ _ _ (by omega)]

/-! ### A weight's six cells -/
theorem aggW : AggT 27 6 := ⟨⟨_, Try.underlying27, rfl⟩, by kernel_rfl⟩
theorem wc_one (r : Wt) : (wc r).all (·.oneCell') = true := by simp [wc]; exact ⟨rfl, rfl, rfl, rfl, rfl, rfl⟩
theorem w_info : (Try.prog.info? 27).map (fun i => (i.zero, i.size)) = some (some (.agg #[.int .i64 0, .int .i64 0, .int .i64 0, .int .i64 0, .int .u64 0, .int .u64 0]), 6) := by kernel_rfl
theorem w_zero (w : World) : (zeroValue 27).run Try.prog w = .ok (.agg (wc wZ)) w := (zero_of_info w_info).1 w
section
variable {ops : Array Oper} {rest : List Oper} {o : Oper} {a : Act} {w : World} {K : Act → World → Prop} {Q : Exit → Act → World → Prop} {g : Nat} {t : TypeId} {r : Wt}
/-- The digest's part of a weight. -/
theorem load_dig (h : Row w g t (wc r)) : (loadVar 25 ⟨g, 4, none⟩).run Try.prog w = .ok (.agg (dc r.d)) w :=
  run_loadVar_mid w g 4 25 [.int .u64 r.d.1, .int .u64 r.d.2] _ (fun j v hv => by
    rw [h.cell]
    match j, hv with
    | 0, hv => cases hv; rfl
    | 1, hv => cases hv; rfl) Try.underlying25 rfl (by kernel_rfl)
theorem wp_loadD (hr : Row w g t (wc r)) (x : Operand) (ho : o.op = .load 25 x) (hx : a.eval x = .pointer (some ⟨g, 4, none⟩)) (h : K (a.put o.dst (.agg (dc r.d))) w) : o.wp Try.prog a w K Q := by
  unfold Oper.wp execOp
  simp only [ho, hx, Instr.loadAt, Instr.sureAddr, Sem.run_bind, Sem.run_pure, Result.andThen_ok, load_dig hr]
  exact h
theorem quiet_loadD (hr : Row w g t (wc r)) {K : Act → Prop} (x : Operand) (ho : o.op = .load 25 x) (hx : a.eval x = .pointer (some ⟨g, 4, none⟩)) (h : K (a.put o.dst (.agg (dc r.d)))) : o.quiet Try.prog a (fun w' => ∃ u, w' = later w u) K := by
  refine ⟨_, ?_, h⟩
  rintro _ ⟨u, rfl⟩
  unfold Oper.quietAt execOp
  simp only [ho, hx, Instr.loadAt, Instr.sureAddr, Sem.run_bind, Sem.run_pure, Result.andThen_ok, load_dig (hr.later u)]
  exact ⟨rfl, rfl⟩
end
/-! ### Unit -/
theorem w_unit (w : World) : Calls Try.prog 16 #[] w fun e w' => e = .returned (.agg (wc wU)) ∧ Below w.heap.size w w' := by
  have HU := Lib.hid dg_unit
  have z0 := w_zero
  have hb := Lib.hid ((Below.refl w.heap.size w).alloc (Nat.le_refl _) (Obj.cells (wc wZ) 27))
  have r2 := Lib.hid (Row.new w 27 (wc wZ))
  obtain ⟨s, hs⟩ : ∃ s, w.heap.size = s := ⟨_, rfl⟩
  rw [hs] at r2 hb
  have HS := Lib.hid hs
  go_enter Try.func16, Try.ntmps16
  go_wp2_with (first | (go_at_call 35; (with_reducible refine (HU.out _).mono ?_); rintro e w2 ⟨rfl, hb2⟩; have HB := Lib.hid (hb.out.trans (hb2.mono (by have := hb.out.size; have := HS.out; omega))); have r3 := Lib.hid (r2.out.below' hb2); clear hb2) | ((with_reducible refine wpList_storeR (c' := wc wU) aggW r3.out rfl (wc_one _) rfl _ _ rfl ?_ ?_ ?_); (go_simp <;> fail); exact rfl; go_simp))
  refine bodyPost_ret (results_cellR (c := wc wU) aggW rfl _ (r3.out.setRow _) ?_) rfl ⟨rfl, ?_⟩
  · go_simp
  · rw [HS.out]; exact below_setRow HB.out (by omega) _
theorem w_runit (w : World) : Calls Try.prog 17 #[] w fun e w' => e = .returned (.agg (wc wU)) ∧ Below w.heap.size w w' := by
  have z0 := w_zero
  have zd := dg_zero
  have hb := Lib.hid ((Below.refl w.heap.size w).alloc (Nat.le_refl _) (Obj.cells (wc wZ) 27))
  have r2 := Lib.hid (Row.new w 27 (wc wZ))
  obtain ⟨s, hs⟩ : ∃ s, w.heap.size = s := ⟨_, rfl⟩
  rw [hs] at r2 hb
  have HS := Lib.hid hs
  go_enter Try.func17, Try.ntmps17
  go_wp2_with (first | ((with_reducible refine wpList_storeR (c' := wc wU) aggW r2.out rfl (wc_one _) rfl _ _ rfl ?_ ?_ ?_); (go_simp <;> fail); exact rfl; go_simp))
  refine bodyPost_ret (results_cellR (c := wc wU) aggW rfl _ (r2.out.setRow _) ?_) rfl ⟨rfl, ?_⟩
  · go_simp
  · rw [HS.out]; exact below_setRow hb.out (by omega) _
end Go.Proofs.Ytgjhlmmhpcbnaaa
