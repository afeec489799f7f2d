/-
  Package weight: digestFits, Valid.
-/
import Derived.Test.YtgjhlmmhpcbnaaaWtV
namespace Go.Proofs.Ytgjhlmmhpcbnaaa
open Go.RowKit
theorem wpList_loadR_g {ops : Array Oper} {rest : List Oper} {o : Oper} {a : Act} {w : World} {Q : Exit → Act → World → Prop} {g : Nat} {t ty : TypeId} {c : Array Value} (ht : AggT ty c.size) (hr : Row w g t c) (hw : Region.wanted o (yielded ops a.tmps) = true) (x : Operand) (ho : o.op = .load ty x) (hx : a.eval x = .pointer (some ⟨g, 0, none⟩)) (h : wpList Try.prog ops Q rest (a.put o.dst (.agg c)) w) : wpList Try.prog ops Q (o :: rest) a w := by
  rw [wpList, if_pos hw]
  exact .inl (wp_loadR ht hr x ho hx h)
def fb (r : Wt) : Bool := decide (¬ (r.l = 0 ∧ r.d.1 ≠ 0) ∧ r.d.1 < 2305843009213693951 ∧ r.d.2 = sc r.l)
noncomputable def gb (r : Wt) : Bool := @decide (Good r) (Classical.propDecidable _)
theorem gb_true {r : Wt} (h : Good r) : gb r = true := by unfold gb; exact @decide_eq_true _ (Classical.propDecidable _) h
theorem gb_false {r : Wt} (h : ¬ Good r) : gb r = false := by unfold gb; exact @decide_eq_false _ (Classical.propDecidable _) h
theorem good_of {r : Wt} (h : W64 r) (h0 : 0 ≤ r.l) (h1 : r.l ≤ 1152921504606846976) (h2 : lb r = true) (h3 : fb r = true) : Good r := by
  unfold lb at h2
  unfold fb at h3
  rw [decide_eq_true_iff] at h2 h3
  exact ⟨h0, h1, h2, h.2.2.2.2.1, h3.2.1, h3.2.2, fun e => Decidable.byContradiction fun h => h3.1 ⟨e, h⟩⟩
theorem Good.lb {r : Wt} (g : Good r) : lb r = true := by unfold Go.Proofs.Ytgjhlmmhpcbnaaa.lb; rw [decide_eq_true_iff]; exact g.ln
theorem Good.fb {r : Wt} (g : Good r) : fb r = true := by unfold Go.Proofs.Ytgjhlmmhpcbnaaa.fb; rw [decide_eq_true_iff]; exact ⟨fun h => h.2 (g.e h.1), g.v1, g.s⟩
theorem w_dfits (r : Wt) (w : World) (h : W64 r) (h0 : 0 ≤ r.l) (h1 : r.l ≤ 1152921504606846976) :
    Calls Try.prog 34 #[.agg (wc r)] w fun e w' => e = .returned (.bool (fb r)) ∧ Below w.heap.size w w' := by
  have HP := Lib.hid (fun w => md_pow' 1103515245 r.l w (by omega) (by omega) h0 (by omega))
  obtain ⟨l, n, h, t, v, s⟩ := r
  obtain ⟨b1, b2, b3, b4, f1, f2, f3, f4⟩ := h
  unfold I64 at b1 b2 b3 b4
  simp only [] at h0 h1 b1 b2 b3 b4 f1 f2 f3 f4 HP
  have hb := Lib.hid ((Below.refl w.heap.size w).alloc (Nat.le_refl _) (Obj.cells (wc ⟨l, n, h, t, v, s⟩) 27))
  have R1 := Lib.hid (Row.new w 27 (wc ⟨l, n, h, t, v, s⟩))
  obtain ⟨c, hc⟩ : ∃ c, w.heap.size = c := ⟨_, rfl⟩
  rw [hc] at R1 hb
  have HS := Lib.hid hc
  have hwr : IntKind.u64.wrap l = l := w64 h0 (by omega)
  by_cases hl : l = 0 ∧ v ≠ 0
  · have e1 : (l == 0) = true := by simpa using hl.1
    have e2 : (v == 0) = false := by simpa using hl.2
    have HE := Lib.hid (show fb ⟨l, n, h, t, v, s⟩ = false by unfold fb; rw [decide_eq_false_iff_not]; exact fun h => h.1 hl)
    have h2 := hl.2
    have h3 := hl.1
    clear hl hwr HP
    unfold wc
    subst h3
    go_enter Try.func34, Try.ntmps34
    go_wp2
    go_ret
    exact ⟨by rw [HE.out]; rfl, by rw [HS.out]; exact hb.out⟩
  · have HL := Lib.hid hl
    by_cases e1 : v < 2305843009213693951
    · have HE := Lib.hid (show fb ⟨l, n, h, t, v, s⟩ = (s == pw 1103515245 l) by
        unfold fb; rw [Bool.eq_iff_iff, decide_eq_true_iff, beq_iff_eq]; exact ⟨fun h => h.2.2, fun h => ⟨HL.out, e1, h⟩⟩)
      unfold wc at *
      by_cases e0 : l = 0
      · obtain rfl : v = 0 := Decidable.byContradiction fun h => hl ⟨e0, h⟩
        subst e0
        clear hl
        go_enter Try.func34, Try.ntmps34
        go_wp2
        obtain ⟨w1, hw1⟩ : ∃ w1, w1 = w.alloc (Obj.cells #[.int .i64 0, .int .i64 n, .int .i64 h, .int .i64 t, .int .u64 0, .int .u64 s] 27) := ⟨_, rfl⟩
        rw [← hw1] at hb R1 ⊢
        have q0 : ∀ u, (later w1 u).cell? ⟨c, 0, none⟩ = some (.int .i64 0) := fun u => (R1.out.later u).cell 0
        have q4 : ∀ u, (later w1 u).cell? ⟨c, 4, none⟩ = some (.int .u64 0) := fun u => (R1.out.later u).cell 4
        have q5 : ∀ u, (later w1 u).cell? ⟨c, 5, none⟩ = some (.int .u64 s) := fun u => (R1.out.later u).cell 5
        clear hw1
        refine wp_region_later (by kernel_rfl) (by kernel_rfl) ?_
        repeat (first | go_big_quiet_skip | (go_big_quiet_want; go_big_quiet_op; first | go_big_quiet_on | go_big_quiet_call (with_reducible exact calls_later_eq (HP.out _))))
        refine wpQuiet_nil ?_
        rintro w4 ⟨u, rfl⟩
        go_wp2
        go_ret
        exact ⟨by rw [HE.out]; rfl, by rw [HS.out]; exact hb.out.trans ((below_later w1 u).mono (by have := hb.out.size; have := HS.out; omega))⟩
      · have e0' : (l == 0) = false := by simpa using e0
        clear hl e0
        go_enter Try.func34, Try.ntmps34
        go_wp2
        obtain ⟨w1, hw1⟩ : ∃ w1, w1 = w.alloc (Obj.cells #[.int .i64 l, .int .i64 n, .int .i64 h, .int .i64 t, .int .u64 v, .int .u64 s] 27) := ⟨_, rfl⟩
        rw [← hw1] at hb R1 ⊢
        have q0 : ∀ u, (later w1 u).cell? ⟨c, 0, none⟩ = some (.int .i64 l) := fun u => (R1.out.later u).cell 0
        have q4 : ∀ u, (later w1 u).cell? ⟨c, 4, none⟩ = some (.int .u64 v) := fun u => (R1.out.later u).cell 4
        have q5 : ∀ u, (later w1 u).cell? ⟨c, 5, none⟩ = some (.int .u64 s) := fun u => (R1.out.later u).cell 5
        clear hw1
        refine wp_region_later (by kernel_rfl) (by kernel_rfl) ?_
        repeat (first | go_big_quiet_skip | (go_big_quiet_want; go_big_quiet_op; first | go_big_quiet_on | go_big_quiet_call (with_reducible exact calls_later_eq (HP.out _))))
        refine wpQuiet_nil ?_
        rintro w4 ⟨u, rfl⟩
        go_wp2
        go_ret
        exact ⟨by rw [HE.out]; rfl, by rw [HS.out]; exact hb.out.trans ((below_later w1 u).mono (by have := hb.out.size; have := HS.out; omega))⟩
    · have HE := Lib.hid (show fb ⟨l, n, h, t, v, s⟩ = false by
        unfold fb; rw [decide_eq_false_iff_not]; exact fun h => e1 h.2.1)
      unfold wc at *
      have e0' : (l == 0) = false := by
        have : ¬ l = 0 := fun h => hl ⟨h, by omega⟩
        simpa using this
      have e1' : decide (v < 2305843009213693951) = false := by simpa using e1
      clear hl
      go_enter Try.func34, Try.ntmps34
      go_wp2
      obtain ⟨w1, hw1⟩ : ∃ w1, w1 = w.alloc (Obj.cells #[.int .i64 l, .int .i64 n, .int .i64 h, .int .i64 t, .int .u64 v, .int .u64 s] 27) := ⟨_, rfl⟩
      rw [← hw1] at hb R1 ⊢
      have q0 : ∀ u, (later w1 u).cell? ⟨c, 0, none⟩ = some (.int .i64 l) := fun u => (R1.out.later u).cell 0
      have q4 : ∀ u, (later w1 u).cell? ⟨c, 4, none⟩ = some (.int .u64 v) := fun u => (R1.out.later u).cell 4
      have q5 : ∀ u, (later w1 u).cell? ⟨c, 5, none⟩ = some (.int .u64 s) := fun u => (R1.out.later u).cell 5
      clear hw1
      refine wp_region_later (by kernel_rfl) (by kernel_rfl) ?_
      repeat (first | go_big_quiet_skip | (go_big_quiet_want; go_big_quiet_op; first | go_big_quiet_on | go_big_quiet_call (with_reducible exact calls_later_eq (HP.out _))))
      refine wpQuiet_nil ?_
      rintro w4 ⟨u, rfl⟩
      go_wp2
      go_ret
      exact ⟨by rw [HE.out]; rfl, by rw [HS.out]; exact hb.out.trans ((below_later w1 u).mono (by have := hb.out.size; have := HS.out; omega))⟩
theorem w_lvalid (n : Int) (w : World) : Calls Try.prog 32 #[.int .i64 n] w fun e w' => e = .returned (.bool (decide (0 ≤ n ∧ n ≤ 1152921504606846976))) ∧ w = w' := by
  obtain ⟨B, hB⟩ : ∃ B, B = decide (0 ≤ n ∧ n ≤ 1152921504606846976) := ⟨_, rfl⟩
  rw [← hB]
  by_cases h0 : 0 ≤ n
  · have HE := Lib.hid (show B = decide (n ≤ 1152921504606846976) by rw [hB, decide_eq_decide]; omega)
    clear hB
    go_enter Try.func32, Try.ntmps32
    go_wp2
    go_ret
    exact ⟨by rw [HE.out]; rfl, rfl⟩
  · have HE := Lib.hid (show B = false by rw [hB, decide_eq_false_iff_not]; omega)
    clear hB
    go_enter Try.func32, Try.ntmps32
    go_wp2
    go_ret
    exact ⟨by rw [HE.out]; rfl, rfl⟩
theorem w_valid (r : Wt) (w : World) (h : W64 r) :
    Calls Try.prog 14 #[.agg (wc r)] w fun e w' => e = .returned (.bool (gb r)) ∧ Below w.heap.size w w' := by
  have HV := Lib.hid (fun w => w_lvalid r.l w)
  have HB := Lib.hid ((Below.refl w.heap.size w).alloc (Nat.le_refl _) (Obj.cells (wc r) 27))
  have R1 := Lib.hid (Row.new w 27 (wc r))
  have p0 : (w.alloc (Obj.cells (wc r) 27)).cell? ⟨w.heap.size, 0, none⟩ = some (.int .i64 r.l) := R1.out.cell 0
  obtain ⟨c, hc⟩ : ∃ c, w.heap.size = c := ⟨_, rfl⟩
  rw [hc] at R1 HB p0
  have HS := Lib.hid hc
  by_cases hl : 0 ≤ r.l ∧ r.l ≤ 1152921504606846976
  · have HL := Lib.hid (fun w => w_lines r w h hl.1 hl.2)
    have HF := Lib.hid (fun w => w_dfits r w h hl.1 hl.2)
    have hd : decide (0 ≤ r.l ∧ r.l ≤ 1152921504606846976) = true := decide_eq_true hl
    rw [hd] at HV
    by_cases e1 : lb r = true
    · have HE := Lib.hid (show gb r = fb r by
        cases e2 : fb r
        · exact gb_false fun g => by rw [g.fb] at e2; cases e2
        · exact gb_true (good_of h hl.1 hl.2 e1 e2))
      rw [e1] at HL
      clear hl e1 h hd
      obtain ⟨X, hX⟩ : ∃ X, X = wc r := ⟨_, rfl⟩
      have hX6 : X.size = 6 := by rw [hX]; rfl
      have aW : AggT 27 X.size := by rw [hX6]; exact aggW
      rw [← hX] at HL HF HB R1 p0 ⊢
      obtain ⟨F, hF⟩ : ∃ F, F = fb r := ⟨_, rfl⟩
      rw [← hF] at HF HE
      obtain ⟨l, hl⟩ : ∃ l, l = r.l := ⟨_, rfl⟩
      rw [← hl] at HV p0
      clear hX hF hX6 hl
      go_enter Try.func14, Try.ntmps14
      go_wp2_with (first | (go_at_call 32; with_reducible refine (HV.out _).mono ?_; rintro e w' ⟨rfl, rfl⟩) | ((with_reducible refine wpList_loadR_g aW R1.out ?_ _ rfl ?_ ?_); exact rfl; (go_simp <;> fail); go_simp) | (go_at_call 33; with_reducible refine (HL.out _).mono ?_; rintro e w2 ⟨rfl, hb2⟩; have HB2 := Lib.hid (HB.out.trans (hb2.mono (by have := HB.out.size; have := HS.out; omega))); have R2 := Lib.hid (R1.out.below' hb2); clear hb2 HB R1 p0) | ((with_reducible refine wpList_loadR_g aW R2.out ?_ _ rfl ?_ ?_); exact rfl; (go_simp <;> fail); go_simp) | (go_at_call 34; with_reducible refine (HF.out _).mono ?_; rintro e w3 ⟨rfl, hb3⟩; have HB3 := Lib.hid (HB2.out.trans (hb3.mono (by have := HB2.out.size; have := HS.out; omega)))))
      go_ret
      exact ⟨by rw [HE.out]; rfl, by rw [HS.out]; exact HB3.out⟩
    · have e1 : lb r = false := by cases e : lb r <;> simp_all
      have HE := Lib.hid (show gb r = false from gb_false fun g => by rw [g.lb] at e1; cases e1)
      rw [e1] at HL
      clear hl e1 h hd
      obtain ⟨X, hX⟩ : ∃ X, X = wc r := ⟨_, rfl⟩
      have hX6 : X.size = 6 := by rw [hX]; rfl
      have aW : AggT 27 X.size := by rw [hX6]; exact aggW
      rw [← hX] at HL HB R1 p0 ⊢
      obtain ⟨l, hl⟩ : ∃ l, l = r.l := ⟨_, rfl⟩
      rw [← hl] at HV p0
      clear hX hX6 hl HF
      go_enter Try.func14, Try.ntmps14
      go_wp2_with (first | (go_at_call 32; with_reducible refine (HV.out _).mono ?_; rintro e w' ⟨rfl, rfl⟩) | ((with_reducible refine wpList_loadR_g aW R1.out ?_ _ rfl ?_ ?_); exact rfl; (go_simp <;> fail); go_simp) | (go_at_call 33; with_reducible refine (HL.out _).mono ?_; rintro e w2 ⟨rfl, hb2⟩; have HB2 := Lib.hid (HB.out.trans (hb2.mono (by have := HB.out.size; have := HS.out; omega))); clear hb2 HB R1 p0))
      go_ret
      exact ⟨by rw [HE.out]; rfl, by rw [HS.out]; exact HB2.out⟩
  · have HE := Lib.hid (show gb r = false from gb_false fun g => hl ⟨g.l0, g.l1⟩)
    have hd : decide (0 ≤ r.l ∧ r.l ≤ 1152921504606846976) = false := decide_eq_false hl
    rw [hd] at HV
    clear hl h hd
    obtain ⟨X, hX⟩ : ∃ X, X = wc r := ⟨_, rfl⟩
    rw [← hX] at HB R1 p0 ⊢
    obtain ⟨l, hl⟩ : ∃ l, l = r.l := ⟨_, rfl⟩
    rw [← hl] at HV p0
    clear hX hl
    go_enter Try.func14, Try.ntmps14
    go_wp2_with (first | (go_at_call 32; with_reducible refine (HV.out _).mono ?_; rintro e w' ⟨rfl, rfl⟩))
    go_ret
    exact ⟨by rw [HE.out]; rfl, by rw [HS.out]; exact HB.out⟩
end Go.Proofs.Ytgjhlmmhpcbnaaa
