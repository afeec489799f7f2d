/-
  Package monoid: pairs of a sum and a maximum: the methods, and the fold.
-/
import Derived.Test.YtbiecpejpkgngaaMoAffF
import Derived.Test.YtbiecpejpkgngaaRTail
namespace Go.Proofs.Ytbiecpejpkgngaa
open Go.RowKit
def mPair : Mo (Int × Int) where
  j p q := (mAdd.j p.1 q.1, mMax.j p.2 q.2)
  e := (mAdd.e, mMax.e)
  sz _ := 0
  assoc p q r := by rw [mAdd.assoc, mMax.assoc]
  sz_j _ _ := Nat.zero_le _
  sz_e := rfl
def bc (p : Int × Int) : Array Value := #[.int .i64 p.1, .int .i64 p.2]
theorem bc_one (p : Int × Int) : (bc p).all (·.oneCell') = true := by simp [bc]; exact ⟨rfl, rfl⟩
theorem aggPairs : AggT 30 0 := ⟨⟨_, Try.underlying30, rfl⟩, by kernel_rfl⟩
theorem aggBoth : AggT 33 2 := ⟨⟨_, Try.underlying33, rfl⟩, by kernel_rfl⟩
theorem byteOf_zero {w : World} {g : Nat} {t : TypeId} {c : Array Value} (hr : Row w g t c) (ht : Try.prog.cellsOf t = 0) : (byteOf ⟨g, 0, none⟩).run Try.prog w = .ok 0 w := by
  unfold Row at hr
  unfold byteOf
  simp [Sem.run_bind, noView, ht, hr, run_program, viewAt, World.shape?]
theorem part_zero {w : World} {g : Nat} {t : TypeId} {c : Array Value} (hr : Row w g t c) (ht : Try.prog.cellsOf t = 0) : (partAt ⟨g, 0, none⟩ 0 0).run Try.prog w = .ok ⟨g, 0, none⟩ w := by
  unfold partAt
  simp [Sem.run_bind, byteOf_zero hr ht]
theorem pair_method (W : World) : (method 210 30 (.agg #[]) "Join").run Try.prog W = .ok (69, .agg #[]) W := rfl
theorem addU_method (W : World) : (method 210 26 (.agg #[]) "Unit").run Try.prog W = .ok (66, .agg #[]) W := rfl
theorem maxU_method (W : World) : (method 210 28 (.agg #[]) "Unit").run Try.prog W = .ok (68, .agg #[]) W := rfl
theorem both_info : (Try.prog.info? 33).map (fun i => (i.zero, i.size)) = some (some (.agg #[.int .i64 0, .int .i64 0]), 2) := by kernel_rfl
theorem both_zero (w : World) : (zeroValue 33).run Try.prog w = .ok (.agg (bc (0, 0))) w := (zero_of_info both_info).1 w
set_option maxRecDepth 20000 in
set_option maxHeartbeats 1600000 in
theorem pairUnit (w : World) : Calls Try.prog 70 #[.agg #[]] w fun e w' => e = .returned (.agg (bc mPair.e)) ∧ Below w.heap.size w w' := by
  have z0 := both_zero
  have m1 := addU_method
  have m2 := maxU_method
  have HA := Lib.hid addUnit
  have HM := Lib.hid maxUnit
  obtain ⟨w2, hw2⟩ : ∃ w2, w2 = (w.alloc (.cells #[] 30)).alloc (.cells (bc (0, 0)) 33) := ⟨_, rfl⟩
  have r0 := Lib.hid (show Row w2 w.heap.size 30 #[] by rw [hw2]; exact (Row.new _ _ _).alloc _)
  have r1 := Lib.hid (show Row w2 (w.heap.size + 1) 33 (bc (0, 0)) by
    rw [hw2]
    have := Row.new (w.alloc (.cells #[] 30)) 33 (bc (0, 0))
    simpa using this)
  have hp : ∀ u, (partAt ⟨w.heap.size, 0, none⟩ 0 0).run Try.prog (later w2 u) = .ok ⟨w.heap.size, 0, none⟩ (later w2 u) := fun u => part_zero (r0.out.later u) (by kernel_rfl)
  have hb := Lib.hid (show Below w.heap.size w w2 by rw [hw2]; exact ((Below.refl _ _).alloc (Nat.le_refl _) _).alloc (by simp) _)
  go_enter Try.func70, Try.ntmps70
  go_wp2
  rw [← hw2]
  clear hw2 z0
  refine wp_region_tail 9 (by kernel_rfl) (by kernel_rfl) ?_
  simp only [List.take_succ_cons, List.take_zero, List.drop_succ_cons, List.drop_zero]
  repeat (first | go_big_quiet_skip | (go_big_quiet_want; first | (with_reducible refine quiet_loadR aggAdd r0.out _ rfl ?_ ?_; (go_simp <;> fail); go_simp; go_big_quiet_on) | (with_reducible refine quiet_loadR aggMax r0.out _ rfl ?_ ?_; (go_simp <;> fail); go_simp; go_big_quiet_on) | (go_big_quiet_op; first | go_big_quiet_on | go_big_quiet_call (first | with_reducible exact calls_later (HA.out _) | with_reducible exact calls_later (HM.out _)))))
  refine wpQuiet_nil ?_
  rintro w4 ⟨u, rfl⟩
  have r2 := Lib.hid (r1.out.later u)
  go_wp2_with (first | ((with_reducible refine wpList_storeR (c' := bc mPair.e) aggBoth r2.out rfl (bc_one _) rfl _ _ rfl ?_ ?_ ?_); (go_simp <;> fail); (first | rfl | (go_simp <;> fail)); go_simp))
  refine bodyPost_ret (results_cellR (c := bc mPair.e) aggBoth rfl _ (r2.out.setRow _) ?_) rfl ⟨rfl, ?_⟩
  · go_simp
  · exact below_setRow (hb.out.trans ((below_later w2 u).mono hb.out.size)) (by omega) _
set_option maxRecDepth 20000 in
set_option maxHeartbeats 3200000 in
theorem pairJoin (p q : Int × Int) (w : World) : Calls Try.prog 69 #[.agg #[], .agg (bc p), .agg (bc q)] w fun e w' => e = .returned (.agg (bc (mPair.j p q))) ∧ Below w.heap.size w w' := by
  obtain ⟨a, b⟩ := p
  obtain ⟨c, d⟩ := q
  have z0 := both_zero
  have m1 := add_method
  have m2 := max_method
  have HA := Lib.hid (fun u => addJoin a c u (by show 0 + 0 ≤ _; omega))
  have HM := Lib.hid (fun u => maxJoin b d u (by show 0 + 0 ≤ _; omega))
  obtain ⟨S, hS⟩ : ∃ S, mAdd.j a c = S := ⟨_, rfl⟩
  obtain ⟨M, hM⟩ : ∃ M, mMax.j b d = M := ⟨_, rfl⟩
  rw [hS] at HA
  rw [hM] at HM
  rw [show mPair.j (a, b) (c, d) = (S, M) by rw [← hS, ← hM]; rfl]
  clear hS hM
  obtain ⟨w2, hw2⟩ : ∃ w2, w2 = (((w.alloc (.cells #[] 30)).alloc (.cells (bc (a, b)) 33)).alloc (.cells (bc (c, d)) 33)).alloc (.cells (bc (0, 0)) 33) := ⟨_, rfl⟩
  have r0 := Lib.hid (show Row w2 w.heap.size 30 #[] by rw [hw2]; exact (((Row.new _ _ _).alloc _).alloc _).alloc _)
  have rp := Lib.hid (show Row w2 (w.heap.size + 1) 33 (bc (a, b)) by
    rw [hw2]
    have := ((Row.new (w.alloc (.cells #[] 30)) 33 (bc (a, b))).alloc (.cells (bc (c, d)) 33)).alloc (.cells (bc (0, 0)) 33)
    simpa using this)
  have rq := Lib.hid (show Row w2 (w.heap.size + 1 + 1) 33 (bc (c, d)) by
    rw [hw2]
    have := (Row.new ((w.alloc (.cells #[] 30)).alloc (.cells (bc (a, b)) 33)) 33 (bc (c, d))).alloc (.cells (bc (0, 0)) 33)
    simpa using this)
  have r1 := Lib.hid (show Row w2 (w.heap.size + 1 + 1 + 1) 33 (bc (0, 0)) by
    rw [hw2]
    have := Row.new (((w.alloc (.cells #[] 30)).alloc (.cells (bc (a, b)) 33)).alloc (.cells (bc (c, d)) 33)) 33 (bc (0, 0))
    simpa using this)
  have hp : ∀ u, (partAt ⟨w.heap.size, 0, none⟩ 0 0).run Try.prog (later w2 u) = .ok ⟨w.heap.size, 0, none⟩ (later w2 u) := fun u => part_zero (r0.out.later u) (by kernel_rfl)
  have hb := Lib.hid (show Below w.heap.size w w2 by rw [hw2]; exact ((((Below.refl _ _).alloc (Nat.le_refl _) _).alloc (by simp) _).alloc (by simp; omega) _).alloc (by simp; omega) _)
  have c0 : ∀ u, (later w2 u).cell? ⟨w.heap.size + 1, 0, none⟩ = some (.int .i64 a) := fun u => (rp.out.later u).cell 0
  have c1 : ∀ u, (later w2 u).cell? ⟨w.heap.size + 1, 1, none⟩ = some (.int .i64 b) := fun u => (rp.out.later u).cell 1
  have c2 : ∀ u, (later w2 u).cell? ⟨w.heap.size + 1 + 1, 0, none⟩ = some (.int .i64 c) := fun u => (rq.out.later u).cell 0
  have c3 : ∀ u, (later w2 u).cell? ⟨w.heap.size + 1 + 1, 1, none⟩ = some (.int .i64 d) := fun u => (rq.out.later u).cell 1
  go_enter Try.func69, Try.ntmps69
  go_wp2
  rw [← hw2]
  clear hw2 z0
  refine wp_region_tail 17 (by kernel_rfl) (by kernel_rfl) ?_
  simp only [List.take_succ_cons, List.take_zero, List.drop_succ_cons, List.drop_zero]
  repeat (first | go_big_quiet_skip | (go_big_quiet_want; first | (with_reducible refine quiet_loadR aggAdd r0.out _ rfl ?_ ?_; (go_simp <;> fail); go_simp; go_big_quiet_on) | (with_reducible refine quiet_loadR aggMax r0.out _ rfl ?_ ?_; (go_simp <;> fail); go_simp; go_big_quiet_on) | (go_big_quiet_op; first | go_big_quiet_on | go_big_quiet_call (first | with_reducible exact calls_later (HA.out _) | with_reducible exact calls_later (HM.out _)))))
  refine wpQuiet_nil ?_
  rintro w4 ⟨u, rfl⟩
  have r2 := Lib.hid (r1.out.later u)
  clear c0 c1 c2 c3
  go_wp2_with (first | ((with_reducible refine wpList_storeR (c' := bc (S, M)) aggBoth r2.out rfl (bc_one _) rfl _ _ rfl ?_ ?_ ?_); (go_simp <;> fail); (first | rfl | (go_simp <;> fail)); go_simp))
  refine bodyPost_ret (results_cellR (c := bc (S, M)) aggBoth rfl _ (r2.out.setRow _) ?_) rfl ⟨rfl, ?_⟩
  · go_simp
  · exact below_setRow (hb.out.trans ((below_later w2 u).mono hb.out.size)) (by omega) _
theorem wpList_load2b {ops : Array Oper} {rest : List Oper} {o : Oper} {a : Act} {w : World} {Q : Exit → Act → World → Prop} {b off : Nat} {f : Int × Int} (h0 : w.cell? ⟨b, off, none⟩ = some (.int .i64 f.1)) (h1 : w.cell? ⟨b, off + 1, none⟩ = some (.int .i64 f.2)) (hgd : o.guard = none) (x : Operand)
    (ho : o.op = .load 33 x) (hx : a.eval x = .pointer (some ⟨b, off, none⟩)) (h : wpList Try.prog ops Q rest (a.put o.dst (.agg (bc f))) w) : wpList Try.prog ops Q (o :: rest) a w :=
  wpList_load_mid hgd 33 x ho b off hx [.int .i64 f.1, .int .i64 f.2] _ (fun j v hj => by
    match j, hj with
    | 0, hj => (cases hj; exact h0)
    | 1, hj => (cases hj; exact h1)) Try.underlying33 rfl (by kernel_rfl) h
/-- What Fold lays: the monoid, the result, and the running value in block g. -/
def FoldB (s g : Nat) (w wr : World) (r : Int × Int) : Prop := Below s w wr ∧ Row wr s 30 #[] ∧ Row wr (s + 1) 33 (bc (0, 0)) ∧ Row wr g 33 (bc r)
theorem FoldB.below {s g : Nat} {w wr w2 : World} {r : Int × Int} (h : FoldB s g w wr r) (hs : s ≤ w.heap.size) (hb : Below wr.heap.size wr w2) : FoldB s g w w2 r :=
  ⟨h.1.trans (hb.mono (Nat.le_trans hs h.1.size)), h.2.1.below' hb, h.2.2.1.below' hb, h.2.2.2.below' hb⟩
theorem FoldB.set {s g : Nat} {w wr : World} {r r' : Int × Int} (h : FoldB s g w wr r) (hg : s + 1 < g) : FoldB s g w (wr.setRow g (bc r')) r' :=
  ⟨below_setRow h.1 (by omega) _, h.2.1.setRow_far (by omega) _, h.2.2.1.setRow_far (by omega) _, h.2.2.2.setRow _⟩
set_option maxRecDepth 20000 in
set_option maxHeartbeats 1600000 in
theorem pair_fold (A : Option Addr) (n c : Nat) (z y : Nat → Int) (w : World) (hn : n ≤ 9223372036854775807) (hz : Rd2 w.heap.size w A n (fun k => .int .i64 (z k)) (fun k => .int .i64 (y k))) :
    Calls Try.prog 16 #[.agg #[], .slice A n c] w fun e w' => e = .returned (.agg (bc (fo mPair (fun k => (z k, y k)) n))) ∧ Below w.heap.size w w' := by
  obtain ⟨s, hs⟩ : ∃ s, w.heap.size = s := ⟨_, rfl⟩
  have z0 := both_zero
  have hm1 := pair_method
  have HZ := Lib.hid hz
  have HU := Lib.hid pairUnit
  clear hz
  have hV0 : Below s w ((w.alloc (.cells #[] 30)).alloc (.cells (bc (0, 0)) 33)) ∧ Row ((w.alloc (.cells #[] 30)).alloc (.cells (bc (0, 0)) 33)) s 30 #[] ∧ Row ((w.alloc (.cells #[] 30)).alloc (.cells (bc (0, 0)) 33)) (s + 1) 33 (bc (0, 0)) := by
    subst hs
    refine ⟨((Below.refl _ _).alloc (Nat.le_refl _) _).alloc (by simp) _, (Row.new _ _ _).alloc _, ?_⟩
    have := Row.new (w.alloc (.cells #[] 30)) 33 (bc (0, 0))
    simpa using this
  have HV0 := Lib.hid hV0
  have HS := Lib.hid hs
  have r0 := Lib.hid hV0.2.1
  clear hV0
  go_enter Try.func16, Try.ntmps16
  go_wp2_with (first | ((with_reducible refine wpList_loadR aggPairs r0.out rfl _ rfl ?_ ?_); (go_simp <;> fail); go_simp) | ((with_reducible refine wpList_newR (c' := bc (mPair.e)) aggBoth rfl (bc_one _) rfl _ _ rfl ?_ ?_ ?_); (go_simp <;> fail); (go_simp <;> fail); go_simp) | (go_at_call 70; (with_reducible refine (HU.out _).mono ?_); rintro e wu ⟨rfl, hbu⟩; have HBU := Lib.hid hbu; clear hbu))
  obtain ⟨g, hg⟩ : ∃ g, g = wu.heap.size := ⟨_, rfl⟩
  obtain ⟨w2, hw2⟩ : ∃ w2, w2 = wu.alloc (Obj.cells (bc mPair.e) 33) := ⟨_, rfl⟩
  have hgs : s + 1 < g := by rw [hg]; exact (HV0.out.2.2.below' HBU.out).lt
  have HV2 := Lib.hid (show FoldB s g w w2 mPair.e by
    have hb : Below wu.heap.size wu w2 := by rw [hw2]; exact (Below.refl _ _).alloc (Nat.le_refl _) _
    refine ⟨(HV0.out.1.trans (HBU.out.mono ?_)).trans (hb.mono ?_), (HV0.out.2.1.below' HBU.out).below' hb, (HV0.out.2.2.below' HBU.out).below' hb, ?_⟩
    · have := HV0.out.1.size; have := HS.out; omega
    · have h1 := HV0.out.1.size; have h2 := HBU.out.size; have := HS.out; omega
    · rw [hw2, hg]; exact Row.new _ _ _)
  rw [← hw2, ← hg]
  clear hw2 hg r0 HV0 HBU
  go_loopw [13] (fun i wr => ∃ k : Nat, k ≤ n ∧ i = .int .i64 k ∧ Hid (FoldB s g w wr (fo mPair (fun k => (z k, y k)) k))) (fun i _ => n - (intOf i).toNat)
  case atStart => exact ⟨0, Nat.zero_le _, rfl, HV2⟩
  case round =>
    obtain ⟨k, hk, rfl, HV⟩ := hrel
    by_cases hlt : k < n
    · have hbw : Below w.heap.size w wr := by rw [HS.out]; exact HV.out.1
      obtain ⟨b, o, rfl, hbB, hcell⟩ := (HZ.out.later hbw).some hlt
      have H0 := Lib.hid (hcell k hlt).1
      have H1 := Lib.hid (hcell k hlt).2
      obtain ⟨f, hf⟩ : ∃ f, fo mPair (fun k => (z k, y k)) k = f := ⟨_, rfl⟩
      rw [hf] at HV
      have HF := Lib.hid (show fo mPair (fun k => (z k, y k)) (k + 1) = mPair.j f (z k, y k) by rw [← hf]; rfl)
      have HV1 := Lib.hid (HV.out.below (by have := HS.out; omega) ((Below.refl _ _).alloc (Nat.le_refl _) (.cells (bc (z k, y k)) 33)))
      have r1 := Lib.hid HV1.out.2.1
      have r2 := Lib.hid HV1.out.2.2.2
      have r3 := Lib.hid (Row.new wr 33 (bc (z k, y k)))
      have HJ := Lib.hid (fun u => pairJoin f (z k, y k) u)
      clear hcell hf hbw
      go_wp2_with (first | ((with_reducible refine wpList_load2b (f := (z k, y k)) H0.out H1.out rfl _ rfl ?_ ?_); (go_simp <;> fail); go_simp) | ((with_reducible refine wpList_newR (c' := bc (z k, y k)) aggBoth rfl (bc_one _) rfl _ _ rfl ?_ ?_ ?_); (go_simp <;> fail); (go_simp <;> fail); go_simp) | ((with_reducible refine wpList_loadR aggPairs r1.out rfl _ rfl ?_ ?_); (go_simp <;> fail); go_simp) | ((with_reducible refine wpList_loadR aggBoth r2.out rfl _ rfl ?_ ?_); (go_simp <;> fail); go_simp) | ((with_reducible refine wpList_loadR aggBoth r3.out rfl _ rfl ?_ ?_); (go_simp <;> fail); go_simp) | ((with_reducible refine wpList_storeR (c' := bc (mPair.j f (z k, y k))) aggBoth r4.out rfl (bc_one _) rfl _ _ rfl ?_ ?_ ?_); (go_simp <;> fail); (go_simp <;> fail); go_simp) | (go_at_call 69; (with_reducible refine (HJ.out _).mono ?_); rintro e w4 ⟨rfl, hb4⟩; have HV4 := Lib.hid (HV1.out.below (by have := HS.out; omega) hb4); have r4 := Lib.hid HV4.out.2.2.2; clear hb4))
      go_roundw
      case rel => exact ⟨k + 1, by omega, by go_num, by rw [HF.out]; exact Lib.hid (HV4.out.set hgs)⟩
      case measure => simp [intOf]; try omega
    · obtain rfl : k = n := by omega
      have r5 := Lib.hid HV.out.2.2.2
      have r6 := Lib.hid HV.out.2.2.1
      clear z0
      go_wp2_with (first | ((with_reducible refine wpList_loadR aggBoth r5.out rfl _ rfl ?_ ?_); (go_simp <;> fail); go_simp) | ((with_reducible refine wpList_storeR (c' := bc (fo mPair (fun k => (z k, y k)) k)) aggBoth r6.out rfl (bc_one _) rfl _ _ rfl ?_ ?_ ?_); (go_simp <;> fail); (go_simp <;> fail); go_simp))
      refine bodyPost_ret (results_cellR (c := bc (fo mPair (fun k => (z k, y k)) k)) aggBoth rfl _ (r6.out.setRow _) ?_) rfl ⟨rfl, ?_⟩
      · go_simp
      · rw [HS.out]; exact below_setRow HV.out.1 (by omega) _
end Go.Proofs.Ytbiecpejpkgngaa
