/-
  Package letterset: the walk of the statement LettersetAlgebra.
-/
import Derived.Test.YtcflbpcfmpkolaaLsOps
import Derived.Test.YtcflbpcfmpkolaaLsD
import Derived.Test.YtcflbpcfmpkolaaInvL
import Derived.Test.YtcflbpcfmpkolaaLsAlgM
namespace Go.Proofs.Ytcflbpcfmpkolaa
open Go.RowKit

/-- Three sets in a row. -/
def lc3 (s : Nat → Nat) : Array Value := Array.ofFn (n := 12) fun i => .int .u64 (s i : Nat)
def part3 (s : Nat → Nat) (j : Nat) : Nat → Nat := fun i => s (4 * j + i)
theorem lc3_at (s : Nat → Nat) {i : Nat} (h : i < 12) : (lc3 s)[i]? = some (.int .u64 (s i : Nat)) := by simp [lc3, h]
theorem load_mid {w : World} {g : Nat} {t : TypeId} {s : Nat → Nat} (h : Row w g t (lc3 s)) {j off : Nat} (hj : j < 3) (ho : off = 4 * j) : (loadVar 24 ⟨g, off, none⟩).run Try.prog w = .ok (.agg (lc (part3 s j))) w := by
  have hl : (loadCells ⟨g, off, none⟩ (lc (part3 s j)).toList.length).run Try.prog w = .ok (lc (part3 s j)).toList.toArray w :=
    run_loadCells_list (P := Try.prog) w ⟨g, off, none⟩ (lc (part3 s j)).toList (fun k v hv => by
      have hk : k < 4 := by
        by_cases hk : k < 4
        · exact hk
        · rw [Array.getElem?_toList, Array.getElem?_eq_none (by rw [lc_size]; omega)] at hv; cases hv
      have hadd : (⟨g, off, none⟩ : Addr).add k = ⟨g, off + k, none⟩ := by unfold Addr.add; split <;> simp_all
      rw [Array.getElem?_toList, lc_at _ hk] at hv
      cases hv
      rw [hadd, h.cell, lc3_at s (by omega), ho]; rfl)
  have hagg : (isAgg 24).run Try.prog w = .ok true w := by kernel_rfl
  have hsz : (sizeOf 24).run Try.prog w = .ok 4 w := by kernel_rfl
  simp only [Array.length_toList, Array.toArray_toList, lc_size] at hl
  simp [loadVar, Sem.run_bind, hagg, hsz, hl]
theorem quiet_load_mid {o : Oper} {a : Act} {w : World} {K : Act → Prop} {g : Nat} {t : TypeId} {s : Nat → Nat} (hr : Row w g t (lc3 s)) {off : Nat} (j : Nat) (hj : j < 3) (hoff : off = 4 * j) (x : Operand) (ho : o.op = .load 24 x) (hx : a.eval x = .pointer (some ⟨g, off, none⟩))
    (h : K (a.put o.dst (.agg (lc (part3 s j))))) : o.quiet Try.prog a (fun w' => ∃ u, w' = later w u) K := by
  refine ⟨_, ?_, h⟩
  rintro _ ⟨u, rfl⟩
  unfold Oper.quietAt execOp
  simp only [ho, hx, Instr.loadAt, Instr.sureAddr, Sem.run_bind, Sem.run_pure, Result.andThen_ok, load_mid (hr.later u) hj hoff]
  exact ⟨rfl, rfl⟩

theorem wp_load_mid {o : Oper} {a : Act} {w : World} {K : Act → World → Prop} {Q : Exit → Act → World → Prop} {g : Nat} {t : TypeId} {s : Nat → Nat} (hr : Row w g t (lc3 s)) {off : Nat} (j : Nat) (hj : j < 3) (hoff : off = 4 * j) (x : Operand) (ho : o.op = .load 24 x) (hx : a.eval x = .pointer (some ⟨g, off, none⟩))
    (h : K (a.put o.dst (.agg (lc (part3 s j)))) w) : o.wp Try.prog a w K Q := by
  unfold Oper.wp execOp
  simp only [ho, hx, Instr.loadAt, Instr.sureAddr, Sem.run_bind, Sem.run_pure, Result.andThen_ok, load_mid hr hj hoff]
  exact h
theorem wpOp_of {P : Program} {ops : Array Oper} {Q : Exit → Act → World → Prop} {K : Act → World → Prop} {a : Act} {w : World} {j : Nat} {o : Oper} (ho : ops[j]? = some o) (hg : o.guard = none) (h : o.wp P a w K Q) : wpOp P ops Q j K a w := by
  unfold wpOp; rw [ho]; dsimp only
  rw [if_pos (by unfold Region.wanted; rw [hg])]; exact .inl h
theorem ready_at {md : Region.Mode} {ops : Array Oper} {done : Array Bool} {j : Nat} {o : Oper} (hj : j ∈ Region.ready md ops done) (ho : ops[j]? = some o) : done.getD j false = false ∧ ∀ e ∈ o.after, Region.binds md e = true → done.getD e.on false = true := by
  obtain ⟨hu, o', ho', h⟩ := mem_ready.1 hj
  obtain rfl : o = o' := Option.some.inj (ho.symm.trans ho')
  refine ⟨?_, h⟩
  rcases Nat.lt_or_ge j done.size with h' | h'
  · simp [h'] at hu ⊢; exact hu
  · simp [Array.getElem?_eq_none h'] at hu
theorem ready_lt {md : Region.Mode} {ops : Array Oper} {done : Array Bool} {j : Nat} (hj : j ∈ Region.ready md ops done) : j < ops.size := by
  obtain ⟨_, o, ho, _⟩ := mem_ready.1 hj
  exact (Array.getElem?_eq_some_iff.1 ho).1
theorem eval_tm (a : Act) (s : Nat) : a.eval (.tmp s) = tm a s := rfl

theorem later_below {w u wn : World} (h : wn = later w u) : Below w.heap.size w wn := h ▸ below_later w u
theorem wpList_load_let_g {ops : Array Oper} {rest : List Oper} {o : Oper} {a : Act} {w : World} {Q : Exit → Act → World → Prop} {g : Nat} {t : TypeId} {s : Nat → Nat} (hr : Row w g t (lc s)) (hw : Region.wanted o (yielded ops a.tmps) = true) (x : Operand) (ho : o.op = .load 24 x) (hx : a.eval x = .pointer (some ⟨g, 0, none⟩))
    (h : wpList Try.prog ops Q rest (a.put o.dst (.agg (lc s))) w) : wpList Try.prog ops Q (o :: rest) a w := by
  rw [wpList, if_pos hw]; exact .inl (wp_load_let hr x ho hx h)
theorem wp_region_named {P : Program} {c : Code} {Q : Exit → Act → World → Prop} {a : Act} {w : World} (h : ∀ fr, fr = a → c.wp P Q fr w) : c.wp P Q a w := h a rfl

set_option maxHeartbeats 4000000 in
theorem algebra_core (s : Nat → Nat) (A B C U M D N NB X V Y Z : Nat → Nat) (x : Nat) (p q : Bool) (la lb lu lm ln : Nat) (hA : part3 s 0 = A) (hB : part3 s 1 = B) (hC : part3 s 2 = C) (hx : x < 256)
    (hl1 : lu + lm = la + lb) (hl2 : la + ln = 256) (hle : lu ≤ 256 ∧ lm ≤ 256 ∧ la ≤ 256 ∧ lb ≤ 256 ∧ ln ≤ 256)
    (hal : ∀ w, Calls Try.prog 13 #[] w fun e w' => e = .returned (.bool true) ∧ Below w.heap.size w w')
    (p1 : ∀ w, Calls Try.prog 12 #[.agg (lc A), .int .u8 x] w fun e w' => e = .returned (.bool p) ∧ Below w.heap.size w w')
    (p2 : ∀ w, Calls Try.prog 12 #[.agg (lc B), .int .u8 x] w fun e w' => e = .returned (.bool q) ∧ Below w.heap.size w w')
    (p3 : ∀ w, Calls Try.prog 12 #[.agg (lc U), .int .u8 x] w fun e w' => e = .returned (.bool (p || q)) ∧ Below w.heap.size w w')
    (p4 : ∀ w, Calls Try.prog 12 #[.agg (lc M), .int .u8 x] w fun e w' => e = .returned (.bool (p && q)) ∧ Below w.heap.size w w')
    (p5 : ∀ w, Calls Try.prog 12 #[.agg (lc D), .int .u8 x] w fun e w' => e = .returned (.bool (p && !q)) ∧ Below w.heap.size w w')
    (p6 : ∀ w, Calls Try.prog 12 #[.agg (lc N), .int .u8 x] w fun e w' => e = .returned (.bool (!p)) ∧ Below w.heap.size w w')
    (c1 : ∀ w, Calls Try.prog 18 #[.agg (lc A), .agg (lc B)] w fun e w' => e = .returned (.agg (lc U)) ∧ Below w.heap.size w w')
    (c2 : ∀ w, Calls Try.prog 19 #[.agg (lc A), .agg (lc B)] w fun e w' => e = .returned (.agg (lc M)) ∧ Below w.heap.size w w')
    (c3 : ∀ w, Calls Try.prog 20 #[.agg (lc A), .agg (lc B)] w fun e w' => e = .returned (.agg (lc D)) ∧ Below w.heap.size w w')
    (c4 : ∀ w, Calls Try.prog 21 #[.agg (lc A)] w fun e w' => e = .returned (.agg (lc N)) ∧ Below w.heap.size w w')
    (c5 : ∀ w, Calls Try.prog 18 #[.agg (lc B), .agg (lc A)] w fun e w' => e = .returned (.agg (lc U)) ∧ Below w.heap.size w w')
    (c6 : ∀ w, Calls Try.prog 19 #[.agg (lc B), .agg (lc A)] w fun e w' => e = .returned (.agg (lc M)) ∧ Below w.heap.size w w')
    (c7 : ∀ w, Calls Try.prog 21 #[.agg (lc N)] w fun e w' => e = .returned (.agg (lc A)) ∧ Below w.heap.size w w')
    (c8 : ∀ w, Calls Try.prog 21 #[.agg (lc B)] w fun e w' => e = .returned (.agg (lc NB)) ∧ Below w.heap.size w w')
    (c9 : ∀ w, Calls Try.prog 19 #[.agg (lc A), .agg (lc NB)] w fun e w' => e = .returned (.agg (lc D)) ∧ Below w.heap.size w w')
    (c10 : ∀ w, Calls Try.prog 21 #[.agg (lc U)] w fun e w' => e = .returned (.agg (lc X)) ∧ Below w.heap.size w w')
    (c11 : ∀ w, Calls Try.prog 19 #[.agg (lc N), .agg (lc NB)] w fun e w' => e = .returned (.agg (lc X)) ∧ Below w.heap.size w w')
    (c12 : ∀ w, Calls Try.prog 18 #[.agg (lc B), .agg (lc C)] w fun e w' => e = .returned (.agg (lc V)) ∧ Below w.heap.size w w')
    (c13 : ∀ w, Calls Try.prog 19 #[.agg (lc A), .agg (lc V)] w fun e w' => e = .returned (.agg (lc Y)) ∧ Below w.heap.size w w')
    (c14 : ∀ w, Calls Try.prog 19 #[.agg (lc A), .agg (lc C)] w fun e w' => e = .returned (.agg (lc Z)) ∧ Below w.heap.size w w')
    (c15 : ∀ w, Calls Try.prog 18 #[.agg (lc M), .agg (lc Z)] w fun e w' => e = .returned (.agg (lc Y)) ∧ Below w.heap.size w w')
    (l1 : ∀ w, Calls Try.prog 14 #[.agg (lc U)] w fun e w' => e = .returned (.int .i64 lu) ∧ Below w.heap.size w w')
    (l2 : ∀ w, Calls Try.prog 14 #[.agg (lc M)] w fun e w' => e = .returned (.int .i64 lm) ∧ Below w.heap.size w w')
    (l3 : ∀ w, Calls Try.prog 14 #[.agg (lc A)] w fun e w' => e = .returned (.int .i64 la) ∧ Below w.heap.size w w')
    (l4 : ∀ w, Calls Try.prog 14 #[.agg (lc B)] w fun e w' => e = .returned (.int .i64 lb) ∧ Below w.heap.size w w')
    (l5 : ∀ w, Calls Try.prog 14 #[.agg (lc N)] w fun e w' => e = .returned (.int .i64 ln) ∧ Below w.heap.size w w')
    (w : World) :
    Calls Try.prog 5 #[.agg (lc3 s), .int .u8 x] w fun e w' => e = .returned (.bool true) ∧ Below w.heap.size w w' := by
  have P := Lib.hid (And.intro p1 (And.intro p2 (And.intro p3 (And.intro p4 (And.intro p5 p6)))))
  have K1 := Lib.hid (And.intro c1 (And.intro c2 (And.intro c3 c4)))
  have K2 := Lib.hid (And.intro c5 (And.intro c6 (And.intro c7 (And.intro c8 c9))))
  have K3 := Lib.hid (And.intro c10 (And.intro c11 (And.intro c12 (And.intro c13 (And.intro c14 c15)))))
  have LL := Lib.hid (And.intro l1 (And.intro l2 (And.intro l3 (And.intro l4 l5))))
  have HAL := Lib.hid hal
  have E1 : ((lu : Int) + (lm : Int) == (la : Int) + (lb : Int)) = true := by simpa using (by omega : (lu : Int) + (lm : Int) = (la : Int) + (lb : Int))
  have E2 : ((la : Int) + (ln : Int) == 256) = true := by simpa using (by omega : (la : Int) + (ln : Int) = 256)
  have F1 : (lu : Int) ≤ 256 := by omega
  have F2 : (lm : Int) ≤ 256 := by omega
  have F3 : (la : Int) ≤ 256 := by omega
  have F4 : (lb : Int) ≤ 256 := by omega
  have F5 : (ln : Int) ≤ 256 := by omega
  clear hle
  have r0 := Row.new w 37 (lc3 s)
  have hb := (Below.refl w.heap.size w).alloc (Nat.le_refl _) (Obj.cells (lc3 s) 37)
  have zs := zero_let
  clear p1 p2 p3 p4 p5 p6 c1 c2 c3 c4 c5 c6 c7 c8 c9 c10 c11 c12 c13 c14 c15 l1 l2 l3 l4 l5 hal hl1 hl2
  have HX := Lib.hid hx
  clear hx
  go_enter Try.func5, Try.ntmps5
  go_wp2
  obtain ⟨w1, hw1⟩ : ∃ w1, w1 = w.alloc (Obj.cells (lc3 s) 37) := ⟨_, rfl⟩
  rw [← hw1] at r0 hb ⊢
  clear hw1
  refine wp_region_named fun fr hfr => ?_
  have old2 : tm fr 2 = .pointer (some ⟨w.heap.size, 0, none⟩) := by rw [hfr]; simp [tm]
  obtain ⟨P0, hP0⟩ : ∃ P0 : Plan, P0 = ((fr, fun j => [some 14, some 15, some 16, some 17, some 18, some 19, some 5, some 6, some 7, none, none, none].getD j none, 12, fun j => [.pointer (some ⟨w.heap.size, 0, none⟩), .agg (lc A), .pointer (some ⟨w.heap.size, 4, none⟩), .agg (lc B), .pointer (some ⟨w.heap.size, 8, none⟩), .agg (lc C)].getD j undef, w1, 6, 9, 3, fun i => [A, B, C].getD i (fun _ => 0)) : Plan) := ⟨_, rfl⟩
  have hm : P0.m = 12 := by rw [hP0]; rfl
  have hal : P0.al = 6 := by rw [hP0]; rfl
  have hst : P0.st = 9 := by rw [hP0]; rfl
  have hk : P0.k = 3 := by rw [hP0]; rfl
  have hd : P0.dst = fun j => [some 14, some 15, some 16, some 17, some 18, some 19, some 5, some 6, some 7, none, none, none].getD j none := by rw [hP0]; rfl
  have hv : P0.Vq = fun j => [.pointer (some ⟨w.heap.size, 0, none⟩), .agg (lc A), .pointer (some ⟨w.heap.size, 4, none⟩), .agg (lc B), .pointer (some ⟨w.heap.size, 8, none⟩), .agg (lc C)].getD j undef := by rw [hP0]; rfl
  have hw0 : P0.w0 = w1 := by rw [hP0]; rfl
  have ha0 : P0.a0 = fr := by rw [hP0]; rfl
  have hR : P0.R = fun i => [A, B, C].getD i (fun _ => 0) := by rw [hP0]; rfl
  have ok : P0.ok := by
    unfold Plan.ok
    rw [hm, hal, hst, hk, hd, ha0]
    refine ⟨?_, ?_, by omega, by omega, ?_⟩
    · have h : ∀ i : Fin 12, ∀ j : Fin 12, ([some 14, some 15, some 16, some 17, some 18, some 19, some 5, some 6, some 7, none, none, none] : List (Option Nat)).getD i.1 none ≠ none → ([some 14, some 15, some 16, some 17, some 18, some 19, some 5, some 6, some 7, none, none, none] : List (Option Nat)).getD i.1 none = ([some 14, some 15, some 16, some 17, some 18, some 19, some 5, some 6, some 7, none, none, none] : List (Option Nat)).getD j.1 none → i.1 = j.1 := by decide
      exact fun i j d hi hj e1 e2 => h ⟨i, hi⟩ ⟨j, hj⟩ (fun hn => by have e3 : some d = none := e1.symm.trans hn; cases e3) (e1.trans e2.symm)
    · have h : ∀ i : Fin 12, (([some 14, some 15, some 16, some 17, some 18, some 19, some 5, some 6, some 7, none, none, none] : List (Option Nat)).getD i.1 none).getD 0 < 141 := by decide
      intro i d hi e
      have := h ⟨i, hi⟩
      dsimp only at this e
      rw [e] at this
      rw [hfr]; exact this
    · have h : ∀ i : Fin 3, ([some 14, some 15, some 16, some 17, some 18, some 19, some 5, some 6, some 7, none, none, none] : List (Option Nat)).getD (9 + i.1) none = none := by decide
      exact fun i hi => h ⟨i, hi⟩
  have hw0' : Below P0.w0.heap.size P0.w0 w1.drew := by rw [hw0]; exact (Below.refl _ _).drew
  have hstart := Plan.start P0 _ hw0'
  rw [hm, ha0] at hstart
  refine wp_region_inv (by kernel_rfl) (Plan.Inv P0) hstart ?_ ?_
  · intro done a wx j hI hj
    have hlt : j < 12 := ready_lt hj
    have hbx := hI.below
    rw [hw0] at hbx
    have rx := r0.below' hbx
    have hc : j = 0 ∨ j = 1 ∨ j = 2 ∨ j = 3 ∨ j = 4 ∨ j = 5 ∨ j = 6 ∨ j = 7 ∨ j = 8 ∨ j = 9 ∨ j = 10 ∨ j = 11 := by omega
    rcases hc with rfl | rfl | rfl | rfl | rfl | rfl | rfl | rfl | rfl | rfl | rfl | rfl
    · obtain ⟨hu, hall⟩ := ready_at hj rfl
      refine wpOp_of rfl rfl ?_
      have e0 : a.eval (.tmp 2) = .pointer (some ⟨w.heap.size, 0, none⟩) := (hI.old (s := 2) (fun i hi => by rw [hd]; rw [hm] at hi; exact (by decide : ∀ i : Fin 12, ([some 14, some 15, some 16, some 17, some 18, some 19, some 5, some 6, some 7, none, none, none] : List (Option Nat)).getD i.1 none ≠ some 2) ⟨i, hi⟩)).trans (by rw [ha0]; exact old2)
      have q := fun w' (hb' : Below wx.heap.size wx w') => hI.quiet ok (j := 0) (by rw [hm]; omega) hu (by rw [hal, hst, hk]; omega) hb'
      rw [show P0.dst 0 = some 14 by rw [hd]; rfl, show P0.Vq 0 = .pointer (some ⟨w.heap.size, 0, none⟩) by rw [hv]; rfl] at q
      have e0' : a.tmps[2]?.getD undef = .pointer (some ⟨w.heap.size, 0, none⟩) := by rw [← e0, eval_tm, tm]; simp
      refine (fun (hs : ∀ K : Act → World → Prop, K (a.put (some 14) (.pointer (some ⟨w.heap.size, 0, none⟩))) wx → Oper.wp Try.prog _ a wx K _) => hs _ (q _ (Below.refl _ _))) ?_
      intro K hK
      clear hI q
      go_simp
      exact hK
    · obtain ⟨hu, hall⟩ := ready_at hj rfl
      refine wpOp_of rfl rfl ?_
      have h0 : done.getD 0 false = true := hall ⟨0, .data⟩ (by simp) rfl
      have e0 : a.eval (.tmp 14) = .pointer (some ⟨w.heap.size, 0, none⟩) := (hI.slot (j := 0) (d := 14) (by rw [hm]; omega) h0 (by rw [hd]; rfl) (by rw [hal, hk]; omega)).trans (by rw [hv]; rfl)
      have q := fun w' (hb' : Below wx.heap.size wx w') => hI.quiet ok (j := 1) (by rw [hm]; omega) hu (by rw [hal, hst, hk]; omega) hb'
      rw [show P0.dst 1 = some 15 by rw [hd]; rfl, show P0.Vq 1 = .agg (lc A) by rw [hv]; rfl] at q
      exact wp_load_mid rx 0 (by omega) rfl _ rfl e0 (by rw [hA]; exact q _ (Below.refl _ _))
    · obtain ⟨hu, hall⟩ := ready_at hj rfl
      refine wpOp_of rfl rfl ?_
      have e0 : a.eval (.tmp 2) = .pointer (some ⟨w.heap.size, 0, none⟩) := (hI.old (s := 2) (fun i hi => by rw [hd]; rw [hm] at hi; exact (by decide : ∀ i : Fin 12, ([some 14, some 15, some 16, some 17, some 18, some 19, some 5, some 6, some 7, none, none, none] : List (Option Nat)).getD i.1 none ≠ some 2) ⟨i, hi⟩)).trans (by rw [ha0]; exact old2)
      have q := fun w' (hb' : Below wx.heap.size wx w') => hI.quiet ok (j := 2) (by rw [hm]; omega) hu (by rw [hal, hst, hk]; omega) hb'
      rw [show P0.dst 2 = some 16 by rw [hd]; rfl, show P0.Vq 2 = .pointer (some ⟨w.heap.size, 4, none⟩) by rw [hv]; rfl] at q
      have e0' : a.tmps[2]?.getD undef = .pointer (some ⟨w.heap.size, 0, none⟩) := by rw [← e0, eval_tm, tm]; simp
      refine (fun (hs : ∀ K : Act → World → Prop, K (a.put (some 16) (.pointer (some ⟨w.heap.size, 4, none⟩))) wx → Oper.wp Try.prog _ a wx K _) => hs _ (q _ (Below.refl _ _))) ?_
      intro K hK
      clear hI q
      go_simp
      exact hK
    · obtain ⟨hu, hall⟩ := ready_at hj rfl
      refine wpOp_of rfl rfl ?_
      have h2 : done.getD 2 false = true := hall ⟨2, .data⟩ (by simp) rfl
      have e2 : a.eval (.tmp 16) = .pointer (some ⟨w.heap.size, 4, none⟩) := (hI.slot (j := 2) (d := 16) (by rw [hm]; omega) h2 (by rw [hd]; rfl) (by rw [hal, hk]; omega)).trans (by rw [hv]; rfl)
      have q := fun w' (hb' : Below wx.heap.size wx w') => hI.quiet ok (j := 3) (by rw [hm]; omega) hu (by rw [hal, hst, hk]; omega) hb'
      rw [show P0.dst 3 = some 17 by rw [hd]; rfl, show P0.Vq 3 = .agg (lc B) by rw [hv]; rfl] at q
      exact wp_load_mid rx 1 (by omega) rfl _ rfl e2 (by rw [hB]; exact q _ (Below.refl _ _))
    · obtain ⟨hu, hall⟩ := ready_at hj rfl
      refine wpOp_of rfl rfl ?_
      have e0 : a.eval (.tmp 2) = .pointer (some ⟨w.heap.size, 0, none⟩) := (hI.old (s := 2) (fun i hi => by rw [hd]; rw [hm] at hi; exact (by decide : ∀ i : Fin 12, ([some 14, some 15, some 16, some 17, some 18, some 19, some 5, some 6, some 7, none, none, none] : List (Option Nat)).getD i.1 none ≠ some 2) ⟨i, hi⟩)).trans (by rw [ha0]; exact old2)
      have q := fun w' (hb' : Below wx.heap.size wx w') => hI.quiet ok (j := 4) (by rw [hm]; omega) hu (by rw [hal, hst, hk]; omega) hb'
      rw [show P0.dst 4 = some 18 by rw [hd]; rfl, show P0.Vq 4 = .pointer (some ⟨w.heap.size, 8, none⟩) by rw [hv]; rfl] at q
      have e0' : a.tmps[2]?.getD undef = .pointer (some ⟨w.heap.size, 0, none⟩) := by rw [← e0, eval_tm, tm]; simp
      refine (fun (hs : ∀ K : Act → World → Prop, K (a.put (some 18) (.pointer (some ⟨w.heap.size, 8, none⟩))) wx → Oper.wp Try.prog _ a wx K _) => hs _ (q _ (Below.refl _ _))) ?_
      intro K hK
      clear hI q
      go_simp
      exact hK
    · obtain ⟨hu, hall⟩ := ready_at hj rfl
      refine wpOp_of rfl rfl ?_
      have h4 : done.getD 4 false = true := hall ⟨4, .data⟩ (by simp) rfl
      have e4 : a.eval (.tmp 18) = .pointer (some ⟨w.heap.size, 8, none⟩) := (hI.slot (j := 4) (d := 18) (by rw [hm]; omega) h4 (by rw [hd]; rfl) (by rw [hal, hk]; omega)).trans (by rw [hv]; rfl)
      have q := fun w' (hb' : Below wx.heap.size wx w') => hI.quiet ok (j := 5) (by rw [hm]; omega) hu (by rw [hal, hst, hk]; omega) hb'
      rw [show P0.dst 5 = some 19 by rw [hd]; rfl, show P0.Vq 5 = .agg (lc C) by rw [hv]; rfl] at q
      exact wp_load_mid rx 2 (by omega) rfl _ rfl e4 (by rw [hC]; exact q _ (Below.refl _ _))
    · obtain ⟨hu, hall⟩ := ready_at hj rfl
      refine wpOp_of rfl rfl ?_
      have q := hI.alloc ok (i := 0) (by rw [hk]; omega) (by rw [hal]; exact hu)
      rw [hal, show P0.dst (6 + 0) = some 5 by rw [hd]; rfl] at q
      refine (fun (hs : ∀ K : Act → World → Prop, K (a.put (some 5) (.pointer (some ⟨wx.heap.size, 0, none⟩))) (wx.alloc (.cells (lc fun _ => 0) 24)) → Oper.wp Try.prog _ a wx K _) => hs _ q) ?_
      intro K hK
      clear hI q
      have zl := zero_let
      go_simp
      exact hK
    · obtain ⟨hu, hall⟩ := ready_at hj rfl
      refine wpOp_of rfl rfl ?_
      have q := hI.alloc ok (i := 1) (by rw [hk]; omega) (by rw [hal]; exact hu)
      rw [hal, show P0.dst (6 + 1) = some 6 by rw [hd]; rfl] at q
      refine (fun (hs : ∀ K : Act → World → Prop, K (a.put (some 6) (.pointer (some ⟨wx.heap.size, 0, none⟩))) (wx.alloc (.cells (lc fun _ => 0) 24)) → Oper.wp Try.prog _ a wx K _) => hs _ q) ?_
      intro K hK
      clear hI q
      have zl := zero_let
      go_simp
      exact hK
    · obtain ⟨hu, hall⟩ := ready_at hj rfl
      refine wpOp_of rfl rfl ?_
      have q := hI.alloc ok (i := 2) (by rw [hk]; omega) (by rw [hal]; exact hu)
      rw [hal, show P0.dst (6 + 2) = some 7 by rw [hd]; rfl] at q
      refine (fun (hs : ∀ K : Act → World → Prop, K (a.put (some 7) (.pointer (some ⟨wx.heap.size, 0, none⟩))) (wx.alloc (.cells (lc fun _ => 0) 24)) → Oper.wp Try.prog _ a wx K _) => hs _ q) ?_
      intro K hK
      clear hI q
      have zl := zero_let
      go_simp
      exact hK
    · obtain ⟨hu, hall⟩ := ready_at hj rfl
      refine wpOp_of rfl rfl ?_
      have h6 : done.getD 6 false = true := hall ⟨6, .data⟩ (by simp) rfl
      have h1 : done.getD 1 false = true := hall ⟨1, .data⟩ (by simp) rfl
      have e1 : a.eval (.tmp 15) = .agg (lc A) := (hI.slot (j := 1) (d := 15) (by rw [hm]; omega) h1 (by rw [hd]; rfl) (by rw [hal, hk]; omega)).trans (by rw [hv]; rfl)
      obtain ⟨g, hg, hrow, q⟩ := hI.store ok (i := 0) (d := 5) (by rw [hk]; omega) (by rw [hst]; exact hu) (by rw [hal]; exact h6) (by rw [hal, hd]; rfl)
      rw [hst, show P0.R 0 = A by rw [hR]; rfl] at q
      exact wp_store_let hrow _ _ rfl hg (s' := A) e1 q
    · obtain ⟨hu, hall⟩ := ready_at hj rfl
      refine wpOp_of rfl rfl ?_
      have h7 : done.getD 7 false = true := hall ⟨7, .data⟩ (by simp) rfl
      have h3 : done.getD 3 false = true := hall ⟨3, .data⟩ (by simp) rfl
      have e3 : a.eval (.tmp 17) = .agg (lc B) := (hI.slot (j := 3) (d := 17) (by rw [hm]; omega) h3 (by rw [hd]; rfl) (by rw [hal, hk]; omega)).trans (by rw [hv]; rfl)
      obtain ⟨g, hg, hrow, q⟩ := hI.store ok (i := 1) (d := 6) (by rw [hk]; omega) (by rw [hst]; exact hu) (by rw [hal]; exact h7) (by rw [hal, hd]; rfl)
      rw [hst, show P0.R 1 = B by rw [hR]; rfl] at q
      exact wp_store_let hrow _ _ rfl hg (s' := B) e3 q
    · obtain ⟨hu, hall⟩ := ready_at hj rfl
      refine wpOp_of rfl rfl ?_
      have h8 : done.getD 8 false = true := hall ⟨8, .data⟩ (by simp) rfl
      have h5 : done.getD 5 false = true := hall ⟨5, .data⟩ (by simp) rfl
      have e5 : a.eval (.tmp 19) = .agg (lc C) := (hI.slot (j := 5) (d := 19) (by rw [hm]; omega) h5 (by rw [hd]; rfl) (by rw [hal, hk]; omega)).trans (by rw [hv]; rfl)
      obtain ⟨g, hg, hrow, q⟩ := hI.store ok (i := 2) (d := 7) (by rw [hk]; omega) (by rw [hst]; exact hu) (by rw [hal]; exact h8) (by rw [hal, hd]; rfl)
      rw [hst, show P0.R 2 = C by rw [hR]; rfl] at q
      exact wp_store_let hrow _ _ rfl hg (s' := C) e5 q
  · intro done a wx hI hready
    have hall : ∀ j, j < P0.m → done.getD j false = true := by
      rw [hm]
      have hr' := hready
      exact all_done (by kernel_rfl) hready (hI.1.trans hm)
    obtain ⟨G, rfl, hbx, hrows⟩ := hI.fin ok hall (fun G => (((((((((fr.put (some 14) (.pointer (some ⟨w.heap.size, 0, none⟩))).put (some 15) (.agg (lc A))).put (some 16) (.pointer (some ⟨w.heap.size, 4, none⟩))).put (some 17) (.agg (lc B))).put (some 18) (.pointer (some ⟨w.heap.size, 8, none⟩))).put (some 19) (.agg (lc C))).put (some 5) (.pointer (some ⟨G 0, 0, none⟩))).put (some 6) (.pointer (some ⟨G 1, 0, none⟩))).put (some 7) (.pointer (some ⟨G 2, 0, none⟩)))) (fun G => by
      have sz : fr.tmps.size = 141 := by rw [hfr]; rfl
      refine ⟨by simp only [defers_put, ha0], by simp only [size_put, ha0], fun j hj d hdj => ?_, fun s hs => ?_⟩
      · rw [hm] at hj
        rw [hd] at hdj
        have hc : j = 0 ∨ j = 1 ∨ j = 2 ∨ j = 3 ∨ j = 4 ∨ j = 5 ∨ j = 6 ∨ j = 7 ∨ j = 8 ∨ j = 9 ∨ j = 10 ∨ j = 11 := by omega
        rcases hc with rfl | rfl | rfl | rfl | rfl | rfl | rfl | rfl | rfl | rfl | rfl | rfl
        all_goals first | (cases hdj; done) | (cases hdj; unfold VV; rw [hal, hk, hv]; simp [tm_put, size_put, sz])
      · have hn : s ≠ 14 ∧ s ≠ 15 ∧ s ≠ 16 ∧ s ≠ 17 ∧ s ≠ 18 ∧ s ≠ 19 ∧ s ≠ 5 ∧ s ≠ 6 ∧ s ≠ 7 := by
          have hs' := fun j hj => hs j (by rw [hm]; exact hj)
          rw [hd] at hs'
          exact ⟨fun e => hs' 0 (by omega) (by rw [e]; rfl), fun e => hs' 1 (by omega) (by rw [e]; rfl), fun e => hs' 2 (by omega) (by rw [e]; rfl), fun e => hs' 3 (by omega) (by rw [e]; rfl), fun e => hs' 4 (by omega) (by rw [e]; rfl), fun e => hs' 5 (by omega) (by rw [e]; rfl), fun e => hs' 6 (by omega) (by rw [e]; rfl), fun e => hs' 7 (by omega) (by rw [e]; rfl), fun e => hs' 8 (by omega) (by rw [e]; rfl)⟩
        obtain ⟨n14, n15, n16, n17, n18, n19, n5, n6, n7⟩ := hn
        rw [ha0]; simp [tm_put, size_put, sz, n14, n15, n16, n17, n18, n19, n5, n6, n7])
    rw [hw0] at hbx
    have R0 : Row wx (G 0) 24 (lc A) := by have := hrows 0 (by rw [hk]; omega); rw [hR] at this; exact this
    have R1 : Row wx (G 1) 24 (lc B) := by have := hrows 1 (by rw [hk]; omega); rw [hR] at this; exact this
    have R2 : Row wx (G 2) 24 (lc C) := by have := hrows 2 (by rw [hk]; omega); rw [hR] at this; exact this
    have hb := hb.trans (hbx.mono hb.size)
    obtain ⟨g5, hg5⟩ : ∃ g, g = G 0 := ⟨_, rfl⟩
    obtain ⟨g6, hg6⟩ : ∃ g, g = G 1 := ⟨_, rfl⟩
    obtain ⟨g7, hg7⟩ : ∃ g, g = G 2 := ⟨_, rfl⟩
    rw [← hg5] at R0 ⊢
    rw [← hg6] at R1 ⊢
    rw [← hg7] at R2 ⊢
    subst hfr
    clear hI hready hall hrows hP0 hm hal hst hk hd hv hw0 ha0 hR ok hw0' hstart old2 hg5 hg6 hg7 hbx r0
    clear P0 G
    go_simp
    go_wp2
    refine wp_region_later (by kernel_rfl) (by kernel_rfl) ?_
    repeat (first | go_big_quiet_skip | (go_big_quiet_want; first | (with_reducible refine quiet_load_let R0 _ rfl ?_ ?_; go_simp; go_simp; go_big_quiet_on) | (with_reducible refine quiet_load_let R1 _ rfl ?_ ?_; go_simp; go_simp; go_big_quiet_on) | (go_big_quiet_op; first | go_big_quiet_on | go_big_quiet_call (first | with_reducible exact calls_later (P.out.1 _) | with_reducible exact calls_later (P.out.2.1 _)))))
    refine wpQuiet_nil ?_
    rintro w2 ⟨u, hu⟩
    have hb2 := below_later wx u
    rw [← hu] at hb2
    have RA := R0.below' hb2
    have RB := R1.below' hb2
    have RC := R2.below' hb2
    have hb := hb.trans (hb2.mono hb.size)
    clear hu hb2 u R0 R1 R2
    go_wp2
    refine wp_region_named fun fr hfr => ?_
    have old5 : tm fr 5 = .pointer (some ⟨g5, 0, none⟩) := by rw [hfr]; simp [tm]
    have old6 : tm fr 6 = .pointer (some ⟨g6, 0, none⟩) := by rw [hfr]; simp [tm]
    obtain ⟨P0, hP0⟩ : ∃ P0 : Plan, P0 = ((fr, fun j => [some 26, some 27, some 28, some 29, some 30, some 31, some 32, some 33, some 34, some 35, some 36, some 10, some 11, some 12, some 13, none, none, none, none].getD j none, 19, fun j => [.agg (lc A), .agg (lc B), .agg (lc U), .agg (lc A), .agg (lc B), .agg (lc M), .agg (lc A), .agg (lc B), .agg (lc D), .agg (lc A), .agg (lc N)].getD j undef, w2, 11, 15, 4, fun i => [U, M, D, N].getD i (fun _ => 0)) : Plan) := ⟨_, rfl⟩
    have hm : P0.m = 19 := by rw [hP0]; rfl
    have hal : P0.al = 11 := by rw [hP0]; rfl
    have hst : P0.st = 15 := by rw [hP0]; rfl
    have hk : P0.k = 4 := by rw [hP0]; rfl
    have hd : P0.dst = fun j => [some 26, some 27, some 28, some 29, some 30, some 31, some 32, some 33, some 34, some 35, some 36, some 10, some 11, some 12, some 13, none, none, none, none].getD j none := by rw [hP0]; rfl
    have hv : P0.Vq = fun j => [.agg (lc A), .agg (lc B), .agg (lc U), .agg (lc A), .agg (lc B), .agg (lc M), .agg (lc A), .agg (lc B), .agg (lc D), .agg (lc A), .agg (lc N)].getD j undef := by rw [hP0]; rfl
    have hw0 : P0.w0 = w2 := by rw [hP0]; rfl
    have ha0 : P0.a0 = fr := by rw [hP0]; rfl
    have hR : P0.R = fun i => [U, M, D, N].getD i (fun _ => 0) := by rw [hP0]; rfl
    have ok : P0.ok := by
      unfold Plan.ok
      rw [hm, hal, hst, hk, hd, ha0]
      refine ⟨?_, ?_, by omega, by omega, ?_⟩
      · have h : ∀ i : Fin 19, ∀ j : Fin 19, ([some 26, some 27, some 28, some 29, some 30, some 31, some 32, some 33, some 34, some 35, some 36, some 10, some 11, some 12, some 13, none, none, none, none] : List (Option Nat)).getD i.1 none ≠ none → ([some 26, some 27, some 28, some 29, some 30, some 31, some 32, some 33, some 34, some 35, some 36, some 10, some 11, some 12, some 13, none, none, none, none] : List (Option Nat)).getD i.1 none = ([some 26, some 27, some 28, some 29, some 30, some 31, some 32, some 33, some 34, some 35, some 36, some 10, some 11, some 12, some 13, none, none, none, none] : List (Option Nat)).getD j.1 none → i.1 = j.1 := by decide
        exact fun i j d hi hj e1 e2 => h ⟨i, hi⟩ ⟨j, hj⟩ (fun hn => by have e3 : some d = none := e1.symm.trans hn; cases e3) (e1.trans e2.symm)
      · have h : ∀ i : Fin 19, (([some 26, some 27, some 28, some 29, some 30, some 31, some 32, some 33, some 34, some 35, some 36, some 10, some 11, some 12, some 13, none, none, none, none] : List (Option Nat)).getD i.1 none).getD 0 < 141 := by decide
        intro i d hi e
        have := h ⟨i, hi⟩
        dsimp only at this e
        rw [e] at this
        rw [hfr]; exact this
      · have h : ∀ i : Fin 4, ([some 26, some 27, some 28, some 29, some 30, some 31, some 32, some 33, some 34, some 35, some 36, some 10, some 11, some 12, some 13, none, none, none, none] : List (Option Nat)).getD (15 + i.1) none = none := by decide
        exact fun i hi => h ⟨i, hi⟩
    have hw0' : Below P0.w0.heap.size P0.w0 w2.drew := by rw [hw0]; exact (Below.refl _ _).drew
    have hstart := Plan.start P0 _ hw0'
    rw [hm, ha0] at hstart
    refine wp_region_inv (by kernel_rfl) (Plan.Inv P0) hstart ?_ ?_
    · intro done a wx j hI hj
      have hlt : j < 19 := ready_lt hj
      have hbx := hI.below
      rw [hw0] at hbx
      have rA := RA.below' hbx
      have rB := RB.below' hbx
      have hc : j = 0 ∨ j = 1 ∨ j = 2 ∨ j = 3 ∨ j = 4 ∨ j = 5 ∨ j = 6 ∨ j = 7 ∨ j = 8 ∨ j = 9 ∨ j = 10 ∨ j = 11 ∨ j = 12 ∨ j = 13 ∨ j = 14 ∨ j = 15 ∨ j = 16 ∨ j = 17 ∨ j = 18 := by omega
      rcases hc with rfl | rfl | rfl | rfl | rfl | rfl | rfl | rfl | rfl | rfl | rfl | rfl | rfl | rfl | rfl | rfl | rfl | rfl | rfl
      · obtain ⟨hu, hall⟩ := ready_at hj rfl
        refine wpOp_of rfl rfl ?_
        have e0 : a.eval (.tmp 5) = .pointer (some ⟨g5, 0, none⟩) := (hI.old (s := 5) (fun i hi => by rw [hd]; rw [hm] at hi; exact (by decide : ∀ i : Fin 19, ([some 26, some 27, some 28, some 29, some 30, some 31, some 32, some 33, some 34, some 35, some 36, some 10, some 11, some 12, some 13, none, none, none, none] : List (Option Nat)).getD i.1 none ≠ some 5) ⟨i, hi⟩)).trans (by rw [ha0]; exact old5)
        have q := fun w' (hb' : Below wx.heap.size wx w') => hI.quiet ok (j := 0) (by rw [hm]; omega) hu (by rw [hal, hst, hk]; omega) hb'
        rw [show P0.dst 0 = some 26 by rw [hd]; rfl, show P0.Vq 0 = .agg (lc A) by rw [hv]; rfl] at q
        exact wp_load_let rA _ rfl e0 (q _ (Below.refl _ _))
      · obtain ⟨hu, hall⟩ := ready_at hj rfl
        refine wpOp_of rfl rfl ?_
        have e0 : a.eval (.tmp 6) = .pointer (some ⟨g6, 0, none⟩) := (hI.old (s := 6) (fun i hi => by rw [hd]; rw [hm] at hi; exact (by decide : ∀ i : Fin 19, ([some 26, some 27, some 28, some 29, some 30, some 31, some 32, some 33, some 34, some 35, some 36, some 10, some 11, some 12, some 13, none, none, none, none] : List (Option Nat)).getD i.1 none ≠ some 6) ⟨i, hi⟩)).trans (by rw [ha0]; exact old6)
        have q := fun w' (hb' : Below wx.heap.size wx w') => hI.quiet ok (j := 1) (by rw [hm]; omega) hu (by rw [hal, hst, hk]; omega) hb'
        rw [show P0.dst 1 = some 27 by rw [hd]; rfl, show P0.Vq 1 = .agg (lc B) by rw [hv]; rfl] at q
        exact wp_load_let rB _ rfl e0 (q _ (Below.refl _ _))
      · obtain ⟨hu, hall⟩ := ready_at hj rfl
        refine wpOp_of rfl rfl ?_
        have h0 : done.getD 0 false = true := hall ⟨0, .data⟩ (by simp) rfl
        have h1 : done.getD 1 false = true := hall ⟨1, .data⟩ (by simp) rfl
        have e0 : a.eval (.tmp 26) = .agg (lc A) := (hI.slot (j := 0) (d := 26) (by rw [hm]; omega) h0 (by rw [hd]; rfl) (by rw [hal, hk]; omega)).trans (by rw [hv]; rfl)
        have e1 : a.eval (.tmp 27) = .agg (lc B) := (hI.slot (j := 1) (d := 27) (by rw [hm]; omega) h1 (by rw [hd]; rfl) (by rw [hal, hk]; omega)).trans (by rw [hv]; rfl)
        have q := fun w' (hb' : Below wx.heap.size wx w') => hI.quiet ok (j := 2) (by rw [hm]; omega) hu (by rw [hal, hst, hk]; omega) hb'
        rw [show P0.dst 2 = some 28 by rw [hd]; rfl, show P0.Vq 2 = .agg (lc U) by rw [hv]; rfl] at q
        have e0' : a.tmps[26]?.getD undef = .agg (lc A) := by rw [← e0, eval_tm, tm]; simp
        have e1' : a.tmps[27]?.getD undef = .agg (lc B) := by rw [← e1, eval_tm, tm]; simp
        refine (fun (hs : ∀ K : Act → World → Prop, (∀ w', Below wx.heap.size wx w' → K (a.put (some 28) (.agg (lc U))) w') → Oper.wp Try.prog _ a wx K _) => hs _ q) ?_
        intro K hK
        clear hI q
        go_simp
        refine (K1.out.1 wx).mono ?_
        rintro e w' ⟨rfl, hb'⟩
        exact hK _ hb'
      · obtain ⟨hu, hall⟩ := ready_at hj rfl
        refine wpOp_of rfl rfl ?_
        have e0 : a.eval (.tmp 5) = .pointer (some ⟨g5, 0, none⟩) := (hI.old (s := 5) (fun i hi => by rw [hd]; rw [hm] at hi; exact (by decide : ∀ i : Fin 19, ([some 26, some 27, some 28, some 29, some 30, some 31, some 32, some 33, some 34, some 35, some 36, some 10, some 11, some 12, some 13, none, none, none, none] : List (Option Nat)).getD i.1 none ≠ some 5) ⟨i, hi⟩)).trans (by rw [ha0]; exact old5)
        have q := fun w' (hb' : Below wx.heap.size wx w') => hI.quiet ok (j := 3) (by rw [hm]; omega) hu (by rw [hal, hst, hk]; omega) hb'
        rw [show P0.dst 3 = some 29 by rw [hd]; rfl, show P0.Vq 3 = .agg (lc A) by rw [hv]; rfl] at q
        exact wp_load_let rA _ rfl e0 (q _ (Below.refl _ _))
      · obtain ⟨hu, hall⟩ := ready_at hj rfl
        refine wpOp_of rfl rfl ?_
        have e0 : a.eval (.tmp 6) = .pointer (some ⟨g6, 0, none⟩) := (hI.old (s := 6) (fun i hi => by rw [hd]; rw [hm] at hi; exact (by decide : ∀ i : Fin 19, ([some 26, some 27, some 28, some 29, some 30, some 31, some 32, some 33, some 34, some 35, some 36, some 10, some 11, some 12, some 13, none, none, none, none] : List (Option Nat)).getD i.1 none ≠ some 6) ⟨i, hi⟩)).trans (by rw [ha0]; exact old6)
        have q := fun w' (hb' : Below wx.heap.size wx w') => hI.quiet ok (j := 4) (by rw [hm]; omega) hu (by rw [hal, hst, hk]; omega) hb'
        rw [show P0.dst 4 = some 30 by rw [hd]; rfl, show P0.Vq 4 = .agg (lc B) by rw [hv]; rfl] at q
        exact wp_load_let rB _ rfl e0 (q _ (Below.refl _ _))
      · obtain ⟨hu, hall⟩ := ready_at hj rfl
        refine wpOp_of rfl rfl ?_
        have h3 : done.getD 3 false = true := hall ⟨3, .data⟩ (by simp) rfl
        have h4 : done.getD 4 false = true := hall ⟨4, .data⟩ (by simp) rfl
        have e3 : a.eval (.tmp 29) = .agg (lc A) := (hI.slot (j := 3) (d := 29) (by rw [hm]; omega) h3 (by rw [hd]; rfl) (by rw [hal, hk]; omega)).trans (by rw [hv]; rfl)
        have e4 : a.eval (.tmp 30) = .agg (lc B) := (hI.slot (j := 4) (d := 30) (by rw [hm]; omega) h4 (by rw [hd]; rfl) (by rw [hal, hk]; omega)).trans (by rw [hv]; rfl)
        have q := fun w' (hb' : Below wx.heap.size wx w') => hI.quiet ok (j := 5) (by rw [hm]; omega) hu (by rw [hal, hst, hk]; omega) hb'
        rw [show P0.dst 5 = some 31 by rw [hd]; rfl, show P0.Vq 5 = .agg (lc M) by rw [hv]; rfl] at q
        have e3' : a.tmps[29]?.getD undef = .agg (lc A) := by rw [← e3, eval_tm, tm]; simp
        have e4' : a.tmps[30]?.getD undef = .agg (lc B) := by rw [← e4, eval_tm, tm]; simp
        refine (fun (hs : ∀ K : Act → World → Prop, (∀ w', Below wx.heap.size wx w' → K (a.put (some 31) (.agg (lc M))) w') → Oper.wp Try.prog _ a wx K _) => hs _ q) ?_
        intro K hK
        clear hI q
        go_simp
        refine (K1.out.2.1 wx).mono ?_
        rintro e w' ⟨rfl, hb'⟩
        exact hK _ hb'
      · obtain ⟨hu, hall⟩ := ready_at hj rfl
        refine wpOp_of rfl rfl ?_
        have e0 : a.eval (.tmp 5) = .pointer (some ⟨g5, 0, none⟩) := (hI.old (s := 5) (fun i hi => by rw [hd]; rw [hm] at hi; exact (by decide : ∀ i : Fin 19, ([some 26, some 27, some 28, some 29, some 30, some 31, some 32, some 33, some 34, some 35, some 36, some 10, some 11, some 12, some 13, none, none, none, none] : List (Option Nat)).getD i.1 none ≠ some 5) ⟨i, hi⟩)).trans (by rw [ha0]; exact old5)
        have q := fun w' (hb' : Below wx.heap.size wx w') => hI.quiet ok (j := 6) (by rw [hm]; omega) hu (by rw [hal, hst, hk]; omega) hb'
        rw [show P0.dst 6 = some 32 by rw [hd]; rfl, show P0.Vq 6 = .agg (lc A) by rw [hv]; rfl] at q
        exact wp_load_let rA _ rfl e0 (q _ (Below.refl _ _))
      · obtain ⟨hu, hall⟩ := ready_at hj rfl
        refine wpOp_of rfl rfl ?_
        have e0 : a.eval (.tmp 6) = .pointer (some ⟨g6, 0, none⟩) := (hI.old (s := 6) (fun i hi => by rw [hd]; rw [hm] at hi; exact (by decide : ∀ i : Fin 19, ([some 26, some 27, some 28, some 29, some 30, some 31, some 32, some 33, some 34, some 35, some 36, some 10, some 11, some 12, some 13, none, none, none, none] : List (Option Nat)).getD i.1 none ≠ some 6) ⟨i, hi⟩)).trans (by rw [ha0]; exact old6)
        have q := fun w' (hb' : Below wx.heap.size wx w') => hI.quiet ok (j := 7) (by rw [hm]; omega) hu (by rw [hal, hst, hk]; omega) hb'
        rw [show P0.dst 7 = some 33 by rw [hd]; rfl, show P0.Vq 7 = .agg (lc B) by rw [hv]; rfl] at q
        exact wp_load_let rB _ rfl e0 (q _ (Below.refl _ _))
      · obtain ⟨hu, hall⟩ := ready_at hj rfl
        refine wpOp_of rfl rfl ?_
        have h6 : done.getD 6 false = true := hall ⟨6, .data⟩ (by simp) rfl
        have h7 : done.getD 7 false = true := hall ⟨7, .data⟩ (by simp) rfl
        have e6 : a.eval (.tmp 32) = .agg (lc A) := (hI.slot (j := 6) (d := 32) (by rw [hm]; omega) h6 (by rw [hd]; rfl) (by rw [hal, hk]; omega)).trans (by rw [hv]; rfl)
        have e7 : a.eval (.tmp 33) = .agg (lc B) := (hI.slot (j := 7) (d := 33) (by rw [hm]; omega) h7 (by rw [hd]; rfl) (by rw [hal, hk]; omega)).trans (by rw [hv]; rfl)
        have q := fun w' (hb' : Below wx.heap.size wx w') => hI.quiet ok (j := 8) (by rw [hm]; omega) hu (by rw [hal, hst, hk]; omega) hb'
        rw [show P0.dst 8 = some 34 by rw [hd]; rfl, show P0.Vq 8 = .agg (lc D) by rw [hv]; rfl] at q
        have e6' : a.tmps[32]?.getD undef = .agg (lc A) := by rw [← e6, eval_tm, tm]; simp
        have e7' : a.tmps[33]?.getD undef = .agg (lc B) := by rw [← e7, eval_tm, tm]; simp
        refine (fun (hs : ∀ K : Act → World → Prop, (∀ w', Below wx.heap.size wx w' → K (a.put (some 34) (.agg (lc D))) w') → Oper.wp Try.prog _ a wx K _) => hs _ q) ?_
        intro K hK
        clear hI q
        go_simp
        refine (K1.out.2.2.1 wx).mono ?_
        rintro e w' ⟨rfl, hb'⟩
        exact hK _ hb'
      · obtain ⟨hu, hall⟩ := ready_at hj rfl
        refine wpOp_of rfl rfl ?_
        have e0 : a.eval (.tmp 5) = .pointer (some ⟨g5, 0, none⟩) := (hI.old (s := 5) (fun i hi => by rw [hd]; rw [hm] at hi; exact (by decide : ∀ i : Fin 19, ([some 26, some 27, some 28, some 29, some 30, some 31, some 32, some 33, some 34, some 35, some 36, some 10, some 11, some 12, some 13, none, none, none, none] : List (Option Nat)).getD i.1 none ≠ some 5) ⟨i, hi⟩)).trans (by rw [ha0]; exact old5)
        have q := fun w' (hb' : Below wx.heap.size wx w') => hI.quiet ok (j := 9) (by rw [hm]; omega) hu (by rw [hal, hst, hk]; omega) hb'
        rw [show P0.dst 9 = some 35 by rw [hd]; rfl, show P0.Vq 9 = .agg (lc A) by rw [hv]; rfl] at q
        exact wp_load_let rA _ rfl e0 (q _ (Below.refl _ _))
      · obtain ⟨hu, hall⟩ := ready_at hj rfl
        refine wpOp_of rfl rfl ?_
        have h9 : done.getD 9 false = true := hall ⟨9, .data⟩ (by simp) rfl
        have e9 : a.eval (.tmp 35) = .agg (lc A) := (hI.slot (j := 9) (d := 35) (by rw [hm]; omega) h9 (by rw [hd]; rfl) (by rw [hal, hk]; omega)).trans (by rw [hv]; rfl)
        have q := fun w' (hb' : Below wx.heap.size wx w') => hI.quiet ok (j := 10) (by rw [hm]; omega) hu (by rw [hal, hst, hk]; omega) hb'
        rw [show P0.dst 10 = some 36 by rw [hd]; rfl, show P0.Vq 10 = .agg (lc N) by rw [hv]; rfl] at q
        have e9' : a.tmps[35]?.getD undef = .agg (lc A) := by rw [← e9, eval_tm, tm]; simp
        refine (fun (hs : ∀ K : Act → World → Prop, (∀ w', Below wx.heap.size wx w' → K (a.put (some 36) (.agg (lc N))) w') → Oper.wp Try.prog _ a wx K _) => hs _ q) ?_
        intro K hK
        clear hI q
        go_simp
        refine (K1.out.2.2.2 wx).mono ?_
        rintro e w' ⟨rfl, hb'⟩
        exact hK _ hb'
      · obtain ⟨hu, hall⟩ := ready_at hj rfl
        refine wpOp_of rfl rfl ?_
        have q := hI.alloc ok (i := 0) (by rw [hk]; omega) (by rw [hal]; exact hu)
        rw [hal, show P0.dst (11 + 0) = some 10 by rw [hd]; rfl] at q
        refine (fun (hs : ∀ K : Act → World → Prop, K (a.put (some 10) (.pointer (some ⟨wx.heap.size, 0, none⟩))) (wx.alloc (.cells (lc fun _ => 0) 24)) → Oper.wp Try.prog _ a wx K _) => hs _ q) ?_
        intro K hK
        clear hI q
        have zl := zero_let
        go_simp
        exact hK
      · obtain ⟨hu, hall⟩ := ready_at hj rfl
        refine wpOp_of rfl rfl ?_
        have q := hI.alloc ok (i := 1) (by rw [hk]; omega) (by rw [hal]; exact hu)
        rw [hal, show P0.dst (11 + 1) = some 11 by rw [hd]; rfl] at q
        refine (fun (hs : ∀ K : Act → World → Prop, K (a.put (some 11) (.pointer (some ⟨wx.heap.size, 0, none⟩))) (wx.alloc (.cells (lc fun _ => 0) 24)) → Oper.wp Try.prog _ a wx K _) => hs _ q) ?_
        intro K hK
        clear hI q
        have zl := zero_let
        go_simp
        exact hK
      · obtain ⟨hu, hall⟩ := ready_at hj rfl
        refine wpOp_of rfl rfl ?_
        have q := hI.alloc ok (i := 2) (by rw [hk]; omega) (by rw [hal]; exact hu)
        rw [hal, show P0.dst (11 + 2) = some 12 by rw [hd]; rfl] at q
        refine (fun (hs : ∀ K : Act → World → Prop, K (a.put (some 12) (.pointer (some ⟨wx.heap.size, 0, none⟩))) (wx.alloc (.cells (lc fun _ => 0) 24)) → Oper.wp Try.prog _ a wx K _) => hs _ q) ?_
        intro K hK
        clear hI q
        have zl := zero_let
        go_simp
        exact hK
      · obtain ⟨hu, hall⟩ := ready_at hj rfl
        refine wpOp_of rfl rfl ?_
        have q := hI.alloc ok (i := 3) (by rw [hk]; omega) (by rw [hal]; exact hu)
        rw [hal, show P0.dst (11 + 3) = some 13 by rw [hd]; rfl] at q
        refine (fun (hs : ∀ K : Act → World → Prop, K (a.put (some 13) (.pointer (some ⟨wx.heap.size, 0, none⟩))) (wx.alloc (.cells (lc fun _ => 0) 24)) → Oper.wp Try.prog _ a wx K _) => hs _ q) ?_
        intro K hK
        clear hI q
        have zl := zero_let
        go_simp
        exact hK
      · obtain ⟨hu, hall⟩ := ready_at hj rfl
        refine wpOp_of rfl rfl ?_
        have h11 : done.getD 11 false = true := hall ⟨11, .data⟩ (by simp) rfl
        have h2 : done.getD 2 false = true := hall ⟨2, .data⟩ (by simp) rfl
        have e2 : a.eval (.tmp 28) = .agg (lc U) := (hI.slot (j := 2) (d := 28) (by rw [hm]; omega) h2 (by rw [hd]; rfl) (by rw [hal, hk]; omega)).trans (by rw [hv]; rfl)
        obtain ⟨g, hg, hrow, q⟩ := hI.store ok (i := 0) (d := 10) (by rw [hk]; omega) (by rw [hst]; exact hu) (by rw [hal]; exact h11) (by rw [hal, hd]; rfl)
        rw [hst, show P0.R 0 = U by rw [hR]; rfl] at q
        exact wp_store_let hrow _ _ rfl hg (s' := U) e2 q
      · obtain ⟨hu, hall⟩ := ready_at hj rfl
        refine wpOp_of rfl rfl ?_
        have h12 : done.getD 12 false = true := hall ⟨12, .data⟩ (by simp) rfl
        have h5 : done.getD 5 false = true := hall ⟨5, .data⟩ (by simp) rfl
        have e5 : a.eval (.tmp 31) = .agg (lc M) := (hI.slot (j := 5) (d := 31) (by rw [hm]; omega) h5 (by rw [hd]; rfl) (by rw [hal, hk]; omega)).trans (by rw [hv]; rfl)
        obtain ⟨g, hg, hrow, q⟩ := hI.store ok (i := 1) (d := 11) (by rw [hk]; omega) (by rw [hst]; exact hu) (by rw [hal]; exact h12) (by rw [hal, hd]; rfl)
        rw [hst, show P0.R 1 = M by rw [hR]; rfl] at q
        exact wp_store_let hrow _ _ rfl hg (s' := M) e5 q
      · obtain ⟨hu, hall⟩ := ready_at hj rfl
        refine wpOp_of rfl rfl ?_
        have h13 : done.getD 13 false = true := hall ⟨13, .data⟩ (by simp) rfl
        have h8 : done.getD 8 false = true := hall ⟨8, .data⟩ (by simp) rfl
        have e8 : a.eval (.tmp 34) = .agg (lc D) := (hI.slot (j := 8) (d := 34) (by rw [hm]; omega) h8 (by rw [hd]; rfl) (by rw [hal, hk]; omega)).trans (by rw [hv]; rfl)
        obtain ⟨g, hg, hrow, q⟩ := hI.store ok (i := 2) (d := 12) (by rw [hk]; omega) (by rw [hst]; exact hu) (by rw [hal]; exact h13) (by rw [hal, hd]; rfl)
        rw [hst, show P0.R 2 = D by rw [hR]; rfl] at q
        exact wp_store_let hrow _ _ rfl hg (s' := D) e8 q
      · obtain ⟨hu, hall⟩ := ready_at hj rfl
        refine wpOp_of rfl rfl ?_
        have h14 : done.getD 14 false = true := hall ⟨14, .data⟩ (by simp) rfl
        have h10 : done.getD 10 false = true := hall ⟨10, .data⟩ (by simp) rfl
        have e10 : a.eval (.tmp 36) = .agg (lc N) := (hI.slot (j := 10) (d := 36) (by rw [hm]; omega) h10 (by rw [hd]; rfl) (by rw [hal, hk]; omega)).trans (by rw [hv]; rfl)
        obtain ⟨g, hg, hrow, q⟩ := hI.store ok (i := 3) (d := 13) (by rw [hk]; omega) (by rw [hst]; exact hu) (by rw [hal]; exact h14) (by rw [hal, hd]; rfl)
        rw [hst, show P0.R 3 = N by rw [hR]; rfl] at q
        exact wp_store_let hrow _ _ rfl hg (s' := N) e10 q
    · intro done a wx hI hready
      have hall : ∀ j, j < P0.m → done.getD j false = true := by
        rw [hm]
        have hr' := hready
        exact all_done (by kernel_rfl) hready (hI.1.trans hm)
      obtain ⟨G, rfl, hbx, hrows⟩ := hI.fin ok hall (fun G => (((((((((((((((fr.put (some 26) (.agg (lc A))).put (some 27) (.agg (lc B))).put (some 28) (.agg (lc U))).put (some 29) (.agg (lc A))).put (some 30) (.agg (lc B))).put (some 31) (.agg (lc M))).put (some 32) (.agg (lc A))).put (some 33) (.agg (lc B))).put (some 34) (.agg (lc D))).put (some 35) (.agg (lc A))).put (some 36) (.agg (lc N))).put (some 10) (.pointer (some ⟨G 0, 0, none⟩))).put (some 11) (.pointer (some ⟨G 1, 0, none⟩))).put (some 12) (.pointer (some ⟨G 2, 0, none⟩))).put (some 13) (.pointer (some ⟨G 3, 0, none⟩)))) (fun G => by
        have sz : fr.tmps.size = 141 := by rw [hfr]; rfl
        refine ⟨by simp only [defers_put, ha0], by simp only [size_put, ha0], fun j hj d hdj => ?_, fun s hs => ?_⟩
        · rw [hm] at hj
          rw [hd] at hdj
          have hc : j = 0 ∨ j = 1 ∨ j = 2 ∨ j = 3 ∨ j = 4 ∨ j = 5 ∨ j = 6 ∨ j = 7 ∨ j = 8 ∨ j = 9 ∨ j = 10 ∨ j = 11 ∨ j = 12 ∨ j = 13 ∨ j = 14 ∨ j = 15 ∨ j = 16 ∨ j = 17 ∨ j = 18 := by omega
          rcases hc with rfl | rfl | rfl | rfl | rfl | rfl | rfl | rfl | rfl | rfl | rfl | rfl | rfl | rfl | rfl | rfl | rfl | rfl | rfl
          all_goals first | (cases hdj; done) | (cases hdj; unfold VV; rw [hal, hk, hv]; simp [tm_put, size_put, sz])
        · have hn : s ≠ 26 ∧ s ≠ 27 ∧ s ≠ 28 ∧ s ≠ 29 ∧ s ≠ 30 ∧ s ≠ 31 ∧ s ≠ 32 ∧ s ≠ 33 ∧ s ≠ 34 ∧ s ≠ 35 ∧ s ≠ 36 ∧ s ≠ 10 ∧ s ≠ 11 ∧ s ≠ 12 ∧ s ≠ 13 := by
            have hs' := fun j hj => hs j (by rw [hm]; exact hj)
            rw [hd] at hs'
            exact ⟨fun e => hs' 0 (by omega) (by rw [e]; rfl), fun e => hs' 1 (by omega) (by rw [e]; rfl), fun e => hs' 2 (by omega) (by rw [e]; rfl), fun e => hs' 3 (by omega) (by rw [e]; rfl), fun e => hs' 4 (by omega) (by rw [e]; rfl), fun e => hs' 5 (by omega) (by rw [e]; rfl), fun e => hs' 6 (by omega) (by rw [e]; rfl), fun e => hs' 7 (by omega) (by rw [e]; rfl), fun e => hs' 8 (by omega) (by rw [e]; rfl), fun e => hs' 9 (by omega) (by rw [e]; rfl), fun e => hs' 10 (by omega) (by rw [e]; rfl), fun e => hs' 11 (by omega) (by rw [e]; rfl), fun e => hs' 12 (by omega) (by rw [e]; rfl), fun e => hs' 13 (by omega) (by rw [e]; rfl), fun e => hs' 14 (by omega) (by rw [e]; rfl)⟩
          obtain ⟨n26, n27, n28, n29, n30, n31, n32, n33, n34, n35, n36, n10, n11, n12, n13⟩ := hn
          rw [ha0]; simp [tm_put, size_put, sz, n26, n27, n28, n29, n30, n31, n32, n33, n34, n35, n36, n10, n11, n12, n13])
      rw [hw0] at hbx
      have R0 : Row wx (G 0) 24 (lc U) := by have := hrows 0 (by rw [hk]; omega); rw [hR] at this; exact this
      have R1 : Row wx (G 1) 24 (lc M) := by have := hrows 1 (by rw [hk]; omega); rw [hR] at this; exact this
      have R2 : Row wx (G 2) 24 (lc D) := by have := hrows 2 (by rw [hk]; omega); rw [hR] at this; exact this
      have R3 : Row wx (G 3) 24 (lc N) := by have := hrows 3 (by rw [hk]; omega); rw [hR] at this; exact this
      have RA := RA.below' hbx
      have RB := RB.below' hbx
      have RC := RC.below' hbx
      have hb := hb.trans (hbx.mono hb.size)
      obtain ⟨g10, hg10⟩ : ∃ g, g = G 0 := ⟨_, rfl⟩
      have RU := R0
      rw [← hg10] at RU ⊢
      obtain ⟨g11, hg11⟩ : ∃ g, g = G 1 := ⟨_, rfl⟩
      have RM := R1
      rw [← hg11] at RM ⊢
      obtain ⟨g12, hg12⟩ : ∃ g, g = G 2 := ⟨_, rfl⟩
      have RD := R2
      rw [← hg12] at RD ⊢
      obtain ⟨g13, hg13⟩ : ∃ g, g = G 3 := ⟨_, rfl⟩
      have RN := R3
      rw [← hg13] at RN ⊢
      subst hfr
      clear hI hready hall hrows hP0 hm hal hst hk hd hv hw0 ha0 hR ok hw0' hstart old5 old6 hg10 hg11 hg12 hg13 hbx R0 R1 R2 R3
      clear P0 G
      go_simp
      have gl := guard_let
      have el := equal_let
      cases p <;> cases q <;> simp only [Bool.or_false, Bool.or_true, Bool.and_false, Bool.and_true, Bool.not_false, Bool.not_true, Bool.or_self, Bool.and_self] at P
      all_goals
        go_wp2_with (first | (with_reducible refine wpList_load_let RU rfl _ rfl ?_ ?_; (go_simp <;> fail); go_simp) | (with_reducible refine wpList_load_let_g RU ?_ _ rfl ?_ ?_; kernel_rfl; (go_simp <;> fail); go_simp) | (with_reducible refine wpList_load_let RM rfl _ rfl ?_ ?_; (go_simp <;> fail); go_simp) | (with_reducible refine wpList_load_let_g RM ?_ _ rfl ?_ ?_; kernel_rfl; (go_simp <;> fail); go_simp) | (with_reducible refine wpList_load_let RD rfl _ rfl ?_ ?_; (go_simp <;> fail); go_simp) | (with_reducible refine wpList_load_let_g RD ?_ _ rfl ?_ ?_; kernel_rfl; (go_simp <;> fail); go_simp) | (with_reducible refine wpList_load_let RN rfl _ rfl ?_ ?_; (go_simp <;> fail); go_simp) | (with_reducible refine wpList_load_let_g RN ?_ _ rfl ?_ ?_; kernel_rfl; (go_simp <;> fail); go_simp) | (go_at_call 12; with_reducible refine (P.out.2.2.1 _).mono ?_; rintro e w' ⟨rfl, hq⟩; have RA := RA.below' hq; have RB := RB.below' hq; have RC := RC.below' hq; have RU := RU.below' hq; have RM := RM.below' hq; have RD := RD.below' hq; have RN := RN.below' hq; have hb := hb.trans (hq.mono hb.size)) | (go_at_call 12; with_reducible refine (P.out.2.2.2.1 _).mono ?_; rintro e w' ⟨rfl, hq⟩; have RA := RA.below' hq; have RB := RB.below' hq; have RC := RC.below' hq; have RU := RU.below' hq; have RM := RM.below' hq; have RD := RD.below' hq; have RN := RN.below' hq; have hb := hb.trans (hq.mono hb.size)) | (go_at_call 12; with_reducible refine (P.out.2.2.2.2.1 _).mono ?_; rintro e w' ⟨rfl, hq⟩; have RA := RA.below' hq; have RB := RB.below' hq; have RC := RC.below' hq; have RU := RU.below' hq; have RM := RM.below' hq; have RD := RD.below' hq; have RN := RN.below' hq; have hb := hb.trans (hq.mono hb.size)) | (go_at_call 12; with_reducible refine (P.out.2.2.2.2.2 _).mono ?_; rintro e w' ⟨rfl, hq⟩; have RA := RA.below' hq; have RB := RB.below' hq; have RC := RC.below' hq; have RU := RU.below' hq; have RM := RM.below' hq; have RD := RD.below' hq; have RN := RN.below' hq; have hb := hb.trans (hq.mono hb.size)))
        refine wp_region_later (by kernel_rfl) (by kernel_rfl) ?_
        repeat (first | go_big_quiet_skip | (go_big_quiet_want; first | (with_reducible refine quiet_load_let RA _ rfl ?_ ?_; (go_simp <;> fail); go_simp; go_big_quiet_on) | (with_reducible refine quiet_load_let RB _ rfl ?_ ?_; (go_simp <;> fail); go_simp; go_big_quiet_on) | (with_reducible refine quiet_load_let RC _ rfl ?_ ?_; (go_simp <;> fail); go_simp; go_big_quiet_on) | (with_reducible refine quiet_load_let RU _ rfl ?_ ?_; (go_simp <;> fail); go_simp; go_big_quiet_on) | (with_reducible refine quiet_load_let RM _ rfl ?_ ?_; (go_simp <;> fail); go_simp; go_big_quiet_on) | (with_reducible refine quiet_load_let RD _ rfl ?_ ?_; (go_simp <;> fail); go_simp; go_big_quiet_on) | (with_reducible refine quiet_load_let RN _ rfl ?_ ?_; (go_simp <;> fail); go_simp; go_big_quiet_on) | (go_big_quiet_op; first | go_big_quiet_on | go_big_quiet_call (first | with_reducible exact calls_later (K2.out.1 _) | with_reducible exact calls_later (K2.out.2.1 _) | with_reducible exact calls_later (K2.out.2.2.1 _) | with_reducible exact calls_later (K2.out.2.2.2.1 _) | with_reducible exact calls_later (K2.out.2.2.2.2 _) | with_reducible exact calls_later (K3.out.1 _) | with_reducible exact calls_later (K3.out.2.1 _) | with_reducible exact calls_later (K3.out.2.2.1 _) | with_reducible exact calls_later (K3.out.2.2.2.1 _) | with_reducible exact calls_later (K3.out.2.2.2.2.1 _) | with_reducible exact calls_later (K3.out.2.2.2.2.2 _) | with_reducible exact calls_later (LL.out.1 _) | with_reducible exact calls_later (LL.out.2.1 _) | with_reducible exact calls_later (LL.out.2.2.1 _) | with_reducible exact calls_later (LL.out.2.2.2.1 _) | with_reducible exact calls_later (LL.out.2.2.2.2 _) | with_reducible exact calls_later (HAL.out _)))))
        refine wpQuiet_nil ?_
        rintro wn ⟨u, hu⟩
        have hq := later_below hu
        have RA := RA.below' hq
        have RB := RB.below' hq
        have RC := RC.below' hq
        have RU := RU.below' hq
        have RM := RM.below' hq
        have RD := RD.below' hq
        have RN := RN.below' hq
        have hb := hb.trans (hq.mono hb.size)
        clear hu hq u
        go_wp2
        refine wp_region_later (by kernel_rfl) (by kernel_rfl) ?_
        repeat (first | go_big_quiet_skip | (go_big_quiet_want; first | (with_reducible refine quiet_load_let RA _ rfl ?_ ?_; (go_simp <;> fail); go_simp; go_big_quiet_on) | (with_reducible refine quiet_load_let RB _ rfl ?_ ?_; (go_simp <;> fail); go_simp; go_big_quiet_on) | (with_reducible refine quiet_load_let RC _ rfl ?_ ?_; (go_simp <;> fail); go_simp; go_big_quiet_on) | (with_reducible refine quiet_load_let RU _ rfl ?_ ?_; (go_simp <;> fail); go_simp; go_big_quiet_on) | (with_reducible refine quiet_load_let RM _ rfl ?_ ?_; (go_simp <;> fail); go_simp; go_big_quiet_on) | (with_reducible refine quiet_load_let RD _ rfl ?_ ?_; (go_simp <;> fail); go_simp; go_big_quiet_on) | (with_reducible refine quiet_load_let RN _ rfl ?_ ?_; (go_simp <;> fail); go_simp; go_big_quiet_on) | (go_big_quiet_op; first | go_big_quiet_on | go_big_quiet_call (first | with_reducible exact calls_later (K2.out.1 _) | with_reducible exact calls_later (K2.out.2.1 _) | with_reducible exact calls_later (K2.out.2.2.1 _) | with_reducible exact calls_later (K2.out.2.2.2.1 _) | with_reducible exact calls_later (K2.out.2.2.2.2 _) | with_reducible exact calls_later (K3.out.1 _) | with_reducible exact calls_later (K3.out.2.1 _) | with_reducible exact calls_later (K3.out.2.2.1 _) | with_reducible exact calls_later (K3.out.2.2.2.1 _) | with_reducible exact calls_later (K3.out.2.2.2.2.1 _) | with_reducible exact calls_later (K3.out.2.2.2.2.2 _) | with_reducible exact calls_later (LL.out.1 _) | with_reducible exact calls_later (LL.out.2.1 _) | with_reducible exact calls_later (LL.out.2.2.1 _) | with_reducible exact calls_later (LL.out.2.2.2.1 _) | with_reducible exact calls_later (LL.out.2.2.2.2 _) | with_reducible exact calls_later (HAL.out _)))))
        refine wpQuiet_nil ?_
        rintro wn ⟨u, hu⟩
        have hq := later_below hu
        have RA := RA.below' hq
        have RB := RB.below' hq
        have RC := RC.below' hq
        have RU := RU.below' hq
        have RM := RM.below' hq
        have RD := RD.below' hq
        have RN := RN.below' hq
        have hb := hb.trans (hq.mono hb.size)
        clear hu hq u
        go_wp2
        refine wp_region_later (by kernel_rfl) (by kernel_rfl) ?_
        repeat (first | go_big_quiet_skip | (go_big_quiet_want; first | (with_reducible refine quiet_load_let RA _ rfl ?_ ?_; (go_simp <;> fail); go_simp; go_big_quiet_on) | (with_reducible refine quiet_load_let RB _ rfl ?_ ?_; (go_simp <;> fail); go_simp; go_big_quiet_on) | (with_reducible refine quiet_load_let RC _ rfl ?_ ?_; (go_simp <;> fail); go_simp; go_big_quiet_on) | (with_reducible refine quiet_load_let RU _ rfl ?_ ?_; (go_simp <;> fail); go_simp; go_big_quiet_on) | (with_reducible refine quiet_load_let RM _ rfl ?_ ?_; (go_simp <;> fail); go_simp; go_big_quiet_on) | (with_reducible refine quiet_load_let RD _ rfl ?_ ?_; (go_simp <;> fail); go_simp; go_big_quiet_on) | (with_reducible refine quiet_load_let RN _ rfl ?_ ?_; (go_simp <;> fail); go_simp; go_big_quiet_on) | (go_big_quiet_op; first | go_big_quiet_on | go_big_quiet_call (first | with_reducible exact calls_later (K2.out.1 _) | with_reducible exact calls_later (K2.out.2.1 _) | with_reducible exact calls_later (K2.out.2.2.1 _) | with_reducible exact calls_later (K2.out.2.2.2.1 _) | with_reducible exact calls_later (K2.out.2.2.2.2 _) | with_reducible exact calls_later (K3.out.1 _) | with_reducible exact calls_later (K3.out.2.1 _) | with_reducible exact calls_later (K3.out.2.2.1 _) | with_reducible exact calls_later (K3.out.2.2.2.1 _) | with_reducible exact calls_later (K3.out.2.2.2.2.1 _) | with_reducible exact calls_later (K3.out.2.2.2.2.2 _) | with_reducible exact calls_later (LL.out.1 _) | with_reducible exact calls_later (LL.out.2.1 _) | with_reducible exact calls_later (LL.out.2.2.1 _) | with_reducible exact calls_later (LL.out.2.2.2.1 _) | with_reducible exact calls_later (LL.out.2.2.2.2 _) | with_reducible exact calls_later (HAL.out _)))))
        refine wpQuiet_nil ?_
        rintro wn ⟨u, hu⟩
        have hq := later_below hu
        have RA := RA.below' hq
        have RB := RB.below' hq
        have RC := RC.below' hq
        have RU := RU.below' hq
        have RM := RM.below' hq
        have RD := RD.below' hq
        have RN := RN.below' hq
        have hb := hb.trans (hq.mono hb.size)
        clear hu hq u
        go_wp2
        go_ret
        exact ⟨rfl, hb⟩
end Go.Proofs.Ytcflbpcfmpkolaa
