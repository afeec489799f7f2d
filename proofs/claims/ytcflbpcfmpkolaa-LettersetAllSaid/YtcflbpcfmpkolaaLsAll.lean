/-
  The walk of the statement LettersetAll.
-/
import Derived.Test.YtcflbpcfmpkolaaLsAllI
import Derived.Test.YtcflbpcfmpkolaaTail
namespace Go.Proofs.Ytcflbpcfmpkolaa
open Go.RowKit Go.Shelf

attribute [local go_sem] Oper.semAt_some

theorem row_kept {W W' : World} {row : Option Nat} {g : Nat} {t : TypeId} {c : Array Value} (h : Row W g t c) (hg : W.grownBy W' row) (hrow : ∀ r, row = some r → ∃ o : Obj, W.heap[r]? = some o ∧ o.isCells = false) : Row W' g t c :=
  (grownBy_keeps_cells hg hrow h rfl).trans h

theorem Row.newAt {w : World} {g : Nat} (t : TypeId) (c : Array Value) (h : w.heap.size = g) : Row (w.alloc (.cells c t)) g t c := h ▸ Row.new w t c

/-- The last letter that has come; -1 before the first. -/
def lastOf (pre : List (Fin 256)) : Int := match pre.getLast? with
  | some x => (x.val : Int)
  | none => -1
theorem lastOf_nil : lastOf [] = -1 := rfl
theorem lastOf_snoc (pre : List (Fin 256)) (x : Fin 256) : lastOf (pre ++ [x]) = (x.val : Int) := by simp [lastOf]
theorem lastOf_range (pre : List (Fin 256)) : -1 ≤ lastOf pre ∧ lastOf pre < 256 := by
  unfold lastOf
  cases pre.getLast? with
  | none => simp
  | some x => have := x.2; dsimp only; omega
/-- What has come so far increases. -/
theorem not_prefix_last {s : Nat → Nat} {pre : List (Fin 256)} {x : Fin 256} (h : (x.val : Int) ≤ lastOf pre) : ¬ (pre ++ [x]) <+: ups s 256 := fun hp => by
  have hr := (ups_rise s 256).sublist hp.sublist
  rw [List.pairwise_append] at hr
  unfold lastOf at h
  cases hl : pre.getLast? with
  | none => rw [hl] at h; dsimp only at h; omega
  | some y =>
    rw [hl] at h
    dsimp only at h
    have := hr.2.2 y (List.mem_of_getLast? hl) x (by simp)
    omega
theorem not_prefix_bit {s : Nat → Nat} {pre : List (Fin 256)} {x : Fin 256} (h : bit s x.val = false) : ¬ (pre ++ [x]) <+: ups s 256 := fun hp => by
  have := (ups_mem s x 256 (hp.subset (by simp))).2
  rw [h] at this; cases this

structure AllI (s : Nat → Nat) (m : Int) (g1 g2 g5 g6 g7 : Nat) (pre : List (Fin 256)) (W : World) : Prop where
  most : Row W g1 3 #[.int .i64 m]
  res : Row W g2 4 #[.bool false]
  set : Row W g5 26 (sc (bit s))
  last : Row W g6 3 #[.int .i64 (lastOf pre)]
  count : Row W g7 3 #[.int .i64 (pre.length : Nat)]

theorem AllI.kept {s : Nat → Nat} {m : Int} {g1 g2 g5 g6 g7 : Nat} {pre : List (Fin 256)} {W W' : World} {row : Option Nat} (h : AllI s m g1 g2 g5 g6 g7 pre W) (hg : W.grownBy W' row) (hr : ∀ r, row = some r → ∃ o : Obj, W.heap[r]? = some o ∧ o.isCells = false) : AllI s m g1 g2 g5 g6 g7 pre W' :=
  ⟨row_kept h.most hg hr, row_kept h.res hg hr, row_kept h.set hg hr, row_kept h.last hg hr, row_kept h.count hg hr⟩

theorem AllI.next {s : Nat → Nat} {m : Int} {g1 g2 g5 g6 g7 k : Nat} {pre : List (Fin 256)} {x : Fin 256} {W : World} (h : AllI s m g1 g2 g5 g6 g7 pre W) (n67 : g6 ≠ g7) (n16 : g1 ≠ g6) (n17 : g1 ≠ g7) (n26 : g2 ≠ g6) (n27 : g2 ≠ g7) (n56 : g5 ≠ g6) (n57 : g5 ≠ g7)
    (hk : pre.length = k) : AllI s m g1 g2 g5 g6 g7 (pre ++ [x]) ((W.setCell ⟨g6, 0, none⟩ (.int .i64 (x.val : Nat))).setCell ⟨g7, 0, none⟩ (.int .i64 ((k + 1 : Nat) : Int))) :=
  ⟨(h.most.far n16 _).far n17 _, (h.res.far n26 _).far n27 _, (h.set.far n56 _).far n57 _, by rw [lastOf_snoc]; exact (h.last.set 0 _).far n67 _, by rw [List.length_append, hk]; exact (h.count.far (Ne.symm n67) _).set 0 _⟩
theorem wrap_next {k : Nat} (h : k < 256) : RowKit.wrap64 ((k : Int) + 1) = ((k + 1 : Nat) : Int) := by
  unfold RowKit.wrap64; omega

theorem all_end {w W : World} {g2 D : Nat} (hc : Row W g2 4 #[.bool true]) (hgD : g2 ≠ D) (hDd : W.heap[D]? = some (.deferred (some []))) (hB : Below w.heap.size w W) (hD : w.heap.size ≤ D) (tmps : Array Value) (ht : tmps[4]? = some (.pointer (some ⟨g2, 0, none⟩))) :
    bodyPostM Fence.wide 5 Try.prog Try.f6 (fun e w' => e = .returned (.bool true) ∧ Below w.heap.size w w') Exit.ret { tmps := tmps, defers := [{ target := .collected D, args := #[] }] } W := by
  have q : Row (W.putObj D (.deferred none)) g2 4 #[.bool true] := (World.putObj_heap_other hgD).trans hc
  have hc5 := q.cell 0
  simp only [List.getElem?_toArray, List.getElem?_cons_zero] at hc5
  refine ⟨by simp, .inl ⟨_, _, rfl, run_takeDeferred hDd, ?_⟩⟩
  refine ⟨.bool true, ?_, rfl, ?_⟩
  · simp [results, Try.f6, go_sem, ht, hc5]
  · exact hB.trans (belowK_b (w := w) (Nat.le_refl _) _ D _ _ hD hDd rfl rfl)

set_option maxRecDepth 100000 in
set_option maxHeartbeats 2000000 in
theorem all_walk (s : Nat → Nat) (m : Int) (hs : Small s) (hm : -9223372036854775808 ≤ m ∧ m ≤ 9223372036854775807) (w : World) :
    Calls Try.prog 6 #[.agg (lc s), .int .i64 m] w fun e w' => e = .returned (.bool true) ∧ Below w.heap.size w w' := by
  refine (callsIn_wide (n := 5)).1 ?_
  refine callsIn_of_wp_marks Try.func6 rfl trivial ?_ rfl
  refine wpIn_wide.2 ?_
  simp only [Try.ntmps6, List.size_toArray, List.length_cons, List.length_nil, Nat.reduceAdd, Nat.reduceSub, Array.replicate_succ, Array.replicate_zero, List.push_toArray, List.append_toArray, List.nil_append, List.cons_append]
  obtain ⟨w0, hw0⟩ : ∃ w0, w0 = ((w.alloc (.cells (lc s) 24)).alloc (.cells #[.int .i64 m] 3)).alloc (.cells #[.bool false] 4) := ⟨_, rfl⟩
  have r0 : Row w0 w.heap.size 24 (lc s) := by rw [hw0]; exact ((Row.new _ _ _).alloc _).alloc _
  have r1 : Row w0 (w.heap.size + 1) 3 #[.int .i64 m] := by rw [hw0]; exact (Row.newAt _ _ (by simp)).alloc _
  have r2 : Row w0 (w.heap.size + 2) 4 #[.bool false] := by rw [hw0]; exact Row.newAt _ _ (by simp)
  have hb0 : Below w.heap.size w w0 := by rw [hw0]; exact (((Below.refl _ w).alloc (Nat.le_refl _) _).alloc (by simp) _).alloc (by simp; omega) _
  have HS := Lib.hid hs
  have ha := Lib.hid alive_true
  have zs := zero_set
  clear hs
  go_wp2_with (first | (go_at_call 13; rw [← hw0]; (with_reducible refine (ha.out _).mono ?_); rintro e w1 ⟨rfl, hb1⟩; have q0 := r0.below' hb1) | (with_reducible refine wpList_load_let q0 rfl _ rfl ?_ ?_; go_simp; go_simp) | (go_at_call 11; (with_reducible refine (refof_any s HS.out _).mono ?_); rintro e w2 ⟨rfl, hb2⟩; have q0' := q0.below' hb2; have q0 := (((q0'.alloc (.cells (sc (bit s)) 26)).alloc (.cells #[.int .i64 (-1)] 3)).alloc (.cells #[.int .i64 0] 3))) | (with_reducible refine wpList_new_set (fun _ => false) (bit s) rfl _ _ rfl ?_ ?_ ?_; go_simp; go_simp; go_simp) | (go_at_call 22; (with_reducible refine (all_calls s _).mono ?_); rintro e w4 ⟨rfl, rfl⟩))
  rename_i K hK
  obtain ⟨W5, hW5⟩ : ∃ W5, W5 = (((w2.alloc (.cells (sc (bit s)) 26)).alloc (.cells #[.int .i64 (-1)] 3)).alloc (.cells #[.int .i64 0] 3)).alloc (.cells (lc s) 24) := ⟨_, rfl⟩
  have hb5 : Below w.heap.size w W5 := by
    have b2 := (hb0.trans (hb1.mono hb0.size)).trans (hb2.mono (hb0.trans (hb1.mono hb0.size)).size)
    have := b2.size
    rw [hW5]; exact (((b2.alloc this _).alloc (by simp; omega) _).alloc (by simp; omega) _).alloc (by simp; omega) _
  have hs2 : w.heap.size + 3 ≤ w2.heap.size := by have := hb2.size; have e := hb1.size; rw [hw0] at e; simp at e; omega
  have p1 : Row W5 (w.heap.size + 1) 3 #[.int .i64 m] := by rw [hW5]; exact (((((r1.below' hb1).below' hb2).alloc _).alloc _).alloc _).alloc _
  have p2 : Row W5 (w.heap.size + 1 + 1) 4 #[.bool false] := by rw [hW5]; exact (((((r2.below' hb1).below' hb2).alloc _).alloc _).alloc _).alloc _
  have p5 : Row W5 w2.heap.size 26 (sc (bit s)) := by rw [hW5]; exact (((Row.new _ _ _).alloc _).alloc _).alloc _
  have p6 : Row W5 (w2.heap.size + 1) 3 #[.int .i64 (-1)] := by rw [hW5]; exact ((Row.newAt _ _ (by simp)).alloc _).alloc _
  have p7 : Row W5 (w2.heap.size + 1 + 1) 3 #[.int .i64 0] := by rw [hW5]; exact (Row.newAt _ _ (by simp)).alloc _
  have p8 : Row W5 (w2.heap.size + 1 + 1 + 1) 24 (lc s) := by rw [hW5]; exact Row.newAt _ _ (by simp)
  have hsz5 : W5.heap.size = w2.heap.size + 4 := by rw [hW5]; simp
  rw [← hW5]
  clear hW5 r0 r1 r2 q0 q0' hb0 hb1 hb2 hw0 zs
  obtain ⟨g8, hg8⟩ : ∃ g, w2.heap.size + 1 + 1 + 1 = g := ⟨_, rfl⟩
  obtain ⟨g7, hg7⟩ : ∃ g, w2.heap.size + 1 + 1 = g := ⟨_, rfl⟩
  obtain ⟨g6, hg6⟩ : ∃ g, w2.heap.size + 1 = g := ⟨_, rfl⟩
  obtain ⟨g5, hg5⟩ : ∃ g, w2.heap.size = g := ⟨_, rfl⟩
  obtain ⟨g2, hg2⟩ : ∃ g, w.heap.size + 1 + 1 = g := ⟨_, rfl⟩
  obtain ⟨g1, hg1⟩ : ∃ g, w.heap.size + 1 = g := ⟨_, rfl⟩
  rw [hg8] at p8 ⊢
  rw [hg7] at p7 ⊢
  rw [hg6] at p6 ⊢
  rw [hg5] at p5 ⊢
  rw [hg2] at p2 ⊢
  rw [hg1] at p1 ⊢
  have hp0 : AllI s m g1 g2 g5 g6 g7 [] W5 := ⟨p1, p2, p5, p6, p7⟩
  have hne : w.heap.size ≤ g6 ∧ w.heap.size ≤ g7 ∧ w.heap.size ≤ g2 ∧ W5.heap.size = g8 + 1 ∧ w.heap.size ≤ W5.heap.size ∧ g6 ≠ g7 ∧ g1 ≠ g6 ∧ g1 ≠ g7 ∧ g2 ≠ g6 ∧ g2 ≠ g7 ∧ g5 ≠ g6 ∧ g5 ≠ g7 ∧ g8 ≠ g6 ∧ g8 ≠ g7 ∧ g8 ≠ g2 := by omega
  have HM := Lib.hid hm
  clear hm p1 p2 p5 p6 p7 hg8 hg7 hg6 hg5 hg2 hg1 hs2 hsz5
  have tail : ∀ (D k : Nat) (W : World), Row W g1 3 #[.int .i64 m] → Row W g2 4 #[.bool false] → Row W g5 26 (sc (bit s)) → Row W g7 3 #[.int .i64 (k : Nat)] → Below w.heap.size w W → w.heap.size ≤ D → g2 ≠ D → W.heap[D]? = some (.deferred (some [])) →
      (0 < m → m < (cnt (bit s) 256 : Nat) → (k : Int) = m) → (¬ (0 < m ∧ m < (cnt (bit s) 256 : Nat)) → k = cnt (bit s) 256) →
      K { tmps := #[Value.agg (lc s), Value.int IntKind.i64 m, Value.pointer (some { block := w.heap.size, off := 0 }), Value.pointer (some { block := g1, off := 0 }), Value.pointer (some { block := g2, off := 0 }), Value.pointer (some { block := g5, off := 0 }), Value.pointer (some { block := g6, off := 0 }), Value.pointer (some { block := g7, off := 0 }), undef, Value.bool true, Value.bool false, Value.agg (lc s), Value.agg (sc (bit s)), Value.agg (lc s), Value.func (Fn.func 31) #[] #[Value.pointer (some { block := g8, off := 0 })], undef, undef, undef, undef, undef, undef, undef, undef, undef, undef, undef, undef, undef, undef, undef, undef, undef, undef, undef, undef, undef, undef, undef, undef, undef, undef, undef, undef, undef, undef, undef, undef, undef], defers := [{ target := .collected D, args := #[] }] } W := by
    intro D k W q1 q2 q5 q7 hB hD hgD hDd h1 h2
    obtain ⟨n, hn⟩ : ∃ n, cnt (bit s) 256 = n := ⟨_, rfl⟩
    have hr := Lib.hid (fun w => reflen_any (bit s) w)
    rw [hn] at hr h1 h2
    clear hn
    have c1 : ∀ u, (later W u).cell? ⟨g1, 0, none⟩ = some (.int .i64 m) := fun u => (q1.later u).cell 0
    have c7 : ∀ u, (later W u).cell? ⟨g7, 0, none⟩ = some (.int .i64 (k : Nat)) := fun u => (q7.later u).cell 0
    have c2 : ∀ u, (later W u).cell? ⟨g2, 0, none⟩ = some (.bool false) := fun u => (q2.later u).cell 0
    have f2 : ∀ u, (later W u).frozen? ⟨g2, 0, none⟩ = false := fun u => (q2.later u).frozen 0
    apply hK
    have n2 := hne.2.2.1
    clear hK hp0 hne ha
    have H1 := Lib.hid h1
    have H2 := Lib.hid h2
    clear h1 h2
    have hDl : D < W.heap.size := (Array.getElem?_eq_some_iff.1 hDd).1
    rcases (by
      by_cases h0 : 0 < m
      · by_cases h1 : m < (n : Int)
        · exact .inl ⟨decide_eq_true h0, decide_eq_true h1⟩
        · exact .inr (.inl ⟨decide_eq_true h0, decide_eq_false h1⟩)
      · exact .inr (.inr (decide_eq_false h0)) : (decide (0 < m) = true ∧ decide (m < (n : Int)) = true) ∨ (decide (0 < m) = true ∧ decide (m < (n : Int)) = false) ∨ decide (0 < m) = false) with ⟨hd0, hd1⟩ | ⟨hd0, hd1⟩ | hd0
    · go_wp2
      refine wp_region_later (by kernel_rfl) (by kernel_rfl) ?_
      repeat (first | simp only [hd0] | go_big_quiet_skip | (go_big_quiet_want; first | (with_reducible refine quiet_load_set q5 _ rfl ?_ ?_; go_simp; go_simp; go_big_quiet_on) | (go_big_quiet_op; first | go_big_quiet_on | go_big_quiet_call (with_reducible exact calls_later (hr.out _)))))
      refine wpQuiet_nil ?_
      rintro W2 ⟨u, rfl⟩
      have q5' := q5.later u
      go_wp2
      have he : (k : Int) = m := H1.out (of_decide_eq_true hd0) (of_decide_eq_true hd1)
      have heq : ((k : Int) == m) = true := by rw [he]; simp
      rw [heq]
      exact all_end ((q2.later u).set 0 (.bool true)) hgD ((KeepsOthers.setCell (later W u) ⟨g2, 0, none⟩ (.bool true)).same D _ (((below_later W u).block D hDl).trans hDd) rfl) ((hB.trans ((below_later W u).mono hB.size)).setCell (p := ⟨g2, 0, none⟩) n2 _) hD _ rfl
    · skip
      go_wp2
      refine wp_region_later (by kernel_rfl) (by kernel_rfl) ?_
      repeat (first | simp only [hd0] | go_big_quiet_skip | (go_big_quiet_want; first | (with_reducible refine quiet_load_set q5 _ rfl ?_ ?_; go_simp; go_simp; go_big_quiet_on) | (go_big_quiet_op; first | go_big_quiet_on | go_big_quiet_call (with_reducible exact calls_later (hr.out _)))))
      refine wpQuiet_nil ?_
      rintro W2 ⟨u, rfl⟩
      have q5' := q5.later u
      go_wp2
      obtain rfl : k = n := H2.out (fun h => by rw [decide_eq_true h.2] at hd1; cases hd1)
      refine wp_region_tail 4 (by kernel_rfl) (by kernel_rfl) ?_
      simp only [List.take_succ_cons, List.take_zero, List.drop_succ_cons, List.drop_zero]
      have q7' := q7.later u
      have q2' := q2.later u
      have hB' := hB.trans ((below_later W u).mono hB.size)
      have hDd' := ((below_later W u).block D hDl).trans hDd
      clear c1 c7 c2 f2
      generalize later W u = W3 at q5' q7' q2' hB' hDd' ⊢
      have hDl' : D < W3.heap.size := (Array.getElem?_eq_some_iff.1 hDd').1
      have c7 : ∀ u, (later W3 u).cell? ⟨g7, 0, none⟩ = some (.int .i64 (k : Nat)) := fun u => (q7'.later u).cell 0
      have c2 : ∀ u, (later W3 u).cell? ⟨g2, 0, none⟩ = some (.bool false) := fun u => (q2'.later u).cell 0
      have f2 : ∀ u, (later W3 u).frozen? ⟨g2, 0, none⟩ = false := fun u => (q2'.later u).frozen 0
      repeat (first | go_big_quiet_skip | (go_big_quiet_want; first | (with_reducible refine quiet_load_set q5' _ rfl ?_ ?_; go_simp; go_simp; go_big_quiet_on) | (go_big_quiet_op; first | go_big_quiet_on | go_big_quiet_call (with_reducible exact calls_later (hr.out _)))))
      refine wpQuiet_nil ?_
      rintro W4 ⟨u', rfl⟩
      go_wp2
      exact all_end ((q2'.later u').set 0 (.bool true)) hgD ((KeepsOthers.setCell (later W3 u') ⟨g2, 0, none⟩ (.bool true)).same D _ (((below_later W3 u').block D hDl').trans hDd') rfl) ((hB'.trans ((below_later W3 u').mono hB'.size)).setCell (p := ⟨g2, 0, none⟩) n2 _) hD _ rfl
    · skip
      go_wp2
      refine wp_region_later (by kernel_rfl) (by kernel_rfl) ?_
      repeat (first | simp only [hd0] | go_big_quiet_skip | (go_big_quiet_want; first | (with_reducible refine quiet_load_set q5 _ rfl ?_ ?_; go_simp; go_simp; go_big_quiet_on) | (go_big_quiet_op; first | go_big_quiet_on | go_big_quiet_call (with_reducible exact calls_later (hr.out _)))))
      refine wpQuiet_nil ?_
      rintro W2 ⟨u, rfl⟩
      have q5' := q5.later u
      go_wp2
      obtain rfl : k = n := H2.out (fun h => by rw [decide_eq_true h.1] at hd0; cases hd0)
      refine wp_region_tail 4 (by kernel_rfl) (by kernel_rfl) ?_
      simp only [List.take_succ_cons, List.take_zero, List.drop_succ_cons, List.drop_zero]
      have q7' := q7.later u
      have q2' := q2.later u
      have hB' := hB.trans ((below_later W u).mono hB.size)
      have hDd' := ((below_later W u).block D hDl).trans hDd
      clear c1 c7 c2 f2
      generalize later W u = W3 at q5' q7' q2' hB' hDd' ⊢
      have hDl' : D < W3.heap.size := (Array.getElem?_eq_some_iff.1 hDd').1
      have c7 : ∀ u, (later W3 u).cell? ⟨g7, 0, none⟩ = some (.int .i64 (k : Nat)) := fun u => (q7'.later u).cell 0
      have c2 : ∀ u, (later W3 u).cell? ⟨g2, 0, none⟩ = some (.bool false) := fun u => (q2'.later u).cell 0
      have f2 : ∀ u, (later W3 u).frozen? ⟨g2, 0, none⟩ = false := fun u => (q2'.later u).frozen 0
      repeat (first | go_big_quiet_skip | (go_big_quiet_want; first | (with_reducible refine quiet_load_set q5' _ rfl ?_ ?_; go_simp; go_simp; go_big_quiet_on) | (go_big_quiet_op; first | go_big_quiet_on | go_big_quiet_call (with_reducible exact calls_later (hr.out _)))))
      refine wpQuiet_nil ?_
      rintro W4 ⟨u', rfl⟩
      go_wp2
      exact all_end ((q2'.later u').set 0 (.bool true)) hgD ((KeepsOthers.setCell (later W3 u') ⟨g2, 0, none⟩ (.bool true)).same D _ (((below_later W3 u').block D hDl').trans hDd') rfl) ((hB'.trans ((below_later W3 u').mono hB'.size)).setCell (p := ⟨g2, 0, none⟩) n2 _) hD _ rfl
  refine (wpIn_wide (n := 5)).1 ?_
  refine wpIn_rangeFunc_ownF (n := 5) rfl (by omega) (gf := 31) (lb := #[.pointer (some ⟨g8, 0, none⟩)]) rfl trivial (enters_of Try.func31 (by kernel_rfl) rfl)
    (all_stops 4 g8 s HS.out W5 p8) keepsLet_t (fun W l o o' _ h ho _ => keepsLet_b W l o o' h ho) (Below.refl _ _) (fun _ => rfl)
    (fun pre W => (AllI s m g1 g2 g5 g6 g7 pre W ∧ ¬ (1 ≤ m ∧ m ≤ (pre.length : Int))) ∧ Below w.heap.size w W)
    (fun c pre W => ((c = .ret ∧ ¬ pre <+: ups s 256) ∨ (c = .exit 0 ∧ AllI s m g1 g2 g5 g6 g7 pre W ∧ 1 ≤ m ∧ m = (pre.length : Int))) ∧ Below w.heap.size w W)
    (OwnFrom.and (Own.from (fun s A B row hs hg hr => ⟨hs.1.kept hg hr, hs.2⟩) _) (ownFrom_below (Nat.le_refl _) (by omega)))
    (fun c => OwnFrom.and (Own.from (fun s A B row hs hg hr => hs.imp id fun h => ⟨h.1, h.2.1.kept hg hr, h.2.2⟩) _) (ownFrom_below (Nat.le_refl _) (by omega)))
    ⟨⟨hp0, by simp; omega⟩, hb5⟩
    (fun x => { tmps := #[Value.agg (lc s), Value.int IntKind.i64 m, Value.pointer (some { block := w.heap.size, off := 0 }), Value.pointer (some { block := g1, off := 0 }), Value.pointer (some { block := g2, off := 0 }), Value.pointer (some { block := g5, off := 0 }), Value.pointer (some { block := g6, off := 0 }), Value.pointer (some { block := g7, off := 0 }), Value.int IntKind.u8 (x.val : Nat), Value.bool true, Value.bool false, Value.agg (lc s), Value.agg (sc (bit s)), Value.agg (lc s), Value.func (Fn.func 31) #[] #[Value.pointer (some { block := g8, off := 0 })], Value.int IntKind.u8 (x.val : Nat), undef, undef, undef, undef, undef, undef, undef, undef, undef, undef, undef, undef, undef, undef, undef, undef, undef, undef, undef, undef, undef, undef, undef, undef, undef, undef, undef, undef, undef, undef, undef, undef], defers := [] }) ?assign ?body ?done ?stop
  case assign =>
    intro l x W K hK
    gi_wp2
    exact hK
  case body =>
    rintro l pre x W ⟨⟨hI, hno⟩, hB⟩ hlen
    have c1 := hI.most.cell 0
    have c6 := hI.last.cell 0
    have c7 := hI.count.cell 0
    have c5 : W.cell? ⟨g5, x.val, none⟩ = some (.bool (bit s x.val)) := by rw [hI.set.cell, sc_at _ x.2]
    have f6 := hI.last.frozen 0
    have f7 := hI.count.frozen 0
    have c2 := hI.res.cell 0
    have f2 := hI.res.frozen 0
    simp only [List.getElem?_toArray, List.getElem?_cons_zero] at c1 c6 c7 c2
    obtain ⟨n6, n7, n2, _, _, n67, n16, n17, n26, n27, n56, n57, n86, n87, n82⟩ := hne
    obtain ⟨L, hL⟩ : ∃ L, lastOf pre = L := ⟨_, rfl⟩
    have HL := Lib.hid (lastOf_range pre)
    rw [hL] at c6 HL
    have HL2 := Lib.hid (fun h : (x.val : Int) ≤ L => not_prefix_last (s := s) (x := x) (hL ▸ h))
    have HX := Lib.hid (fun h : bit s x.val = false => not_prefix_bit (s := s) (x := x) (pre := pre) h)
    have hx : ((x.val : Nat) : Int) < 256 := by have := x.2; omega
    have HN := Lib.hid hno
    have HI := Lib.hid hI
    have HB := Lib.hid hB
    obtain ⟨b, hb⟩ : ∃ b, bit s x.val = b := ⟨_, rfl⟩
    rw [hb] at c5 HX
    clear hI hno hB hb hL hK
    have HK : Hid (pre.length < 256) := hlen
    clear hlen
    obtain ⟨k, hk⟩ : ∃ k : Nat, pre.length = k := ⟨_, rfl⟩
    rw [hk] at c7 HN HK
    have Hk := Lib.hid hk
    clear hk
    gi_wp2
    · exact ⟨KeepsOthers.setCell _ _ _, .inl ⟨rfl, by rcases ‹_ ∨ _› with h | h; · exact HL2.out h
                                                      · exact HX.out (by simpa using h)⟩, HB.out.setCell (p := ⟨g2, 0, none⟩) n2 _⟩
    · have hw := wrap_next HK.out
      rename_i hq
      rw [hw] at hq ⊢
      have hq := eq_of_beq hq
      exact ⟨(KeepsOthers.setCell _ _ _).trans (KeepsOthers.setCell _ _ _), .inr ⟨rfl, HI.out.next n67 n16 n17 n26 n27 n56 n57 Hk.out, by omega, by rw [List.length_append, Hk.out]; exact hq.symm⟩, (HB.out.setCell (p := ⟨g6, 0, none⟩) n6 _).setCell (p := ⟨g7, 0, none⟩) n7 _⟩
    · have hw := wrap_next HK.out
      rename_i hq
      rw [hw] at hq ⊢
      refine ⟨(KeepsOthers.setCell _ _ _).trans (KeepsOthers.setCell _ _ _), ⟨by simp, fun r => (r.far n86 _).far n87 _⟩, ⟨HI.out.next n67 n16 n17 n26 n27 n56 n57 Hk.out, ?_⟩, (HB.out.setCell (p := ⟨g6, 0, none⟩) n6 _).setCell (p := ⟨g7, 0, none⟩) n7 _⟩
      have hq' : ((k + 1 : Nat) : Int) ≠ m := fun e => by rw [e] at hq; simp at hq
      have := HN.out
      rw [List.length_append, Hk.out]
      simp only [List.length_cons, List.length_nil]
      omega
    · exact ⟨KeepsOthers.setCell _ _ _, .inl ⟨rfl, HL2.out (by assumption)⟩, HB.out.setCell (p := ⟨g2, 0, none⟩) n2 _⟩
  case done =>
    rintro D ys W hD rfl ⟨⟨hI, hno⟩, hB⟩ hDd
    have hlen := ups_len s 256 (Nat.le_refl _)
    rw [hlen] at hno
    refine tail D _ W hI.most hI.res hI.set hI.count hB (by omega) ?_ hDd (fun h0 h1 => by rw [hlen]; omega) (fun _ => hlen)
    rintro rfl
    have := hI.res
    unfold Row at this
    rw [hDd] at this; cases this
  case stop =>
    rintro D c pre W hD hpre ⟨⟨rfl, hbad⟩ | ⟨rfl, hI, h1, h2⟩, hB⟩ hDd
    · exact (hbad hpre).elim
    · have h2' := Lib.hid h2
      clear h2
      gi_wp2
      have h2 := h2'.out
      have hlen := ups_len s 256 (Nat.le_refl _)
      have hle := hpre.length_le
      rw [hlen] at hle
      refine tail D _ W hI.most hI.res hI.set hI.count hB (by omega) ?_ hDd (fun _ _ => h2.symm) (fun h => by omega)
      rintro rfl
      have := hI.res
      unfold Row at this
      rw [hDd] at this; cases this
theorem all_walk_int (s : Nat → Nat) (m : Int) (hs : Small s) (h : (Lit.int .i64 m).wf = true) (w : World) :
    Calls Try.prog 6 #[.agg (lc s), .int .i64 m] w fun e w' => e = .returned (.bool true) ∧ Below w.heap.size w w' := by
  refine all_walk s m hs ?_ w
  simp [Lit.wf, IntKind.min, IntKind.max, IntKind.signed, IntKind.bits] at h
  omega
end Go.Proofs.Ytcflbpcfmpkolaa
