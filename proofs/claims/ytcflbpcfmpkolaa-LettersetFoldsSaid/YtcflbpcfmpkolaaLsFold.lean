/-
  Package letterset: Fold and the reference's Fold; the walk of the statement LettersetFolds.
-/
import Derived.Test.YtcflbpcfmpkolaaLsFoldM
import Derived.Test.YtcflbpcfmpkolaaLsD
import Derived.Outline
namespace Go.Proofs.Ytcflbpcfmpkolaa
open Go.RowKit

theorem and_caps_int (y : Nat) (h : y < 18446744073709551616) : bits BinOp.and IntKind.u64 (y : Int) 134217726 = ((y &&& caps : Nat) : Int) := u64_and_nat y caps h caps_small

set_option maxHeartbeats 1000000 in
theorem fold_any (s : Nat → Nat) (hs : Small s) (w : World) :
    Calls Try.prog 23 #[.agg (lc s)] w fun e w' => e = .returned (.agg (lc (foldW s))) ∧ Below w.heap.size w w' := by
  obtain ⟨y, hy⟩ : ∃ y, y = s 1 := ⟨_, rfl⟩
  have hyl : y < 18446744073709551616 := by rw [hy]; exact hs 1
  obtain ⟨c, hc⟩ : ∃ c, c = y &&& caps := ⟨_, rfl⟩
  have hcl : c ≤ 134217726 := by rw [hc]; exact and_caps y
  have e1 := and_caps_int y hyl
  rw [← hc] at e1
  have e2 : IntKind.u64.wrap ((c : Int) * 4294967296) = ((c * 4294967296 : Nat) : Int) := by rw [show (c : Int) * 4294967296 = ((c * 4294967296 : Nat) : Int) by simp]; exact wrap64 _ (by omega)
  obtain ⟨d, hd⟩ : ∃ d, d = c * 4294967296 := ⟨_, rfl⟩
  rw [← hd] at e2
  obtain ⟨z, hz⟩ : ∃ z, z = y ||| d := ⟨_, rfl⟩
  have hzl : z < 18446744073709551616 := by rw [hz]; exact or_small hyl (by omega)
  have e3 : bits BinOp.or IntKind.u64 (y : Int) (d : Int) = (z : Int) := by rw [hz]; exact u64_or_nat y d hyl (by omega)
  obtain ⟨x, hx⟩ : ∃ x, x = z / 4294967296 &&& caps := ⟨_, rfl⟩
  have hxl : x ≤ 134217726 := by rw [hx]; exact and_caps _
  have e4 : bits BinOp.and IntKind.u64 ((z : Int) / 4294967296) 134217726 = (x : Int) := by
    rw [show (z : Int) / 4294967296 = ((z / 4294967296 : Nat) : Int) by simp, hx]; exact and_caps_int _ (by omega)
  obtain ⟨u, hu⟩ : ∃ u, u = z ||| x := ⟨_, rfl⟩
  have e5 : bits BinOp.or IntKind.u64 (z : Int) (x : Int) = (u : Int) := by rw [hu]; exact u64_or_nat z x hzl (by omega)
  have hfold : (fun j => if j = 1 then u else if j = 1 then z else s j) = foldW s := by
    funext j; unfold foldW fold1
    by_cases h : j = 1
    · rw [if_pos h, if_pos h, hu, hx, hz, hd, hc, hy]
    · rw [if_neg h, if_neg h, if_neg h]
  have HF := Lib.hid hfold
  have h1 : (lc s)[1]? = some (.int .u64 y) := by rw [lc_at s (by omega), hy]
  have h2 : ((lc s).setIfInBounds 1 (.int .u64 z))[1]? = some (.int .u64 z) := by rw [lc_set, lc_at _ (by omega), if_pos rfl]
  have hC : (lc s).setIfInBounds 1 (.int .u64 (u : Nat)) = lc (foldW s) := by rw [lc_set, ← hfold]; congr 1; funext j; by_cases h : j = 1 <;> simp [h]
  have zs := zero_let
  have r1 : Row ((w.alloc (Obj.cells ((lc s).setIfInBounds 1 (.int .u64 (u : Nat))) 24)).alloc (Obj.cells (lc fun _ => 0) 24)) w.heap.size 24 (lc (foldW s)) := ((Row.new w _ _).congr hC).alloc _
  have r0 : Row ((w.alloc (Obj.cells ((lc s).setIfInBounds 1 (.int .u64 (u : Nat))) 24)).alloc (Obj.cells (lc fun _ => 0) 24)) (w.heap.size + 1) 24 (lc fun _ => 0) := by
    have := Row.new (w.alloc (Obj.cells ((lc s).setIfInBounds 1 (.int .u64 (u : Nat))) 24)) 24 (lc fun _ => 0)
    simpa using this
  have hb := ((Below.refl w.heap.size w).alloc (Nat.le_refl _) (Obj.cells ((lc s).setIfInBounds 1 (.int .u64 (u : Nat))) 24)).alloc (by simp) (Obj.cells (lc fun _ => 0) 24)
  clear hy hc hd hz hx hu hfold hC
  go_enter Try.func23, Try.ntmps23
  go_wp2_with (first | (with_reducible refine wpList_load_let r1 rfl _ rfl ?_ ?_; go_simp; go_simp) | (with_reducible refine wpList_store_let (s' := foldW s) r0 rfl _ _ rfl ?_ ?_ ?_; go_simp; go_simp; go_simp))
  refine bodyPost_ret (results_let (p := 2) rfl _ (r0.setRow (lc (foldW s))) ?_) rfl ?_
  · go_simp
  exact ⟨rfl, below_setRow hb (by omega) _⟩

/-- What the reference's Fold has laid down before letter k. -/
def foldTo (f : Nat → Bool) (k : Nat) : Nat → Bool := fun x => f x || (decide (97 ≤ x ∧ x < k) && f (x - 32)) || (decide (65 ≤ x ∧ x < k - 32) && f (x + 32))
theorem foldTo_start (f : Nat → Bool) : foldTo f 97 = f := by
  funext x; unfold foldTo
  rw [decide_eq_false (show ¬ (97 ≤ x ∧ x < 97) by omega), decide_eq_false (show ¬ (65 ≤ x ∧ x < 97 - 32) by omega)]; simp
theorem foldTo_end (f : Nat → Bool) : foldTo f 123 = foldB f := by
  funext x; unfold foldTo foldB
  congr 2
  · congr 2; exact propext (by omega)
  · congr 1; exact propext (by omega)
theorem foldTo_yes (f : Nat → Bool) (k : Nat) (h1 : 97 ≤ k) (h2 : k ≤ 122) (h : (f k || f (k - 32)) = true) :
    (fun j => if j = k - 32 then true else if j = k then true else foldTo f k j) = foldTo f (k + 1) := by
  funext x; unfold foldTo
  by_cases e : x = k - 32
  · subst e
    rw [if_pos rfl, decide_eq_true (show 65 ≤ k - 32 ∧ k - 32 < k + 1 - 32 by omega), show k - 32 + 32 = k by omega]
    revert h; cases f k <;> cases f (k - 32) <;> simp
  · rw [if_neg e]
    by_cases e2 : x = k
    · subst e2
      rw [if_pos rfl, decide_eq_true (show 97 ≤ x ∧ x < x + 1 by omega)]
      revert h; cases f x <;> cases f (x - 32) <;> simp
    · rw [if_neg e2]
      congr 2
      · congr 2; exact propext (by omega)
      · congr 1; exact propext (by omega)
theorem foldTo_no (f : Nat → Bool) (k : Nat) (h1 : 97 ≤ k) (h2 : k ≤ 122) (h : (f k || f (k - 32)) = false) : foldTo f k = foldTo f (k + 1) := by
  have ha : f k = false := by revert h; cases f k <;> simp
  have hb : f (k - 32) = false := by revert h; cases f (k - 32) <;> simp
  funext x; unfold foldTo
  by_cases e : x = k - 32
  · subst e; rw [show k - 32 + 32 = k by omega, ha, hb, decide_eq_false (show ¬ (97 ≤ k - 32 ∧ k - 32 < k) by omega), decide_eq_false (show ¬ (97 ≤ k - 32 ∧ k - 32 < k + 1) by omega)]; simp
  · by_cases e2 : x = k
    · subst e2; rw [ha, hb, decide_eq_false (show ¬ (65 ≤ x ∧ x < x - 32) by omega), decide_eq_false (show ¬ (65 ≤ x ∧ x < x + 1 - 32) by omega)]; simp
    · congr 2
      · congr 2; exact propext (by omega)
      · congr 1; exact propext (by omega)

def FoldRel (f : Nat → Bool) (w : World) (i : Value) (wr : World) : Prop :=
  ∃ k : Nat, 97 ≤ k ∧ k ≤ 123 ∧ i = .int .i32 k ∧ Row wr w.heap.size 26 (sc f) ∧ Row wr (w.heap.size + 1) 26 (sc fun _ => false) ∧ Row wr (w.heap.size + 1 + 1) 26 (sc (foldTo f k)) ∧ Below w.heap.size w wr

set_option maxHeartbeats 1000000 in
theorem reffold_any (f : Nat → Bool) (w : World) :
    Calls Try.prog 24 #[.agg (sc f)] w fun e w' => e = .returned (.agg (sc (foldB f))) ∧ Below w.heap.size w w' := by
  have zs := zero_set
  have r1 : Row ((w.alloc (.cells (sc f) 26)).alloc (Obj.cells (sc fun _ => false) 26)) w.heap.size 26 (sc f) := (Row.new w _ _).alloc _
  go_enter Try.func24, Try.ntmps24
  go_wp2_with (first | (with_reducible refine wpList_load_set r1 rfl _ rfl ?_ ?_; go_simp; go_simp) | (with_reducible refine wpList_new_set (fun _ => false) f rfl _ _ rfl ?_ ?_ ?_; go_simp; go_simp; go_simp))
  go_loopw [4] (fun i wr => FoldRel f w i wr) (fun i _ => 200 - (intOf i).toNat)
  case atStart =>
    unfold FoldRel
    have b := (((Below.refl w.heap.size w).alloc (Nat.le_refl _) (Obj.cells (sc f) 26)).alloc (by simp) (Obj.cells (sc fun _ => false) 26)).alloc (by simp; omega) (Obj.cells (sc f) 26)
    have q1 := (Row.new (w.alloc (Obj.cells (sc f) 26)) 26 (sc fun _ => false)).alloc (Obj.cells (sc f) 26)
    have q2 := (Row.new ((w.alloc (Obj.cells (sc f) 26)).alloc (Obj.cells (sc fun _ => false) 26)) 26 (sc f))
    exact ⟨97, by omega, by omega, rfl, r1.alloc _, by simpa using q1, by rw [foldTo_start]; simpa using q2, b⟩
  case round =>
    obtain ⟨k, hk1, hk, rfl, q0, q1, q2, hb⟩ := hrel
    obtain ⟨j, rfl⟩ : ∃ j, k = j + 32 := ⟨k - 32, by omega⟩
    have HK := Lib.hid (And.intro hk1 hk)
    have HR := Lib.hid (And.intro q0 (And.intro q1 q2))
    clear hk hk1 zs r1
    by_cases hlt : (j : Int) + 32 ≤ 122
    · have hc1 : wr.cell? ⟨w.heap.size, j + 32, none⟩ = some (.bool (f (j + 32))) := by rw [q0.cell, sc_at _ (by omega)]
      have hc2 : wr.cell? ⟨w.heap.size, j, none⟩ = some (.bool (f j)) := by rw [q0.cell, sc_at _ (by omega)]
      obtain ⟨a, ha⟩ : ∃ a, a = f (j + 32) := ⟨_, rfl⟩
      obtain ⟨b, hbj⟩ : ∃ b, b = f j := ⟨_, rfl⟩
      have hd1 : wr.cell? ⟨w.heap.size + 1 + 1, j + 32, none⟩ = some (.bool (foldTo f (j + 32) (j + 32))) := by rw [q2.cell, sc_at _ (by omega)]
      have hd2 : wr.cell? ⟨w.heap.size + 1 + 1, j, none⟩ = some (.bool (foldTo f (j + 32) j)) := by rw [q2.cell, sc_at _ (by omega)]
      have hf1 := q2.frozen (j + 32)
      have hf2 := q2.frozen j
      rw [← ha] at hc1
      rw [← hbj] at hc2
      have HA := Lib.hid (And.intro ha hbj)
      clear ha hbj q0 q1 q2
      cases a
      · cases b
        · go_wp2
          go_roundw
          case rel =>
            unfold FoldRel
            refine ⟨j + 32 + 1, by have := HK.out; omega, by omega, by go_num, HR.out.1, HR.out.2.1, ?_, hb⟩
            have e := foldTo_no f (j + 32) (by have := HK.out; omega) (by omega) (by rw [← HA.out.1, show j + 32 - 32 = j by omega, ← HA.out.2]; rfl)
            rw [← e]; exact HR.out.2.2
          case measure => simp [intOf]; omega
        · go_wp2
          go_roundw
          case rel =>
            unfold FoldRel
            refine ⟨j + 32 + 1, by have := HK.out; omega, by omega, by go_num, (HR.out.1.far (by simp; omega) _).far (by simp; omega) _, (HR.out.2.1.far (by simp) _).far (by simp) _, ?_, (hb.setCell (by simp; omega) _).setCell (by simp; omega) _⟩
            have e := foldTo_yes f (j + 32) (by have := HK.out; omega) (by omega) (by rw [← HA.out.1, show j + 32 - 32 = j by omega, ← HA.out.2]; rfl)
            rw [← e, show j + 32 - 32 = j by omega]
            have r := (HR.out.2.2.set (j + 32) (.bool true)).congr (sc_set _ _ _)
            exact (r.set j (.bool true)).congr (sc_set _ _ _)
          case measure => simp [intOf]; omega
      · go_wp2
        go_roundw
        case rel =>
          unfold FoldRel
          refine ⟨j + 32 + 1, by have := HK.out; omega, by omega, by go_num, (HR.out.1.far (by simp; omega) _).far (by simp; omega) _, (HR.out.2.1.far (by simp) _).far (by simp) _, ?_, (hb.setCell (by simp; omega) _).setCell (by simp; omega) _⟩
          have e := foldTo_yes f (j + 32) (by have := HK.out; omega) (by omega) (by rw [← HA.out.1, show j + 32 - 32 = j by omega, ← HA.out.2]; rfl)
          rw [← e, show j + 32 - 32 = j by omega]
          have r := (HR.out.2.2.set (j + 32) (.bool true)).congr (sc_set _ _ _)
          exact (r.set j (.bool true)).congr (sc_set _ _ _)
        case measure => simp [intOf]; omega
    · have e : j + 32 = 123 := by have := HK.out; omega
      have r2 := HR.out.2.2
      rw [e, foldTo_end] at r2
      have r0 := HR.out.2.1
      clear e q0 q1 q2
      go_wp2_with (first | (with_reducible refine wpList_load_set r2 rfl _ rfl ?_ ?_; go_simp; go_simp) | (with_reducible refine wpList_store_set (f' := foldB f) r0 rfl _ _ rfl ?_ ?_ ?_; go_simp; go_simp; go_simp))
      refine bodyPost_ret (results_set (p := 2) rfl _ (r0.setRow (sc (foldB f))) ?_) rfl ?_
      · go_simp
      exact ⟨rfl, below_setRow hb (by omega) _⟩

def oneq : Nat → Nat := put (fun _ => 0) 113
theorem oneq_small : Small oneq := put_small zero_small _
theorem of_one {w : World} {g : Nat} (r : Row w g 5 #[.int .u8 113]) : Calls Try.prog 16 #[.slice (some ⟨g, 0, none⟩) 1 1] w fun e w' => e = .returned (.agg (lc oneq)) ∧ Below w.heap.size w w' :=
  of_some g 0 1 1 (fun _ => 113) w (by omega) (fun k _ => by omega) (fun k hk => by
    obtain rfl : k = 0 := by omega
    rw [r.cell]; rfl)
theorem oneq_81 : bit (foldW oneq) 81 = true := by decide +kernel

theorem has_81 (w : World) : Calls Try.prog 12 #[.agg (lc (foldW oneq)), .int .u8 81] w fun e w' => e = .returned (.bool true) ∧ Below w.heap.size w w' := by
  have := has_any (foldW oneq) 81 (foldW_small oneq_small) (by omega) w; rw [oneq_81] at this; exact this

set_option maxHeartbeats 1000000 in
theorem folds_walk (s : Nat → Nat) (hs : Small s) (w : World) :
    Calls Try.prog 7 #[.agg (lc s)] w fun e w' => e = .returned (.bool true) ∧ Below w.heap.size w w' := by
  have r0 := Row.new w 24 (lc s)
  have hb := (Below.refl w.heap.size w).alloc (Nat.le_refl _) (Obj.cells (lc s) 24)
  have HS := Lib.hid hs
  have zs := zero_let
  have hfo := Lib.hid (fun w => fold_any s hs w)
  have hff := Lib.hid (fun w => fold_any (foldW s) (foldW_small hs) w)
  have hq := Lib.hid (fun w => fold_any oneq oneq_small w)
  have hh := Lib.hid has_81
  rw [foldW_twice hs] at hff
  have h1 := Lib.hid (fun w => refof_any s hs w)
  have h2 := Lib.hid (fun w => refof_any (foldW s) (foldW_small hs) w)
  have e2 : sc (bit (foldW s)) = sc (foldB (bit s)) := sc_congr fun x hx => bit_fold s x hx
  rw [e2] at h2
  have h3 := Lib.hid (fun w => reffold_any (bit s) w)
  clear hs e2
  go_enter Try.func7, Try.ntmps7
  go_wp2_with (first | (with_reducible refine wpList_load_let r0 rfl _ rfl ?_ ?_; go_simp; go_simp) | (go_at_call 23; with_reducible refine (hfo.out _).mono ?_; rintro e w1 ⟨rfl, hb1⟩; have r1 := r0.below' hb1; have hb2 := hb.trans (hb1.mono hb.size)) | (with_reducible refine wpList_new_let (fun _ => 0) (foldW s) rfl _ _ rfl ?_ ?_ ?_; go_simp; go_simp; go_simp))
  have q0 := r1.alloc (Obj.cells (lc (foldW s)) 24)
  have q1 := Row.new w1 24 (lc (foldW s))
  have hb3 := hb2.alloc hb2.size (Obj.cells (lc (foldW s)) 24)
  obtain ⟨w2, hw2⟩ : ∃ w2, w2 = w1.alloc (Obj.cells (lc (foldW s)) 24) := ⟨_, rfl⟩
  rw [← hw2] at q0 q1 hb3 ⊢
  clear hb hb1 hb2 r0 r1 hw2 zs
  have p0 := (q0.alloc (.cells #[.int .u8 113] 5)).drew
  have p1 := (q1.alloc (.cells #[.int .u8 113] 5)).drew
  have p2 := (Row.new w2 5 #[.int .u8 113]).drew
  have hb4 := (hb3.alloc hb3.size (.cells #[.int .u8 113] 5)).drew
  obtain ⟨w3, hw3⟩ : ∃ w3, w3 = (w2.alloc (.cells #[.int .u8 113] 5)).drew := ⟨_, rfl⟩
  have hof := Lib.hid (fun u => of_one (g := w2.heap.size) (w := later w3 u) ((hw3 ▸ p2 : Row w3 w2.heap.size 5 #[.int .u8 113]).later u))
  have HW := Lib.hid hw3
  rw [← hw3] at p0 p1 hb4
  clear q0 q1 hb3 p2 hw3
  have gs := guard_set
  have gl := guard_let
  have es := equal_set
  have el := equal_let
  refine wp_region_first (by kernel_rfl) rfl (by kernel_rfl) (by kernel_rfl) (by kernel_rfl) (fun K hK => ?_)
  go_simp
  rw [← HW.out]
  refine hK _ _ ?_
  clear hK K
  repeat (first | go_big_quiet_skip | (go_big_quiet_want; first | (with_reducible refine quiet_load_let p0 _ rfl ?_ ?_; go_simp; go_simp; go_big_quiet_on) | (with_reducible refine quiet_load_let p1 _ rfl ?_ ?_; go_simp; go_simp; go_big_quiet_on) | (go_big_quiet_op; first | go_big_quiet_on | go_big_quiet_call (first | with_reducible exact calls_later (hof.out _) | with_reducible exact calls_later (hq.out _) | with_reducible exact calls_later (hh.out _) | with_reducible exact calls_later (h1.out _) | with_reducible exact calls_later (h2.out _) | with_reducible exact calls_later (h3.out _) | with_reducible exact calls_later (hff.out _)))))
  refine wpQuiet_nil ?_
  rintro w4 ⟨u, rfl⟩
  go_wp2
  go_ret
  exact ⟨rfl, hb4.trans ((below_later w3 u).mono hb4.size)⟩
end Go.Proofs.Ytcflbpcfmpkolaa
