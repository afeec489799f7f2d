/-
  Package monoid's statements: the fixed example that each of them begins with.
-/
import Derived.Test.YtbiecpejpkgngaaMoPre
import Derived.Test.YtbiecpejpkgngaaMoAffP
import Derived.Test.YtbiecpejpkgngaaMoSame
namespace Go.Proofs.Ytbiecpejpkgngaa
open Go.RowKit
def ints (l : List Int) : Array Value := (l.map fun x => Value.int .i64 x).toArray
theorem ints_rd {w : World} {g B : Nat} {t : TypeId} {l : List Int} (h : Row w g t (ints l)) (hB : g < B) : Rd B w (some ⟨g, 0, none⟩) l.length fun k => .int .i64 (l.getD k 0) :=
  h.rd hB 0 _ _ fun k hk => by simp [ints, List.getD, hk]
theorem made_rd {w : World} {g B L : Nat} {t : TypeId} {c : Array Value} {f : Nat → Value} (h : Row w g t c) (hB : g < B) (hc : ∀ k, k < L → c[k]? = some (f k)) : Rd B w (some ⟨g, 0, none⟩) L f :=
  h.rd hB 0 _ _ fun k hk => by rw [Nat.zero_add]; exact hc k hk
theorem same_true {A A' : Option Addr} {n n' c c' : Nat} {z z' : Nat → Int} {w : World} (hn : n ≤ 140737488355328)
    (hz : Rd w.heap.size w A n fun k => .int .i64 (z k)) (hz' : Rd w.heap.size w A' n' fun k => .int .i64 (z' k)) (h : sameZ n n' z z') :
    Calls Try.prog 23 #[.slice A n c, .slice A' n' c'] w fun e w' => e = .returned (.bool true) ∧ Below w.heap.size w w' :=
  (same_any A A' n n' c c' z z' w hn (by have := h.1; omega) hz hz').mono fun e w' ⟨b, he, hb, hw⟩ => ⟨by rw [he, hb.2 h], hw⟩
set_option maxRecDepth 20000 in
set_option maxHeartbeats 1600000 in
theorem awake_true (w : World) : Calls Try.prog 11 #[] w fun e w' => e = .returned (.bool true) ∧ Below w.heap.size w w' := by
  have guard_aff : Try.prog.eqGuardType Try.prog.depth 40 = false := by kernel_rfl
  have c1 : Calls Try.prog 38 #[.agg #[], .slice (some ⟨w.heap.size, 0, none⟩) 3 3] (w.alloc (.cells (ints [3, 4, 5]) 3)) (Made 3 4 (fun k => .int .i64 (fo mAdd (fun k => [3, 4, 5].getD k 0) k)) (w.alloc (.cells (ints [3, 4, 5]) 3))) :=
    add_pre (some ⟨w.heap.size, 0, none⟩) 3 3 0 (fun k => [3, 4, 5].getD k 0) _ (by omega) (ints_rd (l := [3, 4, 5]) (Row.new w 3 (ints [3, 4, 5])) (by simp)) (fun _ => Nat.le_refl _) (by omega)
  have hb0 := Lib.hid (show Below w.heap.size w (w.alloc (.cells (ints [3, 4, 5]) 3)) from (Below.refl _ _).alloc (Nat.le_refl _) _)
  have C1 := Lib.hid c1
  clear c1
  go_enter Try.func11, Try.ntmps11
  go_wp2_with fail
  refine C1.out.mono ?_
  rintro e w1 ⟨g1, r1, hg1, rfl, hb1, hr1, hs1, hc1⟩
  have HC1 := Lib.hid hc1
  have HB1 := Lib.hid (hb0.out.trans (hb1.mono hb0.out.size))
  have HR1 := Lib.hid (hr1.alloc (.cells (ints [5, 1, 4, 2]) 3))
  have c2 : Calls Try.prog 39 #[.agg #[], .slice (some ⟨w1.heap.size, 0, none⟩) 4 4, .int .i64 2] (w1.alloc (.cells (ints [5, 1, 4, 2]) 3)) (Made 3 3 (fun k => .int .i64 (gl mMax (fun k => [5, 1, 4, 2].getD k 0) k 1)) (w1.alloc (.cells (ints [5, 1, 4, 2]) 3))) :=
    max_win (some ⟨w1.heap.size, 0, none⟩) 4 4 2 0 (fun k => [5, 1, 4, 2].getD k 0) _ (by omega) (by omega) (by omega) (by omega) (ints_rd (l := [5, 1, 4, 2]) (Row.new w1 3 (ints [5, 1, 4, 2])) (by simp)) (fun _ => Nat.le_refl _) (by omega)
  have HB2 := Lib.hid (HB1.out.alloc HB1.out.size (.cells (ints [5, 1, 4, 2]) 3))
  have C2 := Lib.hid c2
  clear hc1 hb1 hr1 c2 hs1 hg1
  go_wp2_with fail
  refine C2.out.mono ?_
  rintro e w2 ⟨g2, r2, hg2, rfl, hb2, hr2, hs2, hc2⟩
  have HC2 := Lib.hid hc2
  have HB3 := Lib.hid (HB2.out.trans (hb2.mono HB2.out.size))
  have HR2 := Lib.hid hr2
  have HR3 := Lib.hid (HR1.out.below' hb2)
  clear hc2 hb2 hr2 hs2 hg2
  have HR4 := Lib.hid (HR3.out.alloc (.cells (ints [0, 3, 7, 12]) 3))
  have c3 := same_true (c := 4) (c' := 4) (w := w2.alloc (.cells (ints [0, 3, 7, 12]) 3)) (n := 4) (n' := 4) (by omega) (made_rd HR4.out HR4.out.lt HC1.out) (ints_rd (l := [0, 3, 7, 12]) (Row.new w2 3 (ints [0, 3, 7, 12])) (by simp)) ⟨rfl, fun k hk => by
    match k, hk with
    | 0, _ => simp [fo, mAdd]
    | 1, _ => simp [fo, mAdd, wrap64]
    | 2, _ => simp [fo, mAdd, wrap64]
    | 3, _ => simp [fo, mAdd, wrap64]⟩
  have C3 := Lib.hid c3
  have HB4 := Lib.hid (HB3.out.alloc HB3.out.size (.cells (ints [0, 3, 7, 12]) 3))
  have HR5 := Lib.hid (HR2.out.alloc (.cells (ints [0, 3, 7, 12]) 3))
  clear c3
  go_wp2_with fail
  refine C3.out.mono ?_
  rintro e w3 ⟨rfl, hb3⟩
  have HB5 := Lib.hid (HB4.out.trans (hb3.mono HB4.out.size))
  have HR6 := Lib.hid ((HR5.out.below' hb3).alloc (.cells (ints [5, 4, 4]) 3))
  clear hb3
  have c4 := same_true (c := 3) (c' := 3) (w := w3.alloc (.cells (ints [5, 4, 4]) 3)) (n := 3) (n' := 3) (by omega) (made_rd HR6.out HR6.out.lt HC2.out) (ints_rd (l := [5, 4, 4]) (Row.new w3 3 (ints [5, 4, 4])) (by simp)) ⟨rfl, fun k hk => by
    match k, hk with
    | 0, _ => rfl
    | 1, _ => rfl
    | 2, _ => rfl⟩
  have C4 := Lib.hid c4
  have HB6 := Lib.hid (HB5.out.alloc HB5.out.size (.cells (ints [5, 4, 4]) 3))
  clear c4
  go_wp2_with fail
  refine C4.out.mono ?_
  rintro e w4 ⟨rfl, hb4⟩
  have HB7 := Lib.hid (HB6.out.trans (hb4.mono HB6.out.size))
  clear hb4
  have c5 : Calls Try.prog 30 #[.agg #[], .agg #[.int .u64 2, .int .u64 1], .int .i64 3] w4 fun e w' => e = .returned (.agg #[.int .u64 8, .int .u64 7]) ∧ Below w4.heap.size w4 w' :=
    aff_pow (2, 1) 3 w4 (by omega) (by omega)
  have C5 := Lib.hid c5
  clear c5
  go_wp2_with fail
  refine C5.out.mono ?_
  rintro e w5 ⟨rfl, hb5⟩
  have HB8 := Lib.hid (HB7.out.trans (hb5.mono HB7.out.size))
  clear hb5
  go_wp2
  go_ret
  exact ⟨rfl, HB8.out⟩
end Go.Proofs.Ytbiecpejpkgngaa
