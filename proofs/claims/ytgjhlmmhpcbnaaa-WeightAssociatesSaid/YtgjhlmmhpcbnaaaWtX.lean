/-
  Package weight's statements: the fixed example that each of them begins with.
-/
import Derived.Test.YtgjhlmmhpcbnaaaWtP
namespace Go.Proofs.Ytgjhlmmhpcbnaaa
open Go.RowKit
def zz (k : Nat) : Int := [97, 10, 98, 99].getD k 0
theorem zz_in : InB zz 4 := fun k hk => by
  match k, hk with
  | 0, _ => exact ⟨by decide, by decide⟩
  | 1, _ => exact ⟨by decide, by decide⟩
  | 2, _ => exact ⟨by decide, by decide⟩
  | 3, _ => exact ⟨by decide, by decide⟩
theorem wx_zz : wx zz 4 = ⟨4, 1, 1, 2, tx zz 4⟩ := by
  rw [wx_eq]
  exact Wt.ext' rfl (by decide) (by decide) (by decide) rfl
/-- The world behind '[]byte(..)' of the example. -/
def exWorld (w : World) : World := (w.alloc (.cells #[.int .u8 97, .int .u8 10, .int .u8 98, .int .u8 99] 5)).freeze ⟨w.heap.size, 4, none⟩ 1
theorem conv_ex (w : World) : (convert 22 22 (.slice (some ⟨w.heap.size, 0, none⟩) 4 4)).run Try.prog (w.alloc (.cells #[.int .u8 97, .int .u8 10, .int .u8 98, .int .u8 99] 5)) = .ok (.slice (some ⟨w.heap.size, 0, none⟩) 4 4) (exWorld w) := by
  have hsh : (w.alloc (.cells #[.int .u8 97, .int .u8 10, .int .u8 98, .int .u8 99] 5)).shape? w.heap.size = some (5, 4) := by
    simp [World.shape?, World.alloc, -World.alloc_eq]
  simp [convert, run_underlying Try.underlying22, run_underlying Try.underlying5, markStringish, hsh, exWorld]
theorem exWorld_old (w : World) (j : Nat) (hj : j < w.heap.size) : (exWorld w).heap[j]? = w.heap[j]? := by
  have h1 : w.heap.size ≠ j := by omega
  simp [exWorld, World.freeze, World.alloc, -World.alloc_eq, Array.getElem?_modify, Array.getElem?_push, h1, Ne.symm h1]
theorem exWorld_size (w : World) : (exWorld w).heap.size = w.heap.size + 1 := by
  simp [exWorld, World.freeze, World.alloc, -World.alloc_eq]
theorem exWorld_new (w : World) : (exWorld w).heap[w.heap.size]? = some (.cells #[.int .u8 97, .int .u8 10, .int .u8 98, .int .u8 99] 5 (4, 5)) := by
  simp [exWorld, World.freeze, World.alloc, -World.alloc_eq]
  rw [Array.getElem_modify_self]
  simp
theorem exWorld_below (w : World) : Below w.heap.size w (exWorld w) := ⟨rfl, rfl, rfl, by rw [exWorld_size]; omega, fun k hk => exWorld_old w k hk⟩
theorem exWorld_rd (w : World) : Rd (exWorld w).heap.size (exWorld w) (some ⟨w.heap.size, 0, none⟩) 4 (u8 zz) :=
  .inr ⟨w.heap.size, 0, rfl, by rw [exWorld_size]; omega, fun k hk => by
    have h : (exWorld w).cell? ⟨w.heap.size, 0 + k, none⟩ = (#[Value.int .u8 97, Value.int .u8 10, Value.int .u8 98, Value.int .u8 99] : Array Value)[k]? := by
      rw [Nat.zero_add]; simp [World.cell?, exWorld_new]
    rw [h]
    match k, hk with
    | 0, _ => rfl
    | 1, _ => rfl
    | 2, _ => rfl
    | 3, _ => rfl⟩
theorem field_dig (w : World) : Sem.run Try.prog (Instr.field 27 (Value.agg #[.int .i64 0, .int .i64 0, .int .i64 0, .int .i64 0, .int .u64 0, .int .u64 1]) 4) w = .ok (.agg #[.int .u64 0, .int .u64 1]) w := by kernel_rfl
theorem field_scale (w : World) : Sem.run Try.prog (Instr.field 25 (Value.agg #[.int .u64 0, .int .u64 1]) 1) w = .ok (.int .u64 1) w := by kernel_rfl
theorem w_unit' (w : World) : Calls Try.prog 16 #[] w fun e w' => e = .returned (.agg #[.int .i64 0, .int .i64 0, .int .i64 0, .int .i64 0, .int .u64 0, .int .u64 1]) ∧ Below w.heap.size w w' := w_unit w
set_option maxRecDepth 20000 in
set_option maxHeartbeats 1600000 in
theorem alive_true (w : World) : Calls Try.prog 12 #[] w fun e w' => e = .returned (.bool true) ∧ Below w.heap.size w w' := by
  obtain ⟨s, hs⟩ : ∃ s, w.heap.size = s := ⟨_, rfl⟩
  have cv := conv_ex w
  have r0 := exWorld_rd w
  have hb0 := exWorld_below w
  rw [hs] at cv r0 hb0
  obtain ⟨w0, hw0⟩ : ∃ w0, w0 = exWorld w := ⟨_, rfl⟩
  rw [← hw0] at cv r0 hb0
  have HB0 := Lib.hid hb0
  have C1 := Lib.hid (w_of (some ⟨s, 0, none⟩) 4 4 zz w0 (by omega) (fun h => by cases h) r0 zz_in)
  have hg := good_wx zz_in (by omega)
  have CV := Lib.hid (fun w => gb_true hg ▸ w_valid (wx zz 4) w hg.w64)
  rw [wx_zz] at C1 CV
  have CU := Lib.hid w_unit'
  obtain ⟨D, hD⟩ : ∃ D, D = tx zz 4 := ⟨_, rfl⟩
  rw [← hD] at C1 CV
  have z0 := w_zero
  have HS := Lib.hid hs
  have ff := field_dig
  have ff2 := field_scale
  clear r0 hb0 hw0 hD hg
  go_enter Try.func12, Try.ntmps12
  go_wp2_with fail
  refine C1.out.mono ?_
  rintro e w1 ⟨rfl, hb1⟩
  have HB1 := Lib.hid (HB0.out.trans (hb1.mono (by have := HB0.out.size; have := HS.out; omega)))
  clear hb1 C1 cv
  go_wp2_with (first | ((with_reducible refine wpList_newR (c' := wc ⟨4, 1, 1, 2, D⟩) aggW rfl (wc_one _) rfl _ _ rfl ?_ ?_ ?_); (go_simp <;> fail); (first | (go_simp <;> fail) | exact rfl); go_simp; have T1 := Lib.hid (Row.new w1 27 (wc ⟨4, 1, 1, 2, D⟩)); have HB2 := Lib.hid (HB1.out.alloc (by have hh := HB1.out.size; have := HS.out; omega) (.cells (wc ⟨4, 1, 1, 2, D⟩) 27)); clear HB1; revert T1 HB2; generalize w1.alloc (.cells (wc ⟨4, 1, 1, 2, D⟩) 27) = w2; intro T1 HB2; have y0 : w2.cell? ⟨w1.heap.size, 0, none⟩ = some (.int .i64 4) := T1.out.cell 0; have y1 : w2.cell? ⟨w1.heap.size, 1, none⟩ = some (.int .i64 1) := T1.out.cell 1; have y2 : w2.cell? ⟨w1.heap.size, 2, none⟩ = some (.int .i64 1) := T1.out.cell 2; have y3 : w2.cell? ⟨w1.heap.size, 3, none⟩ = some (.int .i64 2) := T1.out.cell 3) | ((with_reducible refine wpList_loadR_g aggW T1.out ?_ _ rfl ?_ ?_); exact rfl; (go_simp <;> fail); go_simp) | (go_at_call 14; (with_reducible refine (CV.out _).mono ?_); rintro e w3 ⟨rfl, hb⟩; have HB3 := Lib.hid (HB2.out.trans (hb.mono (by have := HB2.out.size; have := HS.out; omega))); clear hb HB2 y0 y1 y2 y3) | (go_at_call 16; (with_reducible refine (CU.out _).mono ?_); rintro e w4 ⟨rfl, hb⟩; have HB4 := Lib.hid (HB3.out.trans (hb.mono (by have := HB3.out.size; have := HS.out; omega))); clear hb HB3))
  go_ret
  exact ⟨rfl, by rw [HS.out]; exact HB4.out⟩
end Go.Proofs.Ytgjhlmmhpcbnaaa
