/-
  Package digest's statements: the fixed example that each of them begins with.
-/
import Derived.Test.YtlhennbimgjohaaDgA
namespace Go.Proofs.Ytlhennbimgjohaa
open Go.RowKit
theorem of_str (x : ByteArray) (A : Option Addr) (c : Nat) (w : World) (hx : x.size ≤ 140737488355328) (hr : Rd w.heap.size w A x.size (u8 (sb x))) :
    Calls Try.prog 15 #[.slice A x.size c] w fun e w' => e = .returned (.agg (dc (txs x))) ∧ Below w.heap.size w w' := dg_of A x.size c (sb x) w hx hr (sb_in x _)
theorem rof_str (x : ByteArray) (A : Option Addr) (c : Nat) (w : World) (hx : x.size ≤ 140737488355328) (hr : Rd w.heap.size w A x.size (u8 (sb x))) :
    Calls Try.prog 14 #[.slice A x.size c] w fun e w' => e = .returned (.agg (dc (txs x))) ∧ Below w.heap.size w w' := dg_rof A x.size c (sb x) w hx hr (sb_in x _)
def zz (k : Nat) : Int := [97, 98].getD k 0
theorem tx_zz : tx zz 2 = mDig.j (lt 97) (lt 98) := by
  show mDig.j (mDig.j mDig.e (lt 97)) (lt 98) = _
  rw [dg_left (inR_lt (by omega) (by omega))]
theorem equal_letter (w : World) : (Op.equalIn 10000 26 (.agg (dc (lt 97))) (.agg #[.int .u64 98, .int .u64 1103515245])).run Try.prog w = .ok true w := equal_dg (98, 1103515245) w
theorem equal_unit (w : World) : (Op.equalIn 10000 26 (.agg (dc mDig.e)) (.agg #[.int .u64 0, .int .u64 1])).run Try.prog w = .ok true w := equal_dg (0, 1) w
/-- The world behind '[]byte("ab")'. -/
def abWorld (w : World) : World := (w.alloc (.cells #[.int .u8 97, .int .u8 98] 5)).freeze ⟨w.heap.size, 2, none⟩ 1
theorem conv_ab (w : World) : (convert 29 29 (.slice (some ⟨w.heap.size, 0, none⟩) 2 2)).run Try.prog (w.alloc (.cells #[.int .u8 97, .int .u8 98] 5)) = .ok (.slice (some ⟨w.heap.size, 0, none⟩) 2 2) (abWorld w) := by
  have hsh : (w.alloc (.cells #[.int .u8 97, .int .u8 98] 5)).shape? w.heap.size = some (5, 2) := by
    simp [World.shape?, World.alloc, -World.alloc_eq]
  simp [convert, run_underlying Try.underlying29, run_underlying Try.underlying5, markStringish, hsh, abWorld]
theorem abWorld_old (w : World) (j : Nat) (hj : j < w.heap.size) : (abWorld w).heap[j]? = w.heap[j]? := by
  have h1 : w.heap.size ≠ j := by omega
  simp [abWorld, World.freeze, World.alloc, -World.alloc_eq, Array.getElem?_modify, Array.getElem?_push, h1, Ne.symm h1]
theorem abWorld_size (w : World) : (abWorld w).heap.size = w.heap.size + 1 := by
  simp [abWorld, World.freeze, World.alloc, -World.alloc_eq]
theorem abWorld_new (w : World) : (abWorld w).heap[w.heap.size]? = some (.cells #[.int .u8 97, .int .u8 98] 5 (2, 3)) := by
  simp [abWorld, World.freeze, World.alloc, -World.alloc_eq]
  rw [Array.getElem_modify_self]
  simp
theorem abWorld_below (w : World) : Below w.heap.size w (abWorld w) := ⟨rfl, rfl, rfl, by rw [abWorld_size]; omega, fun k hk => abWorld_old w k hk⟩
theorem abWorld_rd (w : World) : Rd (abWorld w).heap.size (abWorld w) (some ⟨w.heap.size, 0, none⟩) 2 (u8 zz) :=
  .inr ⟨w.heap.size, 0, rfl, by rw [abWorld_size]; omega, fun k hk => by
    have h : (abWorld w).cell? ⟨w.heap.size, 0 + k, none⟩ = (#[Value.int .u8 97, Value.int .u8 98] : Array Value)[k]? := by
      rw [Nat.zero_add]; simp [World.cell?, abWorld_new]
    rw [h]
    match k, hk with
    | 0, _ => rfl
    | 1, _ => rfl⟩
set_option maxRecDepth 20000 in
set_option maxHeartbeats 1600000 in
theorem awake_true (w : World) : Calls Try.prog 11 #[] w fun e w' => e = .returned (.bool true) ∧ Below w.heap.size w w' := by
  have i97 := inR_lt (c := 97) (by omega) (by omega)
  have i98 := inR_lt (c := 98) (by omega) (by omega)
  obtain ⟨s, hs⟩ : ∃ s, w.heap.size = s := ⟨_, rfl⟩
  have cv := conv_ab w
  have r0 := abWorld_rd w
  have hb0 := abWorld_below w
  rw [hs] at cv r0 hb0
  obtain ⟨w0, hw0⟩ : ∃ w0, w0 = abWorld w := ⟨_, rfl⟩
  rw [← hw0] at cv r0 hb0
  have HB0 := Lib.hid hb0
  have C1 := Lib.hid (dg_of (some ⟨s, 0, none⟩) 2 2 zz w0 (by omega) r0 (fun k hk => by
    match k, hk with
    | 0, _ => exact ⟨by decide, by decide⟩
    | 1, _ => exact ⟨by decide, by decide⟩))
  rw [tx_zz] at C1
  have C2 := Lib.hid (fun w => dg_letter 97 w (by omega) (by omega))
  have C4 := Lib.hid (fun w => dg_letter 98 w (by omega) (by omega))
  have C3 := Lib.hid (fun w => dg_rest (mDig.j (lt 97) (lt 98)) (lt 97) w (inR_j _ _).in64 i97.in64 (by
    intro h
    have h1 := tx_ne zz 2
    rw [tx_zz] at h1
    exact h1 h) (by decide))
  rw [rs_join i97.in64 i98 (by decide)] at C3
  obtain ⟨T, hT⟩ : ∃ T, T = mDig.j (lt 97) (lt 98) := ⟨_, rfl⟩
  rw [← hT] at C1 C3
  have z0 := dg_zero
  have e1 := equal_letter
  have e2 := equal_unit
  have e3 := equal_dg (lt 98)
  obtain ⟨L7, hL7⟩ : ∃ L, L = lt 97 := ⟨_, rfl⟩
  obtain ⟨L8, hL8⟩ : ∃ L, L = lt 98 := ⟨_, rfl⟩
  rw [← hL7] at C2 C3 e1
  rw [← hL8] at C3 C4 e3
  have CU := Lib.hid dg_unit
  obtain ⟨E, hE⟩ : ∃ E, E = mDig.e := ⟨_, rfl⟩
  rw [← hE] at CU e2
  have HS := Lib.hid hs
  have ge := guard_dg
  clear i97 i98 hT hL7 hL8 hE r0 hb0 hw0
  go_enter Try.func11, Try.ntmps11
  go_wp2_with fail
  refine C1.out.mono ?_
  rintro e w1 ⟨rfl, hb1⟩
  have HB1 := Lib.hid (HB0.out.trans (hb1.mono (by have := HB0.out.size; have := HS.out; omega)))
  clear hb1 C1 cv
  go_wp2_with (first | (go_at_call 13; (with_reducible refine (C2.out _).mono ?_); rintro e w2 ⟨rfl, hb2⟩; have HB2 := Lib.hid (HB1.out.trans (hb2.mono (by have := HB1.out.size; have := HS.out; omega))); clear hb2) | (go_at_call 21; (with_reducible refine (C3.out _).mono ?_); rintro e w3 ⟨rfl, hb3⟩; have HB3 := Lib.hid (HB2.out.trans (hb3.mono (by have := HB2.out.size; have := HS.out; omega))); clear hb3) | ((with_reducible refine wpList_newR (c' := dc L8) aggD rfl (dc_one _) rfl _ _ rfl ?_ ?_ ?_); (go_simp <;> fail); (go_simp <;> fail); go_simp))
  obtain ⟨w4, hw4⟩ : ∃ w4, w4 = w3.alloc (Obj.cells (dc L8) 26) := ⟨_, rfl⟩
  have R4 := Lib.hid (show Row w4 w3.heap.size 26 (dc L8) by rw [hw4]; exact Row.new _ _ _)
  have HB4 := Lib.hid (show Below s w w4 by rw [hw4]; exact HB3.out.alloc (by have := HB3.out.size; have := HS.out; omega) _)
  rw [← hw4]
  clear hw4 z0 HB0 HB1 HB2 HB3
  refine wp_region_later (by kernel_rfl) (by kernel_rfl) ?_
  repeat (first | go_big_quiet_skip | (go_big_quiet_want; first | (with_reducible refine quiet_loadR aggD R4.out _ rfl ?_ ?_; (go_simp <;> fail); go_simp; go_big_quiet_on) | (go_big_quiet_op; first | go_big_quiet_on | go_big_quiet_call (first | with_reducible exact calls_later (C2.out _) | with_reducible exact calls_later (C4.out _) | with_reducible exact calls_later (CU.out _)))))
  refine wpQuiet_nil ?_
  rintro w6 ⟨u, rfl⟩
  go_wp2
  go_ret
  exact ⟨rfl, by rw [HS.out]; exact HB4.out.trans ((below_later w4 u).mono (by have := HB4.out.size; have := HS.out; omega))⟩
end Go.Proofs.Ytlhennbimgjohaa
