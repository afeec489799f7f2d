/-
  The iterator that All hands back: its contract over whatever loop ranges over it.
-/
import Derived.Test.YtcflbpcfmpkolaaLsD
import Derived.RangeFuncNested
import Derived.RangeFuncCalls
import Derived.RangeFuncLeaves
import Derived.Shelf.Abstract
import Derived.Shelf.RegionOpen
import Derived.OwnWalkIn
import Derived.TacticsInMore
import Derived.LoopNIn
import Derived.LoopIn
namespace Go.Proofs.Ytcflbpcfmpkolaa
open Go.RowKit Go.Shelf

attribute [local go_sem] Oper.semAt_some

/-- The letters of the set below k, increasing. -/
def ups (s : Nat → Nat) : Nat → List (Fin 256)
  | 0 => []
  | k + 1 => if h : k < 256 ∧ bit s k = true then ups s k ++ [⟨k, h.1⟩] else ups s k
theorem ups_in {s : Nat → Nat} {k : Nat} (h : k < 256) (hb : bit s k = true) : ups s (k + 1) = ups s k ++ [⟨k, h⟩] := dif_pos ⟨h, hb⟩
theorem ups_out {s : Nat → Nat} {k : Nat} (hb : bit s k = false) : ups s (k + 1) = ups s k := dif_neg fun h => by rw [hb] at h; cases h.2
theorem ups_len (s : Nat → Nat) : ∀ k, k ≤ 256 → (ups s k).length = cnt (bit s) k
  | 0, _ => rfl
  | k + 1, hk => by
    have ih := ups_len s k (by omega)
    cases hb : bit s k
    · rw [ups_out hb, ih]; simp [cnt, hb]
    · rw [ups_in (by omega) hb, List.length_append, ih]; simp [cnt, hb]
theorem ups_mem (s : Nat → Nat) (x : Fin 256) : ∀ k, x ∈ ups s k → x.val < k ∧ bit s x.val = true
  | 0, h => by cases h
  | k + 1, h => by
    by_cases hb : k < 256 ∧ bit s k = true
    · rw [ups_in hb.1 hb.2] at h
      rcases List.mem_append.1 h with h | h
      · have := ups_mem s x k h; exact ⟨by omega, this.2⟩
      · obtain rfl : x = ⟨k, hb.1⟩ := by simpa using h
        exact ⟨by simp, hb.2⟩
    · have e : ups s (k + 1) = ups s k := dif_neg hb
      rw [e] at h
      have := ups_mem s x k h; exact ⟨by omega, this.2⟩
theorem ups_rise (s : Nat → Nat) : ∀ k, (ups s k).Pairwise fun x y => x.val < y.val
  | 0 => List.Pairwise.nil
  | k + 1 => by
    by_cases hb : k < 256 ∧ bit s k = true
    · rw [ups_in hb.1 hb.2, List.pairwise_append]
      refine ⟨ups_rise s k, by simp, fun x hx y hy => ?_⟩
      obtain rfl : y = ⟨k, hb.1⟩ := by simpa using hy
      exact (ups_mem s x k hx).1
    · have e : ups s (k + 1) = ups s k := dif_neg hb
      rw [e]; exact ups_rise s k
theorem ups_prefix (s : Nat → Nat) (k : Nat) : ∀ d, ups s k <+: ups s (k + d)
  | 0 => List.prefix_rfl
  | d + 1 => (ups_prefix s k d).trans (by
      by_cases hb : k + d < 256 ∧ bit s (k + d) = true
      · rw [← Nat.add_assoc, ups_in hb.1 hb.2]; exact List.prefix_append _ _
      · have e : ups s (k + d + 1) = ups s (k + d) := dif_neg hb
        rw [← Nat.add_assoc, e]; exact List.prefix_rfl)

theorem wpListIn_load_let {F : Fence} {n : Nat} {ops : Array Oper} {rest : List Oper} {o : Oper} {a : Act} {w : World} {Q : Exit → Act → World → Prop} {g : Nat} {t : TypeId} {s : Nat → Nat} (hr : Row w g t (lc s)) (hgd : o.guard = none)
    (x : Operand) (ho : o.op = .load 24 x) (hx : a.eval x = .pointer (some ⟨g, 0, none⟩)) (h : wpListIn F n Try.prog ops Q rest (a.put o.dst (.agg (lc s))) w) : wpListIn F n Try.prog ops Q (o :: rest) a w := by
  refine wpListIn_plain hgd fun K hK => ?_
  unfold Oper.wpIn
  refine ⟨?_, ?_⟩
  · simp [Oper.about, ho]
  · rw [Oper.semAt_plain F _ _ (by rw [ho]; intro c hc'; cases hc')]
    simp only [execOp, ho, hx, Instr.loadAt, Instr.sureAddr, Sem.run_bind, Sem.run_pure, Result.andThen_ok, load_let hr]
    exact hK _ _ h

/-- A world that came of calls keeps what an iterator's user says. -/
theorem abides_below {β : Type} {B : Nat} {J : β → World → Prop} (hJ : AbidesFrom B J) {s : β} {W W' : World} (h : J s W) (hb : Below W.heap.size W W') : J s W' :=
  hJ s W W' none h ⟨hb.os, hb.tape, hb.output, hb.size, fun i hi _ => hb.block i hi⟩ (fun r e => by cases e)

/-- What a round must keep: the set that the iterator has captured. -/
def KeepsLet (g : Nat) (s : Nat → Nat) (W W' : World) : Prop := W.heap.size ≤ W'.heap.size ∧ (Row W g 24 (lc s) → Row W' g 24 (lc s))
theorem keepsLet_t {g : Nat} {s : Nat → Nat} {A B C : World} (h : KeepsLet g s A B) (k : KeepsLet g s B C) : KeepsLet g s A C := ⟨Nat.le_trans h.1 k.1, fun r => k.2 (h.2 r)⟩
theorem keepsLet_b {g : Nat} {s : Nat → Nat} (W : World) (l : Nat) (o o' : Obj) (h : W.heap[l]? = some o) (ho : o.isCells = false) : KeepsLet g s W (W.putObj l o') := by
  refine ⟨by simp [World.putObj], fun r => (World.putObj_heap_other ?_).trans r⟩
  rintro rfl
  unfold Row at r
  rw [r] at h; cases h; cases ho

/-- All hands the iterator back. -/
theorem all_calls (s : Nat → Nat) (w : World) :
    Calls Try.prog 22 #[.agg (lc s)] w fun e w' => e = .returned (.func (.func 31) #[] #[.pointer (some ⟨w.heap.size, 0, none⟩)]) ∧ w' = w.alloc (.cells (lc s) 24) := by
  go_enter Try.func22, Try.ntmps22
  go_wp2
  go_ret
  exact ⟨rfl, rfl⟩

set_option maxRecDepth 100000 in
set_option maxHeartbeats 2000000 in
theorem all_iter (n l Bs : Nat) (s : Nat → Nat) (hs : Small s) (J Jx : List (Fin 256) → World → Prop) (W : World) (hJ : AbidesFrom W.heap.size J)
    (hY : ∀ pre (x : Fin 256) W1, J pre W1 → pre.length < 256 → YieldAt Fence.wide (n - 1) Try.prog l #[.int .u8 (x.val : Nat)] W1 fun e W' =>
      (e = .returned (.bool true) ∧ J (pre ++ [x]) W' ∧ KeepsLet Bs s W1 W') ∨ (e = .returned (.bool false) ∧ Jx (pre ++ [x]) W'))
    (hr : Row W Bs 24 (lc s)) (h0 : J [] W) :
    CallsIn Fence.wide n Try.prog 31 #[.func (.yield l) #[] #[], .pointer (some ⟨Bs, 0, none⟩)] W fun e W' => (∃ v, e = .returned v) ∧
      ((∃ ys, ys = ups s 256 ∧ J ys W') ∨ (∃ pre, (∃ k, k ≤ 256 ∧ pre = ups s k) ∧ Jx pre W')) := by
  refine callsIn_of_wp Try.func31 rfl trivial ?_ rfl
  simp only [Try.ntmps31, List.size_toArray, List.length_cons, List.length_nil, Nat.reduceAdd, Nat.reduceSub, Array.replicate_succ, Array.replicate_zero, List.push_toArray, List.append_toArray, List.nil_append, List.cons_append]
  gi_wp2
  gi_loopw [4] (fun i wr => ∃ k : Nat, k ≤ 256 ∧ i = .int .i64 k ∧ Hid (J (ups s k) wr) ∧ Hid (Row wr Bs 24 (lc s)) ∧ W.heap.size ≤ wr.heap.size) (fun i _ => left256 i)
  case atStart => exact ⟨0, by omega, rfl, Lib.hid h0, Lib.hid hr, Nat.le_refl _⟩
  case round =>
    obtain ⟨k, hk, rfl, HJ, HR, hsz⟩ := hrel
    have q0 : Row wr Bs 24 (lc s) := HR.out
    have HK := Lib.hid hk
    clear hk
    by_cases hlt : (k : Int) < 256
    · have hk1 : k < 256 := by omega
      have HK1 := Lib.hid hk1
      cases hb : bit s k
      · have hasc := Lib.hid ((has_any s k hs hk1 wr).mono (R' := fun e W' => e = .returned (.bool false) ∧ Hid (Below wr.heap.size wr W' ∧ J (ups s (k + 1)) W')) (fun e W' ⟨he, hb1⟩ => ⟨by rw [he, hb], ⟨hb1, by rw [ups_out hb]; exact hJ _ _ _ none HJ.out ⟨hb1.os, hb1.tape, hb1.output, hb1.size, fun i hi _ => hb1.block i hi⟩ (fun r e => by cases e)⟩⟩))
        clear hk1
        gi_wp2_with (first | (with_reducible refine wpListIn_load_let q0 rfl _ rfl ?_ ?_; go_simp; go_simp) | (refine ⟨trivial, fun h => (by cases h), ?_⟩; gi_at_call 12; with_reducible refine (callsIn_wide.2 hasc.out).mono ?_; rintro e w1 ⟨rfl, hj1⟩))
        refine ⟨fun _ h => (by cases h), ?_⟩
        gi_wp2
        go_roundw
        case rel => exact ⟨k + 1, by omega, by go_num, Lib.hid hj1.out.2, Lib.hid (HR.out.below' hj1.out.1), by have := hj1.out.1.size; omega⟩
        case measure => exact left256_lt (by omega) rfl
      · have hlen : (ups s k).length < 256 := by rw [ups_len s k (by omega)]; have := cnt_le (bit s) k; omega
        have hasc := Lib.hid ((has_any s k hs hk1 wr).mono (R' := fun e W' => e = .returned (.bool true) ∧ Hid (Below wr.heap.size wr W') ∧ YieldAt Fence.wide (n - 1) Try.prog l #[.int .u8 (k : Nat)] W' fun e W2 =>
            (e = .returned (.bool true) ∧ Hid (J (ups s (k + 1)) W2 ∧ KeepsLet Bs s W' W2)) ∨ (e = .returned (.bool false) ∧ Hid (Jx (ups s (k + 1)) W2))) (fun e W' ⟨he, hb1⟩ => by
          refine ⟨by rw [he, hb], Lib.hid hb1, ?_⟩
          have hy := hY (ups s k) ⟨k, hk1⟩ W' (hJ _ _ _ none HJ.out ⟨hb1.os, hb1.tape, hb1.output, hb1.size, fun i hi _ => hb1.block i hi⟩ (fun r e => by cases e)) hlen
          rw [← ups_in hk1 hb] at hy
          obtain ⟨fn, tmps, assign, body, hy, hR⟩ := hy
          exact ⟨fn, tmps, assign, body, hy, hR.mono fun e W2 h => h.imp (fun h => ⟨h.1, Lib.hid h.2⟩) (fun h => ⟨h.1, Lib.hid h.2⟩)⟩))
        clear hk1 hlen
        gi_wp2_with (first | (with_reducible refine wpListIn_load_let q0 rfl _ rfl ?_ ?_; go_simp; go_simp) | (refine ⟨trivial, fun h => (by cases h), ?_⟩; gi_at_call 12; (with_reducible refine (callsIn_wide.2 hasc.out).mono ?_); rintro e w1 ⟨rfl, hj1, fn, tmps, assign, body, hy, hR⟩))
        refine ⟨fun h => (by cases h), ?_⟩
        refine hR.mono ?_
        rintro e W3 (⟨rfl, hJ3⟩ | ⟨rfl, hx3⟩)
        · gi_wp2
          go_roundw
          case rel => exact ⟨k + 1, by omega, by go_num, Lib.hid hJ3.out.1, Lib.hid (hJ3.out.2.2 (HR.out.below' hj1.out)), by have := hj1.out.size; have := hJ3.out.2.1; omega⟩
          case measure => exact left256_lt (by omega) rfl
        · gi_wp2
          refine bodyPost_ret (results_none rfl _ _ _) rfl ?_
          exact ⟨⟨_, rfl⟩, .inr ⟨_, ⟨k + 1, by omega, rfl⟩, hx3.out⟩⟩
    · obtain rfl : k = 256 := by have := HK.out; omega
      gi_wp2
      go_end0
      exact ⟨⟨_, rfl⟩, .inl HJ.out⟩

theorem all_stops (n Bs : Nat) (s : Nat → Nat) (hs : Small s) (w : World) (hr : Row w Bs 24 (lc s)) :
    SeqStopsK Fence.wide n Try.prog 31 #[.pointer (some ⟨Bs, 0, none⟩)] (fun x : Fin 256 => #[Value.int .u8 (x.val : Nat)]) (KeepsLet Bs s) (fun ys => ys = ups s 256) (fun pre => pre <+: ups s 256) 256 w := fun l J Jx W hW hJ _ hY h0 => by
  refine (all_iter n l Bs s hs J Jx W hJ hY (hr.below' hW) h0).mono ?_
  rintro e W' ⟨he, ⟨ys, rfl, hj⟩ | ⟨pre, ⟨k, hk, rfl⟩, hj⟩⟩
  · exact ⟨he, .inl ⟨_, rfl, hj⟩⟩
  · exact ⟨he, .inr ⟨_, by have := ups_prefix s k (256 - k); rwa [show k + (256 - k) = 256 by omega] at this, hj⟩⟩
end Go.Proofs.Ytcflbpcfmpkolaa
