/-
  Package weight: the reference's Valid.
-/
import Derived.Test.YtgjhlmmhpcbnaaaWtRa
import Derived.Test.YtgjhlmmhpcbnaaaWtRb
import Derived.Test.YtgjhlmmhpcbnaaaWtRc
import Derived.Test.YtgjhlmmhpcbnaaaWtRd
namespace Go.Proofs.Ytgjhlmmhpcbnaaa
open Go.RowKit
theorem w_rvalid (r : Wt) (w : World) (h : W64 r) :
    Calls Try.prog 18 #[.agg (wc r)] w fun e w' => e = .returned (.bool (gb r)) ∧ Below w.heap.size w w' := by
  obtain ⟨l, n, h, t, v, s⟩ := r
  obtain ⟨b1, b2, b3, b4, f1, f2, f3, f4⟩ := h
  simp only [] at b1 b2 b3 b4 f1 f2 f3 f4
  have no : (¬ Good ⟨l, n, h, t, (v, s)⟩ → gb ⟨l, n, h, t, (v, s)⟩ = false) := gb_false
  have hin : Good ⟨l, n, h, t, (v, s)⟩ → (0 ≤ n ∧ n ≤ l ∧ 0 ≤ h ∧ h ≤ l ∧ 0 ≤ t ∧ t ≤ l) := Good.in
  have hln : Good ⟨l, n, h, t, (v, s)⟩ → Lines l n h t := Good.ln
  unfold Lines at hln
  have hl0 : Good ⟨l, n, h, t, (v, s)⟩ → 0 ≤ l := Good.l0
  have hl1 : Good ⟨l, n, h, t, (v, s)⟩ → l ≤ 1152921504606846976 := Good.l1
  rcases Int.lt_or_le l 0 with c | c1
  · rw [no (fun g => by have := hin g; have := hl0 g; have := hl1 g; omega)]; exact rv1 l n h t v s w b1 b2 b3 b4 f1 f2  c
  rcases Int.lt_or_le 1152921504606846976 l with c | c2
  · rw [no (fun g => by have := hin g; have := hl0 g; have := hl1 g; omega)]; exact rv2 l n h t v s w b1 b2 b3 b4 f1 f2 c1 c
  rcases Int.lt_or_le h 0 with c | c3
  · rw [no (fun g => by have := hin g; have := hl0 g; have := hl1 g; omega)]; exact rv3 l n h t v s w b1 b2 b3 b4 f1 f2 c1 c2 c
  rcases Int.lt_or_le l h with c | c4
  · rw [no (fun g => by have := hin g; have := hl0 g; have := hl1 g; omega)]; exact rv4 l n h t v s w b1 b2 b3 b4 f1 f2 c1 c2 c3 c
  rcases Int.lt_or_le t 0 with c | c5
  · rw [no (fun g => by have := hin g; have := hl0 g; have := hl1 g; omega)]; exact rv5 l n h t v s w b1 b2 b3 b4 f1 f2 c1 c2 c3 c4 c
  rcases Int.lt_or_le l t with c | c6
  · rw [no (fun g => by have := hin g; have := hl0 g; have := hl1 g; omega)]; exact rv6 l n h t v s w b1 b2 b3 b4 f1 f2 c1 c2 c3 c4 c5 c
  rcases Int.lt_or_le n 0 with c | c7
  · rw [no (fun g => by have := hin g; have := hl0 g; have := hl1 g; omega)]; exact rv7 l n h t v s w b1 b2 b3 b4 f1 f2 c1 c2 c3 c4 c5 c6 c
  rcases Int.lt_or_le l n with c | c8
  · rw [no (fun g => by have := hin g; have := hl0 g; have := hl1 g; omega)]; exact rv8 l n h t v s w b1 b2 b3 b4 f1 f2 c1 c2 c3 c4 c5 c6 c7 c
  by_cases hL : Lines l n h t
  · by_cases gv : v < 2305843009213693951
    · by_cases gs : s = sc l
      · have gs' : (s == sc l) = true := by simpa using gs
        by_cases h0 : 0 < l
        · rw [gb_true ⟨c1, c2, hL, f1, gv, gs, fun e => by simp only [] at e; omega⟩]
          unfold Lines at hL
          rcases hL with ⟨e0, e1, e2⟩ | ⟨e0, e1, e2, e3⟩ | ⟨e0, e1, e2, e3⟩
          · exact rl_a3 l n h t v s w b1 b2 b3 b4 f1 f2 c1 c2 e0 e1 e2 gv gs' h0
          · exact rl_b3 l n h t v s w b1 b2 b3 b4 f1 f2 c1 c2 e1 e2 e0 e3 (by simpa using e3) gv gs' h0
          · exact rl_c3 l n h t v s w b1 b2 b3 b4 f1 f2 c1 c2 e1 e2 c4 c6 c8 e0 e3 (by have : ¬ n = 0 := by omega
                                                                                       simpa using this) (by have : ¬ n = 1 := by omega
                                                                                                             simpa using this) gv gs' h0
        · obtain rfl : l = 0 := by omega
          have HE : gb ⟨0, n, h, t, (v, s)⟩ = (v == 0) := by
            by_cases e : v = 0
            · rw [gb_true ⟨c1, c2, hL, f1, gv, gs, fun _ => e⟩, e]; rfl
            · rw [gb_false (fun g => e (g.e rfl))]
              exact (by simpa using e : (v == 0) = false).symm
          rw [HE]
          exact rl_a4 0 n h t v s w b1 b2 b3 b4 f1 f2 c1 rfl (by omega) (by omega) (by omega) gv gs'
      · have gs' : (s == sc l) = false := by simpa using gs
        rw [no (fun g => gs g.s)]
        unfold Lines at hL
        rcases hL with ⟨e0, e1, e2⟩ | ⟨e0, e1, e2, e3⟩ | ⟨e0, e1, e2, e3⟩
        · exact rl_a2 l n h t v s w b1 b2 b3 b4 f1 f2 c1 c2 e0 e1 e2 gv gs'
        · exact rl_b2 l n h t v s w b1 b2 b3 b4 f1 f2 c1 c2 e1 e2 e0 e3 (by simpa using e3) gv gs'
        · exact rl_c2 l n h t v s w b1 b2 b3 b4 f1 f2 c1 c2 e1 e2 c4 c6 c8 e0 e3 (by have : ¬ n = 0 := by omega
                                                                                     simpa using this) (by have : ¬ n = 1 := by omega
                                                                                                           simpa using this) gv gs'
    · have gv' : decide (v < 2305843009213693951) = false := by simpa using gv
      rw [no (fun g => gv g.v1)]
      unfold Lines at hL
      rcases hL with ⟨e0, e1, e2⟩ | ⟨e0, e1, e2, e3⟩ | ⟨e0, e1, e2, e3⟩
      · exact rl_a1 l n h t v s w b1 b2 b3 b4 f1 f2 c1 c2 e0 e1 e2 gv'
      · exact rl_b1 l n h t v s w b1 b2 b3 b4 f1 f2 c1 c2 e1 e2 e0 e3 (by simpa using e3) gv'
      · exact rl_c1 l n h t v s w b1 b2 b3 b4 f1 f2 c1 c2 e1 e2 c4 c6 c8 e0 e3 (by have : ¬ n = 0 := by omega
                                                                                   simpa using this) (by have : ¬ n = 1 := by omega
                                                                                                         simpa using this) gv'
  · rw [no (fun g => hL g.ln)]
    unfold Lines at hL
    by_cases e0 : n = 0
    · by_cases e1 : h = l
      · exact rv10 l n h t v s w b1 b2 b3 b4 f1 f2 c1 c2 c5 c6 e0 (by have : ¬ t = l := by omega
                                                                      simpa using this) e1
      · exact rv9 l n h t v s w b1 b2 b3 b4 f1 f2 c1 c2 c3 c4 c5 c6 e0 (by simpa using e1)
    · by_cases e1 : n = 1
      · exact rv11 l n h t v s w b1 b2 b3 b4 f1 f2 c1 c2 c3 c4 c5 c6 e1 (by omega) (by have : ¬ h + t + 1 = l := by omega
                                                                                       simpa using this)
      · exact rv12 l n h t v s w b1 b2 b3 b4 f1 f2 c1 c2 c3 c4 c5 c6 (by omega) c8 (by omega) (by simpa using e0) (by simpa using e1)
end Go.Proofs.Ytgjhlmmhpcbnaaa
