/-
  A slice of slices of integers that came in.
-/
import Derived.Test.YtbiecpejpkgngaaMoMapD
import Derived.Test.YtbiecpejpkgngaaFr
import Derived.Deep.Matrix
namespace Go.Proofs.Ytbiecpejpkgngaa
open Go.RowKit Go.ChangeShapes Go.WideShapes Go.Deep
theorem weightsAll_mem {H : Type} {P : Program} {e : TypeId} {d : DataW H} {n : Nat} (hn : n ∈ d.weights P e) : ∀ {l : List (DataW H)}, d ∈ l → n ∈ DataW.weightsAll P e l
  | x :: l, h => by
    simp only [DataW.weightsAll, List.mem_append]
    rcases List.mem_cons.1 h with rfl | h
    · exact .inl hn
    · exact .inr (weightsAll_mem hn h)
theorem open_lists {H : Type} {enc : TypeId × Value → H} {P : Program} {w : World} {base : Nat} {held : Bool} {t e q : TypeId} {fuel : Nat} {cs : List Value} {d : DataW H} {ps : List MemPlace} {A0 : Option Addr} {len0 cap0 : Nat}
    (ht : P.underlying t = some (.slice e)) (he : P.underlying e = some (.slice q)) (hq : P.underlying q = some (.int .i64)) (ce : P.cellsOf e = 1) (cq : P.cellsOf q = 1) (b8 : P.bytesOf q = 8) (b24 : P.bytesOf e = 24)
    (h : DataW.trod enc P w base (fun _ => true) held fuel t cs = some (d, ps)) (hcs : cs = [.slice A0 len0 cap0]) (hw : ∀ n, n ∈ d.weights P t → n ≤ reachBytes) :
    ∃ (S : Nat → Option Addr × Nat × Nat) (Z : Nat → Nat → Int), Lists w A0 len0 S Z ∧ (∀ i, i < len0 → (S i).2.1 * 8 ≤ 140737488355328) ∧ len0 ≤ 140737488355328 := by
  rcases open_int_rows ht he hq ce cq h with ⟨h0, _⟩ | ⟨a, len, cap, A, L, C, Z, h0, hb, hl, hm, hx, hr⟩
  · rw [hcs] at h0
    injection h0 with h0 _
    injection h0 with h1 h2 h3
    subst h2
    exact ⟨fun _ => (none, 0, 0), fun _ _ => 0, ⟨.inl rfl, fun i hi => absurd hi (Nat.not_lt_zero _)⟩, fun i hi => absurd hi (Nat.not_lt_zero _), Nat.zero_le _⟩
  · rw [hcs] at h0
    injection h0 with h0 _
    injection h0 with h1 h2 h3
    subst h1; subst h2; subst h3
    have hd : d = _ := congrArg Prod.fst hx
    have h24 : cap0 * 24 ≤ reachBytes := by
      have := hw (cap0 * 24) (by
        rw [hd]
        simp only [DataW.weights, ht, List.mem_cons]
        left
        rw [b24]; simp; omega)
      exact this
    have h8 : ∀ i, i < len0 → (Z i).length * 8 ≤ reachBytes ∨ L i = 0 := fun i hi => by
      obtain ⟨_, hLC, hCm, hzl, _, hn0, hsome⟩ := hr i (by omega)
      rcases hA : A i with _ | a'
      · have := hn0 hA; right; omega
      · left
        have hmem : (intRow .i64 (A i) (L i) (Z i) : DataW H) ∈ (List.range len0).map fun r => intRow .i64 (A r) (L r) (Z r) := List.mem_map.2 ⟨i, List.mem_range.2 hi, rfl⟩
        have hwt : (Z i).length * 8 ∈ (intRow .i64 (A i) (L i) (Z i) : DataW H).weights P e := by
          rw [hA]
          simp only [intRow, DataW.weights, he, List.mem_cons]
          left
          rw [b8]; simp only [lits, List.length_map, List.length_take, List.length_drop]; omega
        exact hw ((Z i).length * 8) (by
          rw [hd]
          simp only [DataW.weights, ht, List.mem_cons, List.mem_append]
          exact .inr (.inl (weightsAll_mem hwt hmem)))
    unfold reachBytes at h24 h8
    refine ⟨fun r => (A r, L r, C r), fun r k => (Z r).getD k 0, ⟨rd_cells fun i hi => (hr i (by omega)).1, fun i hi => ?_⟩, fun i hi => ?_, by omega⟩
    · obtain ⟨_, hLC, hCm, hzl, _, hn0, hsome⟩ := hr i (by omega)
      have := h8 i hi
      refine ⟨by show L i ≤ _; omega, ?_⟩
      show Rd w.heap.size w (A i) (L i) _
      rcases hA : A i with _ | a'
      · exact .inl (by have := hn0 hA; omega)
      · exact rd_cells fun c hc => (hsome a' hA).2 c (by omega)
    · obtain ⟨_, hLC, hCm, hzl, _, hn0, hsome⟩ := hr i (by omega)
      have := h8 i hi
      show L i * 8 ≤ _
      omega
end Go.Proofs.Ytbiecpejpkgngaa
