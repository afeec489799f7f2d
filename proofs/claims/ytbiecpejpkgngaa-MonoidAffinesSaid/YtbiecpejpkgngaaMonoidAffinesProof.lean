/-
  For every slice of affine functions (nil, empty or not), every three affine functions and every 64-bit word the statement MonoidAffines about package monoid holds: it returns true and the slice reads afterwards as before. No further condition.
-/
import Derived.Test.YtbiecpejpkgngaaRows
import Derived.Test.YtbiecpejpkgngaaMoAffines
import Derived.Test.YtbiecpejpkgngaaFr
import Derived.WalkKit
import Derived.ProofKit
import Derived.OpenShut
import Derived.ShutString
import Derived.ChangeOld
import Derived.Below
namespace Go.Proofs.Ytbiecpejpkgngaa.monoidAffines
open Go.ChangeShapes Go.WideShapes Go.ChangeAt Go.RowKit Go.Deep
open Go.ChangeMaps (open_string shut_string)
set_option linter.unusedVariables false

theorem own : ownKnob Try.prog.godebug = none := by kernel_rfl
theorem laidOut : laidOutB Try.prog = true := by kernel_rfl

set_option maxRecDepth 100000 in
theorem lifted (os : Os) (started : os.Started) (H : Type) (enc : TypeId × Value → H) :
    ReturnsInHanded {} Try.checked os 4 .any (Rows.monoidAffinesSpec.pre6 enc Try.prog Try.f4 Rows.monoidAffinesRow.domain false) (Rows.monoidAffinesSpec.post enc Try.prog Try.f4 false true false false) := by
  refine returnsInHanded_of_change (C := Try.checked) own started (by kernel_rfl) Try.func4
    (ChangeSpec.witness6 (enc := enc) (C := Try.checked) false ⟨#[], #[.slice none 0 0, .agg #[.int .u64 0, .int .u64 0], .agg #[.int .u64 0, .int .u64 0], .agg #[.int .u64 0, .int .u64 0], .int .u64 0], []⟩ 8 (by kernel_rfl) (by kernel_rfl) (by kernel_rfl) (by kernel_rfl)) ?_
  intro W base args ds gs before hval0 hW hcnd _
  have hval : ∀ (j : Nat) t v, Try.f4.params[j]? = some t → args[j]? = some v → Value.okWide Try.prog W .any base t v := hval0
  have hW' := hW
  obtain ⟨p, q, hA0, hV, rfl, hfz, hnd⟩ := hW
  have hA : DataW.TrodAll enc Try.prog W 0 (fun _ => true) true Try.f4.params.toList args.toList ds p := hA0
  rw [Try.params4] at hA hval
  obtain ⟨v0, vs0, d0, ds0, p0, q0, hargs, rfl, rfl, h0, r0⟩ := trodAll_cons hA
  obtain ⟨v1, vs1, d1, ds1, p1, q1, rfl, rfl, rfl, h1, r1⟩ := trodAll_cons r0
  obtain ⟨v2, vs2, d2, ds2, p2, q2, rfl, rfl, rfl, h2, r2⟩ := trodAll_cons r1
  obtain ⟨v3, vs3, d3, ds3, p3, q3, rfl, rfl, rfl, h3, r3⟩ := trodAll_cons r2
  obtain ⟨v4, vs4, d4, ds4, p4, q4, rfl, rfl, rfl, h4, r4⟩ := trodAll_cons r3
  obtain ⟨rfl, rfl, rfl⟩ := trodAll_nil r4
  obtain rfl : args = #[v0, v1, v2, v3, v4] := by cases args; simp_all
  obtain ⟨rfl, rfl⟩ := trodVars_none hV
  have k0 := h0
  have lt0 : ∀ x ∈ p0, x.block < W.heap.size := by obtain ⟨m, hm⟩ := k0; exact DataW.trod_lt m _ _ _ hm
  obtain ⟨A0, len0, cap0, rfl⟩ := okWide_slice Try.underlying37 (hval 0 37 v0 rfl rfl)
  obtain ⟨z0, y0, hr0, hl0, hm0⟩ : ∃ z y : Nat → Int, Rd2 W.heap.size W A0 len0 (fun k => .int .u64 (z k)) (fun k => .int .u64 (y k)) ∧ len0 ≤ cap0 ∧ cap0 ≤ maxLen := by
    obtain ⟨fuel, hf⟩ := h0
    rcases open_slice_pairs Try.underlying37 Try.underlying40 (by kernel_rfl) rfl rfl (by kernel_rfl) (by kernel_rfl) hf with ⟨hcs, _⟩ | ⟨x, l, c, m, nn, V0, V1, D0, D1, P0, P1, hcs, _, hl, hm, hmm, _, hcell⟩
    · simp [Value.cells] at hcs
      obtain ⟨rfl, rfl, rfl⟩ := hcs
      exact ⟨fun _ => 0, fun _ => 0, .inl rfl, Nat.le_refl _, Nat.zero_le _⟩
    · simp [Value.cells] at hcs
      obtain ⟨rfl, rfl, rfl⟩ := hcs
      have hlm : len0 ≤ m := by rw [hmm]; split <;> omega
      have e0 : ∀ i, i < m → V0 i = .int .u64 (intOf (V0 i)) := fun i hi => by
        obtain ⟨s, h1, _⟩ := DataW.trod_int Try.underlying38 (hcell i hi).2.2.1
        simp at h1; rw [h1]; rfl
      have e1 : ∀ i, i < m → V1 i = .int .u64 (intOf (V1 i)) := fun i hi => by
        obtain ⟨s, h1, _⟩ := DataW.trod_int Try.underlying38 (hcell i hi).2.2.2
        simp at h1; rw [h1]; rfl
      exact ⟨fun i => intOf (V0 i), fun i => intOf (V1 i), rd2_cells fun j hj => ⟨by rw [(hcell j (by omega)).1]; exact congrArg some (e0 j (by omega)), by rw [(hcell j (by omega)).2.1]; exact congrArg some (e1 j (by omega))⟩, hl, hm⟩
  have k1 := h1
  have lt1 : ∀ x ∈ p1, x.block < W.heap.size := by obtain ⟨m, hm⟩ := k1; exact DataW.trod_lt m _ _ _ hm
  obtain ⟨f1, g1, rfl, wf1, wg1⟩ : ∃ f g : Int, v1 = .agg #[.int .u64 f, .int .u64 g] ∧ (Lit.int .u64 f).wf = true ∧ (Lit.int .u64 g).wf = true := by
    obtain ⟨u0, u1, y0, y1, nn, hv, _, _, t0, t1⟩ := Go.Joins.open_agg2 Try.underlying40 (by kernel_rfl) (by kernel_rfl) (hval 1 40 v1 rfl rfl) h1
    obtain ⟨s0, e0, _, x0⟩ := DataW.trod_int Try.underlying38 t0
    obtain ⟨s1, e1, _, x1⟩ := DataW.trod_int Try.underlying38 t1
    simp at e0 e1
    exact ⟨s0, s1, by rw [hv, e0, e1], x0, x1⟩
  have k2 := h2
  have lt2 : ∀ x ∈ p2, x.block < W.heap.size := by obtain ⟨m, hm⟩ := k2; exact DataW.trod_lt m _ _ _ hm
  obtain ⟨f2, g2, rfl, wf2, wg2⟩ : ∃ f g : Int, v2 = .agg #[.int .u64 f, .int .u64 g] ∧ (Lit.int .u64 f).wf = true ∧ (Lit.int .u64 g).wf = true := by
    obtain ⟨u0, u1, y0, y1, nn, hv, _, _, t0, t1⟩ := Go.Joins.open_agg2 Try.underlying40 (by kernel_rfl) (by kernel_rfl) (hval 2 40 v2 rfl rfl) h2
    obtain ⟨s0, e0, _, x0⟩ := DataW.trod_int Try.underlying38 t0
    obtain ⟨s1, e1, _, x1⟩ := DataW.trod_int Try.underlying38 t1
    simp at e0 e1
    exact ⟨s0, s1, by rw [hv, e0, e1], x0, x1⟩
  have k3 := h3
  have lt3 : ∀ x ∈ p3, x.block < W.heap.size := by obtain ⟨m, hm⟩ := k3; exact DataW.trod_lt m _ _ _ hm
  obtain ⟨f3, g3, rfl, wf3, wg3⟩ : ∃ f g : Int, v3 = .agg #[.int .u64 f, .int .u64 g] ∧ (Lit.int .u64 f).wf = true ∧ (Lit.int .u64 g).wf = true := by
    obtain ⟨u0, u1, y0, y1, nn, hv, _, _, t0, t1⟩ := Go.Joins.open_agg2 Try.underlying40 (by kernel_rfl) (by kernel_rfl) (hval 3 40 v3 rfl rfl) h3
    obtain ⟨s0, e0, _, x0⟩ := DataW.trod_int Try.underlying38 t0
    obtain ⟨s1, e1, _, x1⟩ := DataW.trod_int Try.underlying38 t1
    simp at e0 e1
    exact ⟨s0, s1, by rw [hv, e0, e1], x0, x1⟩
  have k4 := h4
  have lt4 : ∀ x ∈ p4, x.block < W.heap.size := by obtain ⟨m, hm⟩ := k4; exact DataW.trod_lt m _ _ _ hm
  obtain ⟨a4, rfl, rfl, rfl, w4⟩ := open_int Try.underlying38 (hval 4 38 v4 rfl rfl) h4
  clear hA0 hval0
  refine (affines_walk A0 len0 cap0 z0 y0 (f1, g1) (f2, g2) (f3, g3) a4 W (by unfold maxLen at hm0; omega) hr0 (inR_wf wf1 wg1) (inR_wf wf2 wg2) (inR_wf wf3 wg3) (by have h := bounds_u64 w4; rw [U_mod]; omega)).mono fun e W' ⟨he, bel⟩ => ?_
  subst he
  exact ⟨_, rfl, _, _, _, [], _, [], hW', trodAll_mk1 (shut_bool Try.underlying4 _), (trodAll_cons_mk (Below.trod laidOut (by kernel_rfl) (of_decide_eq_true (by kernel_rfl)) k0 bel lt0) (trodAll_cons_mk (Below.trod laidOut (by kernel_rfl) (of_decide_eq_true (by kernel_rfl)) k1 bel lt1) (trodAll_cons_mk (Below.trod laidOut (by kernel_rfl) (of_decide_eq_true (by kernel_rfl)) k2 bel lt2) (trodAll_cons_mk (Below.trod laidOut (by kernel_rfl) (of_decide_eq_true (by kernel_rfl)) k3 bel lt3) (trodAll_cons_mk (Below.trod laidOut (by kernel_rfl) (of_decide_eq_true (by kernel_rfl)) k4 bel lt4) trodAll_mk0))))), rfl, bel.frame _, fun h => by cases h⟩

theorem over : Rows.monoidAffinesRow.holds Try.pinned (OpenSpec.ofChange Rows.monoidAffinesSpec) :=
  OpenClaim.holds_of_wide 4 Try.f4 rfl rfl rfl rfl rfl rfl rfl ⟨rfl, rfl, rfl, rfl, rfl⟩ rfl rfl rfl rfl rfl (by kernel_rfl) Try.func4 (by kernel_rfl)
    (of_decide_eq_true (by kernel_rfl)) (by unfold Func.isWrapper; first | (rw [if_pos (by decide +kernel)]; kernel_rfl) | (rw [if_neg (by decide +kernel)]; exact ⟨rfl, rfl⟩))
    (fun os started H enc _ => lifted os started H enc)

theorem proved : Rows.MonoidAffinesSaid := over
#print axioms proved
end Go.Proofs.Ytbiecpejpkgngaa.monoidAffines
