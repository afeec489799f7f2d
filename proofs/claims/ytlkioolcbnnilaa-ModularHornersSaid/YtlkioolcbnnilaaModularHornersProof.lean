/-
  For every integer and every slice of integers (nil, empty or not) the statement ModularHorners about modular.Horner holds: it returns true and the slice reads afterwards as before. No further condition.
-/
import Derived.Test.YtlkioolcbnnilaaRows
import Derived.Test.YtlkioolcbnnilaaMdH
import Derived.WalkKit
import Derived.ProofKit
import Derived.SizedLaws
import Derived.OpenShut
import Derived.ShutString
import Derived.ChangeOld
import Derived.Below
namespace Go.Proofs.Ytlkioolcbnnilaa.modularHorners
open Go.ChangeShapes Go.WideShapes Go.ChangeAt Go.RowKit
open Go.ChangeMaps (open_string shut_string)
set_option linter.unusedVariables false

theorem own : ownKnob Try.prog.godebug = none := by kernel_rfl
theorem laidOut : laidOutB Try.prog = true := by kernel_rfl

/-- WHAT THE WALK IS TOLD OF A SLICE OF INTEGERS THAT CAME IN: it is nil; or it leads to a row of 'cap' cells, the numbers 'zs' (the first 'len' are its elements, the rest its spare room), each fitting its kind. -/
def IsRow (k : IntKind) (w : World) (a : Option Addr) (len cap : Nat) (zs : List Int) : Prop :=
  (a = none ∧ len = 0 ∧ cap = 0 ∧ zs = []) ∨
  ∃ x, a = some x ∧ len ≤ cap ∧ cap ≤ maxLen ∧ zs.length = cap ∧ (∀ i, i < zs.length → w.cell? (x.add i) = some (.int k (zs.getD i 0))) ∧ ∀ n ∈ zs, (Lit.int k n).wf = true

theorem info_u64 : (Try.prog.info? 22).map (fun i => (i.zero, i.size, i.bytes)) = some (some (.int .u64 0), 1, 8) := by kernel_rfl
/-- The copy that the statement hands to Horner reads as the list. -/
theorem copy_reads (zs : List Int) (n : Nat) (w : World) (B : Nat) (v : Value) (hz : zs.length = n) (hwf : ∀ k, k < n → 0 ≤ zs.getD k 0 ∧ zs.getD k 0 < 18446744073709551616) (h : w.ownsRow B 22 1 v (0 + n) ([] ++ zs.map (Value.int .u64))) :
    ∃ A c, v = .slice A n c ∧ RdU w A n fun k => zs.getD k 0 := by
  rw [Nat.zero_add, List.nil_append] at h
  rcases h.2 with ⟨rfl, h0⟩ | ⟨g, cap, cur, rfl, _⟩
  · exact ⟨none, 0, by rw [h0], .inl h0⟩
  · refine ⟨_, cap, rfl, .inr ⟨g, 0, rfl, fun k hk => ⟨?_, hwf k hk⟩⟩⟩
    rw [← Go.WideShapes.add_plain]
    refine h.cells (g := g) rfl k _ ?_
    rw [List.getElem?_map, List.getElem?_eq_getElem (by omega)]
    simp [List.getD, show k < zs.length by omega]
def Fin (w : World) (e : Ending) (w' : World) : Prop := e = .returned (.bool true) ∧ Below w.heap.size w w'
theorem below_drewN (w : World) (m : Nat) : Below w.heap.size w (w.drewN m) := ⟨rfl, rfl, rfl, Nat.le_refl _, fun _ _ => rfl⟩
set_option maxHeartbeats 1000000 in
theorem walk_nil (x : Int) (h0 : 0 ≤ x) (h1 : x < 18446744073709551616) (w : World) : Calls Try.prog 10 #[.int .u64 x, .slice none 0 0] w (Fin w) := by
  have hb : Below w.heap.size w (w.alloc (.cells #[] 22)) := (Below.refl _ _).alloc (Nat.le_refl _) _
  have HB := Lib.hid hb
  have H1 := Lib.hid (fun A c w => md_horner x A 0 c (fun _ => 0) w h0 h1 (by omega) (.inl rfl))
  have H2 := Lib.hid (fun A c w => md_rhorner x A 0 c (fun _ => 0) w h0 h1 (by omega) (.inl rfl))
  clear hb
  go_enter Try.func10, Try.ntmps10
  go_wp2_with (first | (go_at_call 13; with_reducible refine (md_awake _).mono ?_; rintro e w' ⟨rfl, rfl⟩) | (go_at_call 26; with_reducible refine (H1.out _ _ _).mono ?_; rintro e w' ⟨rfl, rfl⟩) | (go_at_call 27; with_reducible refine (H2.out _ _ _).mono ?_; rintro e w' ⟨rfl, m, hw'⟩; have HM := Lib.hid hw'; clear hw'))
  go_ret
  exact ⟨rfl, by rw [HM.out]; exact HB.out.trans ((below_drewN _ _).mono HB.out.size)⟩
set_option maxHeartbeats 1000000 in
theorem walk_some (x : Int) (h0 : 0 ≤ x) (h1 : x < 18446744073709551616) (a : Addr) (n c : Nat) (zs : List Int) (w : World) (hz : zs.length = n) (hr : n * 8 ≤ 140737488351232)
    (hcell : ∀ j, j < n → w.cell? (a.add j) = some (.int .u64 (zs.getD j 0))) (hwf : ∀ k, k < n → 0 ≤ zs.getD k 0 ∧ zs.getD k 0 < 18446744073709551616) :
    Calls Try.prog 10 #[.int .u64 x, .slice (some a) n c] w (Fin w) := by
  obtain ⟨i0, hi, hz0, hz1, hz2⟩ := info_parts info_u64
  have hown : (w.alloc (.cells #[] 22)).ownsRow w.heap.size 22 1 (.slice (some ⟨w.heap.size, 0, none⟩) 0 0) 0 [] := World.ownsRow_made w #[] 0 (Nat.le_refl _) (by unfold maxLen; omega) rfl
  have hb0 : Below w.heap.size w (w.alloc (.cells #[] 22)) := (Below.refl _ _).alloc (Nat.le_refl _) _
  have hcell1 : ∀ j, j < n → (w.alloc (.cells #[] 22)).cell? (a.add j) = some (.int .u64 (zs.getD j 0)) := fun j hj => cell_later hb0 (hcell j hj)
  have hnews : ∀ j u, (zs.map (Value.int .u64))[j]? = some u → (w.alloc (.cells #[] 22)).cell? (a.add j) = some u := by
    intro j u hu
    rw [List.getElem?_map] at hu
    obtain ⟨y, hy, rfl⟩ := Option.map_eq_some_iff.1 hu
    have hj : j < zs.length := (List.getElem?_eq_some_iff.1 hy).1
    rw [hcell1 j (by omega)]
    simp [List.getD, hy]
  have HC := Lib.hid hcell
  have HO := Lib.hid hown
  have HN := Lib.hid hnews
  have HB := Lib.hid hb0
  have HZ := Lib.hid hz
  have HW := Lib.hid hwf
  have HX := Lib.hid (And.intro h0 h1)
  clear hcell hcell1 hnews hown hb0 hz hwf h0 h1
  go_enter Try.func10, Try.ntmps10
  go_wp2_with (first | (at_builtin; refine BigFrame.wpList_want (by rfl) fun K2 hK2 => wp_append_own _ (.tmp 8) (.tmp 9) 37 rfl w.heap.size 22 i0 (.int .u64 0) 1 8 Try.underlying37 hi hz0 hz1 hz2 rfl (by decide) _ 0 [] rfl HO.out a n c (zs.map (Value.int .u64)) rfl (by simp [HZ.out]) HN.out (ints_oneCell _ _) (by unfold maxLen; omega) (by omega) (by simp) (fun v' w1 hown' hgrow _ => hK2 _ _ ?_); clear hK2 K2; have HO1 := Lib.hid hown'; have HG := Lib.hid hgrow; clear hown' hgrow) | (go_at_call 13; with_reducible refine (md_awake _).mono ?_; rintro e w' ⟨rfl, rfl⟩))
  obtain ⟨A, c', hv, hr'⟩ := copy_reads zs n w1 w.heap.size v' HZ.out HW.out HO1.out
  subst hv
  have hb1 : Below w.heap.size w w1 := HB.out.grown HG.out (by simp) (fun k hk => by
    injection hk with hk; subst hk; exact Nat.le_refl _)
  have hin : RdU w1 (some a) n fun k => zs.getD k 0 := by
    rcases Nat.eq_zero_or_pos n with e | hpos
    · exact .inl e
    · obtain ⟨b, off, spot⟩ := a
      have hspot : spot = none := by simpa [Addr.add] using World.cell?_spot (HC.out 0 hpos)
      subst hspot
      exact .inr ⟨b, off, rfl, fun k hk => ⟨by rw [← Go.WideShapes.add_plain]; exact cell_later hb1 (HC.out k hk), HW.out k hk⟩⟩
  have H1 := Lib.hid (md_horner x A n c' _ w1 HX.out.1 HX.out.2 (by omega) hr')
  have H2 := Lib.hid (md_rhorner x (some a) n c _ w1 HX.out.1 HX.out.2 (by omega) hin)
  have HB1 := Lib.hid hb1
  clear hb1 hr' hin HO1 HG HB HN HO HC HZ HW HX hi hz0 hz1 hz2
  refine H1.out.mono ?_
  rintro e w' ⟨rfl, rfl⟩
  go_wp2_with (first | (go_at_call 27; with_reducible refine H2.out.mono ?_; rintro e w' ⟨rfl, m, hw'⟩; have HM := Lib.hid hw'; clear hw'))
  go_ret
  exact ⟨rfl, by rw [HM.out]; exact HB1.out.trans ((below_drewN _ _).mono HB1.out.size)⟩
theorem getD_take (z : List Int) (n k : Nat) (h : k < n) : (z.take n).getD k 0 = z.getD k 0 := by
  simp [h]
theorem getD_wf (z : List Int) (h : ∀ n ∈ z, (Lit.int .u64 n).wf = true) (k : Nat) (hk : k < z.length) : 0 ≤ z.getD k 0 ∧ z.getD k 0 < 18446744073709551616 := by
  have h1 : z.getD k 0 = z[k] := by simp [List.getD, hk]
  have h2 := bounds_u64 (h z[k] (List.getElem_mem hk))
  rw [h1]; constructor <;> omega
set_option maxHeartbeats 1000000 in
/-! ### STEP 1: THE WALK: the Go text returns true, AND WRITES NOTHING THAT WAS THERE: 'Below w.heap.size w w'' (Derived/Below.lean: '.refl', '.alloc', '.drew', '.setCell' at a new block, '.trans'). Open each 'IsRow' by 'rcases' AHEAD of 'go_enter'; part every test ahead of the walk. -/
theorem walk (a0 : Int) (a1 : Option Addr) (len1 cap1 : Nat) (z1 : List Int) (w : World) (w0 : (Lit.int .u64 a0).wf = true) (w1 : IsRow .u64 w a1 len1 cap1 z1) (c1 : cap1 * 8 ≤ 140737488351232) :
    Calls Try.prog 10 #[.int .u64 a0, .slice a1 len1 cap1] w fun e w' => e = .returned (.bool true) ∧ Below w.heap.size w w' := by
  have hb := bounds_u64 w0
  rcases w1 with ⟨rfl, rfl, rfl, rfl⟩ | ⟨x, rfl, hlc, hm, hz, hcell, hwf⟩
  · exact walk_nil a0 (by omega) (by omega) w
  · exact walk_some a0 (by omega) (by omega) x len1 cap1 (z1.take len1) w (by simp; omega) (by omega) (fun j hj => by rw [getD_take _ _ _ hj]; exact hcell j (by omega)) (fun k hk => by rw [getD_take _ _ _ hk]; exact getD_wf z1 hwf k (by omega))

/-! ### THE ROW's STEP: WRITTEN OUT: LEAVE IT -/
set_option maxRecDepth 100000 in
theorem lifted (os : Os) (started : os.Started) (H : Type) (enc : TypeId × Value → H) :
    ReturnsInHanded {} Try.checked os 10 .any (Rows.modularHornersSpec.pre6 enc Try.prog Try.f10 Rows.modularHornersRow.domain false) (Rows.modularHornersSpec.post enc Try.prog Try.f10 false true false false) := by
  refine returnsInHanded_of_change_sized (C := Try.checked) own started (by kernel_rfl) Try.func10
    (ChangeSpec.witness6 (enc := enc) (C := Try.checked) false ⟨#[], #[.int .u64 0, .slice none 0 0], []⟩ 8 (by kernel_rfl) (by kernel_rfl) (by kernel_rfl) (by kernel_rfl)) ?_
  intro W base args ds gs before hval0 hW hcnd hsz0 _
  have hsz : (DataW.weightsEach Try.prog (Try.f10.params.toList ++ Rows.modularHornersSpec.plain.varTypes Try.prog) (ds ++ gs)).all (fun x => decide (x ≤ reachBytes)) = true := hsz0
  have hval : ∀ (j : Nat) t v, Try.f10.params[j]? = some t → args[j]? = some v → Value.okWide Try.prog W .any base t v := hval0
  have hW' := hW
  obtain ⟨p, q, hA0, hV, rfl, hfz, hnd⟩ := hW
  have hA : DataW.TrodAll enc Try.prog W 0 (fun _ => true) true Try.f10.params.toList args.toList ds p := hA0
  rw [Try.params10] at hA hval hsz
  obtain ⟨v0, vs0, d0, ds0, p0, q0, hargs, rfl, rfl, h0, r0⟩ := trodAll_cons hA
  obtain ⟨v1, vs1, d1, ds1, p1, q1, rfl, rfl, rfl, h1, r1⟩ := trodAll_cons r0
  obtain ⟨rfl, rfl, rfl⟩ := trodAll_nil r1
  obtain rfl : args = #[v0, v1] := by cases args; simp_all
  obtain ⟨rfl, rfl⟩ := trodVars_none hV
  obtain ⟨a0, rfl, rfl, rfl, w0⟩ := open_int Try.underlying22 (hval 0 22 v0 rfl rfl) h0
  obtain ⟨a1, len1, cap1, rfl⟩ := okWide_slice Try.underlying37 (hval 1 37 v1 rfl rfl)
  have k1 := h1
  have lt1 : ∀ x ∈ p1, x.block < W.heap.size := by obtain ⟨m, hm⟩ := k1; exact DataW.trod_lt m _ _ _ hm
  obtain ⟨z1, w1, c1⟩ : ∃ zs, IsRow .u64 W a1 len1 cap1 zs ∧ cap1 * 8 ≤ 140737488351232 := by
    obtain ⟨fuel, hf⟩ := h1
    rcases open_ints Try.underlying37 Try.underlying22 (by kernel_rfl) hf with ⟨hcs, _⟩ | ⟨x, l, c, zs, hcs, _, hl, hm, hz, hx, hcell, hwz⟩
    · simp [Value.cells] at hcs
      obtain ⟨rfl, rfl, rfl⟩ := hcs
      exact ⟨[], .inl ⟨rfl, rfl, rfl, rfl⟩, by omega⟩
    · simp [Value.cells] at hcs
      obtain ⟨rfl, rfl, rfl⟩ := hcs
      have hlen : zs.length = cap1 := by simpa using hz
      have hr := sized_slice hsz (j := 1) (t := 37) (e := 22) (elems := lits .u64 (zs.take len1)) (spare := lits .u64 (zs.drop len1)) rfl (congrArg some (congrArg Prod.fst hx)) Try.underlying37
      rw [show Try.prog.bytesOf 22 = 8 by kernel_rfl] at hr
      simp only [lits, List.length_map, List.length_take, List.length_drop, reachBytes] at hr
      exact ⟨zs, .inr ⟨_, rfl, hl, hm, hlen, hcell, hwz⟩, by omega⟩
  clear hA0 hval0
  refine (walk a0 a1 len1 cap1 z1 W w0 w1 c1).mono fun e W' ⟨he, bel⟩ => ?_
  subst he
  exact ⟨_, rfl, _, _, _, [], _, [], hW', trodAll_mk1 (shut_bool Try.underlying4 _), (trodAll_cons_mk (shut_int Try.underlying22 w0) (trodAll_cons_mk (Below.trod laidOut (by kernel_rfl) (of_decide_eq_true (by kernel_rfl)) k1 bel lt1) trodAll_mk0)), rfl, bel.frame _, fun h => by cases h⟩

theorem over : Rows.modularHornersRow.holds Try.pinned (OpenSpec.ofChange Rows.modularHornersSpec) :=
  OpenClaim.holds_of_wide 10 Try.f10 rfl rfl rfl rfl rfl rfl rfl ⟨rfl, rfl, rfl, rfl, rfl⟩ rfl rfl rfl rfl rfl (by kernel_rfl) Try.func10 (by kernel_rfl)
    (of_decide_eq_true (by kernel_rfl)) (by unfold Func.isWrapper; first | (rw [if_pos (by decide +kernel)]; kernel_rfl) | (rw [if_neg (by decide +kernel)]; exact ⟨rfl, rfl⟩))
    (fun os started H enc _ => lifted os started H enc)

/-- ████ THE STATEMENT ████ -/
theorem proved : Rows.ModularHornersSaid := over
#print axioms proved
end Go.Proofs.Ytlkioolcbnnilaa.modularHorners
