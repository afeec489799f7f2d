/-
  For every slice of integers (nil, empty or not) the statement LengthSums about length.Sum holds: it returns true and the slice reads afterwards as before. No further condition.
-/
import Derived.Test.YtfifecdcdhggdaaRows
import Derived.Test.YtfifecdcdhggdaaLenSum
import Derived.WalkKit
import Derived.ProofKit
import Derived.SizedLaws
import Derived.OpenShut
import Derived.ShutString
import Derived.ChangeOld
import Derived.Below
namespace Go.Proofs.Ytfifecdcdhggdaa.lengthSums
open Go.ChangeShapes Go.WideShapes Go.ChangeAt Go.RowKit
open Go.ChangeMaps (open_string shut_string)
set_option linter.unusedVariables false

theorem own : ownKnob Try.prog.godebug = none := by kernel_rfl
theorem laidOut : laidOutB Try.prog = true := by kernel_rfl

/-- WHAT THE WALK IS TOLD OF A SLICE OF INTEGERS THAT CAME IN: it is nil; or it leads to a row of 'cap' cells, the numbers 'zs' (the first 'len' are its elements, the rest its spare room), each fitting its kind. -/
def IsRow (k : IntKind) (w : World) (a : Option Addr) (len cap : Nat) (zs : List Int) : Prop :=
  (a = none ∧ len = 0 ∧ cap = 0 ∧ zs = []) ∨
  ∃ x, a = some x ∧ len ≤ cap ∧ cap ≤ maxLen ∧ zs.length = cap ∧ (∀ i, i < zs.length → w.cell? (x.add i) = some (.int k (zs.getD i 0))) ∧ ∀ n ∈ zs, (Lit.int k n).wf = true

theorem info_int : (Try.prog.info? 3).map (fun i => (i.zero, i.size, i.bytes)) = some (some (.int .i64 0), 1, 8) := by kernel_rfl
theorem getD_take (z : List Int) (n k : Nat) (h : k < n) : (z.take n).getD k 0 = z.getD k 0 := by
  simp [h]
theorem sum_zero' (A : Option Addr) (c : Nat) (w : World) : Calls Try.prog 20 #[.slice A 0 c] w fun e w' => e = .returned (.tuple #[.int .i64 0, .nilIface]) ∧ w = w' := sum_zero A c w
theorem refsum_zero' (A : Option Addr) (c : Nat) (w : World) : Calls Try.prog 21 #[.slice A 0 c] w fun e w' => e = .returned (.tuple #[.int .i64 0, .int .i64 0]) ∧ w = w' := refsum_zero A c w
/-- What both sums return for the list zs, whatever slice holds it in the world w. -/
theorem sum_of (zs : List Int) (p q : Int) (hp : sumP 0 zs = (p, q)) (A : Option Addr) (n c : Nat) (w : World) (hn : n ≤ 140737488355328) (hz : zs.length = n)
    (hA : 0 < n → ∃ ad, A = some ad ∧ ∀ k, k < n → w.cell? (ad.add k) = some (.int .i64 (zs.getD k 0))) :
    Calls Try.prog 20 #[.slice A n c] w (fun e w' => e = .returned (.tuple #[.int .i64 p, errv q]) ∧ w = w') ∧
    Calls Try.prog 21 #[.slice A n c] w (fun e w' => e = .returned (.tuple #[.int .i64 p, .int .i64 q]) ∧ w = w') := by
  rcases Nat.eq_zero_or_pos n with rfl | h0
  · obtain rfl : zs = [] := List.eq_nil_of_length_eq_zero hz
    injection hp with h1 h2
    subst h1; subst h2
    exact ⟨sum_zero A c w, refsum_zero A c w⟩
  · obtain ⟨ad, rfl, hc⟩ := hA h0
    obtain ⟨b, off, rfl, hc'⟩ := ints_at (zs := zs) (fun i hi => hc i (by omega)) (by omega)
    have h1 := sum_some b off n c zs w hn hz (fun k hk => hc' k (by omega))
    have h2 := refsum_some b off n c zs w hn hz (fun k hk => hc' k (by omega))
    rw [hp] at h1 h2
    exact ⟨h1, h2⟩
/-- The copy that the statement hands to Sum reads as the list. -/
theorem copy_reads (zs : List Int) (n : Nat) (w : World) (B : Nat) (v : Value) (hz : zs.length = n) (h : w.ownsRow B 3 1 v (0 + n) ([] ++ zs.map (Value.int .i64))) :
    ∃ A c, v = .slice A n c ∧ (0 < n → ∃ ad, A = some ad ∧ ∀ k, k < n → w.cell? (ad.add k) = some (.int .i64 (zs.getD k 0))) := by
  rw [Nat.zero_add, List.nil_append] at h
  rcases h.2 with ⟨rfl, h0⟩ | ⟨g, cap, cur, rfl, _⟩
  · exact ⟨none, 0, by rw [h0], fun h => absurd h (by omega)⟩
  · refine ⟨_, cap, rfl, fun _ => ⟨_, rfl, fun k hk => h.cells (g := g) rfl k _ ?_⟩⟩
    rw [List.getElem?_map, List.getElem?_eq_getElem (by omega)]
    simp [List.getD, show k < zs.length by omega]
/-- Behind both sums the statement is true, whatever the sums are. -/
def Fin (w : World) (e : Ending) (w' : World) : Prop := e = .returned (.bool true) ∧ Below w.heap.size w w'
set_option maxHeartbeats 1000000 in
theorem walk_nil (w : World) : Calls Try.prog 6 #[.slice none 0 0] w (Fin w) := by
  have hb : Below w.heap.size w (w.alloc (.cells #[] 3)) := (Below.refl _ _).alloc (Nat.le_refl _) _
  have HB := Lib.hid hb
  clear hb
  go_enter Try.func6, Try.ntmps6
  go_wp2_with (first | (go_at_call 20; with_reducible refine (sum_zero' _ _ _).mono ?_; rintro e w' ⟨rfl, rfl⟩) | (go_at_call 21; with_reducible refine (refsum_zero' _ _ _).mono ?_; rintro e w' ⟨rfl, rfl⟩) | (go_at_call 14; with_reducible refine (awake_true _).mono ?_; rintro e w' ⟨rfl, rfl⟩) | (go_at_call 15; with_reducible refine (num_nil _).mono ?_; rintro e w' ⟨rfl, rfl⟩))
  go_ret
  exact ⟨rfl, HB.out⟩
set_option maxHeartbeats 1000000 in
theorem walk_some (x : Addr) (n c : Nat) (zs : List Int) (w : World) (hz : zs.length = n) (hr : n * 8 ≤ 140737488351232)
    (hcell : ∀ j, j < n → w.cell? (x.add j) = some (.int .i64 (zs.getD j 0))) :
    Calls Try.prog 6 #[.slice (some x) n c] w (Fin w) := by
  obtain ⟨i0, hi, hz0, hz1, hz2⟩ := info_parts info_int
  have hown : (w.alloc (.cells #[] 3)).ownsRow w.heap.size 3 1 (.slice (some ⟨w.heap.size, 0, none⟩) 0 0) 0 [] := World.ownsRow_made w #[] 0 (Nat.le_refl _) (by unfold maxLen; omega) rfl
  have hb0 : Below w.heap.size w (w.alloc (.cells #[] 3)) := (Below.refl _ _).alloc (Nat.le_refl _) _
  have hcell1 : ∀ j, j < n → (w.alloc (.cells #[] 3)).cell? (x.add j) = some (.int .i64 (zs.getD j 0)) := fun j hj => cell_later hb0 (hcell j hj)
  have hnews : ∀ j u, (zs.map (Value.int .i64))[j]? = some u → (w.alloc (.cells #[] 3)).cell? (x.add j) = some u := by
    intro j u hu
    rw [List.getElem?_map] at hu
    obtain ⟨y, hy, rfl⟩ := Option.map_eq_some_iff.1 hu
    have hj : j < zs.length := (List.getElem?_eq_some_iff.1 hy).1
    rw [hcell1 j (by omega)]
    simp [List.getD, hy]
  have HC := Lib.hid hcell
  have HO := Lib.hid hown
  have HN := Lib.hid hnews
  have HB := Lib.hid hb0
  have HZ := Lib.hid hz
  clear hcell hcell1 hnews hown hb0 hz
  go_enter Try.func6, Try.ntmps6
  go_wp2_with (at_builtin; refine wpList_append_own _ rfl (.tmp 8) (.tmp 9) 31 rfl w.heap.size 3 i0 (.int .i64 0) 1 8 Try.underlying31 hi hz0 hz1 hz2 rfl (by decide) _ 0 [] rfl HO.out x n c (zs.map (Value.int .i64)) rfl (by simp [HZ.out]) HN.out (ints_oneCell _ _) (by unfold maxLen; omega) (by omega) (by simp) ?_; intro v' w1 hown' hgrow _; have HO1 := Lib.hid hown'; have HG := Lib.hid hgrow; clear hown' hgrow)
  obtain ⟨A, c', hv, hr'⟩ := copy_reads zs n w1 w.heap.size v' HZ.out HO1.out
  subst hv
  have hb1 : Below w.heap.size w w1 := HB.out.grown HG.out (by simp) (fun k hk => by
    injection hk with hk; subst hk; exact Nat.le_refl _)
  obtain ⟨p, q, hp⟩ : ∃ p q, sumP 0 zs = (p, q) := ⟨_, _, rfl⟩
  have HS := Lib.hid (sum_of zs p q hp A n c' w1 (by omega) HZ.out hr').1
  have HR := Lib.hid (sum_of zs p q hp (some x) n c w1 (by omega) HZ.out (fun _ => ⟨x, rfl, fun k hk => cell_later hb1 (HC.out k hk)⟩)).2
  have HB1 := Lib.hid hb1
  clear hb1 hp hr' HO1 HG HB HN HO HC HZ hi hz0 hz1 hz2
  refine HS.out.mono ?_
  rintro e w' ⟨rfl, rfl⟩
  go_wp2_with (first | (go_at_call 21; refine HR.out.mono ?_; rintro e w' ⟨rfl, rfl⟩) | (go_at_call 14; with_reducible refine (awake_true _).mono ?_; rintro e w' ⟨rfl, rfl⟩) | (go_at_call 15; with_reducible refine (num_errv _ _).mono ?_; rintro e w' ⟨rfl, rfl⟩))
  go_ret
  exact ⟨rfl, HB1.out⟩
/-! ### STEP 1: THE WALK: the Go text returns true, AND WRITES NOTHING THAT WAS THERE: 'Below w.heap.size w w'' (Derived/Below.lean: '.refl', '.alloc', '.drew', '.setCell' at a new block, '.trans'). Open each 'IsRow' by 'rcases' AHEAD of 'go_enter'; part every test ahead of the walk. -/
theorem walk (a0 : Option Addr) (len0 cap0 : Nat) (z0 : List Int) (w : World) (w0 : IsRow .i64 w a0 len0 cap0 z0) (c0 : cap0 * 8 ≤ 140737488351232) :
    Calls Try.prog 6 #[.slice a0 len0 cap0] w fun e w' => e = .returned (.bool true) ∧ Below w.heap.size w w' := by
  rcases w0 with ⟨rfl, rfl, rfl, rfl⟩ | ⟨x, rfl, hlc, hm, hz, hcell, hwf⟩
  · exact walk_nil w
  · exact walk_some x len0 cap0 (z0.take len0) w (by simp; omega) (by omega) fun j hj => by rw [getD_take _ _ _ hj]; exact hcell j (by omega)

/-! ### THE ROW's STEP: WRITTEN OUT: LEAVE IT -/
set_option maxRecDepth 100000 in
theorem lifted (os : Os) (started : os.Started) (H : Type) (enc : TypeId × Value → H) :
    ReturnsInHanded {} Try.checked os 6 .any (Rows.lengthSumsSpec.pre6 enc Try.prog Try.f6 Rows.lengthSumsRow.domain false) (Rows.lengthSumsSpec.post enc Try.prog Try.f6 false true false false) := by
  refine returnsInHanded_of_change_sized (C := Try.checked) own started (by kernel_rfl) Try.func6
    (ChangeSpec.witness6 (enc := enc) (C := Try.checked) false ⟨#[], #[.slice none 0 0], []⟩ 8 (by kernel_rfl) (by kernel_rfl) (by kernel_rfl) (by kernel_rfl)) ?_
  intro W base args ds gs before hval0 hW hcnd hsz0 _
  have hsz : (DataW.weightsEach Try.prog (Try.f6.params.toList ++ Rows.lengthSumsSpec.plain.varTypes Try.prog) (ds ++ gs)).all (fun x => decide (x ≤ reachBytes)) = true := hsz0
  have hval : ∀ (j : Nat) t v, Try.f6.params[j]? = some t → args[j]? = some v → Value.okWide Try.prog W .any base t v := hval0
  have hW' := hW
  obtain ⟨p, q, hA0, hV, rfl, hfz, hnd⟩ := hW
  have hA : DataW.TrodAll enc Try.prog W 0 (fun _ => true) true Try.f6.params.toList args.toList ds p := hA0
  rw [Try.params6] at hA hval hsz
  obtain ⟨v0, vs0, d0, ds0, p0, q0, hargs, rfl, rfl, h0, r0⟩ := trodAll_cons hA
  obtain ⟨rfl, rfl, rfl⟩ := trodAll_nil r0
  obtain rfl : args = #[v0] := by cases args; simp_all
  obtain ⟨rfl, rfl⟩ := trodVars_none hV
  obtain ⟨a0, len0, cap0, rfl⟩ := okWide_slice Try.underlying31 (hval 0 31 v0 rfl rfl)
  have k0 := h0
  have lt0 : ∀ x ∈ p0, x.block < W.heap.size := by obtain ⟨m, hm⟩ := k0; exact DataW.trod_lt m _ _ _ hm
  obtain ⟨z0, w0, c0⟩ : ∃ zs, IsRow .i64 W a0 len0 cap0 zs ∧ cap0 * 8 ≤ 140737488351232 := by
    obtain ⟨fuel, hf⟩ := h0
    rcases open_ints Try.underlying31 Try.underlying3 (by kernel_rfl) hf with ⟨hcs, _⟩ | ⟨x, l, c, zs, hcs, _, hl, hm, hz, hx, hcell, hwz⟩
    · simp [Value.cells] at hcs
      obtain ⟨rfl, rfl, rfl⟩ := hcs
      exact ⟨[], .inl ⟨rfl, rfl, rfl, rfl⟩, by omega⟩
    · simp [Value.cells] at hcs
      obtain ⟨rfl, rfl, rfl⟩ := hcs
      have hlen : zs.length = cap0 := by simpa using hz
      have hr := sized_slice hsz (j := 0) (t := 31) (e := 3) (elems := lits .i64 (zs.take len0)) (spare := lits .i64 (zs.drop len0)) rfl (congrArg some (congrArg Prod.fst hx)) Try.underlying31
      rw [show Try.prog.bytesOf 3 = 8 by kernel_rfl] at hr
      simp only [lits, List.length_map, List.length_take, List.length_drop, reachBytes] at hr
      exact ⟨zs, .inr ⟨_, rfl, hl, hm, hlen, hcell, hwz⟩, by omega⟩
  clear hA0 hval0
  refine (walk a0 len0 cap0 z0 W w0 c0).mono fun e W' ⟨he, bel⟩ => ?_
  subst he
  exact ⟨_, rfl, _, _, _, [], _, [], hW', trodAll_mk1 (shut_bool Try.underlying4 _), (trodAll_cons_mk (Below.trod laidOut (by kernel_rfl) (of_decide_eq_true (by kernel_rfl)) k0 bel lt0) trodAll_mk0), rfl, bel.frame _, fun h => by cases h⟩

theorem over : Rows.lengthSumsRow.holds Try.pinned (OpenSpec.ofChange Rows.lengthSumsSpec) :=
  OpenClaim.holds_of_wide 6 Try.f6 rfl rfl rfl rfl rfl rfl rfl ⟨rfl, rfl, rfl, rfl, rfl⟩ rfl rfl rfl rfl rfl (by kernel_rfl) Try.func6 (by kernel_rfl)
    (of_decide_eq_true (by kernel_rfl)) (by unfold Func.isWrapper; first | (rw [if_pos (by decide +kernel)]; kernel_rfl) | (rw [if_neg (by decide +kernel)]; exact ⟨rfl, rfl⟩))
    (fun os started H enc _ => lifted os started H enc)

/-- ████ THE STATEMENT ████ -/
theorem proved : Rows.LengthSumsSaid := over
#print axioms proved
end Go.Proofs.Ytfifecdcdhggdaa.lengthSums
