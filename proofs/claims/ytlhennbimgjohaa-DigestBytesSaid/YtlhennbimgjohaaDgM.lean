/-
  Package digest: the reference's Take.
-/
import Derived.Test.YtlhennbimgjohaaDgK
namespace Go.Proofs.Ytlhennbimgjohaa
open Go.RowKit
theorem arr_info : (Try.prog.info? 66).map (fun i => (i.zero, i.size)) = some (some (.agg #[.int .u64 0, .int .u64 0]), 2) := by kernel_rfl
theorem arr_zero (w : World) : (zeroValue 66).run Try.prog w = .ok (.agg (dc (0, 0))) w := (zero_of_info arr_info).1 w
theorem dg_rtake_len (A : Option Addr) (n c : Nat) (w : World) (hn : n ≠ 16) (hn2 : n ≤ 9223372036854775807) :
    Calls Try.prog 26 #[.slice A n c] w fun e w' => e = .returned (.tuple #[.agg (dc (0, 0)), .bool false]) ∧ Below w.heap.size w w' := by
  have z0 := dg_zero
  have hne : ((n : Int) == 16) = false := by
    have : ¬ (n : Int) = 16 := by omega
    simpa using this
  have hne' : ¬ (n : Int) = 16 := by omega
  have R1 := Lib.hid (Row.new w 26 (dc (0, 0)))
  have HB := Lib.hid ((Below.refl w.heap.size w).alloc (Nat.le_refl _) (Obj.cells (dc (0, 0)) 26))
  clear hn
  go_enter Try.func26, Try.ntmps26
  go_wp2_with (first | ((with_reducible refine wpList_storeR (c' := dc (0, 0)) aggD R1.out rfl (dc_one _) rfl _ _ rfl ?_ ?_ ?_); (go_simp <;> fail); exact rfl; go_simp))
  refine bodyPost_ret (results_cellR2 (c := dc (0, 0)) aggD rfl _ (R1.out.setRow _) ?_) rfl ⟨rfl, below_setRow HB.out (Nat.le_refl _) _⟩
  go_simp
/-- The two numbers after the first k bytes. -/
def tp (z : Nat → Int) (k : Nat) : Int × Int := (tn z (min k 8), tn (fun j => z (8 + j)) (k - 8))
theorem tp_lo (z : Nat → Int) {k : Nat} (h : k < 8) : tp z (k + 1) = ((tp z k).1 * 256 + z k, (tp z k).2) := by
  unfold tp
  rw [show min (k + 1) 8 = k + 1 by omega, show min k 8 = k by omega, show k + 1 - 8 = 0 by omega, show k - 8 = 0 by omega]; rfl
theorem tp_hi (z : Nat → Int) {k : Nat} (h : 8 ≤ k) : tp z (k + 1) = ((tp z k).1, (tp z k).2 * 256 + z k) := by
  refine Prod.ext ?_ ?_
  · show tn z (min (k + 1) 8) = tn z (min k 8)
    rw [show min (k + 1) 8 = min k 8 by omega]
  · show tn (fun j => z (8 + j)) (k + 1 - 8) = tn (fun j => z (8 + j)) (k - 8) * 256 + z k
    rw [show k + 1 - 8 = (k - 8) + 1 by omega]
    show _ * 256 + z (8 + (k - 8)) = _
    rw [show 8 + (k - 8) = k by omega]
theorem tp_end (z : Nat → Int) : tp z 16 = tk z := rfl
theorem small {z : Nat → Int} {n : Nat} (h : InB z n) {k : Nat} (hk : k ≤ n) (h7 : k ≤ 7) : 0 ≤ tn z k ∧ tn z k < 72057594037927936 := by
  have hb := tn_bound h k hk
  refine ⟨hb.1, Int.lt_of_lt_of_le hb.2 ?_⟩
  have : (256 : Nat) ^ k ≤ 256 ^ 7 := Nat.pow_le_pow_right (by omega) h7
  have h2 : ((256 : Nat) ^ k : Int) ≤ ((256 ^ 7 : Nat) : Int) := by exact_mod_cast this
  simpa using h2
theorem inR_iff {D : Int × Int} (h : In64 D) : InR D ↔ D.1 < 2305843009213693951 ∧ D.2 < 2305843009213693951 := by
  constructor
  · intro hr
    exact ⟨by rw [← hr.1]; exact R_lt _, by rw [← hr.2]; exact R_lt _⟩
  · intro hr
    exact ⟨R_id h.1 hr.1, R_id h.2.2.1 hr.2⟩
set_option maxRecDepth 20000 in
set_option maxHeartbeats 3200000 in
theorem dg_rtake (b off c : Nat) (z : Nat → Int) (w : World) (hz : Rd w.heap.size w (some ⟨b, off, none⟩) 16 (u8 z)) (hb : InB z 16) :
    Calls Try.prog 26 #[.slice (some ⟨b, off, none⟩) 16 c] w fun e w' => (InR (tk z) → e = .returned (.tuple #[.agg (dc (tk z)), .bool true])) ∧ (¬ InR (tk z) → e = .returned (.tuple #[.agg (dc (0, 0)), .bool false])) ∧ Below w.heap.size w w' := by
  have HI := Lib.hid (inR_iff (tk_64 hb))
  have H64 := Lib.hid (tk_64 hb)
  obtain ⟨⟨d, d'⟩, hD⟩ : ∃ p, p = tk z := ⟨_, rfl⟩
  rw [← hD] at HI H64 ⊢
  have HTE := Lib.hid (show tp z 16 = (d, d') by rw [hD]; rfl)
  clear hD
  have HZ := Lib.hid hz
  have HBy := Lib.hid hb
  have z0 := dg_zero
  have z1 := arr_zero
  obtain ⟨s, hs⟩ : ∃ s, w.heap.size = s := ⟨_, rfl⟩
  have hb1 := Lib.hid (((Below.refl w.heap.size w).alloc (Nat.le_refl _) (Obj.cells (dc (0, 0)) 26)).alloc (by simp) (Obj.cells (dc (0, 0)) 66))
  have r2 := Lib.hid ((Row.new w 26 (dc (0, 0))).alloc (Obj.cells (dc (0, 0)) 66))
  have r3 := Lib.hid (Row.new (w.alloc (Obj.cells (dc (0, 0)) 26)) 66 (dc (0, 0)))
  simp only [World.size_alloc] at r3
  rw [hs] at hb1 r2 r3
  have HS := Lib.hid hs
  clear hz hb
  go_enter Try.func26, Try.ntmps26
  go_wp2
  obtain ⟨w1, hw1⟩ : ∃ w1, w1 = (w.alloc (Obj.cells (dc (0, 0)) 26)).alloc (Obj.cells (dc (0, 0)) 66) := ⟨_, rfl⟩
  rw [← hw1] at hb1 r2 r3 ⊢
  clear hw1 hs z0 z1
  go_loopw [12] (fun i wr => ∃ (k : Nat), k ≤ 16 ∧ i = .int .i64 k ∧ Hid (Below s w wr) ∧ Hid (Row wr s 26 (dc (0, 0))) ∧ Hid (Row wr (s + 1) 66 (dc (tp z k)))) (fun i _ => 16 - (intOf i).toNat)
  case atStart => exact ⟨0, Nat.zero_le _, rfl, hb1, r2, r3⟩
  case round =>
    clear hb1 r2 r3
    obtain ⟨k, hk, rfl, hbw, r2, r3⟩ := hrel
    by_cases hlt : k < 16
    · have hc := (HZ.out.at' (b := b) (off := off) hlt)
      have hblk : b < w.heap.size := by
        rcases HZ.out with h | ⟨b', off', h1, h2, _⟩
        · omega
        · cases h1; exact h2
      have hle := hbw.out.size
      have hcell : wr.cell? ⟨b, off + k, none⟩ = some (.int .u8 (z k)) := (hbw.out.cell (by show b < s; have := HS.out; omega)).trans hc
      obtain ⟨c0, c1⟩ := HBy.out k hlt
      obtain ⟨x, hx⟩ : ∃ x, x = z k := ⟨_, rfl⟩
      rw [← hx] at c0 c1 hcell
      have hblk' : b < wr.heap.size := by omega
      have q2 : ∀ u, (later wr u).cell? ⟨b, off + k, none⟩ = some (.int .u8 x) := fun u => ((below_later wr u).cell hblk').trans hcell
      have hwx : IntKind.u64.wrap x = x := w64 c0 (by omega)
      have b1 : (0 : Int) ≤ (k : Int) := by omega
      have b2 : (k : Int) < 16 := by omega
      obtain ⟨⟨v, v'⟩, hv⟩ : ∃ p, p = tp z k := ⟨_, rfl⟩
      rw [← hv] at r3
      have q0 : ∀ u, (later wr u).cell? ⟨s + 1, 0, none⟩ = some (.int .u64 v) := fun u => (r3.out.later u).cell 0
      have q1 : ∀ u, (later wr u).cell? ⟨s + 1, 1, none⟩ = some (.int .u64 v') := fun u => (r3.out.later u).cell 1
      by_cases h8 : k < 8
      · have HN := Lib.hid (show tp z (k + 1) = (v * 256 + x, v') by rw [tp_lo z h8, ← hv, hx])
        have hsm : 0 ≤ v ∧ v < 72057594037927936 := by
          have h1 := small (z := z) (n := 16) HBy.out (k := k) (by omega) (by omega)
          have h2 : v = tn z k := by
            have := congrArg Prod.fst hv
            simp only [tp, show min k 8 = k by omega] at this
            exact this
          rw [h2]; exact h1
        have d1 : (k : Int) / 8 = 0 := by omega
        have d2 : (k : Int).tdiv 8 = 0 := by rw [Int.tdiv_eq_ediv_of_nonneg b1]; exact d1
        have hw1 : IntKind.u64.wrap (v * 256) = v * 256 := w64 (by omega) (by omega)
        have hw2 : IntKind.u64.wrap (v * 256 + x) = v * 256 + x := w64 (by omega) (by omega)
        obtain ⟨hsm0, hsm1⟩ := hsm
        clear hx hv hblk hle hcell c0 c1 h8 hc hblk'
        go_wp2
        refine wp_region_tail 14 (by kernel_rfl) (by kernel_rfl) ?_
        simp only [List.take_succ_cons, List.take_zero, List.drop_succ_cons, List.drop_zero]
        repeat (first | go_big_quiet_skip | (go_big_quiet_want; go_big_quiet_op; go_big_quiet_on))
        refine wpQuiet_nil ?_
        rintro w4 ⟨u, rfl⟩
        have r4 := Lib.hid (r3.out.later u)
        have r5 := Lib.hid (r2.out.later u)
        have hb4 := Lib.hid (hbw.out.trans ((below_later wr u).mono (by have := hbw.out.size; have := HS.out; omega)))
        have p0 := q0 u
        have f0 := r4.out.frozen 0
        clear q0 q1 q2
        go_wp2
        go_roundw
        case rel =>
          refine ⟨k + 1, by omega, by go_num, Lib.hid (hb4.out.setCell (by simp) _), Lib.hid (r5.out.far (by simp) _), Lib.hid ?_⟩
          rw [HN.out]
          exact set0 r4.out
        case measure => simp [intOf]; try omega
      · have HN := Lib.hid (show tp z (k + 1) = (v, v' * 256 + x) by rw [tp_hi z (by omega), ← hv, hx])
        have hsm : 0 ≤ v' ∧ v' < 72057594037927936 := by
          have h1 := small (z := fun j => z (8 + j)) (n := 8) (fun j hj => HBy.out (8 + j) (by omega)) (k := k - 8) (by omega) (by omega)
          have h2 : v' = tn (fun j => z (8 + j)) (k - 8) := congrArg Prod.snd hv
          rw [h2]; exact h1
        have d1 : (k : Int) / 8 = 1 := by omega
        have d2 : (k : Int).tdiv 8 = 1 := by rw [Int.tdiv_eq_ediv_of_nonneg b1]; exact d1
        have hw1 : IntKind.u64.wrap (v' * 256) = v' * 256 := w64 (by omega) (by omega)
        have hw2 : IntKind.u64.wrap (v' * 256 + x) = v' * 256 + x := w64 (by omega) (by omega)
        obtain ⟨hsm0, hsm1⟩ := hsm
        clear hx hv hblk hle hcell c0 c1 h8 hc hblk'
        go_wp2
        refine wp_region_tail 14 (by kernel_rfl) (by kernel_rfl) ?_
        simp only [List.take_succ_cons, List.take_zero, List.drop_succ_cons, List.drop_zero]
        repeat (first | go_big_quiet_skip | (go_big_quiet_want; go_big_quiet_op; go_big_quiet_on))
        refine wpQuiet_nil ?_
        rintro w4 ⟨u, rfl⟩
        have r4 := Lib.hid (r3.out.later u)
        have r5 := Lib.hid (r2.out.later u)
        have hb4 := Lib.hid (hbw.out.trans ((below_later wr u).mono (by have := hbw.out.size; have := HS.out; omega)))
        have p0 := q1 u
        have f0 := r4.out.frozen 1
        clear q0 q1 q2
        go_wp2
        go_roundw
        case rel =>
          refine ⟨k + 1, by omega, by go_num, Lib.hid (hb4.out.setCell (by simp) _), Lib.hid (r5.out.far (by simp) _), Lib.hid ?_⟩
          rw [HN.out]
          exact set1 r4.out
        case measure => simp [intOf]; try omega
    · obtain rfl : k = 16 := by omega
      rw [HTE.out] at r3
      have p0' : wr.cell? ⟨s + 1, 0, none⟩ = some (.int .u64 d) := r3.out.cell 0
      have p1' : wr.cell? ⟨s + 1, 1, none⟩ = some (.int .u64 d') := r3.out.cell 1
      clear r3
      have HE := Lib.hid HI.out
      have v0 : 0 ≤ d := H64.out.1
      have v1 : 0 ≤ d' := H64.out.2.2.1
      by_cases hr : InR (d, d')
      · have h1 : d < 2305843009213693951 := (HE.out.1 hr).1
        have h2 : d' < 2305843009213693951 := (HE.out.1 hr).2
        have HRR := Lib.hid hr
        clear hr
        go_wp2_with (first | ((with_reducible refine wpList_storeR (c' := dc (d, d')) aggD r2.out rfl (dc_one _) rfl _ _ rfl ?_ ?_ ?_); (go_simp <;> fail); exact rfl; go_simp))
        refine bodyPost_ret (results_cellR2 (c := dc (d, d')) aggD rfl _ (r2.out.setRow _) ?_) rfl ⟨fun _ => rfl, fun h => absurd HRR.out h, ?_⟩
        · go_simp
        · rw [HS.out]; exact below_setRow hbw.out (Nat.le_refl _) _
      · have HRR := Lib.hid hr
        by_cases h1 : d < 2305843009213693951
        · have h2 : 2305843009213693951 ≤ d' := by
            have h3 : ¬ (d < 2305843009213693951 ∧ d' < 2305843009213693951) := fun h => hr (HE.out.2 h)
            omega
          have h2' : ¬ d' < 2305843009213693951 := by omega
          clear hr
          go_wp2_with (first | ((with_reducible refine wpList_storeR (c' := dc (0, 0)) aggD r2.out rfl (dc_one _) rfl _ _ rfl ?_ ?_ ?_); (go_simp <;> fail); exact rfl; go_simp))
          refine bodyPost_ret (results_cellR2 (c := dc (0, 0)) aggD rfl _ (r2.out.setRow _) ?_) rfl ⟨fun h => absurd h HRR.out, fun _ => rfl, ?_⟩
          · go_simp
          · rw [HS.out]; exact below_setRow hbw.out (Nat.le_refl _) _
        · have h2 : 2305843009213693951 ≤ d := by omega
          clear hr
          go_wp2_with (first | ((with_reducible refine wpList_storeR (c' := dc (0, 0)) aggD r2.out rfl (dc_one _) rfl _ _ rfl ?_ ?_ ?_); (go_simp <;> fail); exact rfl; go_simp))
          refine bodyPost_ret (results_cellR2 (c := dc (0, 0)) aggD rfl _ (r2.out.setRow _) ?_) rfl ⟨fun h => absurd h HRR.out, fun _ => rfl, ?_⟩
          · go_simp
          · rw [HS.out]; exact below_setRow hbw.out (Nat.le_refl _) _
end Go.Proofs.Ytlhennbimgjohaa
