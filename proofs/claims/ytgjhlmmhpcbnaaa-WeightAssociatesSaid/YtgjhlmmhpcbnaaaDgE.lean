/-
  Package digest: powers of powers, '==', Repeat.
-/
import Derived.Test.YtgjhlmmhpcbnaaaDgP
import Derived.Laws.StructEq
namespace Go.Proofs.Ytgjhlmmhpcbnaaa
open Go.RowKit
theorem cw_add' {f : Int × Int} (h : InR f) (a b : Nat) : mDig.j (cw mDig f a) (cw mDig f b) = cw mDig f (a + b) := by
  rcases Nat.eq_zero_or_pos a with rfl | ha
  · rw [Nat.zero_add]; exact dg_left (inR_cw h b)
  · rcases Nat.eq_zero_or_pos b with rfl | hb
    · exact dg_right (inR_cw h a)
    · exact cw_add ha hb
theorem cw_mul {f : Int × Int} (h : InR f) (i : Nat) : ∀ n, cw mDig (cw mDig f i) n = cw mDig f (i * n)
  | 0 => rfl
  | n + 1 => by
    rw [← cw_add' (inR_cw h i) n 1, cw_one, cw_mul h i n, cw_add' h, Nat.mul_succ]
theorem guard_dg : Try.prog.eqGuardType Try.prog.depth 25 = false := by kernel_rfl
theorem equal_dg (f : Int × Int) (w : World) : (Op.equalIn 10000 25 (.agg (dc f)) (.agg (dc f))).run Try.prog w = .ok true w := by
  obtain ⟨a, b⟩ := f
  unfold dc
  have h1 := run_equalIn_int (P := Try.prog) w 9998 23 .u64 .u64 a a Try.underlying23
  have h2 := run_equalIn_int (P := Try.prog) w 9998 23 .u64 .u64 b b Try.underlying23
  rw [run_equalIn_struct w 9999 25 _ _ (by kernel_rfl) (by kernel_rfl)]
  go_simp
theorem dg_pow_any (x : Int × Int) (K : Nat) (w : World) (hx : InR x) (hK : (K : Int) ≤ 9223372036854775807) :
    Calls Try.prog 53 #[.agg #[], .agg (dc x), .int .i64 K] w fun e w' => e = .returned (.agg (dc (cw mDig x K))) ∧ Below w.heap.size w w' := by
  rcases Nat.eq_zero_or_pos K with rfl | h
  · exact dg_pow_none x 0 w (by omega)
  · exact dg_pow x K w hx h hK
theorem dg_repeat (f : Int × Int) (n : Int) (w : World) (hf : In64 f) (hn : n ≤ 9223372036854775807) :
    Calls Try.prog 41 #[.agg (dc f), .int .i64 n] w fun e w' => e = .returned (.agg (dc (cw mDig (rd f) n.toNat))) ∧ Below w.heap.size w w' := by
  have HP : ∀ w, Calls Try.prog 53 #[.agg #[], .agg (dc (rd f)), .int .i64 n] w fun e w' => e = .returned (.agg (dc (cw mDig (rd f) n.toNat))) ∧ Below w.heap.size w w' := by
    intro w
    rcases Int.lt_or_le n 1 with h | h
    · rw [show n.toNat = 0 by omega]; exact dg_pow_none _ _ w h
    · have := dg_pow (rd f) n.toNat w (inR_rd f) (by omega) (by omega)
      rwa [show ((n.toNat : Nat) : Int) = n by omega] at this
  have HU := Lib.hid HP
  have HD := Lib.hid (fun w => dg_reduced f w hf)
  obtain ⟨r, hr⟩ : ∃ r, rd f = r := ⟨_, rfl⟩
  obtain ⟨v, hv⟩ : ∃ v, cw mDig r n.toNat = v := ⟨_, rfl⟩
  rw [hr] at HD HU ⊢
  rw [hv] at HU ⊢
  have z0 := dg_zero
  clear hf HP hr hv
  obtain ⟨s, hs⟩ : ∃ s, w.heap.size = s := ⟨_, rfl⟩
  have hb := Lib.hid (((Below.refl w.heap.size w).alloc (Nat.le_refl _) (Obj.cells (dc f) 25)).alloc (by simp) (Obj.cells (dc (0, 0)) 25))
  have r0 := Lib.hid ((Row.new w 25 (dc f)).alloc (Obj.cells (dc (0, 0)) 25))
  have r2 := Lib.hid (Row.new (w.alloc (Obj.cells (dc f) 25)) 25 (dc (0, 0)))
  simp only [World.size_alloc] at r2
  rw [hs] at r0 r2 hb
  have HS := Lib.hid hs
  go_enter Try.func41, Try.ntmps41
  go_wp2_with (first | ((with_reducible refine wpList_loadR aggD r0.out rfl _ rfl ?_ ?_); (go_simp <;> fail); go_simp) | (go_at_call 54; (with_reducible refine (HD.out _).mono ?_); rintro e w2 ⟨rfl, hb2⟩; have HB := Lib.hid (hb.out.trans (hb2.mono (by have := hb.out.size; have := HS.out; omega))); have r3 := Lib.hid (r2.out.below' hb2); clear hb2 z0) | (go_at_call 53; (with_reducible refine (HU.out _).mono ?_); rintro e w3 ⟨rfl, hb3⟩; have HB3 := Lib.hid (HB.out.trans (hb3.mono (by have := HB.out.size; have := HS.out; omega))); have r4 := Lib.hid (r3.out.below' hb3); clear hb3) | ((with_reducible refine wpList_storeR (c' := dc v) aggD r4.out rfl (dc_one _) rfl _ _ rfl ?_ ?_ ?_); (go_simp <;> fail); (go_simp <;> fail); go_simp))
  refine bodyPost_ret (results_cellR (c := dc v) aggD rfl _ (r4.out.setRow _) ?_) rfl ⟨rfl, ?_⟩
  · go_simp
  · rw [HS.out]; exact below_setRow HB3.out (by omega) _
end Go.Proofs.Ytgjhlmmhpcbnaaa
