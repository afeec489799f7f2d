/-
  Package digest: Of, and the reference's.
-/
import Derived.Test.YtgjhlmmhpcbnaaaDgB
namespace Go.Proofs.Ytgjhlmmhpcbnaaa
open Go.RowKit
/-- The bytes of a slice. -/
def u8 (z : Nat → Int) : Nat → Value := fun k => .int .u8 (z k)
def InB (z : Nat → Int) (n : Nat) : Prop := ∀ k, k < n → 0 ≤ z k ∧ z k < 256
theorem dg_of (A : Option Addr) (n c : Nat) (z : Nat → Int) (w : World) (hn : n ≤ 140737488355328) (hz : Rd w.heap.size w A n (u8 z)) (hb : InB z n) :
    Calls Try.prog 30 #[.slice A n c] w fun e w' => e = .returned (.agg (dc (tx z n))) ∧ Below w.heap.size w w' := by
  have HZ := Lib.hid hz
  have HB := Lib.hid hb
  have HP := Lib.hid (fun w => md_pow' 1103515245 n w (by omega) (by omega) (by omega) (by omega))
  have HV := Lib.hid (show ∀ k : Nat, 0 ≤ (tx z k).1 ∧ (tx z k).1 < 18446744073709551616 from fun k => ⟨(inR_tx z k).in64.1, (inR_tx z k).in64.2.1⟩)
  have HT := Lib.hid (Prod.ext rfl (tx_scale z n).symm : ((tx z n).1, pw 1103515245 n) = tx z n)
  have z0 := dg_zero
  have hwr : IntKind.u64.wrap (n : Int) = n := w64 (by omega) (by omega)
  obtain ⟨s, hs⟩ : ∃ s, w.heap.size = s := ⟨_, rfl⟩
  have hb1 := Lib.hid ((Below.refl w.heap.size w).alloc (Nat.le_refl _) (Obj.cells (dc (0, 0)) 25))
  have r2 := Lib.hid (Row.new w 25 (dc (0, 0)))
  rw [hs] at hb1 r2
  have HS := Lib.hid hs
  clear hz hb
  go_enter Try.func30, Try.ntmps30
  go_wp2
  obtain ⟨w1, hw1⟩ : ∃ w1, w1 = w.alloc (Obj.cells (dc (0, 0)) 25) := ⟨_, rfl⟩
  rw [← hw1] at hb1 r2 ⊢
  clear hw1
  go_loop [3, 8] (fun t i => ∃ (k : Nat), k ≤ n ∧ i = .int .i64 k ∧ t = .int .u64 (tx z k).1) (fun _ i => n - (intOf i).toNat)
  case atStart => exact ⟨0, Nat.zero_le _, rfl, rfl⟩
  case round =>
    obtain ⟨k, hk, rfl, rfl⟩ := hrel
    obtain ⟨v, hv⟩ : ∃ v, v = (tx z k).1 := ⟨_, rfl⟩
    have V0 := HV.out k
    rw [← hv] at V0 ⊢
    have HVV := Lib.hid hv
    clear hv
    by_cases hlt : k < n
    · obtain ⟨b, off, rfl, hbl, hc⟩ := HZ.out.some hlt
      have hcell : w1.cell? ⟨b, off + k, none⟩ = some (.int .u8 (z k)) := (hb1.out.cell (by show b < s; have := HS.out; omega)).trans (hc k hlt)
      obtain ⟨c0, c1⟩ := HB.out k hlt
      have H1 := Lib.hid (fun w => md_mul v 1103515245 w V0.1 V0.2 (by omega) (by omega))
      have H2 := Lib.hid (fun w => dg_coef (z k) w c0 c1)
      have H3 := Lib.hid (fun w => md_add (mP v 1103515245) (z k + 1) w (R_ge _) (R_64 _) (by omega) (by omega))
      clear hc c0 c1 V0 z0
      go_wp2_with (first | (go_at_call 49; with_reducible refine (H1.out _).mono ?_; rintro e w' ⟨rfl, rfl⟩) | (go_at_call 50; with_reducible refine (H2.out _).mono ?_; rintro e w' ⟨rfl, rfl⟩) | (go_at_call 48; with_reducible refine (H3.out _).mono ?_; rintro e w' ⟨rfl, rfl⟩))
      go_round
      case rel => exact ⟨k + 1, by omega, by go_num, by rw [HVV.out]; rfl⟩
      case measure => simp [intOf]; omega
    · obtain rfl : k = n := by omega
      clear V0 z0
      go_wp2_with (first | (go_at_call 51; with_reducible refine (HP.out _).mono ?_; rintro e w' ⟨rfl, rfl⟩) | ((with_reducible refine wpList_storeR (c' := dc (v, pw 1103515245 k)) aggD r2.out rfl (dc_one _) rfl _ _ rfl ?_ ?_ ?_); (go_simp <;> fail); exact rfl; go_simp))
      refine bodyPost_ret (results_cellR (c := dc (v, pw 1103515245 k)) aggD rfl _ (r2.out.setRow _) ?_) rfl ⟨by rw [HVV.out, HT.out], ?_⟩
      · go_simp
      · rw [HS.out]; exact below_setRow hb1.out (by omega) _

/-- The reference's state: what lies behind the first k. -/
def bk (z : Nat → Int) (n k : Nat) : Int × Int := tx (fun i => z (k + i)) (n - k)
theorem bk_step {z : Nat → Int} {n k : Nat} (hk : k < n) (h0 : 0 ≤ z k) (h1 : z k < 256) : bk z n k = mDig.j (lt (z k)) (bk z n (k + 1)) := by
  unfold bk
  have h := tx_add (fun i => z (k + i)) 1 (n - (k + 1))
  rw [show 1 + (n - (k + 1)) = n - k by omega, tx_one (z := fun i => z (k + i)) h0 h1] at h
  rw [h]
  congr 1
  exact tx_congr fun i _ => by rw [show k + (1 + i) = k + 1 + i by omega]
theorem bk_end (z : Nat → Int) (n : Nat) : bk z n n = mDig.e := by unfold bk; rw [Nat.sub_self]; rfl
theorem bk_start (z : Nat → Int) (n : Nat) : bk z n 0 = tx z n := by unfold bk; rw [Nat.sub_zero]; exact tx_congr fun k _ => by rw [Nat.zero_add]
theorem bk_next (c : Int) (f : Int × Int) : mDig.j (lt c) f = (aP f.1 (mP (c + 1) f.2), mP f.2 1103515245) := by
  refine Prod.ext ?_ (mP_comm _ _)
  show aP (mP (c + 1) f.2) f.1 = aP f.1 (mP (c + 1) f.2)
  unfold aP; rw [Int.add_comm]
theorem set0 {w : World} {g : Nat} {t : TypeId} {a b x : Int} (h : Row w g t (dc (a, b))) : Row (w.setCell ⟨g, 0, none⟩ (.int .u64 x)) g t (dc (x, b)) := (h.set 0 _).congr (by unfold dc; simp)
theorem set1 {w : World} {g : Nat} {t : TypeId} {a b x : Int} (h : Row w g t (dc (a, b))) : Row (w.setCell ⟨g, 1, none⟩ (.int .u64 x)) g t (dc (a, x)) := (h.set 1 _).congr (by unfold dc; simp)
end Go.Proofs.Ytgjhlmmhpcbnaaa
