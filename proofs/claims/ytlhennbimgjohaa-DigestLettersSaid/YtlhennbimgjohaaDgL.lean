/-
  DigestLetters: the walk.
-/
import Derived.Test.YtlhennbimgjohaaDgRs
import Derived.Deep.DeepCutAuto
namespace Go.Proofs.Ytlhennbimgjohaa
open Go.RowKit
theorem P_cancel {p q S y : Int} (hp : R p = p) (hq : R q = q) (hy : mP S y = 1) (h : mP p S = mP q S) : p = q := by
  have h1 : mP (mP p S) y = mP (mP q S) y := by rw [h]
  rw [mP_assoc, mP_assoc, hy, mP_one, mP_one, hp, hq] at h1
  exact h1
theorem aP_cancel {a b v : Int} (h : aP a v = aP b v) : R a = R b := by
  unfold aP R at *; omega
theorem aP_byte {q c d : Int} (hc : 0 ≤ c ∧ c < 256) (hd : 0 ≤ d ∧ d < 256) (h : aP q (c + 1) = aP q (d + 1)) : c = d := by
  unfold aP R at h; omega
theorem tx_letter {z z' : Nat → Int} {n i : Nat} (hi : i < n) (hz : ∀ k, k ≠ i → z k = z' k) (hc : 0 ≤ z i ∧ z i < 256) (hd : 0 ≤ z' i ∧ z' i < 256) : ((tx z n).1 = (tx z' n).1) ↔ z i = z' i := by
  obtain ⟨m, rfl⟩ : ∃ m, n = i + 1 + m := ⟨n - (i + 1), by omega⟩
  have e0 : tx z i = tx z' i := tx_congr fun k hk => hz k (by omega)
  have e1 : tx (fun k => z (i + 1 + k)) m = tx (fun k => z' (i + 1 + k)) m := tx_congr fun k _ => hz _ (by omega)
  obtain ⟨y, hy⟩ := pw_inverse m
  rw [tx_add z (i + 1) m, tx_add z' (i + 1) m, tx_succ z i, tx_succ z' i, e0, e1]
  have hs : (tx (fun k => z' (i + 1 + k)) m).2 = pw 1103515245 m := tx_scale _ _
  constructor
  · intro h
    have h1 : aP (mP (aP (mP (tx z' i).1 1103515245) (z i + 1)) (tx (fun k => z' (i + 1 + k)) m).2) (tx (fun k => z' (i + 1 + k)) m).1 = aP (mP (aP (mP (tx z' i).1 1103515245) (z' i + 1)) (tx (fun k => z' (i + 1 + k)) m).2) (tx (fun k => z' (i + 1 + k)) m).1 := h
    have h2 := aP_cancel h1
    rw [hs, show R (mP (aP (mP (tx z' i).1 1103515245) (z i + 1)) (pw 1103515245 m)) = mP (aP (mP (tx z' i).1 1103515245) (z i + 1)) (pw 1103515245 m) from R_R _, show R (mP (aP (mP (tx z' i).1 1103515245) (z' i + 1)) (pw 1103515245 m)) = mP (aP (mP (tx z' i).1 1103515245) (z' i + 1)) (pw 1103515245 m) from R_R _] at h2
    exact aP_byte hc hd (P_cancel (R_R _) (R_R _) hy h2)
  · intro h; rw [h]
/-- The bytes with letter i replaced. -/
def upd (z : Nat → Int) (i : Nat) (b : Int) : Nat → Int := fun k => if k = i then b else z k
theorem bytes_frozen (w : World) (x : ByteArray) {i : Nat} (hi : i < x.size) : (Lib.bytesWorld w 5 x).frozen? ⟨w.heap.size, i, none⟩ = false := by
  have h : x.size ≤ (Lib.bytesCells w 5 x).size := by simp [Lib.bytesCells]
  first | (simp [World.frozen?, Lib.bytesWorld_at_new]; done) | (simp [World.frozen?, Lib.bytesWorld_at_new]; omega)
theorem bytes_upd (w : World) (x : ByteArray) (i : Nat) (b : Int) : Rd ((Lib.bytesWorld w 5 x).setCell ⟨w.heap.size, i, none⟩ (.int .u8 b)).heap.size ((Lib.bytesWorld w 5 x).setCell ⟨w.heap.size, i, none⟩ (.int .u8 b)) (some ⟨w.heap.size, 0, none⟩) x.size (u8 (upd (sb x) i b)) := by
  refine .inr ⟨w.heap.size, 0, rfl, by simp [Lib.bytesWorld_size], fun k hk => ?_⟩
  have hc := Lib.bytesWorld_cell w 5 x k hk
  rw [Nat.zero_add]
  unfold upd u8
  by_cases e : k = i
  · subst e
    rw [World.cell?_setCell_same _ _ _ hc]; simp
  · rw [World.cell?_setCell_other _ _ _ _ (fun h => e (by injection h with _ h2 _; exact h2.symm)), hc]; simp only [if_neg e]; rfl
set_option maxRecDepth 20000 in
set_option maxHeartbeats 1600000 in
theorem letters_walk (s : ByteArray) (a b : Int) (w : World) (hs : s.size ≤ maxLen) (hb : 0 ≤ b ∧ b < 256) :
    Calls Try.prog 10 #[.string s, .int .i64 a, .int .u8 b] w fun e w' => e = .returned (.bool true) ∧ Below w.heap.size w w' := by
  have HA := Lib.hid awake_true
  have HC := Lib.hid (fun w => cut_any s w hs)
  obtain ⟨x, hx⟩ : ∃ x, x = cutS s := ⟨_, rfl⟩
  have hxs : x.size ≤ 300 := by rw [hx]; exact cutS_size s
  rw [← hx] at HC
  clear hs hx
  have hsz : (x.size : Int) ≤ 300 := by omega
  by_cases h0 : x.size = 0
  · have h0i : ((x.size : Int) == 0) = true := by rw [h0]; rfl
    clear h0
    go_enter Try.func10, Try.ntmps10
    go_wp2_with (first | (go_at_call 11; (with_reducible refine (HA.out _).mono ?_); rintro e w1 ⟨rfl, hb1⟩; have HB1 := Lib.hid hb1; clear hb1) | (go_at_call 12; (with_reducible refine (HC.out _).mono ?_); rintro e w1' ⟨rfl, rfl⟩))
    go_ret
    exact ⟨rfl, HB1.out⟩
  · have h0i : ((x.size : Int) == 0) = false := by
      have : ¬ (x.size : Int) = 0 := by omega
      simpa using this
    obtain ⟨u, hu⟩ : ∃ u : Nat, a % 18446744073709551616 = (u : Int) := ⟨(a % 18446744073709551616).toNat, by omega⟩
    have hu' : IntKind.u64.wrap a = (u : Int) := by rw [IntKind.wrap_u64, hu]
    obtain ⟨i, hi⟩ : ∃ i, i = u % x.size := ⟨_, rfl⟩
    have hin : i < x.size := by rw [hi]; exact Nat.mod_lt _ (by omega)
    have hm1 : (u : Int) % (x.size : Int) = (i : Int) := by rw [hi]; simp
    have hm2 : (u : Int).tmod (x.size : Int) = (i : Int) := by rw [hi]; rfl
    have b1 : (0 : Int) ≤ (i : Int) := by omega
    have b2 : (i : Int) < (x.size : Int) := by omega
    have cv := fun w => run_bytes w x
    have hfz := fun w => bytes_frozen w x hin
    have hcl := fun w => Lib.bytesWorld_cell w 5 x i hin
    have HU := Lib.hid (fun w => bytes_upd w x i b)
    have GB := Lib.hid (fun w => bytesWorld_below w 5 x)
    have hbx := sb_in x x.size
    have G1 := Lib.hid (fun w => of_str x _ (grownCap w x.size 0 5) _ (by omega) (bytes_rd w x))
    have hbu : InB (upd (sb x) i b) x.size := fun k hk => by
      unfold upd
      by_cases e : k = i
      · rw [if_pos e]; exact hb
      · rw [if_neg e]; exact hbx k hk
    have G2 := Lib.hid (fun A c w hr => dg_of A x.size c (upd (sb x) i b) w (by omega) hr hbu)
    have HI := Lib.hid (show ((txs x).1 = (tx (upd (sb x) i b) x.size).1) ↔ sb x i = b from by
      have := tx_letter (z := sb x) (z' := upd (sb x) i b) hin (fun k hk => by unfold upd; rw [if_neg hk]) (hbx i hin) (hbu i hin)
      rw [show upd (sb x) i b i = b by unfold upd; rw [if_pos rfl]] at this
      exact this)
    have HE := Lib.hid (show (txs x).2 = (tx (upd (sb x) i b) x.size).2 by unfold txs; rw [tx_scale, tx_scale])
    have HXI := Lib.hid (show sb x i = ((x[i]'hin).toNat : Int) by
      have hl : i < x.data.toList.length := by simpa using hin
      unfold sb
      rw [List.getD_eq_getElem?_getD, List.getElem?_eq_getElem hl]
      simp [ByteArray.getElem_eq_getElem_data])
    obtain ⟨⟨p, c⟩, hX⟩ : ∃ X, X = txs x := ⟨_, rfl⟩
    obtain ⟨⟨p', c'⟩, hY⟩ : ∃ Y, Y = tx (upd (sb x) i b) x.size := ⟨_, rfl⟩
    rw [← hX] at G1 HI HE
    rw [← hY] at G2 HI HE
    have HE' : c = c' := HE.out
    subst HE'
    clear hi hbx hbu hX hY HE
    have z0 := dg_zero
    obtain ⟨sz, hsz'⟩ : ∃ sz, w.heap.size = sz := ⟨_, rfl⟩
    have HS := Lib.hid hsz'
    clear hsz'
    go_enter Try.func10, Try.ntmps10
    go_upto_region 9 with (first | (go_at_call 11; (with_reducible refine (HA.out _).mono ?_); rintro e w1 ⟨rfl, hb1⟩; have HB1 := Lib.hid hb1; clear hb1) | (go_at_call 12; (with_reducible refine (HC.out _).mono ?_); rintro e w1' ⟨rfl, rfl⟩))
    have HR := Lib.hid (HU.out w1)
    have HB2 := Lib.hid (show Below sz w ((Lib.bytesWorld w1 5 x).setCell ⟨w1.heap.size, i, none⟩ (.int .u8 b)) by
      have h1 := HB1.out
      rw [HS.out] at h1
      have hle : sz ≤ w1.heap.size := by have := h1.size; have := HS.out; omega
      exact (h1.trans ((GB.out w1).mono hle)).setCell hle _)
    clear hfz hcl HU HB1
    revert HR HB2
    generalize (Lib.bytesWorld w1 5 x).setCell ⟨w1.heap.size, i, none⟩ (.int .u8 b) = w2
    intro HR HB2
    go_wp2_with fail
    refine (G1.out _).mono ?_
    rintro e w3 ⟨rfl, hb3⟩
    have hbb : Below w2.heap.size w2 w3 := (GB.out w2).trans (hb3.mono (GB.out w2).size)
    have G3 := Lib.hid (G2.out _ (grownCap w1 x.size 0 5) w3 ((HR.out.later hbb).mono hbb.size))
    have HB3 := Lib.hid (HB2.out.trans (hbb.mono (by have := HB2.out.size; have := HS.out; omega)))
    clear hbb hb3 HR HB2 G1 G2
    go_wp2_with fail
    refine G3.out.mono ?_
    rintro e w4 ⟨rfl, hb4⟩
    have HB4 := Lib.hid (HB3.out.trans (hb4.mono (by have := HB3.out.size; have := HS.out; omega)))
    have hle4 := Lib.hid (show sz ≤ w4.heap.size by have := HB4.out.size; have := HS.out; omega)
    have R5 := Lib.hid ((Row.new w4 26 (dc (0, 0))).alloc zd)
    have R6 := Lib.hid (Row.new (w4.alloc zd) 26 (dc (0, 0)))
    simp only [World.size_alloc] at R6
    have HB5 := Lib.hid ((HB4.out.alloc hle4.out zd).alloc (by have := hle4.out; simp; omega) zd)
    clear hb4 HB3 G3 HB4
    go_wp2_with (first | ((with_reducible refine wpList_storeR (c' := dc (p, c)) aggD R5.out rfl (dc_one _) rfl _ _ rfl ?_ ?_ ?_); (go_simp <;> fail); (go_simp <;> fail); have R6 := Lib.hid (R6.out.setRow_far (g' := w4.heap.size) (by omega) (dc (p, c))); have R5 := Lib.hid (R5.out.setRow (dc (p, c))); have HB6 := Lib.hid (below_setRow HB5.out hle4.out (dc (p, c))); go_simp) | ((with_reducible refine wpList_storeR (c' := dc (p', c)) aggD R6.out rfl (dc_one _) rfl _ _ rfl ?_ ?_ ?_); (go_simp <;> fail); (go_simp <;> fail); have R5 := Lib.hid (R5.out.setRow_far (g' := w4.heap.size + 1) (by omega) (dc (p', c))); have R6 := Lib.hid (R6.out.setRow (dc (p', c))); have HB7 := Lib.hid (below_setRow HB6.out (Nat.le_succ_of_le hle4.out) (dc (p', c))); go_simp; clear HB5 HB6; revert R5 R6 HB7; generalize (World.setRow (World.setRow ((w4.alloc zd).alloc zd) w4.heap.size (dc (p, c))) (w4.heap.size + 1) (dc (p', c))) = w5; intro R5 R6 HB7))
    obtain ⟨g5, hg5⟩ : ∃ g, g = w4.heap.size := ⟨_, rfl⟩
    rw [← hg5] at R5 R6 ⊢
    have q0 : ∀ u, (later w5 u).cell? ⟨g5, 0, none⟩ = some (.int .u64 p) := fun u => (R5.out.later u).cell 0
    have q1 : ∀ u, (later w5 u).cell? ⟨g5, 1, none⟩ = some (.int .u64 c) := fun u => (R5.out.later u).cell 1
    have q2 : ∀ u, (later w5 u).cell? ⟨g5 + 1, 0, none⟩ = some (.int .u64 p') := fun u => (R6.out.later u).cell 0
    have q3 : ∀ u, (later w5 u).cell? ⟨g5 + 1, 1, none⟩ = some (.int .u64 c) := fun u => (R6.out.later u).cell 1
    have cc : (c == c) = true := by simp
    rw [HXI.out] at HI
    clear hg5 z0 cv
    by_cases e : ((x[i]'hin).toNat : Int) = b
    · have e1 : (p == p') = true := by have := HI.out.2 e; simpa using this
      have e2 : (((x[i]'hin).toNat : Int) == b) = true := by simpa using e
      clear e
      refine wp_region_later (by kernel_rfl) (by kernel_rfl) ?_
      repeat (first | go_big_quiet_skip | (go_big_quiet_want; go_big_quiet_op; go_big_quiet_on))
      refine wpQuiet_nil ?_
      rintro w6 ⟨u, rfl⟩
      go_wp2
      go_ret
      exact ⟨rfl, by rw [HS.out]; exact HB7.out.trans ((below_later w5 u).mono (by have := HB7.out.size; have := HS.out; omega))⟩
    · have e1 : (p == p') = false := by
        have : ¬ p = p' := fun h => e (HI.out.1 h)
        simpa using this
      have e2 : (((x[i]'hin).toNat : Int) == b) = false := by simpa using e
      clear e
      refine wp_region_later (by kernel_rfl) (by kernel_rfl) ?_
      repeat (first | go_big_quiet_skip | (go_big_quiet_want; go_big_quiet_op; go_big_quiet_on))
      refine wpQuiet_nil ?_
      rintro w6 ⟨u, rfl⟩
      go_wp2
      go_ret
      exact ⟨rfl, by rw [HS.out]; exact HB7.out.trans ((below_later w5 u).mono (by have := HB7.out.size; have := HS.out; omega))⟩
end Go.Proofs.Ytlhennbimgjohaa
