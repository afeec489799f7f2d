/-
  MonoidFolds: the walk.
-/
import Derived.Test.YtbiecpejpkgngaaMoWindows
import Derived.Test.YtbiecpejpkgngaaMoFold
import Derived.Test.YtbiecpejpkgngaaMix
namespace Go.Proofs.Ytbiecpejpkgngaa
open Go.RowKit
theorem words_split (z : Nat → ByteArray) (k : Nat) : ∀ d, fo mWords z k ++ fo mWords (fun i => z (k + i)) d = fo mWords z (k + d)
  | 0 => by show fo mWords z k ++ ByteArray.empty = _; rw [ByteArray.append_empty]; rfl
  | d + 1 => by
    rw [fo]
    show fo mWords z k ++ (fo mWords (fun i => z (k + i)) d ++ z (k + d)) = _
    rw [← ByteArray.append_assoc, words_split z k d]; rfl
theorem Rd.less {B : Nat} {w : World} {A : Option Addr} {n m : Nat} {z : Nat → Value} (h : Rd B w A n z) (hm : m ≤ n) : Rd B w A m z := by
  rcases h with h | ⟨b, off, hA, hlt, hc⟩
  · exact .inl (by omega)
  · exact .inr ⟨b, off, hA, hlt, fun k hk => hc k (by omega)⟩
theorem later_trans {w u v : World} (h : Below w.heap.size w u) (h' : Below u.heap.size u v) : Below w.heap.size w v := h.trans (h'.mono h.size)
set_option maxRecDepth 20000 in
set_option maxHeartbeats 4000000 in
theorem folds_walk (A : Option Addr) (n c : Nat) (nb : Nat) (z : Nat → ByteArray) (w : World) (hn : n ≤ maxLen) (hzs : ∀ k, k < n → (z k).size ≤ maxLen) (hz : Rd w.heap.size w A n fun k => .string (z k)) (hnb : nb < 256) :
    Calls Try.prog 6 #[.slice A n c, .int .u8 nb] w (FinW w) := by
  have HA := Lib.hid awake_true
  have HZ := Lib.hid hz
  have HZS := Lib.hid hzs
  have HN := Lib.hid hn
  clear hz hzs hn
  obtain ⟨L, hL⟩ : ∃ L, L = min n 60 := ⟨_, rfl⟩
  have hL6 : L ≤ 60 := by omega
  have HL := Lib.hid hL
  clear hL
  obtain ⟨y, hy⟩ : ∃ y : Nat → ByteArray, y = fun k => cut5 (z k) := ⟨_, rfl⟩
  have HYS := Lib.hid (show ∀ k, mWords.sz (y k) ≤ 5 from fun k => by rw [hy]; exact cut5_size _)
  have HY := Lib.hid hy
  clear hy
  have hm5 : 5 * (L + 1) ≤ 4611686018427387903 := by omega
  obtain ⟨L1, hL1⟩ : ∃ L1, L1 = L + 1 := ⟨_, rfl⟩
  have HL1 := Lib.hid hL1
  have hLi : (L : Int) + 1 = (L1 : Int) := by omega
  have hLw : IntKind.i64.wrap (L1 : Int) = (L1 : Int) := by simp [IntKind.wrap, IntKind.bits, IntKind.signed]; omega
  have hLw' : IntKind.i64.wrap ((L : Int) + 1) = (L1 : Int) := by rw [hLi, hLw]
  have hL0 : ((L1 : Int) == 0) = false := by simp; omega
  have hL0' : ¬ (L1 : Int) = 0 := by omega
  obtain ⟨k, hk⟩ : ∃ k, k = nb % L1 := ⟨_, rfl⟩
  have hkL : k < L1 := by rw [hk]; exact Nat.mod_lt _ (by omega)
  have hri : (nb : Int) % (L1 : Int) = (k : Int) := by rw [hk]; rfl
  have hrt : (nb : Int).tmod (L1 : Int) = (k : Int) := by rw [hk]; rfl
  have hkw : IntKind.i64.wrap (k : Int) = (k : Int) := by simp [IntKind.wrap, IntKind.bits, IntKind.signed]; omega
  have hnw : IntKind.i64.wrap (nb : Int) = (nb : Int) := by simp [IntKind.wrap, IntKind.bits, IntKind.signed]; omega
  have neL : ((L1 : Int) != (L1 : Int)) = false := by simp
  have hL1b : L1 ≤ 61 := by omega
  clear hk hL1
  go_enter Try.func6, Try.ntmps6
  go_wp2_with fail
  refine (HA.out _).mono ?_
  rintro e w1 ⟨rfl, hb1⟩
  have HB1 := Lib.hid hb1
  clear hb1
  go_wp2_with fail
  refine (short_any A n c z w1 HN.out HZS.out ((HZ.out.later HB1.out).mono HB1.out.size)).mono ?_
  rintro e w2 ⟨A', c', rfl, hc', hb2, hr2⟩
  rw [← HL.out] at hc' hr2 ⊢
  have HB2 := Lib.hid (HB1.out.trans (hb2.mono HB1.out.size))
  have HR2 := Lib.hid (show Rd w2.heap.size w2 A' L fun k => .string (y k) by rw [HY.out]; exact hr2)
  clear hb2 hr2
  have hd2 : Below w2.heap.size w2 w2.drew := (Below.refl _ _).drew
  have C3 := Lib.hid (words_pre A' L c' 5 y w2.drew (by omega) ((HR2.out.later hd2).mono hd2.size) HYS.out hm5)
  rw [← HL1.out] at C3
  have D2 := Lib.hid hd2
  clear hd2
  go_wp2
  go_region_with (go_at_call 27; (with_reducible refine C3.out.mono ?_); rintro e w3 ⟨g3, r3, hg3, rfl, hb3, hr3, hs3, hc3⟩; have HB23 := Lib.hid (later_trans D2.out hb3); have HR3 := Lib.hid hr3; have HC3 := Lib.hid hc3; clear hb3 hr3 hc3 hs3 hg3)
  all_goals
    go_wp2_with fail
    go_loopw [29] (fun i wr => ∃ j : Nat, j ≤ L1 ∧ i = .int .i64 j ∧ Hid (Below w3.heap.size w3 wr)) (fun i _ => L1 - (intOf i).toNat)
    case atStart => exact ⟨0, Nat.zero_le _, rfl, Lib.hid (Below.refl _ _)⟩
    case round =>
      obtain ⟨i, hi, rfl, HB⟩ := hrel
      have HBw := Lib.hid (later_trans HB23.out (HB.out))
      by_cases hlt : i < L1
      · obtain ⟨X, hX⟩ : ∃ X, fo mWords y i = X := ⟨_, rfl⟩
        have hq1 : ∀ u, (later wr u).cell? ⟨g3, i, none⟩ = some (.string X) := fun u => (((HR3.out.below' HB.out).later u).cell i).trans (by rw [HC3.out i hlt, hX])
        have hic : i ≤ c' := by have := HL1.out; omega
        have ht : ∀ u cc, Calls Try.prog 28 #[.slice A' i cc] (later wr u) fun e w' => e = .returned (.string X) ∧ Below (later wr u).heap.size (later wr u) w' := fun u cc => by
          have hb := later_trans HBw.out (below_later wr u)
          have hp := ((HR2.out.later hb).mono hb.size)
          have hp' : Rd (later wr u).heap.size (later wr u) A' i fun k => .string (y k) := hp.less (by have := HL1.out; omega)
          have := text_later (c := cc) (m := 5) (by omega) hp' (fun k => HYS.out _) (Nat.le_trans (Nat.mul_le_mul_left _ (by omega)) (show 5 * 64 ≤ 4611686018427387903 by omega))
          rw [hX] at this
          exact this
        have HT := Lib.hid ht
        clear hX ht
        go_wp2
        refine wp_region_later (by kernel_rfl) (by kernel_rfl) ?_
        repeat (first | go_big_quiet_skip | (go_big_quiet_want; (go_big_quiet_op; first | go_big_quiet_on | go_big_quiet_call (with_reducible exact calls_later (HT.out _ _)))))
        refine wpQuiet_nil ?_
        rintro w4 ⟨u, rfl⟩
        clear hq1
        go_wp2
        go_roundw
        case rel => exact ⟨i + 1, by omega, by go_num, Lib.hid (HB.out.trans ((below_later wr u).mono HB.out.size))⟩
        case measure => simp [intOf]; try omega
      · obtain ⟨T, hT⟩ : ∃ T, fo mWords y L = T := ⟨_, rfl⟩
        obtain ⟨P, hP⟩ : ∃ P, fo mWords y k = P := ⟨_, rfl⟩
        obtain ⟨Q, hQ⟩ : ∃ Q, fo mWords (fun i => y (k + i)) (L - k) = Q := ⟨_, rfl⟩
        have hkl : k ≤ L := by have := HL1.out; omega
        have hkc : k ≤ c' := by omega
        have hkci : (k : Int) ≤ (c' : Int) := by omega
        have hPQ : P ++ Q = T := by
          rw [← hP, ← hQ, words_split, ← hT]; congr 1; omega
        have hPs : P.size ≤ 300 := by have h := fo_sz HYS.out k; rw [hP] at h; have h' : P.size ≤ 5 * k := h; omega
        have hQs : Q.size ≤ 300 := by have h := fo_sz (M := mWords) (z := fun i => y (k + i)) (m := 5) (fun i => HYS.out _) (L - k); rw [hQ] at h; have h' : Q.size ≤ 5 * (L - k) := h; omega
        have h64 : 5 * 64 ≤ 4611686018427387903 := by omega
        have FA := Lib.hid (fun (u : World) (cc : Nat) (hb : Below w2.heap.size w2 u) => by
          have := words_fold A' L cc 5 y u (by omega) ((HR2.out.later hb).mono hb.size) HYS.out hm5
          rw [hT] at this; exact this)
        have TA := Lib.hid (fun (u : World) (cc : Nat) (hb : Below w2.heap.size w2 u) => by
          have := text_later (c := cc) (m := 5) (by omega) ((HR2.out.later hb).mono hb.size) HYS.out hm5
          rw [hT] at this; exact this)
        have FB := Lib.hid (fun (u : World) (cc : Nat) (hb : Below w2.heap.size w2 u) => by
          have := words_fold A' k cc 5 y u (by omega) (((HR2.out.later hb).mono hb.size).less hkl) HYS.out (Nat.le_trans (Nat.mul_le_mul_left _ (by omega)) h64)
          rw [hP] at this; exact this)
        have FC := Lib.hid (fun (u : World) (cc : Nat) (hb : Below w2.heap.size w2 u) => by
          have := words_fold (if c' = k then A' else A'.map (fun x => x.add k)) (L - k) cc 5 (fun i => y (k + i)) u (by omega) (((HR2.out.later hb).mono hb.size).part hc' k (L - k) (by omega)) (fun i => HYS.out _) (Nat.le_trans (Nat.mul_le_mul_left _ (by omega)) h64)
          rw [hQ] at this; exact this)
        have FD := Lib.hid (fun (u : World) => by
          have := words_fold (some ⟨u.heap.size, 0, none⟩) 2 2 300 (fun i => if i = 0 then P else Q) (u.alloc (.cells #[.string P, .string Q] 9)) (by omega) ((Row.new u 9 #[.string P, .string Q]).rd (by simp) 0 2 _ (fun j hj => by
            match j, hj with
            | 0, _ => rfl
            | 1, _ => rfl)) (fun i => by show (if i = 0 then P else Q).size ≤ 300; split <;> assumption) (by omega)
          rw [show fo mWords (fun i => if i = 0 then P else Q) 2 = T by
            show (ByteArray.empty ++ P) ++ Q = T
            rw [ByteArray.empty_append, hPQ]] at this
          exact this)
        have BV := Lib.hid (HBw.out.drew)
        clear hT hP hQ hPQ hPs hQs
        clear HA HZ HZS HN HL HY HYS hm5 hLi hLw hLw' hL0 hL0' hri hrt hkw hnw neL HB1 HR2 HR3 HC3 D2 C3 HB HBw hi hL1b hL6 HL1 h64 hnb
        go_wp2
        have LBV := Lib.hid (Below.refl wr.heap.size wr).drew
        refine wp_region_mix (S := fun w' => ∃ u, w' = later wr u) (f := 22) [0, 1, 3] (by kernel_rfl) (by kernel_rfl) (by kernel_rfl) (fun c a d v w h => by cases d <;> exact h) ⟨_, (later_of LBV.out).symm⟩ (by kernel_rfl) ?_
        simp only [pickL, List.flatMap_cons, List.flatMap_nil, List.drop_succ_cons, List.drop_zero, List.take_succ_cons, List.take_zero, List.append_nil, List.cons_append, List.nil_append]
        repeat (first | go_big_quiet_skip | (go_big_quiet_want; (go_big_quiet_op; go_big_quiet_on)))
        refine wpQuiet_nil ?_
        refine wpAnyH_one (i := 2) (by kernel_rfl) ?_
        refine wpOp_enter (f := 29) (args := #[.agg #[], .slice A' L c']) 44 rfl rfl (by kernel_rfl) (by go_simp) (FA.out _ _ BV.out) ?_
        intro w4 hB4
        have B4 := Lib.hid (later_trans BV.out hB4)
        have LB4 := Lib.hid (later_trans LBV.out hB4)
        refine ⟨⟨_, (later_of LB4.out).symm⟩, ?_⟩
        refine wpAnyH_one (i := 4) (by kernel_rfl) ?_
        refine wpOp_enter (f := 28) (args := #[.slice A' L c']) 46 rfl rfl (by kernel_rfl) (by go_simp) (TA.out _ _ B4.out) ?_
        intro w5 hB5
        have B5 := Lib.hid (later_trans B4.out hB5)
        have LB5 := Lib.hid (later_trans LB4.out hB5)
        refine ⟨⟨_, (later_of LB5.out).symm⟩, ?_⟩
        refine wpAnyH_seg (f := 8) (by kernel_rfl) (fun c a d v w h => by cases d <;> exact h) ⟨_, (later_of LB5.out).symm⟩ [5, 6, 7, 8, 9, 10, 11, 13, 14, 15, 16, 20] _ _ (by kernel_rfl) ?_
        simp only [pickL, List.flatMap_cons, List.flatMap_nil, List.drop_succ_cons, List.drop_zero, List.take_succ_cons, List.take_zero, List.append_nil, List.cons_append, List.nil_append]
        simp only [Act.put, List.setIfInBounds_toArray, List.set_cons_succ, List.set_cons_zero]
        repeat (first | go_big_quiet_skip | (go_big_quiet_want; (go_big_quiet_op; go_big_quiet_on)))
        refine wpQuiet_nil ?_
        refine wpAnyH_one (i := 12) (by kernel_rfl) ?_
        refine wpOp_enter (f := 29) (args := #[.agg #[], .slice A' k c']) 54 rfl rfl (by kernel_rfl) (by go_simp) (FB.out _ _ B5.out) ?_
        intro w6 hB6
        have B6 := Lib.hid (later_trans B5.out hB6)
        have LB6 := Lib.hid (later_trans LB5.out hB6)
        refine ⟨⟨_, (later_of LB6.out).symm⟩, ?_⟩
        refine wpAnyH_one (i := 17) (by kernel_rfl) ?_
        refine wpOp_enter (f := 29) (args := #[.agg #[], .slice (if c' = k then A' else A'.map (fun x => x.add k)) (L - k) (c' - k)]) 59 rfl rfl (by kernel_rfl) (by go_simp) (FC.out _ _ B6.out) ?_
        intro w7 hB7
        have B7 := Lib.hid (later_trans B6.out hB7)
        have LB7 := Lib.hid (later_trans LB6.out hB7)
        refine ⟨⟨_, (later_of LB7.out).symm⟩, ?_⟩
        refine wpAnyH_one (i := 18) (by kernel_rfl) ?_
        refine wpOp_val (v := .slice (some ⟨w7.heap.size, 0, none⟩) 2 2) (w' := w7.alloc (.cells #[.string P, .string Q] 9)) 60 rfl rfl (by kernel_rfl) (by go_simp) ?_
        have B8 := Lib.hid (B7.out.alloc B7.out.size (.cells #[.string P, .string Q] 9))
        have LB8 := Lib.hid (LB7.out.alloc LB7.out.size (.cells #[.string P, .string Q] 9))
        refine ⟨⟨_, (later_of LB8.out).symm⟩, ?_⟩
        refine wpAnyH_one (i := 19) (by kernel_rfl) ?_
        refine wpOp_enter (f := 29) (args := #[.agg #[], .slice (some ⟨w7.heap.size, 0, none⟩) 2 2]) 61 rfl rfl (by kernel_rfl) (by go_simp) (FD.out w7) ?_
        intro w9 hB9
        have B9 := Lib.hid (later_trans B8.out hB9)
        have LB9 := Lib.hid (later_trans LB8.out hB9)
        refine ⟨⟨_, (later_of LB9.out).symm⟩, ?_⟩
        refine wpAnyH_one (i := 21) (by kernel_rfl) ?_
        refine wpOp_enter (f := 28) (args := #[.slice A' L c']) 63 rfl rfl (by kernel_rfl) (by go_simp) (TA.out _ _ B9.out) ?_
        intro w10 hB10
        have B10 := Lib.hid (later_trans B9.out hB10)
        have LB10 := Lib.hid (later_trans LB9.out hB10)
        refine ⟨⟨_, (later_of LB10.out).symm⟩, ?_⟩
        refine wpAnyH_seg (f := 0) (by kernel_rfl) (fun c a d v w h => by cases d <;> exact h) ⟨_, (later_of LB10.out).symm⟩ [22, 23, 24] _ _ (by kernel_rfl) ?_
        simp only [pickL, List.flatMap_cons, List.flatMap_nil, List.drop_succ_cons, List.drop_zero, List.take_succ_cons, List.take_zero, List.append_nil, List.cons_append, List.nil_append]
        simp only [Act.put, List.setIfInBounds_toArray, List.set_cons_succ, List.set_cons_zero]
        repeat (first | go_big_quiet_skip | (go_big_quiet_want; (go_big_quiet_op; go_big_quiet_on)))
        refine wpQuiet_nil ?_
        refine wpAnyH_done (by kernel_rfl) ?_ _
        go_wp2
        all_goals
          go_ret
          exact ⟨rfl, HB2.out.trans (B10.out.mono HB2.out.size)⟩
end Go.Proofs.Ytbiecpejpkgngaa
