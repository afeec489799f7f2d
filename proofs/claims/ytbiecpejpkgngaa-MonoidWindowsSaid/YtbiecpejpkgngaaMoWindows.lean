/-
  MonoidWindows: the walk.
-/
import Derived.Test.YtbiecpejpkgngaaMoAwake
import Derived.Test.YtbiecpejpkgngaaMoText
import Derived.Deep.MidRow
namespace Go.Proofs.Ytbiecpejpkgngaa
open Go.RowKit
theorem words_fo (z : Nat → ByteArray) (n : Nat) : fo mWords z (n + 1) = gl mWords z 0 n := fo_gl n fun k _ => by show ByteArray.empty ++ z k = z k; exact ByteArray.empty_append
theorem text_later {A : Option Addr} {n c m : Nat} {z : Nat → ByteArray} {w : World} (hn : n ≤ 140737488355328) (hz : Rd w.heap.size w A n fun k => .string (z k)) (hs : ∀ k, mWords.sz (z k) ≤ m) (hm : m * (n + 1) ≤ 4611686018427387903) :
    Calls Try.prog 28 #[.slice A n c] w fun e w' => e = .returned (.string (fo mWords z n)) ∧ Below w.heap.size w w' :=
  (text_any A n c m z w hn hz hs hm).mono fun e w' ⟨he, hw⟩ => ⟨he, hw ▸ Below.refl _ _⟩
def FinW (w : World) (e : Ending) (w' : World) : Prop := e = .returned (.bool true) ∧ Below w.heap.size w w'
set_option maxRecDepth 20000 in
set_option maxHeartbeats 1600000 in
theorem windows_walk (A : Option Addr) (n c : Nat) (N : Int) (z : Nat → ByteArray) (w : World) (hn : n ≤ maxLen) (hzs : ∀ k, k < n → (z k).size ≤ maxLen) (hz : Rd w.heap.size w A n fun k => .string (z k)) (hN : (Lit.int .i64 N).wf = true) :
    Calls Try.prog 8 #[.slice A n c, .int .i64 N] w (FinW w) := by
  have HA := Lib.hid awake_true
  have HZ := Lib.hid hz
  have HZS := Lib.hid hzs
  have HN := Lib.hid hn
  clear hz hzs hn
  obtain ⟨L, hL⟩ : ∃ L, L = min n 60 := ⟨_, rfl⟩
  have hL6 : L ≤ 60 := by omega
  have HL := Lib.hid hL
  clear hL
  obtain ⟨y, hy⟩ : ∃ y : Nat → ByteArray, y = fun k => cut5 (z k) := ⟨_, rfl⟩
  have HYS := Lib.hid (show ∀ k, mWords.sz (y k) ≤ 5 from fun k => by rw [hy]; exact cut5_size _)
  have HY := Lib.hid hy
  clear hy
  have hm5 : 5 * (L + 1) ≤ 4611686018427387903 := by omega
  by_cases ho : N < 1 ∨ (L : Int) < N
  · have HO := Lib.hid ho
    by_cases h1 : N < 1
    all_goals
      go_enter Try.func8, Try.ntmps8
      go_wp2_with fail
      refine (HA.out _).mono ?_
      rintro e w1 ⟨rfl, hb1⟩
      have HB1 := Lib.hid hb1
      clear hb1
      go_wp2_with fail
      refine (short_any A n c z w1 HN.out HZS.out ((HZ.out.later HB1.out).mono HB1.out.size)).mono ?_
      rintro e w2 ⟨A', c', rfl, hc', hb2, hr2⟩
      rw [← HL.out]
      have HB2 := Lib.hid (HB1.out.trans (hb2.mono HB1.out.size))
      clear hc' hb2 hr2
      go_wp2_with fail
      refine (words_win_none _ _ _ _ _ HO.out).mono ?_
      rintro e w3 ⟨rfl, hb3⟩
      have HB3 := Lib.hid (HB2.out.trans (hb3.mono HB2.out.size))
      clear hb3
      go_wp2
      go_ret
      exact ⟨rfl, HB3.out⟩
  · obtain ⟨M, rfl⟩ : ∃ M : Nat, N = (M : Int) := ⟨N.toNat, by omega⟩
    have hM1 : 1 ≤ M := by omega
    have hML : M ≤ L := by omega
    clear ho
    go_enter Try.func8, Try.ntmps8
    go_wp2_with fail
    refine (HA.out _).mono ?_
    rintro e w1 ⟨rfl, hb1⟩
    have HB1 := Lib.hid hb1
    clear hb1
    go_wp2_with fail
    refine (short_any A n c z w1 HN.out HZS.out ((HZ.out.later HB1.out).mono HB1.out.size)).mono ?_
    rintro e w2 ⟨A', c', rfl, hc', hb2, hr2⟩
    rw [← HL.out] at hc' hr2 ⊢
    have HB2 := Lib.hid (HB1.out.trans (hb2.mono HB1.out.size))
    have HR2 := Lib.hid (show Rd w2.heap.size w2 A' L fun k => .string (y k) by rw [HY.out]; exact hr2)
    clear hb2 hr2
    obtain ⟨K, hK⟩ : ∃ K, K = L - M + 1 := ⟨_, rfl⟩
    have hKi : (L : Int) - (M : Int) + 1 = (K : Int) := by omega
    have C3 := Lib.hid (words_win A' L c' M 5 y w2 hM1 hML (by omega) hc' HR2.out HYS.out hm5)
    rw [← hK] at C3
    have HK := Lib.hid hK
    have hKL : K + M = L + 1 := by omega
    have hK6 : K ≤ 60 := by omega
    have neK : ((K : Int) != (K : Int)) = false := by simp
    clear hK
    go_wp2_with fail
    refine C3.out.mono ?_
    rintro e w3 ⟨g3, r3, hg3, rfl, hb3, hr3, hs3, hc3⟩
    have HB3 := Lib.hid (HB2.out.trans (hb3.mono HB2.out.size))
    have HR3 := Lib.hid hr3
    have HC3 := Lib.hid hc3
    have HB23 := Lib.hid hb3
    clear hb3 hr3 hc3 hs3 hg3 C3
    go_wp2_with fail
    go_loopw [36] (fun i wr => ∃ j : Nat, j ≤ K ∧ i = .int .i64 j ∧ Hid (Below w3.heap.size w3 wr)) (fun i _ => K - (intOf i).toNat)
    case atStart => exact ⟨0, Nat.zero_le _, rfl, Lib.hid (Below.refl _ _)⟩
    case round =>
      obtain ⟨i, hi, rfl, HB⟩ := hrel
      have HBw := Lib.hid (HB3.out.trans (HB.out.mono HB3.out.size))
      by_cases hlt : i < K
      · have HB2w := Lib.hid (HB23.out.trans (HB.out.mono HB23.out.size))
        obtain ⟨b', o', rfl, hbB, hcell⟩ := HR2.out.some (k := 0) (by omega)
        clear hcell
        obtain ⟨q, hq⟩ : ∃ q, q = i + M := ⟨_, rfl⟩
        have hqi : (i : Int) + (M : Int) = (q : Int) := by omega
        have hwq : IntKind.i64.wrap (q : Int) = (q : Int) := by simp [IntKind.wrap, IntKind.bits, IntKind.signed]; omega
        have hiq : i ≤ q := by omega
        have hqc : q ≤ c' := by omega
        have hic : ¬ c' = i := by omega
        obtain ⟨X, hX⟩ : ∃ X, gl mWords y i (M - 1) = X := ⟨_, rfl⟩
        have hq1 : ∀ u, (later wr u).cell? ⟨g3, i, none⟩ = some (.string X) := fun u => (((HR3.out.below' HB.out).later u).cell i).trans (by rw [HC3.out i hlt, hX])
        have hqs : q - i = M := by omega
        have ht : ∀ u cc, Calls Try.prog 28 #[.slice (some ⟨b', o' + i, none⟩) (q - i) cc] (later wr u) fun e w' => e = .returned (.string X) ∧ Below (later wr u).heap.size (later wr u) w' := fun u cc => by
          have hb := HB2w.out.trans ((below_later wr u).mono HB2w.out.size)
          have hp := ((HR2.out.later hb).mono hb.size).part' i (q - i) (by omega)
          have hp' : Rd (later wr u).heap.size (later wr u) (some ⟨b', o' + i, none⟩) (q - i) fun k => .string (y (i + k)) := by
            have e : Option.map (fun x => x.add i) (some (⟨b', o', none⟩ : Addr)) = some ⟨b', o' + i, none⟩ := by simp [Addr.add_mid]
            rw [e] at hp; exact hp
          have := text_later (c := cc) (m := 5) (by omega) hp' (fun k => HYS.out _) (Nat.le_trans (Nat.mul_le_mul_left _ (by omega)) hm5)
          rw [hqs, show M = (M - 1) + 1 by omega, words_fo, gl_shift, show i + 0 = i from rfl, hX] at this
          rw [hqs, show M = (M - 1) + 1 by omega]
          exact this
        have HT := Lib.hid ht
        clear hX ht hq hqs
        go_wp2
        refine wp_region_later (by kernel_rfl) (by kernel_rfl) ?_
        repeat (first | go_big_quiet_skip | (go_big_quiet_want; (go_big_quiet_op; first | go_big_quiet_on | go_big_quiet_call (with_reducible exact calls_later (HT.out _ _)))))
        refine wpQuiet_nil ?_
        rintro w4 ⟨u, rfl⟩
        clear hq1
        go_wp2
        go_roundw
        case rel => exact ⟨i + 1, by omega, by go_num, Lib.hid (HB.out.trans ((below_later wr u).mono HB.out.size))⟩
        case measure => simp [intOf]; try omega
      · go_wp2
        go_ret
        exact ⟨rfl, HBw.out⟩
end Go.Proofs.Ytbiecpejpkgngaa
