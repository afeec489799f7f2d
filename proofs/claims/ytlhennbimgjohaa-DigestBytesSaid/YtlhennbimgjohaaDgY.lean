/-
  Package digest: numbers as bytes: putNumber, takeNumber; strings of bytes.
-/
import Derived.Test.YtlhennbimgjohaaDgRs
import Derived.Laws.BytesArg
namespace Go.Proofs.Ytlhennbimgjohaa
open Go.RowKit
/-- v without its lowest k bytes. -/
def dv (v : Int) (k : Nat) : Int := v / 256 ^ k
theorem dv_zero (v : Int) : dv v 0 = v := by unfold dv; simp
theorem pow256 (k : Nat) : (0 : Int) < 256 ^ k := Int.pow_pos (by omega)
theorem dv_step (v : Int) (k : Nat) : dv v (k + 1) = dv v k / 256 := by
  unfold dv; rw [Int.pow_succ, ← Int.ediv_ediv_of_nonneg (Int.le_of_lt (pow256 k))]
theorem dv_ge {v : Int} (h : 0 ≤ v) (k : Nat) : 0 ≤ dv v k := Int.ediv_nonneg h (Int.le_of_lt (pow256 k))
theorem dv_le {v : Int} (h : 0 ≤ v) (k : Nat) : dv v k ≤ v := by unfold dv; exact Int.ediv_le_self _ h
/-- Byte k of the eight of v, the most significant first. -/
def be (v : Int) (k : Nat) : Int := dv v (7 - k) % 256
theorem be_in (v : Int) (n : Nat) : InB (be v) n := fun k _ => by unfold be; omega
/-- The number of the first n bytes. -/
def tn (z : Nat → Int) : Nat → Int
  | 0 => 0
  | k + 1 => tn z k * 256 + z k
theorem tn_be {v : Int} (h0 : 0 ≤ v) (h1 : v < 18446744073709551616) : tn (be v) 8 = v := by
  simp only [tn, be, dv, Nat.reduceSub, Int.reducePow]
  omega
theorem tn_bound {z : Nat → Int} {n : Nat} (h : InB z n) : ∀ k, k ≤ n → 0 ≤ tn z k ∧ tn z k < 256 ^ k
  | 0, _ => ⟨Int.le_refl _, by show (0 : Int) < _; exact pow256 0⟩
  | k + 1, hk => by
    have ih := tn_bound h k (by omega)
    have hb := h k (by omega)
    rw [tn, Int.pow_succ]
    generalize (256 : Int) ^ k = p at ih
    omega
theorem be_tn {z : Nat → Int} (h : InB z 8) : ∀ k, k < 8 → be (tn z 8) k = z k := by
  have h0 := h 0 (by omega); have h1 := h 1 (by omega); have h2 := h 2 (by omega); have h3 := h 3 (by omega)
  have h4 := h 4 (by omega); have h5 := h 5 (by omega); have h6 := h 6 (by omega); have h7 := h 7 (by omega)
  intro k hk
  simp only [tn, be, dv]
  match k, hk with
  | 0, _ => simp only [Nat.reduceSub, Int.reducePow]; omega
  | 1, _ => simp only [Nat.reduceSub, Int.reducePow]; omega
  | 2, _ => simp only [Nat.reduceSub, Int.reducePow]; omega
  | 3, _ => simp only [Nat.reduceSub, Int.reducePow]; omega
  | 4, _ => simp only [Nat.reduceSub, Int.reducePow]; omega
  | 5, _ => simp only [Nat.reduceSub, Int.reducePow]; omega
  | 6, _ => simp only [Nat.reduceSub, Int.reducePow]; omega
  | 7, _ => simp only [Nat.reduceSub, Int.reducePow]; omega
theorem tn_congr {z z' : Nat → Int} : ∀ {n : Nat}, (∀ k, k < n → z k = z' k) → tn z n = tn z' n
  | 0, _ => rfl
  | n + 1, h => by rw [tn, tn, h n (by omega), tn_congr fun k hk => h k (by omega)]
/-- The sixteen bytes of a digest; the two numbers of sixteen bytes. -/
def pb (f : Int × Int) (k : Nat) : Int := if k < 8 then be (R f.1) k else be (R f.2) (k - 8)
def tk (z : Nat → Int) : Int × Int := (tn z 8, tn (fun k => z (8 + k)) 8)
theorem pb_in (f : Int × Int) (n : Nat) : InB (pb f) n := fun k _ => by
  unfold pb
  by_cases h : k < 8
  · rw [if_pos h]; exact be_in _ 8 k h
  · rw [if_neg h]; exact be_in _ (k - 8 + 1) _ (by omega)
theorem tk_pb (f : Int × Int) : tk (pb f) = rd f := by
  refine Prod.ext ?_ ?_
  · show tn (pb f) 8 = R f.1
    rw [tn_congr (z' := be (R f.1)) fun k hk => by unfold pb; rw [if_pos hk]]
    exact tn_be (R_ge _) (R_64 _)
  · show tn (fun k => pb f (8 + k)) 8 = R f.2
    rw [tn_congr (z' := be (R f.2)) fun k hk => by unfold pb; rw [if_neg (by omega), show 8 + k - 8 = k by omega]]
    exact tn_be (R_ge _) (R_64 _)
theorem pb_tk {z : Nat → Int} (h : InB z 16) (hr : InR (tk z)) : ∀ k, k < 16 → pb (tk z) k = z k := fun k hk => by
  unfold pb
  rw [hr.1, hr.2]
  by_cases c : k < 8
  · rw [if_pos c]; exact be_tn (fun k hk => h k (by omega)) k c
  · rw [if_neg c]
    have := be_tn (z := fun k => z (8 + k)) (fun k hk => h (8 + k) (by omega)) (k - 8) (by omega)
    rw [show 8 + (k - 8) = k by omega] at this
    exact this
theorem tk_64 {z : Nat → Int} (h : InB z 16) : In64 (tk z) := by
  have h1 := tn_bound (z := z) (n := 8) (fun k hk => h k (by omega)) 8 (by omega)
  have h2 := tn_bound (z := fun k => z (8 + k)) (n := 8) (fun k hk => h (8 + k) (by omega)) 8 (by omega)
  simp only [Int.reducePow] at h1 h2
  exact ⟨h1.1, h1.2, h2.1, h2.2⟩

set_option maxRecDepth 20000 in
set_option maxHeartbeats 1600000 in
theorem put_number (g off cap : Nat) (t : TypeId) (c : Array Value) (v : Int) (w : World) (h : Row w g t c) (hoff : off + 8 ≤ c.size) (v0 : 0 ≤ v) (v1 : v < 18446744073709551616) :
    Calls Try.prog 40 #[.slice (some ⟨g, off, none⟩) 8 cap, .int .u64 v] w fun e w' => e = .returned (.tuple #[]) ∧ w.grownBy w' (some g) ∧ ∃ c', Row w' g t c' ∧ Upd c c' off (off + 8) (fun j => .int .u8 (be v (j - off))) := by
  have HV := Lib.hid (And.intro v0 v1)
  have HO := Lib.hid hoff
  have H := Lib.hid h
  clear v0 v1 hoff h
  go_enter Try.func40, Try.ntmps40
  go_wp2
  go_loopw [1, 4] (fun x i wr => ∃ k : Nat, k ≤ 8 ∧ i = .int .i64 ((k : Int) - 1) ∧ x = .int .u64 (dv v (8 - k)) ∧ Hid (w.grownBy wr (some g)) ∧ ∃ c', Hid (Row wr g t c') ∧ Hid (Upd c c' (off + k) (off + 8) (fun j => .int .u8 (be v (j - off))))) (fun _ i _ => (intOf i + 1).toNat)
  case atStart => exact ⟨8, Nat.le_refl _, rfl, by rw [Nat.sub_self, dv_zero], Lib.hid (World.grownBy.refl _ _), c, H, Lib.hid (Upd.none _ _ _ (Nat.le_refl _) _)⟩
  case round =>
    obtain ⟨k, hk, rfl, rfl, HG, c', HR, HU⟩ := hrel
    rcases Nat.eq_zero_or_pos k with rfl | hpos
    · go_wp2
      refine bodyPost_end (results_none rfl _ _ _) rfl ⟨rfl, HG.out, c', HR.out, by have := HU.out; rwa [Nat.add_zero] at this⟩
    · obtain ⟨j, rfl⟩ : ∃ j, k = j + 1 := ⟨k - 1, by omega⟩
      have hi : (((j + 1 : Nat) : Int) - 1) = (j : Int) := by omega
      rw [hi]
      obtain ⟨y, hy⟩ : ∃ y, y = dv v (8 - (j + 1)) := ⟨_, rfl⟩
      rw [← hy]
      have y0 : 0 ≤ y := by rw [hy]; exact dv_ge HV.out.1 _
      have y1 : y < 18446744073709551616 := by rw [hy]; exact Int.lt_of_le_of_lt (dv_le HV.out.1 _) HV.out.2
      have HN := Lib.hid (show y / 256 = dv v (8 - j) by rw [hy, ← dv_step]; congr 1; omega)
      have HE := Lib.hid (show y % 256 = be v j by unfold be; rw [hy, show 8 - (j + 1) = 7 - j by omega])
      have hsz : off + j < c'.size := by have := HU.out.1; have := HO.out; omega
      obtain ⟨u, hu⟩ : ∃ u, c'[off + j]? = some u := ⟨_, (Array.getElem?_eq_some_iff.2 ⟨hsz, rfl⟩)⟩
      have hcell : wr.cell? ⟨g, off + j, none⟩ = some u := (HR.out.cell _).trans hu
      have hf := HR.out.frozen (off + j)
      have b1 : (0 : Int) ≤ (j : Int) := by omega
      have b2 : (j : Int) < 8 := by omega
      clear hy hu hi
      go_wp2
      go_roundw
      case rel => exact ⟨j, by omega, by go_num, by rw [← HN.out], Lib.hid (grown_set HG.out rfl _), _, Lib.hid (HR.out.set (off + j) _), Lib.hid ((show Upd c c' (off + j + 1) (off + 8) _ from HU.out).down (by omega) (by have := HU.out.1; omega) (by rw [Nat.add_sub_cancel_left, ← HE.out]))⟩
      case measure => simp [intOf]; try omega
theorem or_byte (h l : Nat) (hh : h < 72057594037927936) (hl : l < 256) : bits .or .u64 ((h : Int) * 256) (l : Int) = (h : Int) * 256 + l := by
  have e : ((h : Int) * 256) = ((h * 256 : Nat) : Int) := by omega
  rw [e, bits_or_u64_nat (h * 256) l (by omega) (by omega)]
  have := Nat.two_pow_add_eq_or_of_lt (i := 8) (show l < 2 ^ 8 from hl) h
  rw [show 2 ^ 8 * h = h * 256 by omega] at this
  rw [← this]; omega
theorem or_byte' {h l : Int} (h0 : 0 ≤ h) (h1 : h < 72057594037927936) (l0 : 0 ≤ l) (l1 : l < 256) : bits .or .u64 (h * 256) l = h * 256 + l := by
  obtain ⟨m, rfl⟩ := Int.eq_ofNat_of_zero_le h0
  obtain ⟨n, rfl⟩ := Int.eq_ofNat_of_zero_le l0
  exact or_byte m n (by omega) (by omega)
set_option maxRecDepth 20000 in
set_option maxHeartbeats 1600000 in
theorem take_number (A : Option Addr) (cap : Nat) (z : Nat → Int) (w : World) (hz : Rd w.heap.size w A 8 (u8 z)) (hb : InB z 8) :
    Calls Try.prog 41 #[.slice A 8 cap] w fun e w' => e = .returned (.int .u64 (tn z 8)) ∧ w = w' := by
  have HZ := Lib.hid hz
  have HB := Lib.hid hb
  clear hz hb
  go_enter Try.func41, Try.ntmps41
  go_wp2
  go_loop [3, 8] (fun t i => ∃ (k : Nat), k ≤ 8 ∧ i = .int .i64 k ∧ t = .int .u64 (tn z k)) (fun _ i => 8 - (intOf i).toNat)
  case atStart => exact ⟨0, Nat.zero_le _, rfl, rfl⟩
  case round =>
    obtain ⟨k, hk, rfl, rfl⟩ := hrel
    by_cases hlt : k < 8
    · obtain ⟨b, off, rfl, hbl, hc⟩ := HZ.out.some hlt
      have hbb := tn_bound HB.out k (by omega)
      obtain ⟨v, hv⟩ : ∃ v, v = tn z k := ⟨_, rfl⟩
      obtain ⟨x, hx⟩ : ∃ x, x = z k := ⟨_, rfl⟩
      have hcell : w.cell? ⟨b, off + k, none⟩ = some (.int .u8 x) := by rw [hx]; exact hc k hlt
      obtain ⟨c0, c1⟩ := HB.out k hlt
      rw [← hv] at hbb ⊢
      rw [← hx] at c0 c1
      have v0 : 0 ≤ v := hbb.1
      have v1 : v < 72057594037927936 := by
        refine Int.lt_of_lt_of_le hbb.2 ?_
        have : (256 : Nat) ^ k ≤ 256 ^ 7 := Nat.pow_le_pow_right (by omega) (by omega)
        have h2 : ((256 : Nat) ^ k : Int) ≤ ((256 ^ 7 : Nat) : Int) := by exact_mod_cast this
        simpa using h2
      have HN := Lib.hid (show tn z (k + 1) = v * 256 + x by rw [tn, ← hv, ← hx])
      have hor := or_byte' v0 v1 c0 c1
      have hwr : IntKind.u64.wrap (v * 256) = v * 256 := w64 (by omega) (by omega)
      clear hc hbb hv hx
      go_wp2
      go_round
      case rel => exact ⟨k + 1, by omega, by go_num, by rw [HN.out]⟩
      case measure => simp [intOf]; omega
    · obtain rfl : k = 8 := by omega
      go_wp2
      go_ret
      exact ⟨rfl, rfl⟩
/-- The string of n bytes. -/
def strZ (z : Nat → Int) (n : Nat) : ByteArray := strOfNums ((List.range n).map z)
theorem strZ_congr {z z' : Nat → Int} {n : Nat} (h : ∀ k, k < n → z k = z' k) : strZ z n = strZ z' n := by
  unfold strZ
  congr 1
  exact List.map_congr_left fun k hk => h k (List.mem_range.1 hk)
theorem run_string {w : World} {A : Option Addr} {n c : Nat} {z : Nat → Int} (hn : 0 < n) (hz : Rd w.heap.size w A n (u8 z)) : (convert 29 9 (.slice A n c)).run Try.prog w = .ok (.string (strZ z n)) w := by
  obtain ⟨b, off, rfl, hbl, hc⟩ := hz.some hn
  exact run_convert_bytes_arg w 29 5 Try.underlying29 Try.underlying5 b off n c ((List.range n).map z) (by simp) (fun i hi => by rw [hc i hi]; simp [u8, hi]) 9 Try.underlying9
theorem bytes_same {A B : Option Addr} {n c c' : Nat} {z z' : Nat → Int} {w : World} (hn : 0 < n) (hz : Rd w.heap.size w A n (u8 z)) (hz' : Rd w.heap.size w B n (u8 z')) (h : ∀ k, k < n → z k = z' k) :
    Calls Try.prog 27 #[.slice A n c, .slice B n c'] w fun e w' => e = .returned (.bool true) ∧ w = w' := by
  have c1 := run_string (c := c) hn hz
  have c2 := run_string (c := c') hn hz'
  rw [← strZ_congr h] at c2
  obtain ⟨S, hS⟩ : ∃ S, S = strZ z n := ⟨_, rfl⟩
  rw [← hS] at c1 c2
  clear hz hz' h hS
  go_enter Try.func27, Try.ntmps27
  go_wp2
  go_ret
  exact ⟨rfl, rfl⟩
end Go.Proofs.Ytlhennbimgjohaa
