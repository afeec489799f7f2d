/-
  Package weight: the values as plain arithmetic: the join, its laws, the weight of a text, powers.
-/
import Derived.Test.YtgjhlmmhpcbnaaaDgE
import Derived.Test.YtgjhlmmhpcbnaaaDgC
import Derived.Test.YtgjhlmmhpcbnaaaLenSum
namespace Go.Proofs.Ytgjhlmmhpcbnaaa
open Go.RowKit
structure Wt where
  l : Int
  n : Int
  h : Int
  t : Int
  d : Int × Int
def wc (r : Wt) : Array Value := #[.int .i64 r.l, .int .i64 r.n, .int .i64 r.h, .int .i64 r.t, .int .u64 r.d.1, .int .u64 r.d.2]
def wU : Wt := ⟨0, 0, 0, 0, mDig.e⟩
def wZ : Wt := ⟨0, 0, 0, 0, (0, 0)⟩
def wj (a b : Wt) : Wt := ⟨a.l + b.l, a.n + b.n, if a.n = 0 then a.l + b.h else a.h, if b.n = 0 then b.l + a.t else b.t, mDig.j a.d b.d⟩
def lw (c : Int) : Wt := if c = 10 then ⟨1, 1, 0, 0, lt c⟩ else ⟨1, 0, 1, 1, lt c⟩
def I64 (x : Int) : Prop := -9223372036854775808 ≤ x ∧ x ≤ 9223372036854775807
def W64 (r : Wt) : Prop := I64 r.l ∧ I64 r.n ∧ I64 r.h ∧ I64 r.t ∧ In64 r.d
def Lines (l n h t : Int) : Prop := (n = 0 ∧ h = l ∧ t = l) ∨ (n = 1 ∧ 0 ≤ h ∧ 0 ≤ t ∧ h + t + 1 = l) ∨ (2 ≤ n ∧ 0 ≤ h ∧ 0 ≤ t ∧ h + t + n ≤ l)
/-- Shaped as a weight, of whatever length. -/
structure WL (r : Wt) : Prop where
  l0 : 0 ≤ r.l
  ln : Lines r.l r.n r.h r.t
  ir : InR r.d
def sc (l : Int) : Int := pw 1103515245 l
structure Good (r : Wt) : Prop where
  l0 : 0 ≤ r.l
  l1 : r.l ≤ 1152921504606846976
  ln : Lines r.l r.n r.h r.t
  v0 : 0 ≤ r.d.1
  v1 : r.d.1 < 2305843009213693951
  s : r.d.2 = sc r.l
  e : r.l = 0 → r.d.1 = 0
theorem sc_R (l : Int) : R (sc l) = sc l := R_R _
theorem Good.wl {r : Wt} (g : Good r) : WL r := ⟨g.l0, g.ln, R_id g.v0 g.v1, by rw [g.s, sc_R]⟩
theorem Lines.in {l n h t : Int} (g : Lines l n h t) (h0 : 0 ≤ l) : 0 ≤ n ∧ n ≤ l ∧ 0 ≤ h ∧ h ≤ l ∧ 0 ≤ t ∧ t ≤ l := by
  unfold Lines at g; omega
theorem WL.n0 {r : Wt} (g : WL r) : 0 ≤ r.n := (g.ln.in g.l0).1
theorem Good.in {r : Wt} (g : Good r) : 0 ≤ r.n ∧ r.n ≤ r.l ∧ 0 ≤ r.h ∧ r.h ≤ r.l ∧ 0 ≤ r.t ∧ r.t ≤ r.l := g.ln.in g.l0
theorem Good.w64 {r : Wt} (g : Good r) : W64 r := by
  have h := g.in
  have h1 := g.l1
  unfold W64 I64
  refine ⟨?_, ?_, ?_, ?_, g.wl.ir.in64⟩ <;> omega
theorem wl_j {a b : Wt} (ga : WL a) (gb : WL b) : WL (wj a b) := by
  have h1 := ga.l0; have h2 := gb.l0; have h3 := ga.ln; have h4 := gb.ln
  unfold Lines at h3 h4
  refine ⟨?_, ?_, inR_j _ _⟩
  · show 0 ≤ a.l + b.l; omega
  · show Lines (a.l + b.l) (a.n + b.n) (if a.n = 0 then a.l + b.h else a.h) (if b.n = 0 then b.l + a.t else b.t)
    unfold Lines
    by_cases e1 : a.n = 0 <;> by_cases e2 : b.n = 0 <;> simp only [e1, e2, if_true, if_false] <;> omega
theorem wl_U : WL wU := ⟨Int.le_refl _, .inl ⟨rfl, rfl, rfl⟩, inR_e⟩
theorem wl_lw {c : Int} (h0 : 0 ≤ c) (h1 : c < 256) : WL (lw c) := by
  unfold lw
  by_cases e : c = 10
  · rw [if_pos e]; exact ⟨by show (0 : Int) ≤ 1; omega, .inr (.inl ⟨rfl, by show (0 : Int) ≤ 0; omega, by show (0 : Int) ≤ 0; omega, rfl⟩), inR_lt h0 h1⟩
  · rw [if_neg e]; exact ⟨by show (0 : Int) ≤ 1; omega, .inl ⟨rfl, rfl, rfl⟩, inR_lt h0 h1⟩
theorem Wt.ext' {a b : Wt} (h1 : a.l = b.l) (h2 : a.n = b.n) (h3 : a.h = b.h) (h4 : a.t = b.t) (h5 : a.d = b.d) : a = b := by
  cases a; cases b; simp only at h1 h2 h3 h4 h5; subst h1 h2 h3 h4 h5; rfl
theorem wj_assoc {a b c : Wt} (ga : 0 ≤ a.n) (gb : 0 ≤ b.n) (gc : 0 ≤ c.n) : wj (wj a b) c = wj a (wj b c) := by
  refine Wt.ext' ?_ ?_ ?_ ?_ (mDig.assoc _ _ _)
  · show a.l + b.l + c.l = a.l + (b.l + c.l); omega
  · show a.n + b.n + c.n = a.n + (b.n + c.n); omega
  · show (if a.n + b.n = 0 then a.l + b.l + c.h else if a.n = 0 then a.l + b.h else a.h) = if a.n = 0 then a.l + (if b.n = 0 then b.l + c.h else b.h) else a.h
    by_cases e1 : a.n = 0 <;> by_cases e2 : b.n = 0
    · rw [if_pos (by omega), if_pos e1, if_pos e2]; omega
    · rw [if_neg (by omega), if_pos e1, if_pos e1, if_neg e2]
    · rw [if_neg (by omega), if_neg e1, if_neg e1]
    · rw [if_neg (by omega), if_neg e1, if_neg e1]
  · show (if c.n = 0 then c.l + (if b.n = 0 then b.l + a.t else b.t) else c.t) = if b.n + c.n = 0 then b.l + c.l + a.t else if c.n = 0 then c.l + b.t else c.t
    by_cases e1 : c.n = 0 <;> by_cases e2 : b.n = 0
    · rw [if_pos e1, if_pos e2, if_pos (by omega)]; omega
    · rw [if_pos e1, if_neg e2, if_neg (by omega), if_pos e1]
    · rw [if_neg e1, if_neg (by omega), if_neg e1]
    · rw [if_neg e1, if_neg (by omega), if_neg e1]
theorem wj_right {a : Wt} (g : WL a) : wj a wU = a := by
  have h := g.ln; unfold Lines at h
  refine Wt.ext' ?_ ?_ ?_ ?_ (dg_right g.ir)
  · show a.l + 0 = a.l; omega
  · show a.n + 0 = a.n; omega
  · show (if a.n = 0 then a.l + 0 else a.h) = a.h
    by_cases e : a.n = 0
    · rw [if_pos e]; omega
    · rw [if_neg e]
  · show (if (0 : Int) = 0 then 0 + a.t else 0) = a.t
    rw [if_pos rfl]; omega
theorem wj_left {a : Wt} (g : WL a) : wj wU a = a := by
  have h := g.ln; unfold Lines at h
  refine Wt.ext' ?_ ?_ ?_ ?_ (dg_left g.ir)
  · show 0 + a.l = a.l; omega
  · show 0 + a.n = a.n; omega
  · show (if (0 : Int) = 0 then 0 + a.h else 0) = a.h
    rw [if_pos rfl]; omega
  · show (if a.n = 0 then a.l + 0 else a.t) = a.t
    by_cases e : a.n = 0
    · rw [if_pos e]; omega
    · rw [if_neg e]
theorem sc_add {a b : Int} (ha : 0 ≤ a) (hb : 0 ≤ b) : sc (a + b) = mP (sc a) (sc b) := pw_add _ ha hb
theorem sc_zero : sc 0 = 1 := by unfold sc pw; rw [show (0 : Int).toNat = 0 from rfl, Int.pow_zero]; rfl
theorem good_j {a b : Wt} (ga : Good a) (gb : Good b) (h : a.l + b.l ≤ 1152921504606846976) : Good (wj a b) := by
  have w := wl_j ga.wl gb.wl
  refine ⟨w.l0, h, w.ln, R_ge _, R_lt _, ?_, fun e => ?_⟩
  · show mP a.d.2 b.d.2 = sc (a.l + b.l)
    rw [ga.s, gb.s, sc_add ga.l0 gb.l0]
  · have e' : a.l + b.l = 0 := e
    have h1 := ga.l0; have h2 := gb.l0
    show aP (mP a.d.1 b.d.2) b.d.1 = 0
    rw [ga.e (by omega), gb.e (by omega)]
    unfold aP mP; rw [Int.zero_mul]; rfl
theorem good_U : Good wU := ⟨Int.le_refl _, by decide, .inl ⟨rfl, rfl, rfl⟩, Int.le_refl _, by decide, sc_zero.symm, fun _ => rfl⟩
theorem good_zero {r : Wt} (g : Good r) (h : r.l = 0) : r = wU := by
  have hl := g.ln; unfold Lines at hl
  have hs := g.s
  rw [h, sc_zero] at hs
  refine Wt.ext' h ?_ ?_ ?_ (Prod.ext (g.e h) hs)
  · show r.n = 0; omega
  · show r.h = 0; omega
  · show r.t = 0; omega

/-! ### Texts -/
def wx (z : Nat → Int) : Nat → Wt
  | 0 => wU
  | k + 1 => wj (wx z k) (lw (z k))
theorem lw_l (c : Int) : (lw c).l = 1 := by unfold lw; split <;> rfl
theorem lw_d (c : Int) : (lw c).d = lt c := by unfold lw; split <;> rfl
theorem wx_l (z : Nat → Int) : ∀ k : Nat, (wx z k).l = k
  | 0 => rfl
  | k + 1 => by show (wx z k).l + (lw (z k)).l = _; rw [wx_l z k, lw_l]; omega
theorem wx_d (z : Nat → Int) : ∀ k : Nat, (wx z k).d = tx z k
  | 0 => rfl
  | k + 1 => by show mDig.j (wx z k).d (lw (z k)).d = _; rw [wx_d z k, lw_d]; rfl
theorem wl_wx {z : Nat → Int} : ∀ {n : Nat}, InB z n → WL (wx z n)
  | 0, _ => wl_U
  | n + 1, h => wl_j (wl_wx fun k hk => h k (by omega)) (wl_lw (h n (by omega)).1 (h n (by omega)).2)
theorem wx_congr {z z' : Nat → Int} : ∀ {n : Nat}, (∀ k, k < n → z k = z' k) → wx z n = wx z' n
  | 0, _ => rfl
  | n + 1, h => by rw [wx, wx, h n (by omega), wx_congr fun k hk => h k (by omega)]
theorem wx_add {z : Nat → Int} {n : Nat} : ∀ {m : Nat}, InB z (n + m) → wx z (n + m) = wj (wx z n) (wx (fun k => z (n + k)) m)
  | 0, h => (wj_right (wl_wx h)).symm
  | m + 1, h => by
    have h1 : InB z (n + m) := fun k hk => h k (by omega)
    have h2 : InB z n := fun k hk => h k (by omega)
    have h3 : InB (fun k => z (n + k)) m := fun k hk => h (n + k) (by omega)
    have h4 := h (n + m) (by omega)
    rw [← Nat.add_assoc, wx, wx, ← wj_assoc (wl_wx h2).n0 (wl_wx h3).n0 (wl_lw h4.1 h4.2).n0, wx_add h1]
theorem good_wx {z : Nat → Int} {n : Nat} (h : InB z n) (hn : n ≤ 1152921504606846976) : Good (wx z n) := by
  have w := wl_wx h
  refine ⟨w.l0, by rw [wx_l]; omega, w.ln, by rw [← w.ir.1]; exact R_ge _, by rw [← w.ir.1]; exact R_lt _, ?_, fun e => ?_⟩
  · rw [wx_d, tx_scale, wx_l]; rfl
  · rw [wx_l] at e
    obtain rfl : n = 0 := by omega
    rfl

/-! ### Powers -/
def wp (a : Wt) : Nat → Wt
  | 0 => wU
  | k + 1 => wj (wp a k) a
theorem wl_wp {a : Wt} (g : WL a) : ∀ k, WL (wp a k)
  | 0 => wl_U
  | k + 1 => wl_j (wl_wp g k) g
theorem wp_one {a : Wt} (g : WL a) : wp a 1 = a := wj_left g
theorem wp_add {a : Wt} (g : WL a) (i : Nat) : ∀ j, wj (wp a i) (wp a j) = wp a (i + j)
  | 0 => wj_right (wl_wp g i)
  | j + 1 => by rw [wp, ← wj_assoc (wl_wp g i).n0 (wl_wp g j).n0 g.n0, wp_add g i j]; rfl
theorem wp_mul {a : Wt} (g : WL a) (i : Nat) : ∀ j, wp (wp a i) j = wp a (i * j)
  | 0 => rfl
  | j + 1 => by rw [wp, wp_mul g i j, wp_add g, Nat.mul_succ]
theorem wp_l (a : Wt) : ∀ k : Nat, (wp a k).l = a.l * k
  | 0 => by show (0 : Int) = a.l * ((0 : Nat) : Int); rw [show ((0 : Nat) : Int) = 0 from rfl, Int.mul_zero]
  | k + 1 => by show (wp a k).l + a.l = _; rw [wp_l a k, show ((k + 1 : Nat) : Int) = (k : Int) + 1 by omega, Int.mul_add, Int.mul_one]
theorem good_wp {a : Wt} (g : Good a) (k : Nat) (h : a.l * k ≤ 1152921504606846976) : Good (wp a k) := by
  induction k with
  | zero => exact good_U
  | succ k ih =>
    have h0 := g.l0
    rw [show ((k + 1 : Nat) : Int) = (k : Int) + 1 by omega, Int.mul_add, Int.mul_one] at h
    exact good_j (ih (by omega)) g (by rw [wp_l]; exact h)
theorem wp_closed {a : Wt} (g : WL a) (k : Nat) (hk : 1 ≤ k) : wp a k = ⟨a.l * k, a.n * k, if a.n = 0 then a.l * k else a.h, if a.n = 0 then a.l * k else a.t, cw mDig a.d k⟩ := by
  obtain ⟨m, rfl⟩ : ∃ m, k = m + 1 := ⟨k - 1, by omega⟩
  clear hk
  have hl := g.ln; unfold Lines at hl
  induction m with
  | zero =>
    rw [show 0 + 1 = 1 from rfl, wp_one g]
    refine Wt.ext' ?_ ?_ ?_ ?_ rfl
    · show a.l = a.l * ((1 : Nat) : Int); omega
    · show a.n = a.n * ((1 : Nat) : Int); omega
    · show a.h = if a.n = 0 then a.l * ((1 : Nat) : Int) else a.h
      by_cases e : a.n = 0
      · rw [if_pos e]; omega
      · rw [if_neg e]
    · show a.t = if a.n = 0 then a.l * ((1 : Nat) : Int) else a.t
      by_cases e : a.n = 0
      · rw [if_pos e]; omega
      · rw [if_neg e]
  | succ m ih =>
    rw [wp, ih]
    have e1 : ((m + 1 + 1 : Nat) : Int) = ((m + 1 : Nat) : Int) + 1 := by omega
    have h0 := g.n0
    refine Wt.ext' ?_ ?_ ?_ ?_ ?_
    · show a.l * ((m + 1 : Nat) : Int) + a.l = a.l * ((m + 1 + 1 : Nat) : Int)
      rw [e1, Int.mul_add, Int.mul_one]
    · show a.n * ((m + 1 : Nat) : Int) + a.n = a.n * ((m + 1 + 1 : Nat) : Int)
      rw [e1, Int.mul_add, Int.mul_one]
    · show (if a.n * ((m + 1 : Nat) : Int) = 0 then a.l * ((m + 1 : Nat) : Int) + a.h else if a.n = 0 then a.l * ((m + 1 : Nat) : Int) else a.h) = if a.n = 0 then a.l * ((m + 1 + 1 : Nat) : Int) else a.h
      by_cases e : a.n = 0
      · rw [if_pos (by rw [e, Int.zero_mul]), if_pos e, e1, Int.mul_add, Int.mul_one]; omega
      · rw [if_neg (by intro h; rcases Int.mul_eq_zero.1 h with h | h <;> omega), if_neg e, if_neg e]
    · show (if a.n = 0 then a.l + (if a.n = 0 then a.l * ((m + 1 : Nat) : Int) else a.t) else a.t) = if a.n = 0 then a.l * ((m + 1 + 1 : Nat) : Int) else a.t
      by_cases e : a.n = 0
      · rw [if_pos e, if_pos e, if_pos e, e1, Int.mul_add, Int.mul_one]; omega
      · rw [if_neg e, if_neg e]
    · show mDig.j (cw mDig a.d (m + 1)) a.d = cw mDig a.d (m + 1 + 1)
      have := cw_add' g.ir (m + 1) 1
      rw [cw_one] at this
      exact this
end Go.Proofs.Ytgjhlmmhpcbnaaa
