/-
  Package digest: the values, and the contracts of Unit, Letter, Join, reduced, Of, and of the reference's Reduced, Join, Of.
-/
import Derived.Test.YtgjhlmmhpcbnaaaMo0d
import Derived.Test.YtgjhlmmhpcbnaaaMdF
import Derived.Deep.QuietTactic
namespace Go.Proofs.Ytgjhlmmhpcbnaaa
open Go.RowKit
theorem R_mac (x y z : Int) : R (R x * y + z) = R (x * y + z) := by rw [← R_add_left, R_mul_left, R_add_left]
theorem R_mac' (x y z : Int) : R (x * R y + z) = R (x * y + z) := by rw [← R_add_left, R_mul_right, R_add_left]
theorem R_expand (a b c d e : Int) : R (aP (mP (aP (mP a b) c) d) e) = R (a * b * d + (c * d + e)) := by
  unfold aP mP
  rw [R_R, R_add_left, R_mac, Int.add_mul, Int.add_assoc, R_mac]
theorem R_expand' (a b c d e : Int) : R (aP (mP a (mP b d)) (aP (mP c d) e)) = R (a * b * d + (c * d + e)) := by
  unfold aP mP
  rw [R_R, R_add_left, R_mac', R_add_right, Int.add_left_comm, R_add_left, Int.add_left_comm, ← Int.mul_assoc]
theorem aP_R (a b : Int) : aP a b = R (aP a b) := by unfold aP; rw [R_R]
theorem mP_R (a b : Int) : mP a b = R (mP a b) := by unfold mP; rw [R_R]
theorem mP_assoc (a b c : Int) : mP (mP a b) c = mP a (mP b c) := by unfold mP; rw [R_mul_left, R_mul_right, Int.mul_assoc]
theorem mP_comm (a b : Int) : mP a b = mP b a := by unfold mP; rw [Int.mul_comm]
/-- The join of digests: a pair is Value, Scale. -/
def mDig : Mo (Int × Int) where
  j f g := (aP (mP f.1 g.2) g.1, mP f.2 g.2)
  e := (0, 1)
  sz _ := 0
  assoc f g h := by
    refine Prod.ext ?_ (mP_assoc _ _ _)
    show aP (mP (aP (mP f.1 g.2) g.1) h.2) h.1 = aP (mP f.1 (mP g.2 h.2)) (aP (mP g.1 h.2) h.1)
    rw [aP_R, R_expand, aP_R (mP f.1 (mP g.2 h.2)), R_expand']
  sz_j _ _ := Nat.zero_le _
  sz_e := rfl
def InR (f : Int × Int) : Prop := R f.1 = f.1 ∧ R f.2 = f.2
def In64 (f : Int × Int) : Prop := 0 ≤ f.1 ∧ f.1 < 18446744073709551616 ∧ 0 ≤ f.2 ∧ f.2 < 18446744073709551616
def rd (f : Int × Int) : Int × Int := (R f.1, R f.2)
theorem inR_j (f g : Int × Int) : InR (mDig.j f g) := ⟨R_R _, R_R _⟩
theorem inR_e : InR mDig.e := ⟨rfl, rfl⟩
theorem inR_rd (f : Int × Int) : InR (rd f) := ⟨R_R _, R_R _⟩
theorem InR.in64 {f : Int × Int} (h : InR f) : In64 f := by
  refine ⟨?_, ?_, ?_, ?_⟩
  · rw [← h.1]; exact R_ge _
  · rw [← h.1]; exact R_64 _
  · rw [← h.2]; exact R_ge _
  · rw [← h.2]; exact R_64 _
theorem rd_of {f : Int × Int} (h : InR f) : rd f = f := Prod.ext h.1 h.2
theorem dg_left_rd (g : Int × Int) : mDig.j mDig.e g = rd g := by
  refine Prod.ext ?_ ?_
  · show aP (mP 0 g.2) g.1 = R g.1
    unfold aP mP; rw [Int.zero_mul, R_add_left, Int.zero_add]
  · show mP 1 g.2 = R g.2
    unfold mP; rw [Int.one_mul]
theorem dg_right_rd (f : Int × Int) : mDig.j f mDig.e = rd f := by
  refine Prod.ext ?_ ?_
  · show aP (mP f.1 1) 0 = R f.1
    unfold aP mP; rw [Int.mul_one, Int.add_zero, R_R]
  · show mP f.2 1 = R f.2
    unfold mP; rw [Int.mul_one]
theorem dg_left {g : Int × Int} (h : InR g) : mDig.j mDig.e g = g := by rw [dg_left_rd, rd_of h]
theorem dg_right {f : Int × Int} (h : InR f) : mDig.j f mDig.e = f := by rw [dg_right_rd, rd_of h]
/-- The digest of a letter; of a text. -/
def lt (c : Int) : Int × Int := (c + 1, 1103515245)
def tx (z : Nat → Int) (n : Nat) : Int × Int := fo mDig (fun k => lt (z k)) n
theorem inR_lt {c : Int} (h0 : 0 ≤ c) (h1 : c < 256) : InR (lt c) := ⟨R_id (by show (0 : Int) ≤ c + 1; omega) (by show c + 1 < 2305843009213693951; omega), (by decide : R 1103515245 = 1103515245)⟩
theorem inR_tx (z : Nat → Int) : ∀ n, InR (tx z n)
  | 0 => inR_e
  | _ + 1 => inR_j _ _
theorem tx_succ (z : Nat → Int) (n : Nat) : tx z (n + 1) = mDig.j (tx z n) (lt (z n)) := rfl
theorem tx_scale (z : Nat → Int) : ∀ n, (tx z n).2 = pw 1103515245 n
  | 0 => by
    show (1 : Int) = R (1103515245 ^ ((0 : Nat) : Int).toNat)
    rw [show ((0 : Nat) : Int).toNat = 0 from rfl, Int.pow_zero]; rfl
  | n + 1 => by
    rw [tx_succ]
    show mP (tx z n).2 1103515245 = _
    rw [tx_scale z n, show ((n + 1 : Nat) : Int) = (n : Int) + 1 by omega, pw_add _ (by omega) (by omega), pw_one]; rfl
theorem tx_congr {z z' : Nat → Int} {n : Nat} (h : ∀ k, k < n → z k = z' k) : tx z n = tx z' n := fo_congr fun k hk => by rw [h k hk]
theorem tx_add (z : Nat → Int) (n : Nat) : ∀ m, tx z (n + m) = mDig.j (tx z n) (tx (fun k => z (n + k)) m)
  | 0 => (dg_right (inR_tx z n)).symm
  | m + 1 => by rw [← Nat.add_assoc, tx_succ, tx_succ, ← mDig.assoc, tx_add z n m]
theorem tx_one {z : Nat → Int} (h0 : 0 ≤ z 0) (h1 : z 0 < 256) : tx z 1 = lt (z 0) := dg_left (inR_lt h0 h1)
/-- A digest's two cells. -/
def dc (f : Int × Int) : Array Value := #[.int .u64 f.1, .int .u64 f.2]
theorem aggDs : AggT 73 0 := ⟨⟨_, Try.underlying73, rfl⟩, by kernel_rfl⟩
theorem aggD : AggT 25 2 := ⟨⟨_, Try.underlying25, rfl⟩, by kernel_rfl⟩
theorem dc_one (f : Int × Int) : (dc f).all (·.oneCell') = true := by simp [dc]; exact ⟨rfl, rfl⟩
theorem dg_info : (Try.prog.info? 25).map (fun i => (i.zero, i.size)) = some (some (.agg #[.int .u64 0, .int .u64 0]), 2) := by kernel_rfl
theorem dg_zero (w : World) : (zeroValue 25).run Try.prog w = .ok (.agg (dc (0, 0))) w := (zero_of_info dg_info).1 w
theorem wpList_newR {ops : Array Oper} {rest : List Oper} {o : Oper} {a : Act} {w : World} {Q : Exit → Act → World → Prop} {t ty : TypeId} {c c' : Array Value} (ht : AggT ty c'.size) (hs : c.size = c'.size) (h1 : c'.all (·.oneCell') = true) (hgd : o.guard = none) (x y : Operand) (ho : o.op = .store ty x y)
    (hx : a.eval x = .pointer (some ⟨w.heap.size, 0, none⟩)) (hy : a.eval y = .agg c') (h : wpList Try.prog ops Q rest (a.put o.dst undef) (w.alloc (.cells c' t))) : wpList Try.prog ops Q (o :: rest) a (w.alloc (.cells c t)) :=
  wpList_storeR ht (Row.new w t c) hs h1 hgd x y ho hx hy (by rw [World.setRow_alloc_new]; exact h)
theorem calls_later_eq {P : Program} {f : FuncId} {args : Array Value} {w u : World} {v : Value}
    (h : Calls P f args (later w u) fun e w' => e = .returned v ∧ later w u = w') : Calls P f args (later w u) fun e w'' => e = .returned v ∧ ∃ u, w'' = later w u :=
  h.mono fun _ _ ⟨he, hw⟩ => ⟨he, u, hw.symm⟩

theorem dg_coef (c : Int) (w : World) (h0 : 0 ≤ c) (h1 : c < 256) :
    Calls Try.prog 50 #[.int .u8 c] w fun e w' => e = .returned (.int .u64 (c + 1)) ∧ w = w' := by
  go_enter Try.func50, Try.ntmps50
  go_wp2
  go_ret
  exact ⟨rfl, rfl⟩
theorem dg_unit (w : World) : Calls Try.prog 35 #[] w fun e w' => e = .returned (.agg (dc mDig.e)) ∧ Below w.heap.size w w' := by
  go_enter Try.func35, Try.ntmps35
  go_wp2
  go_returns
  exact ⟨rfl, (Below.refl _ _).alloc (Nat.le_refl _) _⟩
end Go.Proofs.Ytgjhlmmhpcbnaaa
