/-
  Package digest: what Rest and Front return, as arithmetic; bytes of strings; the statements' awake and cut.
-/
import Derived.Test.YtlhennbimgjohaaDgD
import Derived.Test.YtlhennbimgjohaaDgE
import Derived.Test.YtlhennbimgjohaaDgR
import Derived.Lib.ConvBytes
namespace Go.Proofs.Ytlhennbimgjohaa
open Go.RowKit
theorem mP_iv {s : Int} (h : 0 ≤ s) (hr : ¬ R s = 0) : mP s (iv s) = 1 := pw_inv (n := 2305843009213693949) h hr rfl
theorem mP_one (x : Int) : mP x 1 = R x := by unfold mP; rw [Int.mul_one]
theorem mP_R_left (x y : Int) : mP (R x) y = mP x y := by unfold mP; rw [R_mul_left]
theorem mP_R_right (x y : Int) : mP x (R y) = mP x y := by unfold mP; rw [R_mul_right]
theorem add_sub_R (x y : Int) : aP x (sP y x) = R y := by unfold aP sP; rw [R_add_right]; congr 1; omega
theorem sub_add_R (x y : Int) : aP (sP y x) x = R y := by unfold aP sP; rw [R_add_left]; congr 1; omega
theorem sub_of_add (x y : Int) : sP (aP x y) x = R y := by unfold aP sP R; omega
theorem sub_of_add' (x y : Int) : sP (aP x y) y = R x := by unfold aP sP R; omega
theorem join_rs {f g : Int × Int} (hg : In64 g) (h1 : ¬ R g.2 = 0) : mDig.j g (rs f g) = rd f := by
  refine Prod.ext ?_ ?_
  · show aP (mP g.1 (mP f.2 (iv g.2))) (sP f.1 (mP g.1 (mP f.2 (iv g.2)))) = R f.1
    exact add_sub_R _ _
  · show mP g.2 (mP f.2 (iv g.2)) = R f.2
    rw [← mP_assoc, mP_comm g.2, mP_assoc, mP_iv hg.2.2.1 h1, mP_one]
theorem join_fr {f g : Int × Int} (hg : In64 g) (h1 : ¬ R g.2 = 0) : mDig.j (fr f g) g = rd f := by
  refine Prod.ext ?_ ?_
  · show aP (mP (mP (sP f.1 g.1) (iv g.2)) g.2) g.1 = R f.1
    rw [mP_assoc, mP_comm (iv g.2), mP_iv hg.2.2.1 h1, mP_one, show R (sP f.1 g.1) = sP f.1 g.1 from R_R _]
    exact sub_add_R _ _
  · show mP (mP f.2 (iv g.2)) g.2 = R f.2
    rw [mP_assoc, mP_comm (iv g.2), mP_iv hg.2.2.1 h1, mP_one]
theorem rs_join {f g : Int × Int} (hf : In64 f) (hg : InR g) (h1 : ¬ R f.2 = 0) : rs (mDig.j f g) f = g := by
  have e : mP (mP f.2 g.2) (iv f.2) = g.2 := by rw [mP_comm f.2, mP_assoc, mP_iv hf.2.2.1 h1, mP_one, hg.2]
  refine Prod.ext ?_ e
  show sP (aP (mP f.1 g.2) g.1) (mP f.1 (mP (mP f.2 g.2) (iv f.2))) = g.1
  rw [e, sub_of_add, hg.1]
theorem fr_join {f g : Int × Int} (hg : In64 g) (hf : InR f) (h1 : ¬ R g.2 = 0) : fr (mDig.j f g) g = f := by
  refine Prod.ext ?_ ?_
  · show mP (sP (aP (mP f.1 g.2) g.1) g.1) (iv g.2) = f.1
    rw [sub_of_add', show R (mP f.1 g.2) = mP f.1 g.2 from R_R _, mP_assoc, mP_iv hg.2.2.1 h1, mP_one, hf.1]
  · show mP (mP f.2 g.2) (iv g.2) = f.2
    rw [mP_assoc, mP_iv hg.2.2.1 h1, mP_one, hf.2]
theorem base_iv : mP 1103515245 (iv 1103515245) = 1 := mP_iv (by omega) (by decide)
theorem pw_inverse : ∀ n : Nat, ∃ y, mP (pw 1103515245 n) y = 1
  | 0 => ⟨1, by rfl⟩
  | n + 1 => by
    obtain ⟨y, hy⟩ := pw_inverse n
    refine ⟨mP (iv 1103515245) y, ?_⟩
    rw [show ((n + 1 : Nat) : Int) = (n : Int) + 1 by omega, pw_add _ (by omega) (by omega), pw_one, mP_R_right, mP_assoc, ← mP_assoc 1103515245, base_iv, mP_comm 1 y, mP_one, mP_R_right, hy]
theorem pw_ne (n : Nat) : ¬ R (pw 1103515245 n) = 0 := fun h => by
  obtain ⟨y, hy⟩ := pw_inverse n
  rw [← mP_R_left, h] at hy
  unfold mP at hy
  rw [Int.zero_mul] at hy
  exact absurd hy (by decide)
theorem tx_ne (z : Nat → Int) (n : Nat) : ¬ R (tx z n).2 = 0 := by rw [tx_scale]; exact pw_ne n

/-! ### The bytes of a string -/
def sb (s : ByteArray) (k : Nat) : Int := ((s.data.toList.getD k 0).toNat : Int)
theorem sb_in (s : ByteArray) (n : Nat) : InB (sb s) n := fun k _ => by
  have := (s.data.toList.getD k 0).toNat_lt
  unfold sb; omega
theorem sb_left (s t : ByteArray) {k : Nat} (h : k < s.size) : sb (s ++ t) k = sb s k := by
  have e : (s ++ t).data.toList = s.data.toList ++ t.data.toList := by simp
  have hl : k < s.data.toList.length := by simpa using h
  unfold sb
  rw [e]; simp [List.getD, List.getElem?_append_left hl]
theorem sb_right (s t : ByteArray) (k : Nat) : sb (s ++ t) (s.size + k) = sb t k := by
  have e : (s ++ t).data.toList = s.data.toList ++ t.data.toList := by simp
  have hl : s.data.toList.length = s.size := by simp
  have h2 : (s.data.toList ++ t.data.toList)[s.size + k]? = t.data.toList[k]? := by
    rw [← hl, List.getElem?_append_right (by omega)]; congr 1; omega
  unfold sb
  rw [e, List.getD_eq_getElem?_getD, List.getD_eq_getElem?_getD, h2]
/-- The digest of a string. -/
def txs (s : ByteArray) : Int × Int := tx (sb s) s.size
theorem inR_txs (s : ByteArray) : InR (txs s) := inR_tx _ _
theorem txs_ne (s : ByteArray) : ¬ R (txs s).2 = 0 := tx_ne _ _
theorem txs_append (s t : ByteArray) : txs (s ++ t) = mDig.j (txs s) (txs t) := by
  unfold txs
  rw [ByteArray.size_append, tx_add, tx_congr fun k hk => sb_left s t hk, tx_congr fun k _ => sb_right s t k]
theorem txs_empty : txs ByteArray.empty = mDig.e := rfl
theorem bytesWorld_below (w : World) (e : TypeId) (s : ByteArray) : Below w.heap.size w (Lib.bytesWorld w e s) :=
  ⟨rfl, rfl, rfl, by rw [Lib.bytesWorld_size]; omega, fun k hk => Lib.bytesWorld_at_old w e s k hk⟩
/-- A slice of the bytes of s. -/
def IsBytes (s : ByteArray) (v : Value) (w : World) : Prop := ∃ A c, v = .slice A s.size c ∧ Rd w.heap.size w A s.size (u8 (sb s))
theorem IsBytes.below {s : ByteArray} {v : Value} {w w' : World} (hb : Below w.heap.size w w') (h : IsBytes s v w) : IsBytes s v w' := by
  obtain ⟨A, c, hv, hr⟩ := h
  exact ⟨A, c, hv, (hr.later hb).mono hb.size⟩
theorem bytes_rd (w : World) (s : ByteArray) : Rd (Lib.bytesWorld w 5 s).heap.size (Lib.bytesWorld w 5 s) (some ⟨w.heap.size, 0, none⟩) s.size (u8 (sb s)) :=
  .inr ⟨w.heap.size, 0, rfl, by rw [Lib.bytesWorld_size]; omega, fun k hk => by rw [Nat.zero_add]; exact Lib.bytesWorld_cell w 5 s k hk⟩
theorem run_bytes (w : World) (s : ByteArray) : (convert 9 29 (.string s)).run Try.prog w = .ok (.slice (some ⟨w.heap.size, 0, none⟩) s.size (grownCap w s.size 0 5)) (Lib.bytesWorld w 5 s) :=
  Lib.run_convert_string_bytes (P := Try.prog) w 9 29 5 s Try.underlying9 Try.underlying29 Try.underlying5
theorem wp_bytes {o : Oper} {a : Act} {w : World} {K : Act → World → Prop} {Q : Exit → Act → World → Prop} {s : ByteArray} (x : Operand) (ho : o.op = .convert 9 29 x) (hx : a.eval x = .string s)
    (h : ∀ A c w', Below w.heap.size w w' → Rd w'.heap.size w' A s.size (u8 (sb s)) → K (a.put o.dst (.slice A s.size c)) w') : o.wp Try.prog a w K Q := by
  unfold Oper.wp execOp
  simp only [ho, hx, Sem.run_bind, run_bytes, Sem.run_pure, Result.andThen_ok]
  exact h _ _ _ (bytesWorld_below _ _ _) (bytes_rd w s)
theorem wpList_bytes {ops : Array Oper} {rest : List Oper} {o : Oper} {a : Act} {w : World} {Q : Exit → Act → World → Prop} {s : ByteArray} (hgd : o.guard = none) (x : Operand) (ho : o.op = .convert 9 29 x) (hx : a.eval x = .string s)
    (h : ∀ A c w', Below w.heap.size w w' → Rd w'.heap.size w' A s.size (u8 (sb s)) → wpList Try.prog ops Q rest (a.put o.dst (.slice A s.size c)) w') : wpList Try.prog ops Q (o :: rest) a w :=
  wpList_plain hgd fun _ hK => wp_bytes x ho hx fun A c w' hb hr => hK _ _ (h A c w' hb hr)
theorem wpList_bytes_g {ops : Array Oper} {rest : List Oper} {o : Oper} {a : Act} {w : World} {Q : Exit → Act → World → Prop} {s : ByteArray} (hw : Region.wanted o (yielded ops a.tmps) = true) (x : Operand) (ho : o.op = .convert 9 29 x) (hx : a.eval x = .string s)
    (h : ∀ A c w', Below w.heap.size w w' → Rd w'.heap.size w' A s.size (u8 (sb s)) → wpList Try.prog ops Q rest (a.put o.dst (.slice A s.size c)) w') : wpList Try.prog ops Q (o :: rest) a w := by
  rw [wpList, if_pos hw]
  exact .inl (wp_bytes x ho hx h)

/-! ### The statements' cut -/
def cutS (s : ByteArray) : ByteArray := s.extract 0 (min s.size 300)
theorem cutS_size (s : ByteArray) : (cutS s).size ≤ 300 := by unfold cutS; rw [ByteArray.size_extract]; omega
theorem cut_any (s : ByteArray) (w : World) (hs : s.size ≤ maxLen) :
    Calls Try.prog 12 #[.string s] w fun e w' => e = .returned (.string (cutS s)) ∧ w = w' := by
  unfold maxLen at hs
  obtain ⟨q, hq⟩ : ∃ q, q = min s.size 300 := ⟨_, rfl⟩
  have hmin : (if (300 : Int) < (s.size : Int) then (300 : Int) else (s.size : Int)) = (q : Int) := by split <;> omega
  have hqs : q ≤ s.size := by omega
  have HC := Lib.hid (show s.extract 0 q = cutS s by rw [hq]; rfl)
  clear hq
  go_enter Try.func12, Try.ntmps12
  go_wp2
  go_ret
  exact ⟨congrArg (fun x => Ending.returned (Value.string x)) HC.out, rfl⟩
end Go.Proofs.Ytlhennbimgjohaa
