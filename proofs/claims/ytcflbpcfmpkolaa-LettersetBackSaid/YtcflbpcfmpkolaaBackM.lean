/-
  What Parse makes of Format's text, and of a notation with such a text behind it: plain Lean.
-/
import Derived.Test.YtcflbpcfmpkolaaFmt
import Derived.Test.YtcflbpcfmpkolaaLsParse
namespace Go.Proofs.Ytcflbpcfmpkolaa
open Go.RowKit

def ba (l : List UInt8) : ByteArray := ⟨l.toArray⟩
theorem ba_list (t : ByteArray) : ba t.data.toList = t := rfl
theorem ba_size (l : List UInt8) : (ba l).size = l.length := rfl
theorem byt_ba (l : List UInt8) (i : Nat) : byt (ba l) i = (l.getD i 0).toNat := rfl
theorem tail_ba (l : List UInt8) (k : Nat) : tail (ba l) k = ba (l.drop k) := by
  unfold tail ba
  apply ByteArray.ext
  rw [ByteArray.data_extract]
  apply Array.ext'
  rw [Array.toList_extract]
  simp only [List.extract_eq_take_drop]
  show List.take (l.length - k) (List.drop k l) = List.drop k l
  exact List.take_of_length_le (by simp)
theorem getD_app {l f : List UInt8} {i : Nat} (h : i < l.length) : (l ++ f).getD i 0 = l.getD i 0 := by
  simp only [List.getD_eq_getElem?_getD]; rw [List.getElem?_append_left h]
theorem byt_app {l f : List UInt8} {i : Nat} (h : i < l.length) : byt (ba (l ++ f)) i = byt (ba l) i := by rw [byt_ba, byt_ba, getD_app h]
theorem byt_end {l f : List UInt8} : byt (ba (l ++ f)) l.length = byt (ba f) 0 := by
  rw [byt_ba, byt_ba]; simp only [List.getD_eq_getElem?_getD]; rw [List.getElem?_append_right (Nat.le_refl _), Nat.sub_self]
theorem drop_app {l f : List UInt8} {k : Nat} (h : k ≤ l.length) : (l ++ f).drop k = l.drop k ++ f := List.drop_append_of_le_length h
theorem drop_end {l f : List UInt8} : (l ++ f).drop l.length = f := by simp

/-! ### Bytes behind -/
theorem escS_app {l f : List UInt8} {v k : Nat} (h : escS (ba l) = some (v, k)) : escS (ba (l ++ f)) = some (v, k) := by
  unfold escS at h ⊢
  by_cases h0 : (ba l).size = 0
  · rw [if_pos h0] at h; cases h
  · rw [if_neg h0] at h
    rw [ba_size] at h0
    rw [if_neg (by rw [ba_size, List.length_append]; omega), byt_app (by omega)]
    by_cases hx : byt (ba l) 0 = 120
    · rw [if_neg (by omega), if_neg (by omega), if_neg (by omega), if_pos hx] at h
      rw [if_neg (by omega), if_neg (by omega), if_neg (by omega), if_pos hx]
      by_cases hs : l.length < 3
      · rw [if_pos (by rw [ba_size]; exact .inl hs)] at h; cases h
      · rw [byt_app (i := 1) (by omega), byt_app (i := 2) (by omega)]
        by_cases hc : hexV (byt (ba l) 1) = 16 ∨ hexV (byt (ba l) 2) = 16
        · rw [if_pos (.inr hc)] at h; cases h
        · rw [if_neg (by rw [ba_size]; omega)] at h
          rw [if_neg (by rw [ba_size, List.length_append]; omega)]
          exact h
    · rw [if_neg hx] at h ⊢
      exact h
theorem elS_app {l f : List UInt8} {v k : Nat} (h : elS (ba l) = some (v, k)) : elS (ba (l ++ f)) = some (v, k) := by
  unfold elS at h ⊢
  by_cases h0 : (ba l).size = 0
  · rw [if_pos h0] at h; cases h
  · rw [if_neg h0] at h
    rw [ba_size] at h0
    rw [if_neg (by rw [ba_size, List.length_append]; omega), byt_app (by omega)]
    by_cases hb : byt (ba l) 0 = 92
    · rw [if_pos hb, tail_ba] at h ⊢
      rw [drop_app (by omega)]
      cases he : escS (ba (l.drop 1)) with
      | none => rw [he] at h; cases h
      | some p =>
        rw [he] at h
        rw [escS_app (v := p.1) (k := p.2) he]
        exact h
    · rw [if_neg hb] at h ⊢
      exact h
/-- No hyphen ahead. -/
def okf (f : List UInt8) : Prop := byt (ba f) 0 ≠ 45
theorem itemS_app {l f : List UInt8} {lo hi k : Nat} (hf : okf f) (h : itemS (ba l) = some (lo, hi, k)) : itemS (ba (l ++ f)) = some (lo, hi, k) := by
  unfold itemS at h ⊢
  cases he : elS (ba l) with
  | none => rw [he] at h; cases h
  | some p =>
    obtain ⟨a, n⟩ := p
    have hn := elS_pos he
    rw [ba_size] at hn
    rw [he] at h
    rw [elS_app he]
    dsimp only at h ⊢
    rw [tail_ba] at h ⊢
    rw [drop_app hn.2.1]
    by_cases hz : (l.drop n).length = 0
    · rw [if_pos (.inl (by rw [ba_size]; exact hz))] at h
      rw [List.length_eq_zero_iff.1 hz, List.nil_append, if_pos (.inr hf)]
      exact h
    · by_cases hb : byt (ba (l.drop n)) 0 = 45
      · rw [if_neg (by rw [ba_size]; omega)] at h
        rw [if_neg (by rw [ba_size, List.length_append, byt_app (by omega)]; omega)]
        have hn' : n + 1 ≤ l.length := by simp at hz; omega
        rw [tail_ba] at h ⊢
        rw [drop_app hn']
        cases h2 : elS (ba (l.drop (n + 1))) with
        | none => rw [h2] at h; cases h
        | some q => rw [h2] at h; rw [elS_app (v := q.1) (k := q.2) h2]; exact h
      · rw [if_pos (.inr hb)] at h
        rw [if_pos (.inr (by rw [byt_app (by omega)]; exact hb))]
        exact h

/-! ### Parse without a bound -/
theorem parseS_more : ∀ (n m : Nat) (s : ByteArray) (acc : Nat → Nat), s.size ≤ n → s.size ≤ m → parseS n s acc = parseS m s acc
  | 0, 0, _, _, _, _ => rfl
  | 0, m + 1, s, acc, h, _ => by rw [parseS, parseS, if_pos (by omega)]
  | n + 1, 0, s, acc, _, h => by rw [parseS, parseS, if_pos (by omega)]
  | n + 1, m + 1, s, acc, h1, h2 => by
    rw [parseS, parseS]
    by_cases h0 : s.size = 0
    · rw [if_pos h0, if_pos h0]
    · rw [if_neg h0, if_neg h0]
      cases hi : itemS s with
      | none => rfl
      | some q =>
        obtain ⟨lo, hi', k⟩ := q
        have := itemS_pos hi
        exact parseS_more n m _ _ (by rw [tail_size]; omega) (by rw [tail_size]; omega)
def parseL (l : List UInt8) (acc : Nat → Nat) : Option (Nat → Nat) := parseS l.length (ba l) acc
theorem parseL_nil (acc : Nat → Nat) : parseL [] acc = some acc := rfl
theorem parseL_item {l : List UInt8} {lo hi k : Nat} (h : itemS (ba l) = some (lo, hi, k)) (acc : Nat → Nat) : parseL l acc = parseL (l.drop k) (orW acc (ofW (fun i => lo + i) (hi + 1 - lo))) := by
  have hp := itemS_pos h
  rw [ba_size] at hp
  unfold parseL
  obtain ⟨n, hn⟩ : ∃ n, l.length = n + 1 := ⟨l.length - 1, by omega⟩
  rw [hn, parseS, if_neg (by rw [ba_size]; omega), h]
  dsimp only
  rw [tail_ba]
  exact parseS_more _ _ _ _ (by rw [ba_size, List.length_drop]; omega) (by rw [ba_size]; exact Nat.le_refl _)
theorem parseL_app (f : List UInt8) (hf : okf f) : ∀ (n : Nat) (l : List UInt8) (acc S : Nat → Nat), l.length ≤ n → parseL l acc = some S → parseL (l ++ f) acc = parseL f S
  | n, [], acc, S, _, h => by rw [parseL_nil] at h; cases h; rfl
  | 0, a :: l, acc, S, hn, h => by simp at hn
  | n + 1, a :: l, acc, S, hn, h => by
    cases hi : itemS (ba (a :: l)) with
    | none => unfold parseL at h; rw [List.length_cons, parseS, if_neg (by rw [ba_size]; simp), hi] at h; cases h
    | some q =>
      obtain ⟨lo, hi', k⟩ := q
      have hp := itemS_pos hi
      rw [ba_size] at hp
      rw [parseL_item hi] at h
      rw [parseL_item (itemS_app hf hi), drop_app hp.2.1]
      exact parseL_app f hf n _ _ S (by rw [List.length_drop]; omega) h

/-! ### What Format writes -/
theorem bit_range (lo : Nat) : ∀ (n x : Nat), bit (ofW (fun i => lo + i) n) x = decide (lo ≤ x ∧ x < lo + n)
  | 0, x => by rw [ofW, bit_zero]; symm; exact decide_eq_false (by omega)
  | n + 1, x => by
    rw [ofW, bit_put, bit_range lo n x]
    by_cases h : x = lo + n
    · rw [decide_eq_true h, Bool.true_or]; symm; exact decide_eq_true (by omega)
    · rw [decide_eq_false h, Bool.false_or]
      exact decide_eq_decide.2 (by omega)
theorem hex_back : ∀ k : Fin 16, hexV ((hexD k.1).toNat : Nat) = k.1 := by decide
theorem ofNat_nat {x : Nat} (h : x < 256) : (UInt8.ofNat x).toNat = x := by rw [UInt8.toNat_ofNat']; omega
theorem punct_all : ∀ x : Fin 256, (x.1 = 92 ∨ x.1 = 93 ∨ x.1 = 45 ∨ x.1 = 94 ∨ x.1 = 91) → punctB (x.1 : Nat) = true := by decide +kernel
theorem el_two (a : UInt8) (f : List UInt8) (v : Nat) (h : (a.toNat = 110 ∧ v = 10) ∨ (a.toNat = 116 ∧ v = 9) ∨ (a.toNat = 114 ∧ v = 13)) : elS (ba (92 :: a :: f)) = some (v, 2) := by
  have hb : byt (ba (a :: f)) 0 = a.toNat := rfl
  rw [elS, if_neg (by rw [ba_size]; simp), if_pos (by rfl), tail_ba, List.drop_one, List.tail_cons, escS, if_neg (by rw [ba_size]; simp), hb]
  rcases h with ⟨h, rfl⟩ | ⟨h, rfl⟩ | ⟨h, rfl⟩ <;> rw [h] <;> rfl
theorem el_let (x : Nat) (hx : x < 256) (f : List UInt8) : elS (ba (letB x ++ f)) = some (x, (letB x).length) := by
  unfold letB
  by_cases h10 : x = 10
  · subst h10; exact el_two 110 f 10 (.inl ⟨rfl, rfl⟩)
  by_cases h9 : x = 9
  · subst h9; exact el_two 116 f 9 (.inr (.inl ⟨rfl, rfl⟩))
  by_cases h13 : x = 13
  · subst h13; exact el_two 114 f 13 (.inr (.inr ⟨rfl, rfl⟩))
  rw [if_neg h10, if_neg h9, if_neg h13]
  by_cases hh : x < 32 ∨ 126 < x
  · rw [if_pos hh]
    have e1 := hex_back ⟨x / 16, by omega⟩
    have e2 := hex_back ⟨x % 16, by omega⟩
    dsimp only at e1 e2
    show elS (ba (92 :: 120 :: hexD (x / 16) :: hexD (x % 16) :: f)) = some (x, 4)
    have b1 : byt (ba (120 :: hexD (x / 16) :: hexD (x % 16) :: f)) 1 = (hexD (x / 16)).toNat := rfl
    have b2 : byt (ba (120 :: hexD (x / 16) :: hexD (x % 16) :: f)) 2 = (hexD (x % 16)).toNat := rfl
    have b0 : byt (ba (120 :: hexD (x / 16) :: hexD (x % 16) :: f)) 0 = 120 := rfl
    rw [elS, if_neg (by rw [ba_size]; simp), if_pos (by rfl), tail_ba, List.drop_one, List.tail_cons, escS, if_neg (by rw [ba_size]; simp), b0, if_neg (by decide), if_neg (by decide), if_neg (by decide), if_pos rfl, b1, b2, e1, e2, if_neg (by rw [ba_size]; simp; omega)]
    simp only [Option.map_some]
    congr 2; omega
  · rw [if_neg hh]
    by_cases hs : x = 92 ∨ x = 93 ∨ x = 45 ∨ x = 94 ∨ x = 91
    · rw [if_pos hs]
      have hp := punct_all ⟨x, hx⟩ hs
      dsimp only at hp
      show elS (ba (92 :: UInt8.ofNat x :: f)) = some (x, 2)
      have b0 : byt (ba (UInt8.ofNat x :: f)) 0 = x := ofNat_nat hx
      rw [elS, if_neg (by rw [ba_size]; simp), if_pos (by rfl), tail_ba, List.drop_one, List.tail_cons, escS, if_neg (by rw [ba_size]; simp), b0, if_neg (by omega), if_neg (by omega), if_neg (by omega), if_neg (by omega), if_pos hp]
      rfl
    · rw [if_neg hs]
      show elS (ba (UInt8.ofNat x :: f)) = some (x, 1)
      have b0 : byt (ba (UInt8.ofNat x :: f)) 0 = x := ofNat_nat hx
      rw [elS, if_neg (by rw [ba_size]; simp), b0, if_neg (by omega), if_neg (by omega)]
theorem let_ok (x : Nat) (hx : x < 256) (f : List UInt8) : okf (letB x ++ f) := by
  unfold okf letB
  repeat' split
  any_goals (show (92 : UInt8).toNat ≠ 45; decide)
  show (UInt8.ofNat x).toNat ≠ 45
  rw [ofNat_nat hx]; omega
theorem run_ok (a b : Nat) (ha : a < 256) (f : List UInt8) : okf (runB a b ++ f) := by
  unfold runB
  rw [List.append_assoc, List.append_assoc]; exact let_ok a ha _
theorem item_let (x : Nat) (hx : x < 256) {f : List UInt8} (hf : okf f) : itemS (ba (letB x ++ f)) = some (x, x, (letB x).length) := by
  unfold itemS
  rw [el_let x hx f]
  dsimp only
  rw [tail_ba, drop_end, if_pos (.inr hf)]
theorem item_run (a b : Nat) (hab : a ≤ b) (hb : b < 256) (f : List UInt8) : itemS (ba (letB a ++ (45 :: (letB b ++ f)))) = some (a, b, (letB a).length + 1 + (letB b).length) := by
  unfold itemS
  rw [el_let a (by omega) _]
  dsimp only
  rw [tail_ba, drop_end, if_neg (by rw [ba_size]; intro h; rcases h with h | h; · simp at h
                                    · exact h rfl), tail_ba]
  have : (letB a ++ 45 :: (letB b ++ f)).drop ((letB a).length + 1) = letB b ++ f := by
    rw [← List.drop_drop, drop_end]; rfl
  rw [this, el_let b hb f]
  dsimp only
  rw [if_pos hab]
theorem parse_run (a b : Nat) (hab : a ≤ b) (hb : b < 256) {f : List UInt8} (hf : okf f) (acc : Nat → Nat) (ha : Small acc) :
    ∃ S, parseL (runB a b ++ f) acc = parseL f S ∧ Small S ∧ ∀ x, bit S x = (bit acc x || decide (a ≤ x ∧ x ≤ b)) := by
  unfold runB
  by_cases h1 : a + 1 < b
  · rw [if_pos h1, if_pos (by omega)]
    refine ⟨orW acc (ofW (fun i => a + i) (b + 1 - a)), ?_, orW_small ha (ofW_small _ _), fun x => ?_⟩
    · have hi := item_run a b hab hb f
      have e : letB a ++ [45] ++ letB b ++ f = letB a ++ (45 :: (letB b ++ f)) := by simp
      rw [e, parseL_item hi]
      congr 1
      rw [Nat.add_assoc, ← List.drop_drop, drop_end, Nat.add_comm 1, List.drop_succ_cons]
      exact drop_end
    · rw [bit_or, bit_range]; congr 1; exact decide_eq_decide.2 (by omega)
  · by_cases h2 : a < b
    · rw [if_neg h1, if_pos h2]
      refine ⟨orW (orW acc (ofW (fun i => a + i) (a + 1 - a))) (ofW (fun i => b + i) (b + 1 - b)), ?_, orW_small (orW_small ha (ofW_small _ _)) (ofW_small _ _), fun x => ?_⟩
      · rw [List.append_nil, List.append_assoc, parseL_item (item_let a (by omega) (let_ok b hb f)), drop_end, parseL_item (item_let b hb hf), drop_end]
      · rw [bit_or, bit_or, bit_range, bit_range, Bool.or_assoc]; congr 1
        rw [← Bool.decide_or]
        exact decide_eq_decide.2 (by omega)
    · rw [if_neg h1, if_neg h2]
      refine ⟨orW acc (ofW (fun i => a + i) (a + 1 - a)), ?_, orW_small ha (ofW_small _ _), fun x => ?_⟩
      · rw [List.append_nil, List.append_nil, parseL_item (item_let a (by omega) hf), drop_end]
      · rw [bit_or, bit_range]; congr 1; exact decide_eq_decide.2 (by omega)
theorem okf_nil : okf [] := by unfold okf; decide
theorem fmt_ok (p : Nat → Bool) : ∀ (n k : Nat), 256 - k ≤ n → okf (fmt p k)
  | 0, k, h => by rw [fmt_end p (by omega)]; exact okf_nil
  | n + 1, k, h => by
    by_cases hk : k < 256
    · cases hp : p k
      · rw [fmt_out hk hp]; exact fmt_ok p n (k + 1) (by omega)
      · rw [fmt_in hk hp]; exact run_ok _ _ hk _
    · rw [fmt_end p (by omega)]; exact okf_nil
theorem fmt_parse (p : Nat → Bool) : ∀ (n k : Nat) (acc : Nat → Nat), 256 - k ≤ n → Small acc →
    ∃ S, parseL (fmt p k) acc = some S ∧ Small S ∧ ∀ x, x < 256 → bit S x = (bit acc x || (decide (k ≤ x) && p x))
  | n, k, acc, h, ha => by
    by_cases hk : k < 256
    · cases n with
      | zero => omega
      | succ n =>
        cases hp : p k
        · obtain ⟨S, h1, h2, h3⟩ := fmt_parse p n (k + 1) acc (by omega) ha
          refine ⟨S, by rw [fmt_out hk hp]; exact h1, h2, fun x hx => ?_⟩
          rw [h3 x hx]; congr 1
          by_cases e : x = k
          · subst e; rw [hp]; simp
          · congr 1; exact decide_eq_decide.2 (by omega)
        · have hge := re_ge p k
          have hle := re_le (p := p) (show k ≤ 255 by omega)
          obtain ⟨S1, e1, s1, b1⟩ := parse_run k (re p k) hge (by omega) (fmt_ok p 256 (re p k + 1) (by omega)) acc ha
          obtain ⟨S, h1, h2, h3⟩ := fmt_parse p n (re p k + 1) S1 (by omega) s1
          refine ⟨S, by rw [fmt_in hk hp, e1]; exact h1, h2, fun x hx => ?_⟩
          rw [h3 x hx, b1 x, Bool.or_assoc]; congr 1
          by_cases h4 : x < k
          · rw [decide_eq_false (by omega : ¬ (k ≤ x ∧ x ≤ re p k)), decide_eq_false (by omega : ¬ (re p k + 1 ≤ x)), decide_eq_false (by omega : ¬ (k ≤ x))]; rfl
          · by_cases h5 : x ≤ re p k
            · have hpx : p x = true := by
                rcases Nat.eq_or_lt_of_le (by omega : k ≤ x) with e | e
                · rw [← e]; exact hp
                · exact re_in e h5
              rw [decide_eq_true (by omega : k ≤ x ∧ x ≤ re p k), decide_eq_true (by omega : k ≤ x), hpx]; rfl
            · rw [decide_eq_false (by omega : ¬ (k ≤ x ∧ x ≤ re p k)), decide_eq_true (by omega : re p k + 1 ≤ x), decide_eq_true (by omega : k ≤ x)]; rfl
    · refine ⟨acc, by rw [fmt_end p (by omega), parseL_nil], ha, fun x hx => ?_⟩
      rw [decide_eq_false (by omega : ¬ (k ≤ x))]; simp
theorem lc_bits {s t : Nat → Nat} (hs : Small s) (ht : Small t) (h : ∀ x, x < 256 → bit s x = bit t x) : lc s = lc t := lc_congr fun i hi => Nat.eq_of_testBit_eq fun j => by
  by_cases hj : j < 64
  · have := h (64 * i + j) (by omega)
    unfold bit at this
    rwa [show (64 * i + j) / 64 = i by omega, show (64 * i + j) % 64 = j by omega] at this
  · rw [Nat.testBit_lt_two_pow (Nat.lt_of_lt_of_le (hs i) (Nat.pow_le_pow_right (n := 2) (by decide) (by omega : 64 ≤ j))), Nat.testBit_lt_two_pow (Nat.lt_of_lt_of_le (ht i) (Nat.pow_le_pow_right (n := 2) (by decide) (by omega : 64 ≤ j)))]
theorem fmt_len (p : Nat → Bool) : ∀ (n k : Nat), 256 - k ≤ n → (fmt p k).length ≤ 9 * (256 - k)
  | n, k, h => by
    by_cases hk : k < 256
    · cases n with
      | zero => omega
      | succ n =>
        cases hp : p k
        · rw [fmt_out hk hp]; have := fmt_len p n (k + 1) (by omega); omega
        · have hge := re_ge p k
          rw [fmt_in hk hp, List.length_append]; have := fmt_len p n (re p k + 1) (by omega); have := runB_le k (re p k); omega
    · rw [fmt_end p (by omega)]; simp

/-- Parse of Format's text. -/
theorem back_one (s : Nat → Nat) (hs : Small s) : ∃ S, parseS (ba (fmt (bit s) 0)).size (ba (fmt (bit s) 0)) (fun _ => 0) = some S ∧ lc S = lc s := by
  obtain ⟨S, h1, h2, h3⟩ := fmt_parse (bit s) 256 0 (fun _ => 0) (by omega) zero_small
  exact ⟨S, h1, lc_bits h2 hs fun x hx => by rw [h3 x hx, bit_zero]; simp⟩
/-- Parse of a notation with Format's text behind it. -/
theorem back_two (s : Nat → Nat) (hs : Small s) (t : ByteArray) (u : Nat → Nat) (hu : Small u) (h : parseS t.size t (fun _ => 0) = some u) :
    ∃ S, parseS (ba (t.data.toList ++ fmt (bit s) 0)).size (ba (t.data.toList ++ fmt (bit s) 0)) (fun _ => 0) = some S ∧ lc S = lc (orW u s) := by
  obtain ⟨S, h1, h2, h3⟩ := fmt_parse (bit s) 256 0 u (by omega) hu
  have := parseL_app (fmt (bit s) 0) (fmt_ok (bit s) 256 0 (by omega)) _ t.data.toList (fun _ => 0) u (Nat.le_refl _) h
  exact ⟨S, this.trans h1, lc_bits h2 (orW_small hu hs) fun x hx => by rw [h3 x hx, bit_or]; simp⟩
end Go.Proofs.Ytcflbpcfmpkolaa
