/-
  Package letterset: element, item.
-/
import Derived.Test.YtcflbpcfmpkolaaLsElem
import Derived.Test.YtcflbpcfmpkolaaShelf
namespace Go.Proofs.Ytcflbpcfmpkolaa
open Go.RowKit

set_option maxHeartbeats 1000000 in
theorem element_empty (s : ByteArray) (hs : s.size = 0) (w : World) : Calls Try.prog 37 #[.string s] w (Missed w) := by
  have hl := str_empty s hs
  clear hs
  go_enter Try.func37, Try.ntmps37
  go_wp2
  go_ret3
  exact missed_now _ _ _
set_option maxHeartbeats 1000000 in
theorem element_bad (s : ByteArray) (hs : s.size ≠ 0) (b : Nat) (hb : byt s 0 = b) (h : b = 93 ∨ b = 45) (w : World) : Calls Try.prog 37 #[.string s] w (Missed w) := by
  have hl := str_some s hs
  have h0 : 0 < s.size := by omega
  have x0 : (s[0]'h0).toNat = b := by rw [byt_eq]; exact hb
  have hsz0 : (0 : Int) < (s.size : Int) := by omega
  clear hb hs
  rcases h with rfl | rfl
  · go_enter Try.func37, Try.ntmps37
    go_wp2
    go_ret3
    exact missed_now _ _ _
  · go_enter Try.func37, Try.ntmps37
    go_wp2
    go_ret3
    exact missed_now _ _ _
set_option maxHeartbeats 1000000 in
theorem element_self (s : ByteArray) (hs : s.size ≠ 0) (b : Nat) (hb : byt s 0 = b) (h1 : b ≠ 92) (h2 : b ≠ 93) (h3 : b ≠ 45) (w : World) : Calls Try.prog 37 #[.string s] w (Got s b 1 w) := by
  have hl := str_some s hs
  have h0 : 0 < s.size := by omega
  have x0 : (s[0]'h0).toNat = b := by rw [byt_eq]; exact hb
  have hsz : (1 : Int) ≤ (s.size : Int) := by omega
  have hsz0 : (0 : Int) < (s.size : Int) := by omega
  obtain ⟨y, hy⟩ : ∃ y, y = tail s 1 := ⟨_, rfl⟩
  have hy' : s.extract 1 s.size = y := hy.symm
  unfold Got
  rw [← hy]
  have c1 : ((b : Int) == 92) = false := by simpa using (by omega : ¬ (b : Int) = 92)
  have c2 : ((b : Int) == 93) = false := by simpa using (by omega : ¬ (b : Int) = 93)
  have c3 : ((b : Int) == 45) = false := by simpa using (by omega : ¬ (b : Int) = 45)
  clear hb hy hs h1 h2 h3
  go_enter Try.func37, Try.ntmps37
  go_wp2
  refine wp_region_later (by kernel_rfl) (by kernel_rfl) ?_
  repeat (first | go_big_quiet_skip | (go_big_quiet_want; go_big_quiet_op; first | go_big_quiet_on | go_big_quiet_call (fail)))
  refine wpQuiet_nil ?_
  rintro w4 ⟨u, rfl⟩
  go_wp2
  go_ret3
  exact ⟨rfl, below_later w u⟩
set_option maxHeartbeats 1000000 in
theorem element_esc (s : ByteArray) (hs : s.size ≠ 0) (hb : byt s 0 = 92) (w : World) :
    Calls Try.prog 37 #[.string s] w (ElEnd s ((escS (tail s 1)).map fun p => (p.1, p.2 + 1)) w) := by
  have hl := str_some s hs
  have h0 : 0 < s.size := by omega
  have x0 : (s[0]'h0).toNat = 92 := by rw [byt_eq]; exact hb
  have hsz : (1 : Int) ≤ (s.size : Int) := by omega
  have hsz0 : (0 : Int) < (s.size : Int) := by omega
  have hx := fun w => escape_any (tail s 1) w
  obtain ⟨r, hr⟩ : ∃ r, r = escS (tail s 1) := ⟨_, rfl⟩
  rw [← hr] at hx ⊢
  obtain ⟨y, hy⟩ : ∃ y, y = tail s 1 := ⟨_, rfl⟩
  have hy' : s.extract 1 s.size = y := hy.symm
  have HY := Lib.hid hy
  rw [← hy] at hx
  have HX := Lib.hid hx
  clear hb hy hs hx hr
  cases r with
  | none =>
    go_enter Try.func37, Try.ntmps37
    go_wp2_with (go_at_call 43; refine (HX.out _).mono ?_; rintro e w' ⟨⟨x, z, rfl⟩, hb⟩)
    go_ret3
    exact ⟨⟨x, z, rfl⟩, hb⟩
  | some q =>
    obtain ⟨v, k⟩ := q
    go_enter Try.func37, Try.ntmps37
    go_wp2_with (go_at_call 43; refine (HX.out _).mono ?_; rintro e w' ⟨rfl, hb⟩)
    go_ret3
    exact ⟨by rw [HY.out, tail_tail, Nat.add_comm 1 k]; rfl, hb⟩
theorem element_any (s : ByteArray) (w : World) : Calls Try.prog 37 #[.string s] w (ElEnd s (elS s) w) := by
  unfold elS
  by_cases hs : s.size = 0
  · rw [if_pos hs]; exact element_empty s hs w
  rw [if_neg hs]
  by_cases h1 : byt s 0 = 92
  · rw [if_pos h1]; exact element_esc s hs h1 w
  rw [if_neg h1]
  by_cases h2 : byt s 0 = 93 ∨ byt s 0 = 45
  · rw [if_pos h2]; exact element_bad s hs _ rfl h2 w
  · rw [if_neg h2]; exact element_self s hs _ rfl h1 (by omega) (by omega) w

/-- An item: the first and the last letter, and how many bytes it takes. -/
def itemS (s : ByteArray) : Option (Nat × Nat × Nat) :=
  match elS s with
  | none => none
  | some (lo, k) => if (tail s k).size = 0 ∨ byt (tail s k) 0 ≠ 45 then some (lo, lo, k) else
    match elS (tail s (k + 1)) with
    | none => none
    | some (hi, m) => if lo ≤ hi then some (lo, hi, k + 1 + m) else none
def GotItem (s : ByteArray) (lo hi k : Nat) (w : World) : Ending → World → Prop := fun e w' => e = .returned (.tuple #[.int .u8 lo, .int .u8 hi, .string (tail s k), .bool true]) ∧ Below w.heap.size w w'
def MissedItem (w : World) : Ending → World → Prop := fun e w' => (∃ (x z : Int) (y : ByteArray), e = .returned (.tuple #[.int .u8 x, .int .u8 z, .string y, .bool false])) ∧ Below w.heap.size w w'
def ItemEnd (s : ByteArray) (r : Option (Nat × Nat × Nat)) (w : World) : Ending → World → Prop := match r with
  | some (lo, hi, k) => GotItem s lo hi k w
  | none => MissedItem w
theorem results_four {fn : Func} {t u v x : Tmp} (h : fn.results = #[.tmp t, .tmp u, .tmp v, .tmp x]) (tmps : Array Value) (P : Program) (w : World) :
    (results fn tmps).run P w = .ok (.tuple #[tmps.getD t undef, tmps.getD u undef, tmps.getD v undef, tmps.getD x undef]) w := by simp [results, h]
theorem hyphen_yes (s : ByteArray) (h : ¬ (s.size = 0 ∨ byt s 0 ≠ 45)) : Lib.hasPrefix s.data.toList [45] = true := by
  cases hl : s.data.toList with
  | nil => exact absurd (.inl (by have := congrArg List.length hl; simpa using this)) h
  | cons x xs =>
    have : byt s 0 = x.toNat := by unfold byt; rw [hl]; rfl
    have hx : x = 45 := UInt8.toNat_inj.1 (by show x.toNat = 45; omega)
    subst hx; rfl
theorem hyphen_no (s : ByteArray) (h : s.size = 0 ∨ byt s 0 ≠ 45) : Lib.hasPrefix s.data.toList [45] = false := by
  cases hl : s.data.toList with
  | nil => rfl
  | cons x xs =>
    have hs : s.size ≠ 0 := by have := congrArg List.length hl; simp at this; omega
    have : byt s 0 = x.toNat := by unfold byt; rw [hl]; rfl
    have hx : x ≠ 45 := by rintro rfl; rw [this] at h; exact h.elim hs (fun h => h rfl)
    show ((45 == x) && _) = false
    rw [beq_eq_false_iff_ne.2 (Ne.symm hx)]; rfl

set_option maxHeartbeats 1000000 in
theorem item_first (s : ByteArray) (h : elS s = none) (w : World) : Calls Try.prog 32 #[.string s] w (MissedItem w) := by
  have hx := fun w => element_any s w
  rw [h] at hx
  have HX := Lib.hid hx
  clear h hx
  go_enter Try.func32, Try.ntmps32
  go_wp2_with (go_at_call 37; refine (HX.out _).mono ?_; rintro e w' ⟨⟨x, z, rfl⟩, hb⟩)
  refine bodyPost_ret (results_four rfl _ _ _) rfl ?_
  exact ⟨⟨_, _, _, rfl⟩, hb⟩
set_option maxHeartbeats 1000000 in
theorem item_one (s : ByteArray) (lo k : Nat) (h : elS s = some (lo, k)) (hp : Lib.hasPrefix (tail s k).data.toList [45] = false) (w : World) : Calls Try.prog 32 #[.string s] w (GotItem s lo lo k w) := by
  have hx : ∀ w, Calls Try.prog 37 #[.string s] w fun e w' => e = .returned (.tuple #[.int .u8 lo, .string (tail s k), .bool true]) ∧ Below w.heap.size w w' := fun w => by
    have := element_any s w; rw [h] at this; exact this
  have HX := Lib.hid hx
  have hh := fun w => Try.strings_HasPrefix (tail s k) ⟨#[45]⟩ w
  rw [show (⟨#[45]⟩ : ByteArray).data.toList = [45] from rfl, hp] at hh
  have HH := Lib.hid hh
  clear h hx hp hh
  go_enter Try.func32, Try.ntmps32
  go_wp2_with (first | (go_at_call 37; refine (HX.out _).mono ?_; rintro e w' ⟨rfl, hb⟩) | (go_at_call 38; refine (HH.out _).mono ?_; rintro e w' ⟨rfl, rfl⟩))
  refine bodyPost_ret (results_four rfl _ _ _) rfl ?_
  exact ⟨rfl, hb⟩
set_option maxHeartbeats 1000000 in
theorem item_range_bad (s : ByteArray) (lo k : Nat) (h : elS s = some (lo, k)) (hp : Lib.hasPrefix (tail s k).data.toList [45] = true) (h2 : elS (tail s (k + 1)) = none) (w : World) : Calls Try.prog 32 #[.string s] w (MissedItem w) := by
  have hx : ∀ w, Calls Try.prog 37 #[.string s] w fun e w' => e = .returned (.tuple #[.int .u8 lo, .string (tail s k), .bool true]) ∧ Below w.heap.size w w' := fun w => by
    have := element_any s w; rw [h] at this; exact this
  have HX := Lib.hid hx
  have hh := fun w => Try.strings_HasPrefix (tail s k) ⟨#[45]⟩ w
  rw [show (⟨#[45]⟩ : ByteArray).data.toList = [45] from rfl, hp] at hh
  have HH := Lib.hid hh
  have hz : ∀ w, Calls Try.prog 37 #[.string (tail s (k + 1))] w fun e w' => (∃ (x : Int) (y : ByteArray), e = .returned (.tuple #[.int .u8 x, .string y, .bool false])) ∧ Below w.heap.size w w' := fun w => by
    have := element_any (tail s (k + 1)) w; rw [h2] at this; exact this
  have HZ := Lib.hid hz
  have hk : (1 : Int) ≤ ((tail s k).size : Int) := by
    cases hl : (tail s k).data.toList with
    | nil => rw [hl] at hp; cases hp
    | cons x xs => have := congrArg List.length hl; simp at this; omega
  obtain ⟨t, ht⟩ : ∃ t, t = tail s k := ⟨_, rfl⟩
  have hy' : t.extract 1 t.size = tail s (k + 1) := by rw [ht]; exact tail_tail s k 1
  rw [← ht] at HH hk HX
  clear h hx hp hh hz h2 ht
  go_enter Try.func32, Try.ntmps32
  go_wp2_with (first | (go_at_call 37; with_reducible refine (HX.out _).mono ?_; rintro e w' ⟨rfl, hb⟩) | (go_at_call 38; with_reducible refine (HH.out _).mono ?_; rintro e w' ⟨rfl, rfl⟩) | (go_at_call 37; with_reducible refine (HZ.out _).mono ?_; rintro e w2 ⟨⟨x, z, rfl⟩, hb2⟩))
  refine bodyPost_ret (results_four rfl _ _ _) rfl ?_
  exact ⟨⟨_, _, _, rfl⟩, hb.trans (hb2.mono hb.size)⟩
set_option maxHeartbeats 1000000 in
theorem item_range_ok (s : ByteArray) (lo k hi m : Nat) (h : elS s = some (lo, k)) (hp : Lib.hasPrefix (tail s k).data.toList [45] = true) (h2 : elS (tail s (k + 1)) = some (hi, m)) (hle : (lo : Int) ≤ (hi : Int)) (w : World) :
    Calls Try.prog 32 #[.string s] w (GotItem s lo hi (k + 1 + m) w) := by
  have hx : ∀ w, Calls Try.prog 37 #[.string s] w fun e w' => e = .returned (.tuple #[.int .u8 lo, .string (tail s k), .bool true]) ∧ Below w.heap.size w w' := fun w => by
    have := element_any s w; rw [h] at this; exact this
  have HX := Lib.hid hx
  have hh := fun w => Try.strings_HasPrefix (tail s k) ⟨#[45]⟩ w
  rw [show (⟨#[45]⟩ : ByteArray).data.toList = [45] from rfl, hp] at hh
  have HH := Lib.hid hh
  have hz : ∀ w, Calls Try.prog 37 #[.string (tail s (k + 1))] w fun e w' => e = .returned (.tuple #[.int .u8 hi, .string (tail s (k + 1 + m)), .bool true]) ∧ Below w.heap.size w w' := fun w => by
    have := element_any (tail s (k + 1)) w; rw [h2] at this; rw [← tail_tail s (k + 1) m]; exact this
  have HZ := Lib.hid hz
  have hk : (1 : Int) ≤ ((tail s k).size : Int) := by
    cases hl : (tail s k).data.toList with
    | nil => rw [hl] at hp; cases hp
    | cons x xs => have := congrArg List.length hl; simp at this; omega
  obtain ⟨t, ht⟩ : ∃ t, t = tail s k := ⟨_, rfl⟩
  have hy' : t.extract 1 t.size = tail s (k + 1) := by rw [ht]; exact tail_tail s k 1
  rw [← ht] at HH hk HX
  obtain ⟨y, hy⟩ : ∃ y, y = tail s (k + 1) := ⟨_, rfl⟩
  rw [← hy] at hy' HZ
  obtain ⟨z, hz'⟩ : ∃ z, z = tail s (k + 1 + m) := ⟨_, rfl⟩
  rw [← hz'] at HZ
  have HZ' := Lib.hid hz'
  clear h hx hp hh hz h2 ht hy hz'
  go_enter Try.func32, Try.ntmps32
  go_wp2_with (first | (go_at_call 37; with_reducible refine (HX.out _).mono ?_; rintro e w' ⟨rfl, hb⟩) | (go_at_call 38; with_reducible refine (HH.out _).mono ?_; rintro e w' ⟨rfl, rfl⟩) | (go_at_call 37; with_reducible refine (HZ.out _).mono ?_; rintro e w2 ⟨rfl, hb2⟩))
  refine bodyPost_ret (results_four rfl _ _ _) rfl ?_
  exact ⟨by rw [← HZ'.out]; rfl, hb.trans (hb2.mono hb.size)⟩
set_option maxHeartbeats 1000000 in
theorem item_range_no (s : ByteArray) (lo k hi m : Nat) (h : elS s = some (lo, k)) (hp : Lib.hasPrefix (tail s k).data.toList [45] = true) (h2 : elS (tail s (k + 1)) = some (hi, m)) (hle : (hi : Int) < (lo : Int)) (w : World) :
    Calls Try.prog 32 #[.string s] w (MissedItem w) := by
  have hx : ∀ w, Calls Try.prog 37 #[.string s] w fun e w' => e = .returned (.tuple #[.int .u8 lo, .string (tail s k), .bool true]) ∧ Below w.heap.size w w' := fun w => by
    have := element_any s w; rw [h] at this; exact this
  have HX := Lib.hid hx
  have hh := fun w => Try.strings_HasPrefix (tail s k) ⟨#[45]⟩ w
  rw [show (⟨#[45]⟩ : ByteArray).data.toList = [45] from rfl, hp] at hh
  have HH := Lib.hid hh
  have hz : ∀ w, Calls Try.prog 37 #[.string (tail s (k + 1))] w fun e w' => e = .returned (.tuple #[.int .u8 hi, .string (tail s (k + 1 + m)), .bool true]) ∧ Below w.heap.size w w' := fun w => by
    have := element_any (tail s (k + 1)) w; rw [h2] at this; rw [← tail_tail s (k + 1) m]; exact this
  have HZ := Lib.hid hz
  have hk : (1 : Int) ≤ ((tail s k).size : Int) := by
    cases hl : (tail s k).data.toList with
    | nil => rw [hl] at hp; cases hp
    | cons x xs => have := congrArg List.length hl; simp at this; omega
  obtain ⟨t, ht⟩ : ∃ t, t = tail s k := ⟨_, rfl⟩
  have hy' : t.extract 1 t.size = tail s (k + 1) := by rw [ht]; exact tail_tail s k 1
  rw [← ht] at HH hk HX
  obtain ⟨y, hy⟩ : ∃ y, y = tail s (k + 1) := ⟨_, rfl⟩
  rw [← hy] at hy' HZ
  obtain ⟨z, hz'⟩ : ∃ z, z = tail s (k + 1 + m) := ⟨_, rfl⟩
  rw [← hz'] at HZ
  have HZ' := Lib.hid hz'
  clear h hx hp hh hz h2 ht hy hz'
  have hd : decide (lo ≤ hi) = false := decide_eq_false (by omega)
  go_enter Try.func32, Try.ntmps32
  go_wp2_with (first | (go_at_call 37; with_reducible refine (HX.out _).mono ?_; rintro e w' ⟨rfl, hb⟩) | (go_at_call 38; with_reducible refine (HH.out _).mono ?_; rintro e w' ⟨rfl, rfl⟩) | (go_at_call 37; with_reducible refine (HZ.out _).mono ?_; rintro e w2 ⟨rfl, hb2⟩))
  refine bodyPost_ret (results_four rfl _ _ _) rfl ?_
  exact ⟨⟨_, _, _, rfl⟩, hb.trans (hb2.mono hb.size)⟩
theorem item_any (s : ByteArray) (w : World) : Calls Try.prog 32 #[.string s] w (ItemEnd s (itemS s) w) := by
  unfold itemS
  cases h : elS s with
  | none => exact item_first s h w
  | some p =>
    obtain ⟨lo, k⟩ := p
    dsimp only
    by_cases hc : (tail s k).size = 0 ∨ byt (tail s k) 0 ≠ 45
    · rw [if_pos hc]; exact item_one s lo k h (hyphen_no _ hc) w
    · rw [if_neg hc]
      cases h2 : elS (tail s (k + 1)) with
      | none => exact item_range_bad s lo k h (hyphen_yes _ hc) h2 w
      | some q =>
        obtain ⟨hi, m⟩ := q
        dsimp only
        by_cases hle : lo ≤ hi
        · rw [if_pos hle]; exact item_range_ok s lo k hi m h (hyphen_yes _ hc) h2 (by omega) w
        · rw [if_neg hle]; exact item_range_no s lo k hi m h (hyphen_yes _ hc) h2 (by omega) w
end Go.Proofs.Ytcflbpcfmpkolaa
