/-
  Package letterset: Parse.
-/
import Derived.Test.YtcflbpcfmpkolaaLsItem
import Derived.Test.YtcflbpcfmpkolaaLsOps
namespace Go.Proofs.Ytcflbpcfmpkolaa
open Go.RowKit

/-- What a notation adds to a set; none if it is no notation. n: at least its length. -/
def parseS : Nat → ByteArray → (Nat → Nat) → Option (Nat → Nat)
  | 0, _, acc => some acc
  | n + 1, s, acc => if s.size = 0 then some acc else match itemS s with
    | none => none
    | some (lo, hi, k) => parseS n (tail s k) (orW acc (ofW (fun i => lo + i) (hi + 1 - lo)))

theorem escS_pos {s : ByteArray} {v k : Nat} (h : escS s = some (v, k)) : 1 ≤ k ∧ k ≤ s.size ∧ v < 256 := by
  unfold escS at h
  have b0 := byt_le s 0
  have b1 := hexV_le (byt s 1)
  have b2 := hexV_le (byt s 2)
  repeat' split at h
  all_goals first | (cases h; done) | (cases h; omega)
theorem elS_pos {s : ByteArray} {v k : Nat} (h : elS s = some (v, k)) : 1 ≤ k ∧ k ≤ s.size ∧ v < 256 := by
  unfold elS at h
  have b0 := byt_le s 0
  split at h
  · cases h
  · split at h
    · cases he : escS (tail s 1) with
      | none => rw [he] at h; cases h
      | some p =>
        obtain ⟨a, b⟩ := p
        rw [he] at h
        have := escS_pos he
        rw [tail_size] at this
        cases h; omega
    · split at h
      · cases h
      · cases h; omega
theorem itemS_pos {s : ByteArray} {lo hi k : Nat} (h : itemS s = some (lo, hi, k)) : 1 ≤ k ∧ k ≤ s.size ∧ lo ≤ hi ∧ hi < 256 := by
  unfold itemS at h
  cases he : elS s with
  | none => rw [he] at h; cases h
  | some p =>
    obtain ⟨a, b⟩ := p
    rw [he] at h
    have h1 := elS_pos he
    dsimp only at h
    split at h
    · cases h; omega
    · cases h2 : elS (tail s (b + 1)) with
      | none => rw [h2] at h; cases h
      | some q =>
        obtain ⟨c, d⟩ := q
        rw [h2] at h
        have h3 := elS_pos h2
        rw [tail_size] at h3
        dsimp only at h
        split at h
        · cases h; omega
        · cases h

theorem results_let2 {fn : Func} {p q : Tmp} (h : fn.results = #[.cell p 24, .tmp q]) (tmps : Array Value) {w : World} {g : Nat} {t : TypeId} {s : Nat → Nat} (hr : Row w g t (lc s)) (hp : tmps.getD p undef = .pointer (some ⟨g, 0, none⟩)) :
    (results fn tmps).run Try.prog w = .ok (.tuple #[.agg (lc s), tmps.getD q undef]) w := by
  have hp' : tmps[p]?.getD undef = .pointer (some ⟨g, 0, none⟩) := by simpa using hp
  simp [results, h, hp', asAddr, load_let hr]

theorem lc_zero : lc (fun _ => 0) = #[.int .u64 0, .int .u64 0, .int .u64 0, .int .u64 0] := rfl

def ParseRel (R : Option (Nat → Nat)) (w : World) (v : Value) (wr : World) : Prop :=
  ∃ (n : Nat) (x : ByteArray) (acc : Nat → Nat), v = .string x ∧ x.size ≤ n ∧ Small acc ∧ parseS n x acc = R ∧ Row wr w.heap.size 24 (lc fun _ => 0) ∧ Row wr (w.heap.size + 1) 24 (lc acc) ∧ Below w.heap.size w wr
def leftS (v : Value) : Nat := match v with | .string x => x.size | _ => 0
def ParseEnd (R : Option (Nat → Nat)) (w : World) : Ending → World → Prop := match R with
  | some s => fun e w' => e = .returned (.tuple #[.agg (lc s), .nilIface]) ∧ Below w.heap.size w w'
  | none => fun e w' => e = .returned (.tuple #[.agg (lc fun _ => 0), .iface 62 (.int .i64 4)]) ∧ Below w.heap.size w w'

set_option maxHeartbeats 2000000 in
theorem parse_any (t : ByteArray) (R : Option (Nat → Nat)) (hR : parseS t.size t (fun _ => 0) = R) (w : World) :
    Calls Try.prog 25 #[.string t] w (ParseEnd R w) := by
  have HR := Lib.hid hR
  have zs := zero_let
  clear hR
  go_enter Try.func25, Try.ntmps25
  go_wp2
  go_loopw [0] (fun v wr => ParseRel R w v wr) (fun v _ => leftS v)
  case atStart =>
    unfold ParseRel
    have b := ((Below.refl w.heap.size w).alloc (Nat.le_refl _) (Obj.cells (lc fun _ => 0) 24)).alloc (by simp) (Obj.cells (lc fun _ => 0) 24)
    have r0 := (Row.new w 24 (lc fun _ => 0)).alloc (Obj.cells (lc fun _ => 0) 24)
    have r1 := Row.new (w.alloc (Obj.cells (lc fun _ => 0) 24)) 24 (lc fun _ => 0)
    exact ⟨t.size, t, fun _ => 0, rfl, Nat.le_refl _, zero_small, HR.out, r0, by simpa using r1, b⟩
  case round =>
    obtain ⟨n, x, acc, rfl, hn, hacc, hp, r0, r1, hb⟩ := hrel
    have HP := Lib.hid (And.intro hn (And.intro hacc hp))
    clear hn hacc hp zs HR
    by_cases hx : x.size = 0
    · have hl := str_empty x hx
      have hR' : R = some acc := by
        have := HP.out.2.2
        cases n with
        | zero => exact this.symm
        | succ n => rw [parseS, if_pos hx] at this; exact this.symm
      have HR' := Lib.hid hR'
      clear hx hR'
      go_wp2_with (first | (with_reducible refine wpList_load_let r1 rfl _ rfl ?_ ?_; go_simp; go_simp) | (with_reducible refine wpList_store_let (s' := acc) r0 rfl _ _ rfl ?_ ?_ ?_; go_simp; go_simp; go_simp))
      refine bodyPost_ret (results_let2 (p := 2) (q := 3) rfl _ (r0.setRow (lc acc)) ?_) rfl ?_
      · go_simp
      rw [HR'.out]
      exact ⟨rfl, below_setRow hb (by omega) _⟩
    · have hl := str_some x hx
      cases hi : itemS x with
      | none =>
        have hR' : R = none := by
          have := HP.out.2.2
          cases n with
          | zero => exact absurd (Nat.le_zero.1 HP.out.1) hx
          | succ n => rw [parseS, if_neg hx, hi] at this; exact this.symm
        have HR' := Lib.hid hR'
        have hit := Lib.hid (fun w => (show Calls Try.prog 32 #[.string x] w fun e w' => (∃ (x z : Int) (y : ByteArray), e = .returned (.tuple #[.int .u8 x, .int .u8 z, .string y, .bool false])) ∧ Below w.heap.size w w' by have := item_any x w; rw [hi] at this; exact this))
        clear hx hR' hi
        go_wp2_with (first | (go_at_call 32; with_reducible refine (hit.out _).mono ?_; rintro e w2 ⟨⟨x1, x2, x3, rfl⟩, hb2⟩; have r0 := r0.below' hb2; have hb := hb.trans (hb2.mono hb.size)) | (with_reducible refine wpList_store_let (s' := fun _ => 0) r0 rfl _ _ rfl ?_ ?_ ?_; go_simp; (rw [lc_zero]; go_simp); go_simp))
        refine bodyPost_ret (results_let2 (p := 2) (q := 3) rfl _ (r0.setRow (lc fun _ => 0)) ?_) rfl ?_
        · go_simp
        rw [HR'.out]
        exact ⟨rfl, below_setRow hb (by omega) _⟩
      | some q =>
        obtain ⟨lo, hi', k⟩ := q
        have hpos := itemS_pos hi
        have hit := Lib.hid (fun w => (show Calls Try.prog 32 #[.string x] w fun e w' => e = .returned (.tuple #[.int .u8 lo, .int .u8 hi', .string (tail x k), .bool true]) ∧ Below w.heap.size w w' by have := item_any x w; rw [hi] at this; exact this))
        have hbt := Lib.hid (fun w => between_any lo hi' (by omega) (by omega) w)
        have hun := Lib.hid (fun w => union_any acc (ofW (fun i => lo + i) (hi' + 1 - lo)) HP.out.2.1 (ofW_small _ _) w)
        obtain ⟨B, hB⟩ : ∃ B, B = ofW (fun i => lo + i) (hi' + 1 - lo) := ⟨_, rfl⟩
        obtain ⟨U, hU⟩ : ∃ U, U = orW acc B := ⟨_, rfl⟩
        obtain ⟨y, hy⟩ : ∃ y, y = tail x k := ⟨_, rfl⟩
        rw [← hB] at hbt hun
        rw [← hU] at hun
        rw [← hy] at hit
        have hnext : ∃ n', y.size ≤ n' ∧ parseS n' y U = R ∧ Small U ∧ y.size < x.size := by
          have h1 := HP.out.1
          have h2 := HP.out.2.2
          cases n with
          | zero => exact absurd (Nat.le_zero.1 h1) hx
          | succ n =>
            rw [parseS, if_neg hx, hi] at h2
            refine ⟨n, by rw [hy, tail_size]; omega, by rw [hU, hB, hy]; exact h2, by rw [hU, hB]; exact orW_small HP.out.2.1 (ofW_small _ _), by rw [hy, tail_size]; omega⟩
        have HN := Lib.hid hnext
        clear hx hi hpos hB hU hy hnext
        go_wp2_with (first | (go_at_call 32; with_reducible refine (hit.out _).mono ?_; rintro e w2 ⟨rfl, hb2⟩; have r0 := r0.below' hb2; have r1 := r1.below' hb2; have hb := hb.trans (hb2.mono hb.size)))
        refine wp_region_tail 5 (by kernel_rfl) (by kernel_rfl) ?_
        simp only [List.take_succ_cons, List.take_zero, List.drop_succ_cons, List.drop_zero]
        repeat (first | go_big_quiet_skip | (go_big_quiet_want; first | (with_reducible refine quiet_load_let r1 _ rfl ?_ ?_; go_simp; go_simp; go_big_quiet_on) | (go_big_quiet_op; first | go_big_quiet_on | go_big_quiet_call (first | with_reducible exact calls_later (hbt.out _) | with_reducible exact calls_later (hun.out _)))))
        refine wpQuiet_nil ?_
        rintro w4 ⟨u, rfl⟩
        have q0 := r0.later u
        have q1 := r1.later u
        have hb5 := hb.trans ((below_later _ u).mono hb.size)
        go_wp2_with (first | (with_reducible refine wpList_store_let (s' := U) q1 rfl _ _ rfl ?_ ?_ ?_; go_simp; go_simp; go_simp))
        go_roundw
        case rel =>
          obtain ⟨n', h1, h2, h3, h4⟩ := HN.out
          unfold ParseRel
          exact ⟨n', y, U, rfl, h1, h3, h2, q0.setRow_far (by simp) _, q1.setRow _, below_setRow hb5 (by simp) _⟩
        case measure =>
          obtain ⟨n', h1, h2, h3, h4⟩ := HN.out
          simp [leftS]; exact h4
end Go.Proofs.Ytcflbpcfmpkolaa
