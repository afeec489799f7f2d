/-
  One letter and one run of letters as Format writes them.
-/
import Derived.Test.YtcflbpcfmpkolaaBuild
import Derived.Test.YtcflbpcfmpkolaaLsD
namespace Go.Proofs.Ytcflbpcfmpkolaa
open Go.Shelf Go.RowKit

def byteZ (z : Int) : UInt8 := UInt8.ofNat z.toNat
theorem byteZ_nat {z : Int} (h0 : 0 ≤ z) (h1 : z < 256) : ((byteZ z).toNat : Int) = z := by
  unfold byteZ
  rw [UInt8.toNat_ofNat']; omega

/-- Since w0 the builder at b has come to hold l; nothing that lay below B has turned. -/
structure Wr (B b : Nat) (w0 : World) (l : List UInt8) (w : World) : Prop where
  build : Build B b l w
  below : Below B w0 w
  room : B ≤ w0.heap.size
theorem Wr.size {B b : Nat} {w0 : World} {l : List UInt8} {w : World} (h : Wr B b w0 l w) : B ≤ w.heap.size := Nat.le_trans h.room h.below.size
theorem Wr.later {B b : Nat} {w0 : World} {l : List UInt8} {w w' : World} (h : Wr B b w0 l w) (hb : Below w.heap.size w w') : Wr B b w0 l w' := ⟨h.build.later hb, h.below.trans (hb.mono h.size), h.room⟩

theorem byte_step {B b : Nat} {w0 : World} {l : List UInt8} {w : World} (h : Wr B b w0 l w) (z : Int) (h0 : 0 ≤ z) (h1 : z < 256) (hlen : l.length + 1 ≤ 140737488355328) :
    Calls Try.prog 42 #[.pointer (some ⟨b, 0, none⟩), .int .u8 z] w fun e w' => e = .returned .nilIface ∧ Wr B b w0 (l ++ [byteZ z]) w' := by
  have := writeByte_any B b l (byteZ z) w h.build hlen h.size
  rw [byteZ_nat h0 h1] at this
  exact this.mono fun e w' ⟨he, hb, hw⟩ => ⟨he, hb, h.below.trans hw, h.room⟩
theorem byteU_step {B b : Nat} {w0 : World} {l : List UInt8} {w : World} (h : Wr B b w0 l w) (c : UInt8) (hlen : l.length + 1 ≤ 140737488355328) :
    Calls Try.prog 42 #[.pointer (some ⟨b, 0, none⟩), .int .u8 (c.toNat : Nat)] w fun e w' => e = .returned .nilIface ∧ Wr B b w0 (l ++ [c]) w' :=
  (writeByte_any B b l c w h.build hlen h.size).mono fun e w' ⟨he, hb, hw⟩ => ⟨he, hb, h.below.trans hw, h.room⟩
theorem string_step {B b : Nat} {w0 : World} {l : List UInt8} {w : World} (h : Wr B b w0 l w) (s : ByteArray) (hlen : l.length + s.size ≤ 140737488355328) :
    Calls Try.prog 45 #[.pointer (some ⟨b, 0, none⟩), .string s] w fun e w' => e = .returned (.tuple #[.int .i64 s.size, .nilIface]) ∧ Wr B b w0 (l ++ s.data.toList) w' :=
  (writeString_any B b l s w h.build hlen h.size).mono fun e w' ⟨he, hb, hw⟩ => ⟨he, hb, h.below.trans hw, h.room⟩

/-- The digits in hexadecimal notation. -/
def hexB : ByteArray := ⟨#[48, 49, 50, 51, 52, 53, 54, 55, 56, 57, 97, 98, 99, 100, 101, 102]⟩
def hexD (n : Nat) : UInt8 := hexB.data.getD n 0
/-- The notation of a letter. -/
def letB (x : Nat) : List UInt8 :=
  if x = 10 then [92, 110] else if x = 9 then [92, 116] else if x = 13 then [92, 114]
  else if x < 32 ∨ 126 < x then [92, 120, hexD (x / 16), hexD (x % 16)]
  else if x = 92 ∨ x = 93 ∨ x = 45 ∨ x = 94 ∨ x = 91 then [92, UInt8.ofNat x] else [UInt8.ofNat x]
theorem byteZ_cast (x : Nat) : byteZ (x : Int) = UInt8.ofNat x := by simp [byteZ]
theorem hexD_at (k : Nat) (h : k < 16) : (⟨#[48, 49, 50, 51, 52, 53, 54, 55, 56, 57, 97, 98, 99, 100, 101, 102]⟩ : ByteArray)[k] = hexD k := by
  unfold hexD
  rw [Array.getD_eq_getD_getElem?, Array.getElem?_eq_getElem (by exact h)]; rfl
theorem letB_le (x : Nat) : (letB x).length ≤ 4 := by
  unfold letB; repeat' split
  all_goals simp

set_option maxHeartbeats 1000000 in
set_option maxRecDepth 100000 in
theorem writeLetter_any {B b : Nat} {w0 : World} {l : List UInt8} {w : World} (h : Wr B b w0 l w) (x : Nat) (hx : (x : Int) < 256) (hlen : l.length + 4 ≤ 140737488355328) :
    Calls Try.prog 41 #[.pointer (some ⟨b, 0, none⟩), .int .u8 (x : Nat)] w fun e w' => e = .returned (.tuple #[]) ∧ Wr B b w0 (l ++ letB x) w' := by
  have HL := Lib.hid hlen
  clear hlen
  go_enter Try.func41, Try.ntmps41
  go_wp2_with (first | (go_at_call 45; (with_reducible refine (string_step h _ ?_).mono ?_); (have := HL.out; simp [ByteArray.size]; omega); clear h; rintro e w1 ⟨rfl, h⟩) | (go_at_call 42; (with_reducible refine (byteU_step h _ ?_).mono ?_); (have := HL.out; simp; omega); clear h; rintro e w1 ⟨rfl, h⟩) | (go_at_call 42; (with_reducible refine (byte_step h _ ?_ ?_ ?_).mono ?_); omega; omega; (have := HL.out; simp; omega); clear h; rintro e w1 ⟨rfl, h⟩))
  all_goals go_end0
  all_goals refine ⟨rfl, ?_⟩
  all_goals simp only [beq_iff_eq, beq_eq_false_iff_ne, ne_eq] at *
  all_goals try simp only [List.append_assoc, List.cons_append, List.nil_append] at h
  all_goals unfold letB
  all_goals repeat (first | rw [if_pos (by omega)] | rw [if_neg (by omega)])
  all_goals
    first
    | exact h
    | (rw [hexD_at _ (by omega), hexD_at _ (by omega)] at h; exact h)
    | (rw [← byteZ_cast]; exact h)
    | (rw [← byteZ_cast]
       rcases (by omega : (x : Int) = 92 ∨ (x : Int) = 93 ∨ (x : Int) = 45 ∨ (x : Int) = 94 ∨ (x : Int) = 91) with e | e | e | e | e <;> first | omega | (rw [e]; exact h))

/-- The notation of a run of letters. -/
def runB (a b : Nat) : List UInt8 := letB a ++ (if a + 1 < b then [45] else []) ++ (if a < b then letB b else [])
theorem runB_le (a b : Nat) : (runB a b).length ≤ 9 := by
  have h1 := letB_le a
  have h2 := letB_le b
  unfold runB
  split <;> split <;> simp <;> omega

set_option maxRecDepth 100000 in
theorem writeRun_any {B b : Nat} {w0 : World} {l : List UInt8} {w : World} (h : Wr B b w0 l w) (x y : Nat) (hxy : x ≤ y) (hy : (y : Int) < 256) (hlen : l.length + 9 ≤ 140737488355328) :
    Calls Try.prog 34 #[.pointer (some ⟨b, 0, none⟩), .int .i64 (x : Nat), .int .i64 (y : Nat)] w fun e w' => e = .returned (.tuple #[]) ∧ Wr B b w0 (l ++ runB x y) w' := by
  have HL := Lib.hid hlen
  have lx := Lib.hid (letB_le x)
  have hx : (x : Int) < 256 := by omega
  clear hlen
  go_enter Try.func34, Try.ntmps34
  go_wp2_with (first | (go_at_call 41; (with_reducible refine (writeLetter_any h _ ?_ ?_).mono ?_); omega; (have := HL.out; have := lx.out; simp; omega); clear h; rintro e w1 ⟨rfl, h⟩) | (go_at_call 42; (with_reducible refine (byte_step h _ ?_ ?_ ?_).mono ?_); omega; omega; (have := HL.out; have := lx.out; simp; omega); clear h; rintro e w1 ⟨rfl, h⟩))
  all_goals go_end0
  all_goals refine ⟨rfl, ?_⟩
  all_goals unfold runB
  all_goals repeat (first | rw [if_pos (by omega)] | rw [if_neg (by omega)])
  all_goals try simp only [List.append_assoc] at h
  all_goals simp only [List.append_assoc, List.append_nil, List.nil_append]
  all_goals exact h
end Go.Proofs.Ytcflbpcfmpkolaa
