/-
  The reference's Parse.
-/
import Derived.Test.YtcflbpcfmpkolaaLsParse
import Derived.Test.YtcflbpcfmpkolaaRefEl
namespace Go.Proofs.Ytcflbpcfmpkolaa
open Go.RowKit

theorem results_set2 {fn : Func} {p q : Tmp} (h : fn.results = #[.cell p 26, .tmp q]) (tmps : Array Value) {w : World} {g : Nat} {t : TypeId} {f : Nat → Bool} (hr : Row w g t (sc f)) (hp : tmps.getD p undef = .pointer (some ⟨g, 0, none⟩)) :
    (results fn tmps).run Try.prog w = .ok (.tuple #[.agg (sc f), tmps.getD q undef]) w := by
  have hp' : tmps[p]?.getD undef = .pointer (some ⟨g, 0, none⟩) := by simpa using hp
  simp [results, h, hp', asAddr, load_set hr]
theorem built_set : Try.prog.built 26 [] = some (Array.replicate 256 (.bool false)) := by kernel_rfl
theorem wpList_build_set {ops : Array Oper} {rest : List Oper} {o : Oper} {a : Act} {w : World} {Q : Exit → Act → World → Prop} (hg : o.guard = none) (ho : o.op = .build 26 #[])
    (h : wpList Try.prog ops Q rest (a.put o.dst (.agg (sc fun _ => false))) w) : wpList Try.prog ops Q (o :: rest) a w := by
  refine wpList_build hg _ _ ho ?_ ?_
  · simp [built_set]
  · rw [sc_none.symm] at h
    simpa [built_set] using h

theorem inner_zero (acc : Nat → Nat) (lo : Nat) : sc (bit acc) = sc (bit (orW acc (ofW (fun i => lo + i) 0))) := sc_congr fun x _ => by rw [bit_or, ofW, bit_zero]; simp
theorem inner_step (acc : Nat → Nat) (lo m : Nat) : (fun j => if j = lo + m then true else bit (orW acc (ofW (fun i => lo + i) m)) j) = bit (orW acc (ofW (fun i => lo + i) (m + 1))) := by
  funext j
  rw [bit_or, bit_or, ofW, bit_put]
  by_cases h : j = lo + m
  · rw [if_pos h, decide_eq_true h]; simp
  · rw [if_neg h, decide_eq_false h]; simp

def InnerRel (acc : Nat → Nat) (lo c : Nat) (w : World) (v : Value) (wr : World) : Prop :=
  ∃ m : Nat, m ≤ c ∧ v = .int .i64 ((lo : Int) + (m : Int)) ∧ Row wr w.heap.size 26 (sc fun _ => false) ∧ Row wr (w.heap.size + 1) 26 (sc (bit (orW acc (ofW (fun i => lo + i) m)))) ∧ Below w.heap.size w wr
def RPRel (t : ByteArray) (R : Option (Nat → Nat)) (w : World) (v : Value) (wr : World) : Prop :=
  ∃ (n a : Nat) (acc : Nat → Nat), v = .int .i64 a ∧ t.size - a ≤ n ∧ Small acc ∧ parseS n (tail t a) acc = R ∧ a ≤ t.size ∧ Row wr w.heap.size 26 (sc fun _ => false) ∧ Row wr (w.heap.size + 1) 26 (sc (bit acc)) ∧ Below w.heap.size w wr
def leftI (t : ByteArray) (v : Value) : Nat := t.size - (intOf v).toNat
def RPEnd (R : Option (Nat → Nat)) (w : World) : Ending → World → Prop := match R with
  | some s => fun e w' => e = .returned (.tuple #[.agg (sc (bit s)), .int .i64 0]) ∧ Below w.heap.size w w'
  | none => fun e w' => e = .returned (.tuple #[.agg (sc fun _ => false), .int .i64 4]) ∧ Below w.heap.size w w'
theorem bit_none : bit (fun _ => 0) = fun _ => false := by funext x; exact bit_zero x
theorem RElEnd_some {t : ByteArray} {a v k : Nat} {w : World} (h : elS (tail t a) = some (v, k)) : RElEnd t a w = fun e w' => e = .returned (.tuple #[.int .i64 v, .int .i64 (a + k : Nat)]) ∧ Below w.heap.size w w' := by unfold RElEnd; rw [h]; rfl
theorem RElEnd_none {t : ByteArray} {a : Nat} {w : World} (h : elS (tail t a) = none) : RElEnd t a w = fun e w' => e = .returned (.tuple #[.int .i64 (-1), .int .i64 a]) ∧ Below w.heap.size w w' := by unfold RElEnd; rw [h]; rfl

set_option maxHeartbeats 4000000 in
theorem refparse_any (t : ByteArray) (ht : t.size ≤ 140737488355300) (R : Option (Nat → Nat)) (hR : parseS t.size t (fun _ => 0) = R) (w : World) :
    Calls Try.prog 26 #[.string t] w (RPEnd R w) := by
  have HR := Lib.hid hR
  have zs := zero_set
  clear hR
  go_enter Try.func26, Try.ntmps26
  go_wp2
  go_loopw [5] (fun v wr => RPRel t R w v wr) (fun v _ => leftI t v)
  case atStart =>
    unfold RPRel
    have b := ((Below.refl w.heap.size w).alloc (Nat.le_refl _) (Obj.cells (sc fun _ => false) 26)).alloc (by simp) (Obj.cells (sc fun _ => false) 26)
    have r0 := (Row.new w 26 (sc fun _ => false)).alloc (Obj.cells (sc fun _ => false) 26)
    have r1 := Row.new (w.alloc (Obj.cells (sc fun _ => false) 26)) 26 (sc fun _ => false)
    exact ⟨t.size, 0, fun _ => 0, rfl, by omega, zero_small, by rw [tail_zero]; exact HR.out, by omega, r0, by rw [bit_none]; simpa using r1, b⟩
  case round =>
    obtain ⟨n, a, acc, rfl, hn, hacc, hp, hat, r0, r1, hb⟩ := hrel
    have HP := Lib.hid (And.intro hat (And.intro hn (And.intro hacc hp)))
    have HT := Lib.hid ht
    clear hn hacc hp zs HR hat ht
    by_cases hx : (a : Int) < (t.size : Int)
    · cases h1 : elS (tail t a) with
      | none =>
        have hit : itemS (tail t a) = none := by unfold itemS; rw [h1]
        have hR' : R = none := by
          have h2 := HP.out.2.2.2
          have h1 := HP.out.2.1
          cases n with
          | zero => omega
          | succ n => rw [parseS, if_neg (by rw [tail_size]; omega), hit] at h2; exact h2.symm
        have HR' := Lib.hid hR'
        have E1 := Lib.hid (fun w => RElEnd_none h1 ▸ ref_element t a (by have := HT.out; omega) (by have := HT.out; omega) w)
        clear h1 hit hR'
        go_wp2_with (first | (go_at_call 33; with_reducible refine (E1.out _).mono ?_; rintro e w2 ⟨rfl, hb2⟩; have r0 := r0.below' hb2; have r1 := r1.below' hb2; have hb := hb.trans (hb2.mono hb.size)) | (with_reducible refine wpList_build_set rfl rfl ?_; go_simp) | (with_reducible refine wpList_store_set (f' := fun _ => false) r0 rfl _ _ rfl ?_ ?_ ?_; go_simp; go_simp; go_simp))
        refine bodyPost_ret (results_set2 (p := 2) (q := 3) rfl _ (r0.setRow (sc fun _ => false)) ?_) rfl ?_
        · go_simp
        rw [HR'.out]
        exact ⟨rfl, below_setRow hb (by omega) _⟩
      | some p =>
        obtain ⟨lo, k⟩ := p
        have hpos := elS_pos h1
        rw [tail_size] at hpos
        have E1 := Lib.hid (fun w => RElEnd_some h1 ▸ ref_element t a (by have := HT.out; omega) (by have := HT.out; omega) w)
        obtain ⟨b, hbk⟩ : ∃ b, b = a + k := ⟨_, rfl⟩
        rw [← hbk] at E1
        have HBK := Lib.hid hbk
        have hbs : b ≤ t.size := by omega
        have hb9 : (b : Int) ≤ 140737488355300 := by have := HT.out; omega
        clear hbk
        by_cases hh : b < t.size ∧ byt t b = 45
        · have hc : ¬ ((tail (tail t a) k).size = 0 ∨ byt (tail (tail t a) k) 0 ≠ 45) := by rw [tail_tail, tail_size, byt_tail, ← HBK.out, Nat.add_zero]; omega
          have y0 : (t[b]'hh.1).toNat = 45 := by rw [byt_eq]; exact hh.2
          have hb1 : (b : Int) < (t.size : Int) := by omega
          cases h2 : elS (tail t (b + 1)) with
          | none =>
            have hit : itemS (tail t a) = none := by unfold itemS; rw [h1]; dsimp only; rw [if_neg hc, tail_tail, show a + (k + 1) = b + 1 by rw [HBK.out]; omega, h2]
            have E2 := Lib.hid (fun w => (show Calls Try.prog 33 #[.string t, .int .i64 ((b : Int) + 1)] w fun e w' => e = .returned (.tuple #[.int .i64 (-1), .int .i64 ((b : Int) + 1)]) ∧ Below w.heap.size w w' from RElEnd_none h2 ▸ ref_element t (b + 1) (by have := HT.out; omega) (by have := HT.out; omega) w))
            have hR' : R = none := by
              have h2 := HP.out.2.2.2
              have h1 := HP.out.2.1
              cases n with
              | zero => omega
              | succ n => rw [parseS, if_neg (by rw [tail_size]; omega), hit] at h2; exact h2.symm
            have HR' := Lib.hid hR'
            have hneg : (-1 : Int) < (lo : Int) := by omega
            clear h1 h2 hit hR' hc
            go_wp2_with (first | (go_at_call 33; with_reducible refine (E1.out _).mono ?_; rintro e w2 ⟨rfl, hb2⟩; have r0 := r0.below' hb2; have r1 := r1.below' hb2; have hb := hb.trans (hb2.mono hb.size)) | (go_at_call 33; with_reducible refine (E2.out _).mono ?_; rintro e w2 ⟨rfl, hb2⟩; have r0 := r0.below' hb2; have r1 := r1.below' hb2; have hb := hb.trans (hb2.mono hb.size)) | (with_reducible refine wpList_build_set rfl rfl ?_; go_simp) | (with_reducible refine wpList_store_set (f' := fun _ => false) r0 rfl _ _ rfl ?_ ?_ ?_; go_simp; go_simp; go_simp))
            refine bodyPost_ret (results_set2 (p := 2) (q := 3) rfl _ (r0.setRow (sc fun _ => false)) ?_) rfl ?_
            · go_simp
            rw [HR'.out]
            exact ⟨rfl, below_setRow hb (by omega) _⟩
          | some q =>
            obtain ⟨hi', m⟩ := q
            have hpos2 := elS_pos h2
            rw [tail_size] at hpos2
            have E2 := Lib.hid (fun w => (show Calls Try.prog 33 #[.string t, .int .i64 ((b : Int) + 1)] w fun e w' => e = .returned (.tuple #[.int .i64 hi', .int .i64 (b + 1 + m : Nat)]) ∧ Below w.heap.size w w' from RElEnd_some h2 ▸ ref_element t (b + 1) (by have := HT.out; omega) (by have := HT.out; omega) w))
            by_cases hle : lo ≤ hi'
            · have hit : itemS (tail t a) = some (lo, hi', k + 1 + m) := by unfold itemS; rw [h1]; dsimp only; rw [if_neg hc, tail_tail, show a + (k + 1) = b + 1 by rw [HBK.out]; omega, h2]; dsimp only; rw [if_pos hle]
              have hnext : ∃ n' a', a' = (a + (k + 1 + m)) ∧ t.size - a' ≤ n' ∧ Small (orW acc (ofW (fun i => lo + i) (hi' + 1 - lo))) ∧ parseS n' (tail t a') (orW acc (ofW (fun i => lo + i) (hi' + 1 - lo))) = R ∧ a' ≤ t.size ∧ t.size - a' < t.size - a := by
                have h2 := HP.out.2.2.2
                have h1 := HP.out.2.1
                cases n with
                | zero => omega
                | succ n =>
                  rw [parseS, if_neg (by rw [tail_size]; omega), hit] at h2
                  dsimp only at h2
                  rw [tail_tail] at h2
                  have hbk := HBK.out
                  exact ⟨n, (a + (k + 1 + m)), rfl, by omega, orW_small HP.out.2.2.1 (ofW_small _ _), h2, by omega, by omega⟩
              obtain ⟨n', a', ha', hn'⟩ := hnext
              have HN := Lib.hid (show t.size - a' ≤ n' ∧ Small (orW acc (ofW (fun i => lo + i) (hi' + 1 - lo))) ∧ parseS n' (tail t a') (orW acc (ofW (fun i => lo + i) (hi' + 1 - lo))) = R ∧ a' ≤ t.size ∧ leftI t (.int .i64 a') < leftI t (.int .i64 a) from ⟨hn'.1, hn'.2.1, hn'.2.2.1, hn'.2.2.2.1, by unfold leftI intOf; dsimp only; have := hn'.2.2.2.2; omega⟩)
              have ha'' : b + 1 + m = a' := by rw [ha', HBK.out]; omega
              rw [ha''] at E2
              have hn1 : ¬ ((lo : Int) < 0) := by omega
              have hn2 : ¬ ((hi' : Int) < (lo : Int)) := by omega
              have hhi : hi' < 256 := hpos2.2.2
              have HHI := Lib.hid hhi
              clear h1 h2 hit hc ha' hn' ha'' hpos hpos2 hle hhi
              go_wp2_with (first | (go_at_call 33; with_reducible refine (E1.out _).mono ?_; rintro e w2 ⟨rfl, hb2⟩; have r0 := r0.below' hb2; have r1 := r1.below' hb2; have hb := hb.trans (hb2.mono hb.size)) | (go_at_call 33; with_reducible refine (E2.out _).mono ?_; rintro e w2 ⟨rfl, hb2⟩; have r0 := r0.below' hb2; have r1 := r1.below' hb2; have hb := hb.trans (hb2.mono hb.size)))
              go_loopw [9] (fun v wr => InnerRel acc lo (hi' + 1 - lo) w v wr) (fun v _ => left256 v)
              case atStart => unfold InnerRel; exact ⟨0, by omega, by simp, r0, Row.congr r1 (inner_zero acc lo), hb⟩
              case round =>
                obtain ⟨m, hm, rfl, q0, q1, hbq⟩ := hrel
                have HM := Lib.hid hm
                have HQ := Lib.hid (And.intro q0 q1)
                clear hm
                by_cases hlt : (lo : Int) + (m : Int) ≤ (hi' : Int)
                · obtain ⟨x, hx⟩ : ∃ x, x = lo + m := ⟨_, rfl⟩
                  have HX1 := Lib.hid (show x < 256 by have := HHI.out; omega)
                  have hx2 : (lo : Int) + (m : Int) = (x : Int) := by omega
                  have hx3 : (x : Int) ≤ (hi' : Int) := by omega
                  have hx4 : (x : Int) < 256 := by have := HX1.out; omega
                  have hc1 : wr.cell? ⟨w.heap.size + 1, x, none⟩ = some (.bool (bit (orW acc (ofW (fun i => lo + i) m)) x)) := by rw [q1.cell, sc_at _ HX1.out]
                  have hf1 := q1.frozen x
                  have HX := Lib.hid hx
                  rw [hx2]
                  clear hx q0 q1 hlt hx2
                  go_wp2
                  go_roundw
                  case rel =>
                    unfold InnerRel
                    refine ⟨m + 1, by have := HX.out; omega, by have := HX.out; go_num, HQ.out.1.far (by simp) _, ?_, hbq.setCell (by simp) _⟩
                    have := (HQ.out.2.set x (.bool true)).congr (sc_set _ _ _)
                    rw [HX.out, inner_step] at this
                    rw [HX.out]; exact this
                  case measure => exact left256_lt HX1.out rfl
                · have e : m = hi' + 1 - lo := by have := HM.out; omega
                  rw [e] at q1
                  clear e
                  go_wp2
                  go_roundw
                  case rel => unfold RPRel; exact ⟨n', a', _, rfl, HN.out.1, HN.out.2.1, HN.out.2.2.1, HN.out.2.2.2.1, q0, q1, hbq⟩
                  case measure => exact HN.out.2.2.2.2
            · have hit : itemS (tail t a) = none := by unfold itemS; rw [h1]; dsimp only; rw [if_neg hc, tail_tail, show a + (k + 1) = b + 1 by rw [HBK.out]; omega, h2]; dsimp only; rw [if_neg hle]
              have hR' : R = none := by
                have h2 := HP.out.2.2.2
                have h1 := HP.out.2.1
                cases n with
                | zero => omega
                | succ n => rw [parseS, if_neg (by rw [tail_size]; omega), hit] at h2; exact h2.symm
              have HR' := Lib.hid hR'
              have hn1 : ¬ ((lo : Int) < 0) := by omega
              have hn2 : (hi' : Int) < (lo : Int) := by omega
              clear h1 h2 hit hR' hc hle
              go_wp2_with (first | (go_at_call 33; with_reducible refine (E1.out _).mono ?_; rintro e w2 ⟨rfl, hb2⟩; have r0 := r0.below' hb2; have r1 := r1.below' hb2; have hb := hb.trans (hb2.mono hb.size)) | (go_at_call 33; with_reducible refine (E2.out _).mono ?_; rintro e w2 ⟨rfl, hb2⟩; have r0 := r0.below' hb2; have r1 := r1.below' hb2; have hb := hb.trans (hb2.mono hb.size)) | (with_reducible refine wpList_build_set rfl rfl ?_; go_simp) | (with_reducible refine wpList_store_set (f' := fun _ => false) r0 rfl _ _ rfl ?_ ?_ ?_; go_simp; go_simp; go_simp))
              refine bodyPost_ret (results_set2 (p := 2) (q := 3) rfl _ (r0.setRow (sc fun _ => false)) ?_) rfl ?_
              · go_simp
              rw [HR'.out]
              exact ⟨rfl, below_setRow hb (by omega) _⟩
        · have hc : (tail (tail t a) k).size = 0 ∨ byt (tail (tail t a) k) 0 ≠ 45 := by rw [tail_tail, tail_size, byt_tail, ← HBK.out, Nat.add_zero]; omega
          have hit : itemS (tail t a) = some (lo, lo, k) := by unfold itemS; rw [h1]; dsimp only; rw [if_pos hc]
          have hnext : ∃ n' a', a' = (a + k) ∧ t.size - a' ≤ n' ∧ Small (orW acc (ofW (fun i => lo + i) (lo + 1 - lo))) ∧ parseS n' (tail t a') (orW acc (ofW (fun i => lo + i) (lo + 1 - lo))) = R ∧ a' ≤ t.size ∧ t.size - a' < t.size - a := by
            have h2 := HP.out.2.2.2
            have h1 := HP.out.2.1
            cases n with
            | zero => omega
            | succ n =>
              rw [parseS, if_neg (by rw [tail_size]; omega), hit] at h2
              dsimp only at h2
              rw [tail_tail] at h2
              have hbk := HBK.out
              exact ⟨n, (a + k), rfl, by omega, orW_small HP.out.2.2.1 (ofW_small _ _), h2, by omega, by omega⟩
          obtain ⟨n', a', ha', hn'⟩ := hnext
          have HN := Lib.hid (show t.size - a' ≤ n' ∧ Small (orW acc (ofW (fun i => lo + i) (lo + 1 - lo))) ∧ parseS n' (tail t a') (orW acc (ofW (fun i => lo + i) (lo + 1 - lo))) = R ∧ a' ≤ t.size ∧ leftI t (.int .i64 a') < leftI t (.int .i64 a) from ⟨hn'.1, hn'.2.1, hn'.2.2.1, hn'.2.2.2.1, by unfold leftI intOf; dsimp only; have := hn'.2.2.2.2; omega⟩)
          have ha'' : b = a' := by rw [ha', HBK.out]
          have hn1 : ¬ ((lo : Int) < 0) := by omega
          have hhi : lo < 256 := by omega
          subst ha''
          have HHI := Lib.hid hhi
          clear h1 hit hc ha' hn' hpos hhi
          by_cases hbs2 : b < t.size
          · have y0 : (t[b]'hbs2).toNat = byt t b := byt_eq t b hbs2
            have hb1 : (b : Int) < (t.size : Int) := by omega
            have hy1 : ((byt t b : Int) == 45) = false := by simpa using (by omega : ¬ (byt t b : Int) = 45)
            clear hh
            go_wp2_with (first | (go_at_call 33; with_reducible refine (E1.out _).mono ?_; rintro e w2 ⟨rfl, hb2⟩; have r0 := r0.below' hb2; have r1 := r1.below' hb2; have hb := hb.trans (hb2.mono hb.size)))
            clear y0 hy1
            go_loopw [9] (fun v wr => InnerRel acc lo (lo + 1 - lo) w v wr) (fun v _ => left256 v)
            case atStart => unfold InnerRel; exact ⟨0, by omega, by simp, r0, Row.congr r1 (inner_zero acc lo), hb⟩
            case round =>
              obtain ⟨m, hm, rfl, q0, q1, hbq⟩ := hrel
              have HM := Lib.hid hm
              have HQ := Lib.hid (And.intro q0 q1)
              clear hm
              by_cases hlt : (lo : Int) + (m : Int) ≤ (lo : Int)
              · obtain ⟨x, hx⟩ : ∃ x, x = lo + m := ⟨_, rfl⟩
                have HX1 := Lib.hid (show x < 256 by have := HHI.out; omega)
                have hx2 : (lo : Int) + (m : Int) = (x : Int) := by omega
                have hx3 : (x : Int) ≤ (lo : Int) := by omega
                have hx4 : (x : Int) < 256 := by have := HX1.out; omega
                have hc1 : wr.cell? ⟨w.heap.size + 1, x, none⟩ = some (.bool (bit (orW acc (ofW (fun i => lo + i) m)) x)) := by rw [q1.cell, sc_at _ HX1.out]
                have hf1 := q1.frozen x
                have HX := Lib.hid hx
                rw [hx2]
                clear hx q0 q1 hlt hx2
                go_wp2
                go_roundw
                case rel =>
                  unfold InnerRel
                  refine ⟨m + 1, by have := HX.out; omega, by have := HX.out; go_num, HQ.out.1.far (by simp) _, ?_, hbq.setCell (by simp) _⟩
                  have := (HQ.out.2.set x (.bool true)).congr (sc_set _ _ _)
                  rw [HX.out, inner_step] at this
                  rw [HX.out]; exact this
                case measure => exact left256_lt HX1.out rfl
              · have e : m = lo + 1 - lo := by have := HM.out; omega
                rw [e] at q1
                clear e
                go_wp2
                go_roundw
                case rel => unfold RPRel; exact ⟨n', b, _, rfl, HN.out.1, HN.out.2.1, HN.out.2.2.1, HN.out.2.2.2.1, q0, q1, hbq⟩
                case measure => exact HN.out.2.2.2.2
          · have hb1 : ¬ (b : Int) < (t.size : Int) := by omega
            clear hh hbs2
            go_wp2_with (first | (go_at_call 33; with_reducible refine (E1.out _).mono ?_; rintro e w2 ⟨rfl, hb2⟩; have r0 := r0.below' hb2; have r1 := r1.below' hb2; have hb := hb.trans (hb2.mono hb.size)))
            go_loopw [9] (fun v wr => InnerRel acc lo (lo + 1 - lo) w v wr) (fun v _ => left256 v)
            case atStart => unfold InnerRel; exact ⟨0, by omega, by simp, r0, Row.congr r1 (inner_zero acc lo), hb⟩
            case round =>
              obtain ⟨m, hm, rfl, q0, q1, hbq⟩ := hrel
              have HM := Lib.hid hm
              have HQ := Lib.hid (And.intro q0 q1)
              clear hm
              by_cases hlt : (lo : Int) + (m : Int) ≤ (lo : Int)
              · obtain ⟨x, hx⟩ : ∃ x, x = lo + m := ⟨_, rfl⟩
                have HX1 := Lib.hid (show x < 256 by have := HHI.out; omega)
                have hx2 : (lo : Int) + (m : Int) = (x : Int) := by omega
                have hx3 : (x : Int) ≤ (lo : Int) := by omega
                have hx4 : (x : Int) < 256 := by have := HX1.out; omega
                have hc1 : wr.cell? ⟨w.heap.size + 1, x, none⟩ = some (.bool (bit (orW acc (ofW (fun i => lo + i) m)) x)) := by rw [q1.cell, sc_at _ HX1.out]
                have hf1 := q1.frozen x
                have HX := Lib.hid hx
                rw [hx2]
                clear hx q0 q1 hlt hx2
                go_wp2
                go_roundw
                case rel =>
                  unfold InnerRel
                  refine ⟨m + 1, by have := HX.out; omega, by have := HX.out; go_num, HQ.out.1.far (by simp) _, ?_, hbq.setCell (by simp) _⟩
                  have := (HQ.out.2.set x (.bool true)).congr (sc_set _ _ _)
                  rw [HX.out, inner_step] at this
                  rw [HX.out]; exact this
                case measure => exact left256_lt HX1.out rfl
              · have e : m = lo + 1 - lo := by have := HM.out; omega
                rw [e] at q1
                clear e
                go_wp2
                go_roundw
                case rel => unfold RPRel; exact ⟨n', b, _, rfl, HN.out.1, HN.out.2.1, HN.out.2.2.1, HN.out.2.2.2.1, q0, q1, hbq⟩
                case measure => exact HN.out.2.2.2.2
    · have e : a = t.size := by have := HP.out.1; omega
      have hR' : R = some acc := by
        have := HP.out.2.2.2
        cases n with
        | zero => exact this.symm
        | succ n => rw [parseS, if_pos (by rw [tail_size]; omega)] at this; exact this.symm
      have HR' := Lib.hid hR'
      clear e hR'
      go_wp2_with (first | (with_reducible refine wpList_load_set r1 rfl _ rfl ?_ ?_; go_simp; go_simp) | (with_reducible refine wpList_store_set (f' := bit acc) r0 rfl _ _ rfl ?_ ?_ ?_; go_simp; go_simp; go_simp))
      refine bodyPost_ret (results_set2 (p := 2) (q := 3) rfl _ (r0.setRow (sc (bit acc))) ?_) rfl ?_
      · go_simp
      rw [HR'.out]
      exact ⟨rfl, below_setRow hb (by omega) _⟩
end Go.Proofs.Ytcflbpcfmpkolaa
