/-
  Package monoid: the fold of affine functions.
-/
import Derived.Test.YtbiecpejpkgngaaMoAffE
import Derived.Test.YtbiecpejpkgngaaFr
import Derived.Deep.MidRow
namespace Go.Proofs.Ytbiecpejpkgngaa
open Go.RowKit
theorem wpList_load2 {ops : Array Oper} {rest : List Oper} {o : Oper} {a : Act} {w : World} {Q : Exit → Act → World → Prop} {b off : Nat} {f : Int × Int} (h0 : w.cell? ⟨b, off, none⟩ = some (.int .u64 f.1)) (h1 : w.cell? ⟨b, off + 1, none⟩ = some (.int .u64 f.2)) (hgd : o.guard = none) (x : Operand)
    (ho : o.op = .load 40 x) (hx : a.eval x = .pointer (some ⟨b, off, none⟩)) (h : wpList Try.prog ops Q rest (a.put o.dst (.agg (ac f))) w) : wpList Try.prog ops Q (o :: rest) a w :=
  wpList_load_mid hgd 40 x ho b off hx [.int .u64 f.1, .int .u64 f.2] _ (fun j v hj => by
    match j, hj with
    | 0, hj => (cases hj; exact h0)
    | 1, hj => (cases hj; exact h1)) Try.underlying40 rfl (by kernel_rfl) h
/-- What Fold lays: the monoid, the result, and the running value in block g. -/
def FoldV (s g : Nat) (w wr : World) (r : Int × Int) : Prop := Below s w wr ∧ Row wr s 42 #[] ∧ Row wr (s + 1) 40 (ac (0, 0)) ∧ Row wr g 40 (ac r)
theorem FoldV.below {s g : Nat} {w wr w2 : World} {r : Int × Int} (h : FoldV s g w wr r) (hs : s ≤ w.heap.size) (hb : Below wr.heap.size wr w2) : FoldV s g w w2 r :=
  ⟨h.1.trans (hb.mono (Nat.le_trans hs h.1.size)), h.2.1.below' hb, h.2.2.1.below' hb, h.2.2.2.below' hb⟩
theorem FoldV.set {s g : Nat} {w wr : World} {r r' : Int × Int} (h : FoldV s g w wr r) (hg : s + 1 < g) : FoldV s g w (wr.setRow g (ac r')) r' :=
  ⟨below_setRow h.1 (by omega) _, h.2.1.setRow_far (by omega) _, h.2.2.1.setRow_far (by omega) _, h.2.2.2.setRow _⟩
set_option maxRecDepth 20000 in
set_option maxHeartbeats 1600000 in
theorem aff_fold (A : Option Addr) (n c : Nat) (z y : Nat → Int) (w : World) (hn : n ≤ 9223372036854775807) (hz : Rd2 w.heap.size w A n (fun k => .int .u64 (z k)) (fun k => .int .u64 (y k))) :
    Calls Try.prog 17 #[.agg #[], .slice A n c] w fun e w' => e = .returned (.agg (ac (fo mAff (fun k => (z k, y k)) n))) ∧ Below w.heap.size w w' := by
  obtain ⟨s, hs⟩ : ∃ s, w.heap.size = s := ⟨_, rfl⟩
  have z0 := aff_zero
  have hm1 := aff_method
  have HZ := Lib.hid hz
  have HU := Lib.hid affUnit
  clear hz
  have hV0 : Below s w ((w.alloc (.cells #[] 42)).alloc (.cells (ac (0, 0)) 40)) ∧ Row ((w.alloc (.cells #[] 42)).alloc (.cells (ac (0, 0)) 40)) s 42 #[] ∧ Row ((w.alloc (.cells #[] 42)).alloc (.cells (ac (0, 0)) 40)) (s + 1) 40 (ac (0, 0)) := by
    subst hs
    refine ⟨((Below.refl _ _).alloc (Nat.le_refl _) _).alloc (by simp) _, (Row.new _ _ _).alloc _, ?_⟩
    have := Row.new (w.alloc (.cells #[] 42)) 40 (ac (0, 0))
    simpa using this
  have HV0 := Lib.hid hV0
  have HS := Lib.hid hs
  have r0 := Lib.hid hV0.2.1
  clear hV0
  go_enter Try.func17, Try.ntmps17
  go_wp2_with (first | ((with_reducible refine wpList_loadR aggAffines r0.out rfl _ rfl ?_ ?_); (go_simp <;> fail); go_simp) | ((with_reducible refine wpList_newR (c' := ac (mAff.e)) aggAffine rfl (ac_one _) rfl _ _ rfl ?_ ?_ ?_); (go_simp <;> fail); (go_simp <;> fail); go_simp) | (go_at_call 19; (with_reducible refine (HU.out _).mono ?_); rintro e wu ⟨rfl, hbu⟩; have HBU := Lib.hid hbu; clear hbu))
  obtain ⟨g, hg⟩ : ∃ g, g = wu.heap.size := ⟨_, rfl⟩
  obtain ⟨w2, hw2⟩ : ∃ w2, w2 = wu.alloc (Obj.cells (ac mAff.e) 40) := ⟨_, rfl⟩
  have hgs : s + 1 < g := by rw [hg]; exact (HV0.out.2.2.below' HBU.out).lt
  have HV2 := Lib.hid (show FoldV s g w w2 mAff.e by
    have hb : Below wu.heap.size wu w2 := by rw [hw2]; exact (Below.refl _ _).alloc (Nat.le_refl _) _
    refine ⟨(HV0.out.1.trans (HBU.out.mono ?_)).trans (hb.mono ?_), (HV0.out.2.1.below' HBU.out).below' hb, (HV0.out.2.2.below' HBU.out).below' hb, ?_⟩
    · have := HV0.out.1.size; have := HS.out; omega
    · have h1 := HV0.out.1.size; have h2 := HBU.out.size; have := HS.out; omega
    · rw [hw2, hg]; exact Row.new _ _ _)
  rw [← hw2, ← hg]
  clear hw2 hg r0 HV0 HBU
  go_loopw [13] (fun i wr => ∃ k : Nat, k ≤ n ∧ i = .int .i64 k ∧ Hid (FoldV s g w wr (fo mAff (fun k => (z k, y k)) k))) (fun i _ => n - (intOf i).toNat)
  case atStart => exact ⟨0, Nat.zero_le _, rfl, HV2⟩
  case round =>
    obtain ⟨k, hk, rfl, HV⟩ := hrel
    by_cases hlt : k < n
    · have hbw : Below w.heap.size w wr := by rw [HS.out]; exact HV.out.1
      obtain ⟨b, o, rfl, hbB, hcell⟩ := (HZ.out.later hbw).some hlt
      have H0 := Lib.hid (hcell k hlt).1
      have H1 := Lib.hid (hcell k hlt).2
      obtain ⟨f, hf⟩ : ∃ f, fo mAff (fun k => (z k, y k)) k = f := ⟨_, rfl⟩
      rw [hf] at HV
      have HF := Lib.hid (show fo mAff (fun k => (z k, y k)) (k + 1) = mAff.j f (z k, y k) by rw [← hf]; rfl)
      have HV1 := Lib.hid (HV.out.below (by have := HS.out; omega) ((Below.refl _ _).alloc (Nat.le_refl _) (.cells (ac (z k, y k)) 40)))
      have r1 := Lib.hid HV1.out.2.1
      have r2 := Lib.hid HV1.out.2.2.2
      have r3 := Lib.hid (Row.new wr 40 (ac (z k, y k)))
      have HJ := Lib.hid (fun u => affJoin f (z k, y k) u)
      clear hcell hf hbw
      go_wp2_with (first | ((with_reducible refine wpList_load2 (f := (z k, y k)) H0.out H1.out rfl _ rfl ?_ ?_); (go_simp <;> fail); go_simp) | ((with_reducible refine wpList_newR (c' := ac (z k, y k)) aggAffine rfl (ac_one _) rfl _ _ rfl ?_ ?_ ?_); (go_simp <;> fail); (go_simp <;> fail); go_simp) | ((with_reducible refine wpList_loadR aggAffines r1.out rfl _ rfl ?_ ?_); (go_simp <;> fail); go_simp) | ((with_reducible refine wpList_loadR aggAffine r2.out rfl _ rfl ?_ ?_); (go_simp <;> fail); go_simp) | ((with_reducible refine wpList_loadR aggAffine r3.out rfl _ rfl ?_ ?_); (go_simp <;> fail); go_simp) | ((with_reducible refine wpList_storeR (c' := ac (mAff.j f (z k, y k))) aggAffine r4.out rfl (ac_one _) rfl _ _ rfl ?_ ?_ ?_); (go_simp <;> fail); (go_simp <;> fail); go_simp) | (go_at_call 18; (with_reducible refine (HJ.out _).mono ?_); rintro e w4 ⟨rfl, hb4⟩; have HV4 := Lib.hid (HV1.out.below (by have := HS.out; omega) hb4); have r4 := Lib.hid HV4.out.2.2.2; clear hb4))
      go_roundw
      case rel => exact ⟨k + 1, by omega, by go_num, by rw [HF.out]; exact Lib.hid (HV4.out.set hgs)⟩
      case measure => simp [intOf]; try omega
    · obtain rfl : k = n := by omega
      have r5 := Lib.hid HV.out.2.2.2
      have r6 := Lib.hid HV.out.2.2.1
      clear z0
      go_wp2_with (first | ((with_reducible refine wpList_loadR aggAffine r5.out rfl _ rfl ?_ ?_); (go_simp <;> fail); go_simp) | ((with_reducible refine wpList_storeR (c' := ac (fo mAff (fun k => (z k, y k)) k)) aggAffine r6.out rfl (ac_one _) rfl _ _ rfl ?_ ?_ ?_); (go_simp <;> fail); (go_simp <;> fail); go_simp))
      refine bodyPost_ret (results_cellR (c := ac (fo mAff (fun k => (z k, y k)) k)) aggAffine rfl _ (r6.out.setRow _) ?_) rfl ⟨rfl, ?_⟩
      · go_simp
      · rw [HS.out]; exact below_setRow HV.out.1 (by omega) _
end Go.Proofs.Ytbiecpejpkgngaa
