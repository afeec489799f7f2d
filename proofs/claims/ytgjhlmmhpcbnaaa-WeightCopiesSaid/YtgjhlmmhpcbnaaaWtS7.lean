/-
  WeightCopies: the walk.
-/
import Derived.Test.YtgjhlmmhpcbnaaaWtF
import Derived.Test.YtgjhlmmhpcbnaaaWtM
import Derived.Laws.OwnMore
import Derived.Deep.AppendLies
import Derived.Deep.RegionLaw
namespace Go.Proofs.Ytgjhlmmhpcbnaaa
open Go.RowKit
set_option linter.unusedVariables false
theorem add_plain0 (g k : Nat) : (⟨g, 0, none⟩ : Addr).add k = ⟨g, 0 + k, none⟩ := by unfold Addr.add; split <;> simp_all
theorem rd_of_own {w : World} {base n c : Nat} {e : TypeId} {A : Option Addr} {xs : List Value} {f : Nat → Value} (h : w.ownsRow base e 1 (.slice A n c) n xs) (hx : ∀ k, k < n → xs[k]? = some (f k)) : Rd w.heap.size w A n f ∧ n ≤ c := by
  rcases h.2 with ⟨h0, _⟩ | ⟨g, cap, cur, hv, hg, hlt, hn, hcap, _, _⟩
  · injection h0 with h1 h2 h3
    subst h1; subst h2; subst h3
    exact ⟨.inl rfl, Nat.le_refl _⟩
  · injection hv with h1 h2 h3
    subst h1; subst h3
    have hlt' : g < w.heap.size := by
      by_cases h' : g < w.heap.size
      · exact h'
      · rw [Array.getElem?_eq_none (by omega)] at hlt; cases hlt
    refine ⟨.inr ⟨g, 0, rfl, hlt', fun k hk => ?_⟩, hn⟩
    have := h.cells (g := g) rfl k _ (hx k hk)
    rwa [add_plain0] at this
theorem nil_of_own {w : World} {base n c : Nat} {e : TypeId} {A : Option Addr} {xs : List Value} (h : w.ownsRow base e 1 (.slice A n c) n xs) : A = none → n = 0 ∧ c = 0 := fun hA => by
  rcases h.2 with ⟨h0, _⟩ | ⟨g, cap, cur, hv, _⟩
  · injection h0 with h1 h2 h3
    exact ⟨h2, h3⟩
  · injection hv with h1
    rw [hA] at h1; cases h1
theorem own_base {w : World} {base n size : Nat} {e : TypeId} {v : Value} {xs : List Value} (h : w.ownsRow base e size v n xs) : ∀ k, v.ownBlock = some k → base ≤ k := by
  intro k hk
  rcases h.2 with ⟨h0, _⟩ | ⟨g, cap, cur, hv, hg, _⟩
  · rw [h0] at hk; cases hk
  · rw [hv] at hk; cases hk; exact hg
theorem run_append_zero {P : Program} {w : World} (base : Nat) (t ty e : TypeId) (i : TypeInfo) (size : Nat) (ht : P.underlying t = some (.slice e)) (hi : P.info? e = some i)
    (v : Value) (n : Nat) (xs : List Value) (hown : w.ownsRow base e size v n xs) (A : Option Addr) (c : Nat) (hA : A = none → c = 0) :
    (Builtin.append_ #[t, t] ty #[v, .slice A 0 c]).run P w = .ok v w := by
  cases A with
  | none => rw [hA rfl]; exact run_append_owned_none w base t ty e i size ht hi v n xs hown
  | some a =>
    rcases hown.2 with ⟨rfl, rfl⟩ | ⟨g, cap, cur, rfl, _, _, hnc, _⟩
    · simp [Builtin.append_, run_underlying ht, sizeOf, typeInfo, hi, Builtin.lenOf, Builtin.firstCells, loadCells, loadCellsFrom]
    · simp [Builtin.append_, run_underlying ht, sizeOf, typeInfo, hi, Builtin.lenOf, Builtin.firstCells, hnc, storeCells, loadCells, loadCellsFrom]
theorem wpList_append_zero {P : Program} {w : World} {ops : Array Oper} {rest : List Oper} {o : Oper} {a : Act} {Q : Exit → Act → World → Prop} (hgd : o.guard = none) (s x : Operand) (t : TypeId)
    (ho : o.op = .call { callee := .builtin .append, args := #[s, x], argTypes := #[t, t] })
    (base : Nat) (e : TypeId) (i : TypeInfo) (size : Nat) (ht : P.underlying t = some (.slice e)) (hi : P.info? e = some i)
    (v : Value) (n : Nat) (xs : List Value) (hs : a.eval s = v) (hown : w.ownsRow base e size v n xs) (A : Option Addr) (c : Nat) (hA : A = none → c = 0) (hx : a.eval x = .slice A 0 c)
    (h : wpList P ops Q rest (a.put o.dst v) w) : wpList P ops Q (o :: rest) a w := by
  refine wpList_plain hgd fun K hK => ?_
  have hrun := run_append_zero (P := P) (w := w) base t o.type e i size ht hi v n xs hown A c hA
  unfold Oper.wp
  simp [execOp, ho, resolve, invoke, builtin, hs, hx, hrun, Result.andThen]
  exact hK _ _ h
/-- The text's letters; t copies of them. -/
def lets (z : Nat → Int) (n : Nat) : List Value := (List.range n).map fun j => Value.int .u8 (z j)
def cps (z : Nat → Int) (n : Nat) : Nat → List Value
  | 0 => []
  | t + 1 => cps z n t ++ lets z n
theorem lets_len (z : Nat → Int) (n : Nat) : (lets z n).length = n := by simp [lets]
theorem lets_at (z : Nat → Int) (n : Nat) {j : Nat} (h : j < n) : (lets z n)[j]? = some (.int .u8 (z j)) := by simp [lets, h]
theorem cps_len (z : Nat → Int) (n : Nat) : ∀ t, (cps z n t).length = n * t
  | 0 => rfl
  | t + 1 => by rw [cps, List.length_append, cps_len z n t, lets_len, Nat.mul_succ]
theorem cps_at (z : Nat → Int) (n : Nat) : ∀ t {j : Nat}, j < n * t → (cps z n t)[j]? = some (.int .u8 (z (j % n)))
  | 0, j, h => by rw [Nat.mul_zero] at h; omega
  | t + 1, j, h => by
    rw [cps]
    rcases Nat.lt_or_ge j (n * t) with h1 | h1
    · rw [List.getElem?_append_left (by rw [cps_len]; exact h1)]; exact cps_at z n t h1
    · rw [Nat.mul_succ] at h
      obtain ⟨r, rfl⟩ : ∃ r, j = n * t + r := ⟨j - n * t, by omega⟩
      rw [List.getElem?_append_right (by rw [cps_len]; omega), cps_len, Nat.add_sub_cancel_left, lets_at z n (by omega), Nat.mul_add_mod, Nat.mod_eq_of_lt (by omega)]
theorem wx_copies {z : Nat → Int} {n : Nat} (hb : InB z n) : ∀ t, InB (fun j => z (j % n)) (n * t) ∧ wx (fun j => z (j % n)) (n * t) = wp (wx z n) t
  | 0 => ⟨fun k hk => by rw [Nat.mul_zero] at hk; omega, rfl⟩
  | t + 1 => by
    obtain ⟨h1, h2⟩ := wx_copies hb t
    have h3 : InB (fun j => z (j % n)) (n * (t + 1)) := fun k hk => by
      have hn : 0 < n := by
        rcases Nat.eq_zero_or_pos n with h | h
        · rw [h, Nat.zero_mul] at hk; omega
        · exact h
      exact hb _ (Nat.mod_lt _ hn)
    refine ⟨h3, ?_⟩
    rw [Nat.mul_succ] at h3 ⊢
    rw [wx_add h3, h2, wp]
    congr 1
    exact wx_congr fun k hk => by rw [Nat.mul_add_mod, Nat.mod_eq_of_lt hk]
def CpAt (z : Nat → Int) (n s : Nat) (w : World) (t : Nat) (v : Value) (wr : World) : Prop := ∃ A c, v = .slice A (n * t) c ∧ Hid (wr.ownsRow s 5 1 (.slice A (n * t) c) (n * t) (cps z n t)) ∧ Hid (Below s w wr)
theorem u8_info : (Try.prog.info? 5).map (fun i => (i.zero, i.size, i.bytes)) = some (some (.int .u8 0), 1, 1) := by kernel_rfl
theorem copies_out (A : Option Addr) (n c : Nat) (k : Int) (w : World) (hn : n ≤ 9223372036854775807) (hk : I64 k) (h : k < 0 ∨ 200 < k ∨ 5000 < IntKind.i64.wrap ((n : Int) * k) ∨ 5000 < n) :
    Calls Try.prog 8 #[.slice A n c, .int .i64 k] w fun e w' => e = .returned (.bool true) ∧ Below w.heap.size w w' := by
  unfold I64 at hk
  obtain ⟨p, hp⟩ : ∃ p, IntKind.i64.wrap ((n : Int) * k) = p := ⟨_, rfl⟩
  rw [hp] at h
  by_cases h1 : k < 0
  · clear h
    go_enter Try.func8, Try.ntmps8
    go_wp2
    go_ret
    exact ⟨rfl, Below.refl _ _⟩
  · by_cases h2 : 200 < k
    · clear h
      go_enter Try.func8, Try.ntmps8
      go_wp2
      go_ret
      exact ⟨rfl, Below.refl _ _⟩
    · by_cases h3 : 5000 < p
      · clear h
        go_enter Try.func8, Try.ntmps8
        go_wp2
        go_ret
        exact ⟨rfl, Below.refl _ _⟩
      · have h4 : 5000 < (n : Int) := by omega
        clear h
        go_enter Try.func8, Try.ntmps8
        go_wp2
        go_ret
        exact ⟨rfl, Below.refl _ _⟩
set_option maxRecDepth 20000 in
set_option maxHeartbeats 3200000 in
theorem copies_in (A : Option Addr) (n c K : Nat) (z : Nat → Int) (w : World) (hn : n ≤ 5000) (hK : K ≤ 200) (hnK : n * K ≤ 5000) (hA : A = none → n = 0 ∧ c = 0) (hz : Rd w.heap.size w A n (u8 z)) (hb : InB z n) :
    Calls Try.prog 8 #[.slice A n c, .int .i64 (K : Nat)] w fun e w' => e = .returned (.bool true) ∧ Below w.heap.size w w' := by
  have HA := Lib.hid alive_true
  obtain ⟨hbc, hwc⟩ := wx_copies hb K
  have g := good_wx hb (by omega)
  have hKn : (wx z n).l * (K : Int) = ((n * K : Nat) : Int) := by rw [wx_l, Int.natCast_mul]
  have e0 : rC (wx z n) K = 0 := by rw [rC_good g, if_neg (by omega), if_neg (by rw [hKn]; omega)]
  have CO := Lib.hid (fun u (hu : Below w.heap.size w u) => w_of A n c z u (by omega) hA ((hz.later hu).mono hu.size) hb)
  have CR := Lib.hid (fun u => show Calls Try.prog 22 #[.agg (wc (wx z n)), .int .i64 (K : Nat)] u fun e w' => e = .returned (.tuple #[.agg (wc (wp (wx z n) K)), .nilIface]) ∧ Below u.heap.size u w' by
    have := w_repeat (wx z n) K u g.w64 (by unfold I64; omega)
    rwa [rV_ok e0, e0, errv_zero, Int.toNat_natCast] at this)
  have CE := Lib.hid (fun A1 c1 u (h1 : A1 = none → n * K = 0 ∧ c1 = 0) (h2 : Rd (World.heap u).size u A1 (n * K) (u8 fun j => z (j % n))) => hwc ▸ w_of A1 (n * K) c1 (fun j => z (j % n)) u (by omega) h1 h2 hbc)
  obtain ⟨X, hX⟩ : ∃ X, X = wx z n := ⟨_, rfl⟩
  rw [← hX] at CO CR CE
  obtain ⟨J, hJ⟩ : ∃ J, J = wp X K := ⟨_, rfl⟩
  rw [← hJ] at CR CE
  have ge := guard_w
  have ee := equal_w
  have z0 := w_zero
  obtain ⟨s, hs⟩ : ∃ s, w.heap.size = s := ⟨_, rfl⟩
  have HB0 := Lib.hid (show Below s w w by rw [← hs]; exact Below.refl _ _)
  have HS := Lib.hid hs
  have HZ := Lib.hid hz
  have HN := Lib.hid hA
  obtain ⟨i0, hi, hz0, hz1, hz2⟩ := info_parts u8_info
  have HI := Lib.hid (And.intro hi (And.intro hz0 (And.intro hz1 hz2)))
  have hw : IntKind.i64.wrap ((n : Int) * (K : Int)) = ((n * K : Nat) : Int) := by rw [← Int.natCast_mul]; exact i64_id (by omega) (by omega)
  obtain ⟨p, hp⟩ : ∃ p, p = n * K := ⟨_, rfl⟩
  rw [← hp] at hw hnK
  have d1 : ¬ ((K : Int) < 0) := by omega
  have d2 : ¬ ((200 : Int) < (K : Int)) := by omega
  have d3 : ¬ ((5000 : Int) < (p : Int)) := by omega
  have d4 : ¬ ((5000 : Int) < (n : Int)) := by omega
  have HP := Lib.hid hp
  have HK5 := Lib.hid hnK
  clear hbc hwc g hKn e0 hX hJ hi hz0 hz1 hz2 hz hA hb hp hnK
  go_enter Try.func8, Try.ntmps8
  go_wp2_with fail
  clear hs
  go_loopw [5, 6] (fun v i wr => ∃ t : Nat, t ≤ K ∧ i = .int .i64 t ∧ CpAt z n s w t v wr) (fun _ i _ => K - (intOf i).toNat)
  case atStart => exact ⟨0, Nat.zero_le _, rfl, none, 0, rfl, Lib.hid (World.ownsRow_nil _ _ _ _), HB0⟩
  case round =>
    obtain ⟨t, ht, rfl, A1, c1, rfl, HO, HB⟩ := hrel
    by_cases hlt : t < K
    · have hm1 : n * (t + 1) ≤ n * K := Nat.mul_le_mul_left n hlt
      have hm : n * (t + 1) ≤ 5000 := by have := HP.out; have := HK5.out; omega
      clear hm1
      rw [Nat.mul_succ] at hm
      have hle := Lib.hid (show s ≤ wr.heap.size by have := HB.out.size; have := HS.out; omega)
      by_cases h0 : n = 0
      · subst h0
        go_wp2_with (at_builtin; refine wpList_append_zero rfl _ _ _ rfl s 5 i0 1 Try.underlying22 HI.out.1 _ _ _ (by rfl) HO.out A c (fun h => (HN.out h).2) (by rfl) ?_)
        go_roundw
        case rel => exact ⟨t + 1, by omega, by go_num, A1, c1, by simp, Lib.hid (by
          have := HO.out
          rw [Nat.zero_mul] at this ⊢
          rw [cps, show lets z 0 = [] from rfl, List.append_nil]; exact this), HB⟩
        case measure => simp [intOf]; try omega
      · obtain ⟨b, off, rfl, hbl, hc⟩ := HZ.out.some (k := 0) (by omega)
        have hnews : ∀ j u, (lets z n)[j]? = some u → wr.cell? ((⟨b, off, none⟩ : Addr).add j) = some u := fun j u hj => by
          have hjn : j < n := by
            by_cases h : j < n
            · exact h
            · rw [List.getElem?_eq_none (by rw [lets_len]; omega)] at hj; cases hj
          rw [lets_at z n hjn] at hj
          cases hj
          rw [show (⟨b, off, none⟩ : Addr).add j = ⟨b, off + j, none⟩ by unfold Addr.add; split <;> simp_all]
          exact (HB.out.cell (by show b < s; have := HS.out; omega)).trans (hc j hjn)
        have HNW := Lib.hid hnews
        have hone : ∀ u ∈ lets z n, u.oneCell' = true := fun u hu => by
          obtain ⟨j, _, rfl⟩ := List.mem_map.1 hu
          rfl
        have HON := Lib.hid hone
        have HM := Lib.hid hm
        clear hnews hone hc
        go_wp2_with (at_builtin; (refine wpList_append_lies _ rfl _ _ _ rfl s 5 i0 (.int .u8 0) 1 1 Try.underlying22 HI.out.1 HI.out.2.1 HI.out.2.2.1 HI.out.2.2.2 rfl (by decide) _ (n * t) _ (by rfl) HO.out ⟨b, off, none⟩ n c (lets z n) (by rfl) (by rw [lets_len, Nat.mul_one]) HNW.out HON.out (by omega) (by have := HM.out; unfold maxLen; omega) (by have := HM.out; omega) hle.out _ rfl ?_); intro g cap w4 ho4 hg4 hat4 hlt4; have HO4 := Lib.hid ho4; have HG4 := Lib.hid hg4; clear ho4 hg4 hat4 hlt4)
        go_roundw
        case rel => exact ⟨t + 1, by omega, by go_num, some ⟨g, 0, none⟩, cap, by rw [Nat.mul_succ], Lib.hid (by have := HO4.out; rw [Nat.mul_succ]; exact this), Lib.hid (HB.out.grown HG4.out hle.out (own_base HO.out))⟩
        case measure => simp [intOf]; try omega
    · obtain rfl : t = K := by omega
      clear hlt
      obtain ⟨hrd, hcc⟩ := rd_of_own HO.out (fun k hk => cps_at z n t hk)
      have hnil := nil_of_own HO.out
      have HRD := Lib.hid hrd
      have HNIL := Lib.hid hnil
      have hwr : Below w.heap.size w wr := by rw [HS.out]; exact HB.out
      have C1 := Lib.hid (CO.out wr hwr)
      clear hrd hcc hnil hwr
      go_wp2_with fail
      refine C1.out.mono ?_
      rintro e w2 ⟨rfl, hb2⟩
      have HB2 := Lib.hid (HB.out.trans (hb2.mono (by have := HB.out.size; have := HS.out; omega)))
      have HRD2 := Lib.hid ((HRD.out.later hb2).mono hb2.size)
      clear hb2 HB HRD C1 HO
      go_wp2_with (first | (go_at_call 22; (with_reducible refine (CR.out _).mono ?_); rintro e w3 ⟨rfl, hb3⟩; have HB3 := Lib.hid (HB2.out.trans (hb3.mono (by have := HB2.out.size; have := HS.out; omega))); have HRD3 := Lib.hid ((HRD2.out.later hb3).mono hb3.size); clear hb3 HB2 HRD2) | ((with_reducible refine wpList_newR (c' := wc J) aggW rfl (wc_one _) rfl _ _ rfl ?_ ?_ ?_); (go_simp <;> fail); (first | (go_simp <;> fail) | exact rfl); go_simp; have T7 := Lib.hid (Row.new w3 27 (wc J)); have HX := Lib.hid ((Below.refl w3.heap.size w3).alloc (Nat.le_refl _) (.cells (wc J) 27)); have HB4 := Lib.hid (HB3.out.trans (HX.out.mono (by have := HB3.out.size; have := HS.out; omega))); have HRD4 := Lib.hid ((HRD3.out.later HX.out).mono HX.out.size); clear HX HB3 HRD3; revert T7 HB4 HRD4; generalize w3.alloc (.cells (wc J) 27) = w4; intro T7 HB4 HRD4))
      have CF := Lib.hid (fun u => CE.out A1 c1 (later w4 u) HNIL.out ((HRD4.out.later (below_later w4 u)).mono (below_later w4 u).size))
      refine wp_region_later (by kernel_rfl) (by kernel_rfl) ?_
      repeat (first | go_big_quiet_skip | (go_big_quiet_want; first | (with_reducible refine quiet_loadR aggW T7.out _ rfl ?_ ?_; (go_simp <;> fail); go_simp; go_big_quiet_on) | (go_big_quiet_op; first | go_big_quiet_on | go_big_quiet_call (first | with_reducible exact calls_later (HA.out _) | with_reducible exact calls_later (CF.out _)))))
      refine wpQuiet_nil ?_
      rintro w6 ⟨u, rfl⟩
      go_wp2
      go_ret
      exact ⟨rfl, by rw [HS.out]; exact HB4.out.trans ((below_later w4 u).mono (by have := HB4.out.size; have := HS.out; omega))⟩
theorem copies_walk (A : Option Addr) (n c : Nat) (z : Nat → Int) (k : Int) (w : World) (hm : n ≤ 9223372036854775807) (hA : A = none → n = 0 ∧ c = 0) (hz : Rd w.heap.size w A n (u8 z)) (hb : InB z n) (hk : (Lit.int .i64 k).wf = true) :
    Calls Try.prog 8 #[.slice A n c, .int .i64 k] w fun e w' => e = .returned (.bool true) ∧ Below w.heap.size w w' := by
  have bk := i64_of hk
  by_cases h : k < 0 ∨ 200 < k ∨ 5000 < IntKind.i64.wrap ((n : Int) * k) ∨ 5000 < n
  · exact copies_out A n c k w hm bk h
  · obtain ⟨K, rfl⟩ : ∃ K : Nat, k = (K : Int) := ⟨k.toNat, by omega⟩
    have h1 : n * K ≤ 5000 * 200 := Nat.mul_le_mul (by omega) (by omega)
    have h2 : IntKind.i64.wrap ((n : Int) * (K : Int)) = ((n * K : Nat) : Int) := by rw [← Int.natCast_mul]; exact i64_id (by omega) (by omega)
    rw [h2] at h
    exact copies_in A n c K z w (by omega) (by omega) (by omega) hA hz hb
end Go.Proofs.Ytgjhlmmhpcbnaaa
