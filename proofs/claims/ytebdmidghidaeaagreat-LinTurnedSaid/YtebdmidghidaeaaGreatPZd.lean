/- LinTurned. -/
import Derived.Test.YtebdmidghidaeaaGreatPZb
namespace Go.Proofs.YtebdmidghidaeaaGreat
open Go.RowKit
attribute [local go_sem ↓] Go.wp_at_zero Go.wp_at_succ
set_option linter.unusedVariables false
set_option linter.unusedSimpArgs false

theorem sumF_rev : ∀ (n : Nat) (s : Nat → Rat), sumF (fun k => s (n - 1 - k)) n = sumF s n
  | 0, _ => rfl
  | n + 1, s => by
    rw [sumF_cons]
    show s n + sumF (fun k => s (n - (k + 1))) n = sumF s n + s n
    rw [← sumF_rev n s, sumF_congr n (t := fun k => s (n - (k + 1))) (s := fun k => s (n - 1 - k)) (fun k hk => by congr 1; omega)]
    grind
theorem dotF_rev (f x : Nat → Rat) (n : Nat) : dotF (fun l => f (n - 1 - l)) (fun l => x (n - 1 - l)) n = dotF f x n := by
  rw [dotF_sum, dotF_sum]
  exact sumF_rev n (fun k => f k * x k)
theorem rev_rev {n l : Nat} (hl : l < n) : n - 1 - (n - 1 - l) = l := by omega
theorem sol_rows {F : Nat → Nat → Rat} {h x : Nat → Rat} {n : Nat} : Sol (fun j => F (n - 1 - j)) (fun j => h (n - 1 - j)) n x ↔ Sol F h n x := by
  constructor
  · intro s j hj
    have := s (n - 1 - j) (by omega)
    simp only [rev_rev hj] at this
    exact this
  · intro s j hj
    exact s (n - 1 - j) (by omega)
theorem uniq_rows {F : Nat → Nat → Rat} {h y : Nat → Rat} {n : Nat} : Uniq (fun j => F (n - 1 - j)) (fun j => h (n - 1 - j)) n y ↔ Uniq F h n y :=
  ⟨fun u => ⟨sol_rows.1 u.1, fun x hx => u.2 x (sol_rows.2 hx)⟩, fun u => ⟨sol_rows.2 u.1, fun x hx => u.2 x (sol_rows.1 hx)⟩⟩
theorem sol_cols {F : Nat → Nat → Rat} {h x : Nat → Rat} {n : Nat} : Sol (fun j l => F j (n - 1 - l)) h n (fun l => x (n - 1 - l)) ↔ Sol F h n x := by
  constructor
  · intro s j hj
    have := s j hj
    rw [dotF_rev (F j) x n] at this
    exact this
  · intro s j hj
    show dotF (fun l => F j (n - 1 - l)) (fun l => x (n - 1 - l)) n = h j
    rw [dotF_rev (F j) x n]
    exact s j hj
theorem sol_congr {F : Nat → Nat → Rat} {h x y : Nat → Rat} {n : Nat} (e : ∀ l, l < n → x l = y l) (s : Sol F h n x) : Sol F h n y := fun j hj => by
  rw [← s j hj]
  exact dotF_congr n (fun _ _ => rfl) (fun l hl => (e l hl).symm)
theorem uniq_cols {F : Nat → Nat → Rat} {h z : Nat → Rat} {n : Nat} (u : Uniq (fun j l => F j (n - 1 - l)) h n z) : Uniq F h n (fun l => z (n - 1 - l)) := by
  refine ⟨?_, fun x hx l hl => ?_⟩
  · refine sol_cols.1 (sol_congr (fun l hl => ?_) u.1)
    show z l = z (n - 1 - (n - 1 - l))
    rw [rev_rev hl]
  · have := u.2 _ (sol_cols.2 hx) (n - 1 - l) (by omega)
    simp only [rev_rev hl] at this
    exact this
theorem uniq_cols' {F : Nat → Nat → Rat} {h x : Nat → Rat} {n : Nat} (u : Uniq F h n x) : Uniq (fun j l => F j (n - 1 - l)) h n (fun l => x (n - 1 - l)) := by
  refine ⟨sol_cols.2 u.1, fun y hy l hl => ?_⟩
  have := u.2 (fun l => y (n - 1 - l)) (sol_cols.1 (sol_congr (fun l hl => by show y l = y (n - 1 - (n - 1 - l)); rw [rev_rev hl]) hy)) (n - 1 - l) (by omega)
  simp only [rev_rev hl] at this
  exact this
/-- What the first loop carries. -/
def TuI (w1 wr : World) (m : Nat) (F : Nat → Nat → Rat) (tr : Nat → Value) (bx : Nat → RatD) (i : Nat) (v5 v6 v7 : Value) : Prop :=
  ∃ cc, OwnT wr w1.heap.size v5 i (fun j => tr (m - 1 - j)) ∧ OwnR wr w1.heap.size v6 i (fun j => bx (m - 1 - j)) ∧ OwnT wr w1.heap.size v7 i cc ∧ (∀ j, j < i → RowT false 1 wr (cc j) m (fun l => F j (m - 1 - l))) ∧ Apart v5 v7 ∧ (∀ j, j < i → Apart v6 (cc j)) ∧ Below w1.heap.size w1 wr

set_option maxRecDepth 100000 in
set_option maxHeartbeats 8000000 in
theorem turned_a (A : Option Addr) (ca m : Nat) (Ln : Nat → Nat) (X : Nat → Nat → RatD) (F : Nat → Nat → Rat) (B : Option Addr) (cb mb : Nat) (Y : Nat → RatD) (h : Nat → Rat) (w : World) (ht : TabR w (.slice A m ca) m Ln X F) (hb : RowR w (.slice B mb cb) mb Y h) (hne : m ≠ mb) :
    Calls Tryz.prog 8 #[.slice A m ca, .slice B mb cb] w fun e w' => e = .returned (.bool true) ∧ Below w.heap.size w w' := by
  have t_0 := Lib.hid ht
  have b_0 := Lib.hid hb
  clear ht hb
  go_enter Tryz.func8, Tryz.ntmps8
  have hne0 : ¬ ((mb : Int) = (m : Int)) := by omega
  go_wp2_with fail
  refine Calls.mono (awake10 _) ?_
  rintro e w1 ⟨rfl, hb⟩
  have hBw := (show Below w.heap.size w w1 from by first | exact hb | exact bundrew hb)
  have t_1 := Lib.hid (t_0.out.below hBw)
  have b_1 := Lib.hid (b_0.out.below hBw)
  have HB_1 := Lib.hid (hBw)
  clear hBw hb t_0 b_0
  go_wp2_with fail
  refine Calls.mono (rfewrows (N := 4) t_1.out (by omega)) ?_
  rintro e wq ⟨⟨b, rfl, hb⟩, hw⟩
  have hw' := hw.symm
  subst hw'
  clear hw
  cases b
  · clear hb
    go_wp2
    go_ret
    exact ⟨rfl, HB_1.out⟩
  have hft := Lib.hid (hb.1 rfl)
  clear hb
  go_wp2_with fail
  refine Calls.mono (rfew (N := 4) b_1.out (by omega)) ?_
  rintro e wq ⟨⟨b, rfl, hb⟩, hw⟩
  have hw' := hw.symm
  subst hw'
  clear hw
  cases b
  · clear hb
    go_wp2
    go_ret
    exact ⟨rfl, HB_1.out⟩
  have hfb := Lib.hid (hb.1 rfl)
  clear hb
  have T_1 := Lib.hid (t_1.out.few hft.out.1 hft.out.2 (by omega))
  have B_1 := Lib.hid (b_1.out.few hfb.out (by omega))
  have hm : m ≤ 4 := hft.out.1
  have hmb := hfb.out.1
  have hLn := Lib.hid (fun i (hi : i < m) => (hft.out.2 i hi).1)
  clear t_1 b_1 hft hfb
  go_wp2
  go_ret
  exact ⟨rfl, HB_1.out⟩

set_option maxRecDepth 100000 in
set_option maxHeartbeats 8000000 in
theorem turned_b (A : Option Addr) (ca m : Nat) (Ln : Nat → Nat) (X : Nat → Nat → RatD) (F : Nat → Nat → Rat) (B : Option Addr) (cb mb : Nat) (Y : Nat → RatD) (h : Nat → Rat) (w : World) (ht : TabR w (.slice A m ca) m Ln X F) (hb : RowR w (.slice B mb cb) mb Y h) (hne : m = mb) (hL : ¬ ∀ i, i < m → Ln i = m) :
    Calls Tryz.prog 8 #[.slice A m ca, .slice B mb cb] w fun e w' => e = .returned (.bool true) ∧ Below w.heap.size w w' := by
  have t_0 := Lib.hid ht
  have b_0 := Lib.hid hb
  clear ht hb
  go_enter Tryz.func8, Tryz.ntmps8
  subst hne
  have HL := Lib.hid hL
  clear hL
  go_wp2_with fail
  refine Calls.mono (awake10 _) ?_
  rintro e w1 ⟨rfl, hb⟩
  have hBw := (show Below w.heap.size w w1 from by first | exact hb | exact bundrew hb)
  have t_1 := Lib.hid (t_0.out.below hBw)
  have b_1 := Lib.hid (b_0.out.below hBw)
  have HB_1 := Lib.hid (hBw)
  clear hBw hb t_0 b_0
  go_wp2_with fail
  refine Calls.mono (rfewrows (N := 4) t_1.out (by omega)) ?_
  rintro e wq ⟨⟨b, rfl, hb⟩, hw⟩
  have hw' := hw.symm
  subst hw'
  clear hw
  cases b
  · clear hb
    go_wp2
    go_ret
    exact ⟨rfl, HB_1.out⟩
  have hft := Lib.hid (hb.1 rfl)
  clear hb
  go_wp2_with fail
  refine Calls.mono (rfew (N := 4) b_1.out (by omega)) ?_
  rintro e wq ⟨⟨b, rfl, hb⟩, hw⟩
  have hw' := hw.symm
  subst hw'
  clear hw
  cases b
  · clear hb
    go_wp2
    go_ret
    exact ⟨rfl, HB_1.out⟩
  have hfb := Lib.hid (hb.1 rfl)
  clear hb
  have T_1 := Lib.hid (t_1.out.few hft.out.1 hft.out.2 (by omega))
  have B_1 := Lib.hid (b_1.out.few hfb.out (by omega))
  have hm : m ≤ 4 := hft.out.1
  have hmb := hfb.out.1
  have hLn := Lib.hid (fun i (hi : i < m) => (hft.out.2 i hi).1)
  clear t_1 b_1 hft hfb
  go_wp2_with fail
  refine Calls.mono (rrect T_1.out) ?_
  rintro e wq ⟨⟨b, rfl, hb⟩, hw⟩
  have hw' := hw.symm
  subst hw'
  clear hw
  obtain rfl : b = false := by
    cases b
    · rfl
    · exact absurd (fun i hi => by have := hb.1 rfl i hi; omega) HL.out
  clear hb
  go_wp2
  go_ret
  exact ⟨rfl, HB_1.out⟩

set_option maxRecDepth 100000 in
set_option maxHeartbeats 8000000 in
theorem turned_c (A : Option Addr) (ca m : Nat) (Ln : Nat → Nat) (X : Nat → Nat → RatD) (F : Nat → Nat → Rat) (B : Option Addr) (cb mb : Nat) (Y : Nat → RatD) (h : Nat → Rat) (w : World) (ht : TabR w (.slice A m ca) m Ln X F) (hb : RowR w (.slice B mb cb) mb Y h) (hne : m = mb) (hL : ∀ i, i < m → Ln i = m) :
    Calls Tryz.prog 8 #[.slice A m ca, .slice B mb cb] w fun e w' => e = .returned (.bool true) ∧ Below w.heap.size w w' := by
  have t_0 := Lib.hid ht
  have b_0 := Lib.hid hb
  clear ht hb
  go_enter Tryz.func8, Tryz.ntmps8
  subst hne
  have HL := Lib.hid hL
  clear hL
  go_wp2_with fail
  refine Calls.mono (awake10 _) ?_
  rintro e w1 ⟨rfl, hb⟩
  have hBw := (show Below w.heap.size w w1 from by first | exact hb | exact bundrew hb)
  have t_1 := Lib.hid (t_0.out.below hBw)
  have b_1 := Lib.hid (b_0.out.below hBw)
  have HB_1 := Lib.hid (hBw)
  clear hBw hb t_0 b_0
  go_wp2_with fail
  refine Calls.mono (rfewrows (N := 4) t_1.out (by omega)) ?_
  rintro e wq ⟨⟨b, rfl, hb⟩, hw⟩
  have hw' := hw.symm
  subst hw'
  clear hw
  cases b
  · clear hb
    go_wp2
    go_ret
    exact ⟨rfl, HB_1.out⟩
  have hft := Lib.hid (hb.1 rfl)
  clear hb
  go_wp2_with fail
  refine Calls.mono (rfew (N := 4) b_1.out (by omega)) ?_
  rintro e wq ⟨⟨b, rfl, hb⟩, hw⟩
  have hw' := hw.symm
  subst hw'
  clear hw
  cases b
  · clear hb
    go_wp2
    go_ret
    exact ⟨rfl, HB_1.out⟩
  have hfb := Lib.hid (hb.1 rfl)
  clear hb
  have T_1 := Lib.hid (t_1.out.few hft.out.1 hft.out.2 (by omega))
  have B_1 := Lib.hid (b_1.out.few hfb.out (by omega))
  have hm : m ≤ 4 := hft.out.1
  have hmb := hfb.out.1
  have hLn := Lib.hid (fun i (hi : i < m) => (hft.out.2 i hi).1)
  clear t_1 b_1 hft hfb
  go_wp2_with fail
  refine Calls.mono (rrect T_1.out) ?_
  rintro e wq ⟨⟨b, rfl, hb⟩, hw⟩
  have hw' := hw.symm
  subst hw'
  clear hw
  obtain rfl : b = true := hb.2 (fun i hi => by rw [HL.out i hi])
  clear hb
  have T2 := Lib.hid (T_1.out.congr (L' := fun _ => m) HL.out (fun _ _ _ _ => rfl))
  clear T_1
  obtain ⟨tr, htr1, htr2⟩ := T2.out.rows_
  obtain ⟨bx, hbR, hbA, hbE⟩ := B_1.out.rows_
  have HTR1 := Lib.hid htr1
  have HTR2 := Lib.hid htr2
  have HBR := Lib.hid hbR
  have HBE := Lib.hid hbE
  clear htr1 htr2 hbR hbA hbE
  have hs4 := szF_le1 hm
  have hsp : 1 ≤ szF 1 m := szF_pos (by omega) m
  have hne1 := Lib.hid (show 27 ≠ 22 by decide)
  have HI0 : Hid (TuI w1 w1 m F tr bx 0 (.slice none 0 0) (.slice none 0 0) (.slice none 0 0)) := ⟨fun _ => .slice none 0 0, OwnT.nil, OwnR.nil, OwnT.nil, fun j hj => absurd hj (by omega), Apart.nil, fun j hj => absurd hj (by omega), Below.refl _ _⟩
  go_wp2
  go_loopw [5, 6, 7, 9] (fun v5 v6 v7 v9 wr => ∃ (i : Nat), v9 = .int .i64 (i : Nat) ∧ i ≤ m ∧ TuI w1 wr m F tr bx i v5 v6 v7) (fun _ _ _ v9 _ => m - (intOf v9).toNat)
  case atStart => exact ⟨0, rfl, Nat.zero_le _, HI0.out⟩
  case round =>
    obtain ⟨wo, rfl⟩ : ∃ x, x = wr := ⟨wr, rfl⟩
    obtain ⟨i, rfl, hi, cc, g1, g2, g3, g4, g5, g6, g7⟩ := hrel
    have HT := Lib.hid g1
    have HW := Lib.hid g2
    have HC := Lib.hid g3
    have HR := Lib.hid g4
    have HA := Lib.hid g5
    have HD := Lib.hid g6
    have HBw := Lib.hid g7
    clear g1 g2 g3 g4 g5 g6 g7 HI0
    by_cases hlt : i < m
    · have hi0 : (0 : Int) ≤ (i : Int) := by omega
      have hik : (i : Int) < (m : Int) := by omega
      obtain ⟨k0, hk⟩ : ∃ k0, m - 1 - i = k0 := ⟨_, rfl⟩
      have HK := Lib.hid hk
      have hk0 : k0 < m := by omega
      have hk1 : (m : Int) - 1 - (i : Int) = (k0 : Int) := by omega
      have hk2 : (0 : Int) ≤ (k0 : Int) := by omega
      have hk3 : (k0 : Int) < (m : Int) := by omega
      clear hk
      obtain ⟨td, eA, hcell1⟩ := HTR1.out k0 hk0
      subst eA
      obtain ⟨R, cR, hTK, _, _⟩ := (HTR2.out k0 hk0).len
      have HTK := Lib.hid hTK
      rw [hTK] at hcell1
      have hcell := (HBw.out.cell (p := td.add k0) (block_lt_of_cell hcell1)).trans hcell1
      clear hTK hcell1
      go_wp2_with (at_builtin; (first
        | (refine wpList_append_rows3 rfl rfl (.tmp 51) (.tmp 59) rfl (base := w1.heap.size) (n := i) (m := 1) (c := 1) (r := fun j => tr (m - 1 - j)) (y := fun _ => .slice R m cR) rfl (HT.out.alloc_ _) rfl (slice_row wo _ rfl _) (fun _ _ => ⟨_, _, _, rfl⟩) (fun e => by cases e) (by omega) (by have := HBw.out.size; simp; omega) ?_; intro v2 w2 ho hf hgr; (have HT2 := Lib.hid (show OwnT w2 w1.heap.size v2 (i + 1) (fun j => tr (m - 1 - j)) from OwnT.congr ho (fun j hj => Decidable.byCases (fun hh : j < i => appR_lt _ _ _ hh) (fun hh : ¬ j < i => (by obtain rfl : i = j := (by omega); rw [appR_at, HK.out, HTK.out]))))); (have HW2 := Lib.hid (show OwnR w2 w1.heap.size u6 i (fun j => bx (m - 1 - j)) from OwnN.fz (OwnR.alloc_ HW.out _) hf hne1.out)); (have HC2 := Lib.hid (show OwnT w2 w1.heap.size u7 i cc from OwnN.grew (OwnT.alloc_ HC.out _) hgr HA.out)); (have HR2 := Lib.hid (fun j (hj : j < i) => ((HR.out j hj).alloc_ _).fz hf)); (have HA2 := Lib.hid (show Apart v2 u7 from HA.out.grew hgr (fun g e => (OwnN.inside (OwnT.alloc_ HC.out _) e).2))); (have HB2 := Lib.hid ((below_trans HBw.out (below_new _ _)).trans hf.below)); (clear ho hf hgr HT HW HC HR HA HBw hcell); (obtain ⟨bd, eB, hat⟩ := HBR.out k0 hk0); (generalize hx8 : bx k0 = q8 at hat); (obtain ⟨b8, A8, n8, c8, d8, B8, m8, k8⟩ := q8); (have HX8 := Lib.hid hx8); (clear hx8); (obtain ⟨x0, x1, x2, x3, x4⟩ := hat.below HB2.out); (have eB' := eB.symm); (subst eB))
        | (refine wpList_append_rats3 rfl rfl (.tmp 61) (.tmp 69) rfl (base := w1.heap.size) (n := i) (m := 1) (c := 1) (X := fun j => bx (m - 1 - j)) (Y := fun _ => ⟨b8, A8, n8, c8, d8, B8, m8, k8⟩) rfl (OwnR.alloc_ HW2.out _) rfl (rowAt_one w2 _ rfl ⟨b8, A8, n8, c8, d8, B8, m8, k8⟩) (fun e => by cases e) (by omega) (by have := HB2.out.size; simp; omega) ?_; intro v3 w3 ho hf hgr; (have HT3 := Lib.hid (show OwnT w3 w1.heap.size v2 (i + 1) (fun j => tr (m - 1 - j)) from OwnN.fz (OwnT.alloc_ HT2.out _) hf hne1.out.symm)); (have HW3 := Lib.hid (show OwnR w3 w1.heap.size v3 (i + 1) (fun j => bx (m - 1 - j)) from OwnR.congr ho (fun j hj => Decidable.byCases (fun hh : j < i => appR_lt _ _ _ hh) (fun hh : ¬ j < i => (by obtain rfl : i = j := (by omega); rw [appR_at, HK.out, HX8.out]))))); (have HC3 := Lib.hid (show OwnT w3 w1.heap.size u7 i cc from OwnN.fz (OwnT.alloc_ HC2.out _) hf hne1.out.symm)); (have HR3 := Lib.hid (fun j (hj : j < i) => ((HR2.out j hj).alloc_ _).grew hgr (HD.out j hj) hf.keep)); (have HD3 := Lib.hid (fun j (hj : j < i) => (HD.out j hj).grew hgr (fun g e => ((HR2.out j hj).alloc_ _).inside e))); (have HB3 := Lib.hid ((below_trans HB2.out (below_new _ _)).trans hf.below)); (clear ho hf hgr HT2 HW2 HC2 HR2 HD HB2 x0 x1 x2 x3 x4 HX8))))
      go_loopw [10, 11] (fun v10 v11 wr => ∃ (l : Nat) (Z : Nat → RatD), v11 = .int .i64 (l : Nat) ∧ l ≤ m ∧ OwnR wr w3.heap.size v10 l Z ∧ (∀ j, j < l → EQ false 1 wr (Z j).val (F i (m - 1 - j))) ∧ Below w3.heap.size w3 wr) (fun _ v11 _ => m - (intOf v11).toNat)
      case atStart => exact ⟨0, fun _ => ratZ, rfl, Nat.zero_le _, OwnR.nil, fun j hj => absurd hj (by omega), Below.refl _ _⟩
      case round =>
        obtain ⟨l, Z, rfl, hl, g1, g2, g3⟩ := hrel
        have HZ := Lib.hid g1
        have HZE := Lib.hid g2
        have HBo := Lib.hid g3
        have HB4 := Lib.hid (below_trans HB3.out g3)
        clear g1 g2 g3
        by_cases hln : l < m
        · have hl0 : (0 : Int) ≤ (l : Int) := by omega
          have hlk : (l : Int) < (m : Int) := by omega
          obtain ⟨k4, hk⟩ : ∃ k4, m - 1 - l = k4 := ⟨_, rfl⟩
          have HK4 := Lib.hid hk
          have hk4 : k4 < m := by omega
          have hk5 : (m : Int) - 1 - (l : Int) = (k4 : Int) := by omega
          have hk6 : (0 : Int) ≤ (k4 : Int) := by omega
          have hk7 : (k4 : Int) < (m : Int) := by omega
          clear hk hk1
          obtain ⟨td', ct', R', cR', e1, _, htb, hcell, _, _, hR⟩ := (T2.out.below HB4.out).at_ hlt
          simp only [Value.slice.injEq, Option.some.injEq] at e1
          obtain ⟨rfl, _, rfl⟩ := e1
          obtain ⟨bd', c1', ⟨b9, A9, n9, c9, d9, B9, m9, k9⟩, e1, _, _, ⟨y0, y1, y2, y3, y4⟩, hE⟩ := hR.at_ hk4
          simp only [Value.slice.injEq] at e1
          obtain ⟨rfl, _, rfl⟩ := e1
          have HE := Lib.hid hE
          clear hR hE
          go_wp2_with (at_builtin; refine wpList_append_rats rfl rfl (.tmp 76) (.tmp 87) rfl (base := w3.heap.size) (n := l) (m := 1) (c := 1) (X := Z) (Y := fun _ => ⟨b9, A9, n9, c9, d9, B9, m9, k9⟩) rfl (OwnR.alloc_ HZ.out _) rfl (rowAt_one wr _ rfl ⟨b9, A9, n9, c9, d9, B9, m9, k9⟩) (fun e => by cases e) (by omega) (by have := HBo.out.size; simp; omega) ?_; intro v6 w6 ho hf)
          have HINV : Hid (OwnR w6 w3.heap.size v6 (l + 1) (appR Z l (fun _ => ⟨b9, A9, n9, c9, d9, B9, m9, k9⟩)) ∧ (∀ j, j < l + 1 → EQ false 1 w6 (appR Z l (fun _ => ⟨b9, A9, n9, c9, d9, B9, m9, k9⟩) j).val (F i (m - 1 - j))) ∧ Below w3.heap.size w3 w6) := ⟨ho, fun j hj => by
            by_cases hjl : j < l
            · rw [appR_lt _ _ _ hjl]; exact ((HZE.out j hjl).alloc_ _).kp hf.keep
            · obtain rfl : l = j := by omega
              rw [appR_at, HK4.out]
              exact (HE.out.alloc_ _).kp hf.keep, (below_trans HBo.out (below_new _ _)).trans hf.below⟩
          clear ho hf HZ HZE HE HBo HB4 hcell y0 y1 y2 y3 y4
          go_wp2
          go_roundw
          case rel => exact ⟨l + 1, _, by go_num, by omega, HINV.out⟩
          case measure => (simp [intOf] <;> omega)
        · obtain rfl : m = l := by omega
          have hZi := Lib.hid (fun g (e : u10.ownBlock = some g) => (OwnN.inside HZ.out e).1)
          have HV := Lib.hid (OwnR.rowT HZ.out (by omega) HZE.out)
          have hAl := Lib.hid (Apart.late (v := v3) (u := u10) (base := w3.heap.size) (fun g e => (OwnN.inside HW3.out e).2) hZi.out)
          obtain ⟨gZ, cZ, rfl, _, _⟩ := OwnN.form HZ.out (by omega)
          have HT4 := Lib.hid (HT3.out.below HBo.out)
          have HW4 := Lib.hid (HW3.out.below HBo.out)
          have HC4 := Lib.hid (HC3.out.below HBo.out)
          have HR4 := Lib.hid (fun j (hj : j < i) => (HR3.out j hj).below HBo.out)
          clear HT3 HW3 HC3 HR3 HZ HZE hZi HBo
          go_wp2_with (at_builtin; refine wpList_append_rows3 rfl rfl (.tmp 89) (.tmp 91) rfl (base := w1.heap.size) (n := i) (m := 1) (c := 1) (r := cc) (y := fun _ => (.slice (some ⟨gZ, 0, none⟩) m cZ)) rfl (HC4.out.alloc_ _) rfl (slice_row wr _ rfl _) (fun _ _ => ⟨_, _, _, rfl⟩) (fun e => by cases e) (by omega) (by have := HB4.out.size; simp; omega) ?_; intro v5 w5 ho hf hgr)
          have HINV : Hid (TuI w1 w5 m F tr bx (i + 1) v2 v3 v5) := ⟨_, OwnN.grew (OwnT.alloc_ HT4.out _) hgr HA2.out.symm, OwnN.fz (OwnR.alloc_ HW4.out _) hf hne1.out, ho, fun j hj => by
            by_cases hh : j < i
            · rw [appR_lt _ _ _ hh]; exact ((HR4.out j hh).alloc_ _).fz hf
            · obtain rfl : i = j := by omega
              rw [appR_at]; exact (HV.out.alloc_ _).fz hf, (HA2.out.symm.grew hgr (fun g e => (OwnN.inside (OwnT.alloc_ HT4.out _) e).2)).symm, fun j hj => by
            by_cases hh : j < i
            · rw [appR_lt _ _ _ hh]; exact HD3.out j hh
            · obtain rfl : i = j := by omega
              rw [appR_at]; exact hAl.out, (below_trans HB4.out (below_new _ _)).trans hf.below⟩
          clear ho hf hgr HT4 HW4 HC4 HR4 HB4 HV hAl HD3 HA2
          go_wp2
          go_roundw
          case rel => exact ⟨i + 1, by go_num, by omega, HINV.out⟩
          case measure => (simp [intOf] <;> omega)
    · obtain rfl : m = i := by omega
      obtain ⟨w20, rfl⟩ : ∃ x, x = wo := ⟨wo, rfl⟩
      have T_20 := Lib.hid (T2.out.below HBw.out)
      have B_20 := Lib.hid (B_1.out.below HBw.out)
      have TR_20 := Lib.hid (show TabQ false 1 w20 u5 m (fun _ => m) (fun j => F (m - 1 - j)) from OwnT.tabQq HT.out (by omega) (fun j hj => (HTR2.out (m - 1 - j) (by omega)).below HBw.out))
      have BR_20 := Lib.hid (show RowQ false 1 w20 u6 m (fun j => h (m - 1 - j)) from (OwnR.rowT HW.out (by omega) (fun j hj => (HBE.out (m - 1 - j) (by omega)).below HBw.out)).rowQ)
      have TC_20 := Lib.hid (show TabQ false 1 w20 u7 m (fun _ => m) (fun j l => F j (m - 1 - l)) from HC.out.tabQ (by omega) HR.out)
      have HB_20 := Lib.hid (below_trans HB_1.out HBw.out)
      clear HT HW HC HR HA HD HBw HTR1 HTR2 HBR HBE T2 B_1 HB_1
      obtain ⟨a5, c5, rfl, _, _⟩ := TR_20.out.len
      obtain ⟨a6, c6, rfl, _, _⟩ := BR_20.out.len
      obtain ⟨a7, c7, rfl, _, _⟩ := TC_20.out.len
      go_wp2_with fail
      refine Calls.mono (lsolve T_20.out B_20.out (fun _ _ => by omega) (by omega) (by omega)) ?_
      rintro e w21 ⟨hb, hx⟩
      have hBw := (show Below w20.heap.size w20 w21 from by first | exact hb | exact bundrew hb)
      have T_21 := Lib.hid (T_20.out.below hBw)
      have B_21 := Lib.hid (B_20.out.below hBw)
      have TR_21 := Lib.hid (TR_20.out.below hBw)
      have BR_21 := Lib.hid (BR_20.out.below hBw)
      have TC_21 := Lib.hid (TC_20.out.below hBw)
      have HB_21 := Lib.hid (below_trans HB_20.out hBw)
      clear hBw hb T_20 B_20 TR_20 BR_20 TC_20 HB_20
      obtain ⟨v, xx, rfl, _, _, hux, hxr⟩ | ⟨rfl, hno⟩ := hx
      · have HUX := Lib.hid hux
        have x_21 := Lib.hid hxr
        obtain ⟨XA, XC, rfl, _, _⟩ := hxr.rowQ.len
        clear hxr hux
        go_wp2_with fail
        refine Calls.mono (lsolve TR_21.out BR_21.out (fun _ _ => by omega) (by omega) (by omega)) ?_
        rintro e w22 ⟨hb, hy⟩
        obtain ⟨v, y, rfl, _, _, huy, hyr⟩ | ⟨_, hno⟩ := hy
        rotate_left
        · exact absurd (by first | exact ⟨rfl, fun _ _ => rfl, _, uniq_rows.2 HUX.out⟩ | exact ⟨trivial, fun _ _ => trivial, _, uniq_rows.2 HUX.out⟩) hno
        have HUY := Lib.hid (uniq_rows.1 huy)
        obtain ⟨YA, YC, rfl, _, _⟩ := hyr.rowQ.len
        have hBw := (show Below w21.heap.size w21 w22 from by first | exact hb | exact bundrew hb)
        have T_22 := Lib.hid (T_21.out.below hBw)
        have B_22 := Lib.hid (B_21.out.below hBw)
        have TR_22 := Lib.hid (TR_21.out.below hBw)
        have BR_22 := Lib.hid (BR_21.out.below hBw)
        have TC_22 := Lib.hid (TC_21.out.below hBw)
        have x_22 := Lib.hid (x_21.out.below hBw)
        have y_22 := Lib.hid (hyr)
        have HB_22 := Lib.hid (below_trans HB_21.out hBw)
        clear hBw hb T_21 B_21 TR_21 BR_21 TC_21 x_21 HB_21
        clear hyr huy
        go_wp2_with fail
        refine Calls.mono (lsolve TC_22.out B_22.out (fun _ _ => by omega) (by omega) (by omega)) ?_
        rintro e w23 ⟨hb, hz⟩
        obtain ⟨v, z, rfl, _, _, huz, hzr⟩ | ⟨_, hno⟩ := hz
        rotate_left
        · exact absurd (by first | exact ⟨rfl, fun _ _ => rfl, _, uniq_cols' HUX.out⟩ | exact ⟨trivial, fun _ _ => trivial, _, uniq_cols' HUX.out⟩) hno
        have HUZ := Lib.hid (uniq_cols huz)
        obtain ⟨ZA, ZC, rfl, _, _⟩ := hzr.rowQ.len
        have hBw := (show Below w22.heap.size w22 w23 from by first | exact hb | exact bundrew hb)
        have T_23 := Lib.hid (T_22.out.below hBw)
        have B_23 := Lib.hid (B_22.out.below hBw)
        have TR_23 := Lib.hid (TR_22.out.below hBw)
        have BR_23 := Lib.hid (BR_22.out.below hBw)
        have TC_23 := Lib.hid (TC_22.out.below hBw)
        have x_23 := Lib.hid (x_22.out.below hBw)
        have y_23 := Lib.hid (y_22.out.below hBw)
        have z_23 := Lib.hid (hzr)
        have HB_23 := Lib.hid (below_trans HB_22.out hBw)
        clear hBw hb T_22 B_22 TR_22 BR_22 TC_22 x_22 y_22 HB_22
        clear hzr huz
        clear T_23 B_23 TR_23 BR_23 TC_23
        go_wp2
        go_loopw [18, 19] (fun v18 v19 wr => ∃ (q : Nat) (z0 : Int) (X : Nat → RatD), v19 = .int .i64 z0 ∧ z0 = (m : Int) - 1 - (q : Int) ∧ q ≤ m ∧ OwnR wr w23.heap.size v18 q X ∧ (∀ j, j < q → EQ true (szF 1 m) wr (X j).val (z (m - 1 - j))) ∧ Below w23.heap.size w23 wr) (fun _ v19 _ => (intOf v19 + 1).toNat)
        case atStart => exact ⟨0, (m : Int) - 1, fun _ => ratZ, by go_num, by omega, Nat.zero_le _, OwnR.nil, fun j hj => absurd hj (by omega), Below.refl _ _⟩
        case round =>
          obtain ⟨w30, rfl⟩ : ∃ x, x = wr := ⟨wr, rfl⟩
          obtain ⟨q, z0, X, rfl, hz0, hq, g1, g2, hbw⟩ := hrel
          have HX := Lib.hid g1
          have HXE := Lib.hid g2
          have HBI := Lib.hid hbw
          have x_30 := Lib.hid (x_23.out.below hbw)
          have y_30 := Lib.hid (y_23.out.below hbw)
          have z_30 := Lib.hid (z_23.out.below hbw)
          have HB_30 := Lib.hid (below_trans HB_23.out hbw)
          clear g1 g2 hbw x_23 y_23 z_23 HB_23
          by_cases hlt : q < m
          · obtain ⟨k0, hk⟩ : ∃ k0, m - 1 - q = k0 := ⟨_, rfl⟩
            have HK := Lib.hid hk
            obtain rfl : z0 = (k0 : Int) := by omega
            have hk0 : k0 < m := by omega
            have hk1 : (0 : Int) ≤ (k0 : Int) := by omega
            have hk2 : (k0 : Int) < (m : Int) := by omega
            have HZ0 := Lib.hid hz0
            clear hk hz0
            obtain ⟨bd, c1', ⟨b9, A9, n9, c9, d9, B9, m9, k9⟩, e1, _, _, ⟨y0, y1, y2, y3, y4⟩, hE⟩ := z_30.out.rowQ.at_ hk0
            simp only [Value.slice.injEq] at e1
            obtain ⟨rfl, _, rfl⟩ := e1
            have HE := Lib.hid hE
            clear hE
            go_wp2_with (at_builtin; refine wpList_append_rats rfl rfl (.tmp 118) (.tmp 123) rfl (base := w23.heap.size) (n := q) (m := 1) (c := 1) (X := X) (Y := fun _ => ⟨b9, A9, n9, c9, d9, B9, m9, k9⟩) rfl (OwnR.alloc_ HX.out _) rfl (rowAt_one w30 _ rfl ⟨b9, A9, n9, c9, d9, B9, m9, k9⟩) (fun e => by cases e) (by omega) (by have := HBI.out.size; simp; omega) ?_; intro v40 w40 ho hf)
            have HINV : Hid (OwnR w40 w23.heap.size v40 (q + 1) (appR X q (fun _ => ⟨b9, A9, n9, c9, d9, B9, m9, k9⟩)) ∧ (∀ j, j < q + 1 → EQ true (szF 1 m) w40 (appR X q (fun _ => ⟨b9, A9, n9, c9, d9, B9, m9, k9⟩) j).val (z (m - 1 - j))) ∧ Below w23.heap.size w23 w40) := ⟨ho, fun j hj => by
              by_cases hjl : j < q
              · rw [appR_lt _ _ _ hjl]; exact ((HXE.out j hjl).alloc_ _).kp hf.keep
              · obtain rfl : q = j := by omega
                rw [appR_at, HK.out]
                exact (HE.out.alloc_ _).kp hf.keep, (below_trans HBI.out (below_new _ _)).trans hf.below⟩
            clear ho hf HX HXE HE HBI y0 y1 y2 y3 y4
            go_wp2
            go_roundw
            case rel => exact ⟨q + 1, (k0 : Int) - 1, _, by go_num, by have := HZ0.out; omega, by omega, HINV.out⟩
            case measure => (simp [intOf] <;> omega)
          · obtain rfl : m = q := by omega
            obtain rfl : z0 = -1 := by omega
            have bk_30 := Lib.hid (OwnR.rowT HX.out (by omega) HXE.out)
            obtain ⟨kA, kc, rfl, _, _⟩ := bk_30.out.rowQ.len
            clear HX HXE hz0
            go_wp2_with fail
            refine Calls.mono (rsame x_30.out.rowQ y_30.out.rowQ (fun j hj => HUX.out.eq HUY.out j hj) (by omega)) ?_
            rintro e w31 ⟨rfl, hb⟩
            have hBw := (show Below w30.heap.size w30 w31 from by first | exact hb | exact bundrew hb)
            have x_31 := Lib.hid (x_30.out.below hBw)
            have y_31 := Lib.hid (y_30.out.below hBw)
            have bk_31 := Lib.hid (bk_30.out.below hBw)
            have HB_31 := Lib.hid (below_trans HB_30.out hBw)
            clear hBw hb x_30 y_30 bk_30 HB_30
            go_wp2_with fail
            refine Calls.mono (rsame x_31.out.rowQ bk_31.out.rowQ (fun j hj => HUX.out.eq HUZ.out j hj) (by omega)) ?_
            rintro e w32 ⟨rfl, hb⟩
            have hBw := (show Below w31.heap.size w31 w32 from by first | exact hb | exact bundrew hb)
            have x_32 := Lib.hid (x_31.out.below hBw)
            have y_32 := Lib.hid (y_31.out.below hBw)
            have bk_32 := Lib.hid (bk_31.out.below hBw)
            have HB_32 := Lib.hid (below_trans HB_31.out hBw)
            clear hBw hb x_31 y_31 bk_31 HB_31
            go_wp2
            go_ret
            exact ⟨rfl, HB_32.out⟩
      · go_wp2_with fail
        refine Calls.mono (lsolve TR_21.out BR_21.out (fun _ _ => by omega) (by omega) (by omega)) ?_
        rintro e w22 ⟨hb, hy⟩
        obtain ⟨v, y, rfl, _, _, hu, _⟩ | ⟨rfl, _⟩ := hy
        · exact absurd (by first | exact ⟨rfl, fun _ _ => rfl, _, uniq_rows.1 hu⟩ | exact ⟨trivial, fun _ _ => trivial, _, uniq_rows.1 hu⟩) hno

        have hBw := (show Below w21.heap.size w21 w22 from by first | exact hb | exact bundrew hb)
        have T_22 := Lib.hid (T_21.out.below hBw)
        have B_22 := Lib.hid (B_21.out.below hBw)
        have TR_22 := Lib.hid (TR_21.out.below hBw)
        have BR_22 := Lib.hid (BR_21.out.below hBw)
        have TC_22 := Lib.hid (TC_21.out.below hBw)
        have HB_22 := Lib.hid (below_trans HB_21.out hBw)
        clear hBw hb T_21 B_21 TR_21 BR_21 TC_21 HB_21
        go_wp2_with fail
        refine Calls.mono (lsolve TC_22.out B_22.out (fun _ _ => by omega) (by omega) (by omega)) ?_
        rintro e w23 ⟨hb, hz⟩
        obtain ⟨v, z, rfl, _, _, hu, _⟩ | ⟨rfl, _⟩ := hz
        · exact absurd (by first | exact ⟨rfl, fun _ _ => rfl, _, uniq_cols hu⟩ | exact ⟨trivial, fun _ _ => trivial, _, uniq_cols hu⟩) hno

        have hBw := (show Below w22.heap.size w22 w23 from by first | exact hb | exact bundrew hb)
        have T_23 := Lib.hid (T_22.out.below hBw)
        have B_23 := Lib.hid (B_22.out.below hBw)
        have TR_23 := Lib.hid (TR_22.out.below hBw)
        have BR_23 := Lib.hid (BR_22.out.below hBw)
        have TC_23 := Lib.hid (TC_22.out.below hBw)
        have HB_23 := Lib.hid (below_trans HB_22.out hBw)
        clear hBw hb T_22 B_22 TR_22 BR_22 TC_22 HB_22
        go_wp2
        go_loopw [18, 19] (fun v18 v19 wr => v18 = .slice none 0 0 ∧ v19 = .int .i64 (-1) ∧ Below w23.heap.size w23 wr) (fun _ _ _ => 0)
        case atStart => exact ⟨rfl, by go_num, Below.refl _ _⟩
        case round =>
          obtain ⟨w30, rfl⟩ : ∃ x, x = wr := ⟨wr, rfl⟩
          obtain ⟨rfl, rfl, hbw⟩ := hrel
          have HB_30 := Lib.hid (below_trans HB_23.out hbw)
          clear hbw HB_23
          go_wp2_with fail
          refine Calls.mono (rsame (k := 1) (l := 1) (n := 0) (f := fun _ => 0) (g := fun _ => 0) rowT_nil.rowQ rowT_nil.rowQ (fun _ _ => rfl) (by omega)) ?_
          rintro e w31 ⟨rfl, hb⟩
          have hBw := (show Below w30.heap.size w30 w31 from by first | exact hb | exact bundrew hb)
          have HB_31 := Lib.hid (below_trans HB_30.out hBw)
          clear hBw hb HB_30
          go_wp2_with fail
          refine Calls.mono (rsame (k := 1) (l := 1) (n := 0) (f := fun _ => 0) (g := fun _ => 0) rowT_nil.rowQ rowT_nil.rowQ (fun _ _ => rfl) (by omega)) ?_
          rintro e w32 ⟨rfl, hb⟩
          have hBw := (show Below w31.heap.size w31 w32 from by first | exact hb | exact bundrew hb)
          have HB_32 := Lib.hid (below_trans HB_31.out hBw)
          clear hBw hb HB_31
          go_wp2
          go_ret
          exact ⟨rfl, HB_32.out⟩

theorem lin_turned (A : Option Addr) (ca m : Nat) (Ln : Nat → Nat) (X : Nat → Nat → RatD) (F : Nat → Nat → Rat) (B : Option Addr) (cb mb : Nat) (Y : Nat → RatD) (h : Nat → Rat) (w : World) (ht : TabR w (.slice A m ca) m Ln X F) (hb : RowR w (.slice B mb cb) mb Y h) :
    Calls Tryz.prog 8 #[.slice A m ca, .slice B mb cb] w fun e w' => e = .returned (.bool true) ∧ Below w.heap.size w w' := by
  by_cases hne : m = mb
  · by_cases hL : ∀ i, i < m → Ln i = m
    · exact turned_c A ca m Ln X F B cb mb Y h w ht hb hne hL
    · exact turned_b A ca m Ln X F B cb mb Y h w ht hb hne hL
  · exact turned_a A ca m Ln X F B cb mb Y h w ht hb hne
end Go.Proofs.YtebdmidghidaeaaGreat
