/- LinUnit. -/
import Derived.Test.YtebdmidghidaeaaGreatPZb
namespace Go.Proofs.YtebdmidghidaeaaGreat
open Go.RowKit
attribute [local go_sem ↓] Go.wp_at_zero Go.wp_at_succ
set_option linter.unusedVariables false
set_option linter.unusedSimpArgs false

/-- 1 on its way down, 0 else. -/
def unitF (j l : Nat) : Rat := if l = j then 1 else 0
theorem dot_unit (x : Nat → Rat) {n j : Nat} (hj : j < n) : dotF (unitF j) x n = x j := by
  rw [dotF_sum, sumF_congr n (s := fun k => if k = j then x j else 0) (fun k hk => ?_), sumF_one, if_pos hj]
  unfold unitF
  by_cases e : k = j
  · subst e; rw [if_pos rfl, if_pos rfl, Rat.one_mul]
  · rw [if_neg e, if_neg e, Rat.zero_mul]
theorem uniq_unit (h : Nat → Rat) (n : Nat) : Uniq unitF h n h :=
  ⟨fun j hj => dot_unit h hj, fun x hx j hj => (dot_unit x hj).symm.trans (hx j hj)⟩
theorem piv_unit (i a b : Nat) : pivF unitF i i a b = unitF a b := by
  by_cases e : a = i
  · subst e
    rw [pivF_at]
    show unitF a b / unitF a a = _
    rw [show unitF a a = 1 from if_pos rfl]; grind
  · rw [pivF_ne unitF e]
    show unitF a b + unitF i b / unitF i i * (0 - unitF a i) = _
    rw [show unitF a i = 0 from if_neg (fun h => e h.symm)]; grind
theorem szF_le6 {m : Nat} (h : m ≤ 6) : szF 1 m ≤ 5461 := Nat.le_trans (szF_mono 1 h) (by decide)
/-- What the first loop carries. -/
def UnI (w1 wr : World) (n : Nat) (h : Nat → Rat) (i : Nat) (v4 v5 : Value) : Prop :=
  ∃ rr X, OwnT wr w1.heap.size v4 i rr ∧ OwnR wr w1.heap.size v5 i X ∧ (∀ j, j < i → RowT true 1 wr (rr j) n (unitF j)) ∧ (∀ j, j < i → EQ true 1 wr (X j).val (h j)) ∧ (∀ j, j < i → Apart v5 (rr j)) ∧ Below w1.heap.size w1 wr

set_option maxRecDepth 100000 in
set_option maxHeartbeats 8000000 in
theorem lin_unit (B : Option Addr) (cb n : Nat) (Y : Nat → RatD) (h : Nat → Rat) (w : World) (hb : RowR w (.slice B n cb) n Y h) :
    Calls Tryz.prog 6 #[.slice B n cb] w fun e w' => e = .returned (.bool true) ∧ Below w.heap.size w w' := by
  have b_0 := Lib.hid hb
  clear hb
  go_enter Tryz.func6, Tryz.ntmps6
  go_wp2_with fail
  refine Calls.mono (awake10 _) ?_
  rintro e w1 ⟨rfl, hb⟩
  have hBw := (show Below w.heap.size w w1 from by first | exact hb | exact bundrew hb)
  have b_1 := Lib.hid (b_0.out.below hBw)
  have HB_1 := Lib.hid (hBw)
  clear hBw hb b_0
  go_wp2_with fail
  refine Calls.mono (rfew (N := 6) b_1.out (by omega)) ?_
  rintro e wq ⟨⟨b, rfl, hb⟩, hw⟩
  have hw' := hw.symm
  subst hw'
  clear hw
  cases b
  · clear hb
    go_wp2
    go_ret
    exact ⟨rfl, HB_1.out⟩
  have hfb := Lib.hid (hb.1 rfl)
  clear hb
  have B_1 := Lib.hid (b_1.out.few hfb.out (by omega))
  have hn : n ≤ 6 := hfb.out.1
  have hs6 := szF_le6 hn
  clear b_1 hfb
  have HI0 : Hid (UnI w1 w1 n h 0 (.slice none 0 0) (.slice none 0 0)) := ⟨fun _ => .slice none 0 0, fun _ => ratZ, OwnT.nil, OwnR.nil, fun j hj => absurd hj (by omega), fun j hj => absurd hj (by omega), fun j hj => absurd hj (by omega), Below.refl _ _⟩
  have hne1 := Lib.hid (show 27 ≠ 22 by decide)
  go_wp2
  go_loopw [4, 5, 6] (fun v4 v5 v6 wr => ∃ (i : Nat), v6 = .int .i64 (i : Nat) ∧ i ≤ n ∧ UnI w1 wr n h i v4 v5) (fun _ _ v6 _ => n - (intOf v6).toNat)
  case atStart => exact ⟨0, rfl, Nat.zero_le _, HI0.out⟩
  case round =>
    obtain ⟨wo, rfl⟩ : ∃ x, x = wr := ⟨wr, rfl⟩
    obtain ⟨i, rfl, hi, rr, X, g1, g2, g3, g4, g5, g6⟩ := hrel
    have HT := Lib.hid g1
    have HW := Lib.hid g2
    have HR := Lib.hid g3
    have HE := Lib.hid g4
    have HA := Lib.hid g5
    have HBw := Lib.hid g6
    clear g1 g2 g3 g4 g5 g6 HI0
    by_cases hlt : i < n
    · have hi0 : (0 : Int) ≤ (i : Int) := by omega
      have hik : (i : Int) < (n : Int) := by omega
      go_wp2
      go_loopw [7, 8] (fun v7 v8 wr => ∃ (l : Nat) (Z : Nat → RatD), v8 = .int .i64 (l : Nat) ∧ l ≤ n ∧ OwnR wr wo.heap.size v7 l Z ∧ (∀ j, j < l → EQ true 1 wr (Z j).val (unitF i j)) ∧ Below wo.heap.size wo wr) (fun _ v8 _ => n - (intOf v8).toNat)
      case atStart => exact ⟨0, fun _ => ratZ, rfl, Nat.zero_le _, OwnR.nil, fun j hj => absurd hj (by omega), Below.refl _ _⟩
      case round =>
        obtain ⟨l, Z, rfl, hl, g1, g2, g3⟩ := hrel
        have HZ := Lib.hid g1
        have HZE := Lib.hid g2
        have HBo := Lib.hid g3
        clear g1 g2 g3
        by_cases hln : l < n
        · have hl0 : (0 : Int) ≤ (l : Int) := by omega
          have hlk : (l : Int) < (n : Int) := by omega
          by_cases hli : l = i
          · have hii : ((l : Int) == (i : Int)) = true := by rw [hli]; simp
            have HLI := Lib.hid (show (1 : Rat) = unitF i l from (if_pos hli).symm)
            clear hli
            go_wp2_with fail
            refine Calls.mono (lawOf_is law_d1 _ (by omega) (by omega)) ?_
            rintro e w5 ⟨v, rfl, hh, hb⟩
            obtain ⟨b5, A5, n5, c5, d5, B5, m5, k5, rfl, -, -, -, -, -⟩ := hh.form
            have HE5 := Lib.hid (EQ.of (p := true) hh bq1)
            have HZ5 := Lib.hid (HZ.out.below hb)
            have HZE5 := Lib.hid (fun j (hj : j < l) => (HZE.out j hj).below hb)
            have HBo5 := Lib.hid (below_trans HBo.out hb)
            clear hh hb HZ HZE HBo
            go_wp2_with (at_builtin; refine wpList_append_rats rfl rfl (.tmp 35) (.tmp 38) rfl (base := wo.heap.size) (n := l) (m := 1) (c := 1) (X := Z) (Y := fun _ => ⟨b5, A5, n5, c5, d5, B5, m5, k5⟩) rfl (OwnR.alloc_ HZ5.out _) rfl (rowAt_one w5 _ rfl ⟨b5, A5, n5, c5, d5, B5, m5, k5⟩) (fun e => by cases e) (by omega) (by have := HBo5.out.size; simp; omega) ?_; intro v6 w6 ho hf)
            have HINV : Hid (OwnR w6 wo.heap.size v6 (l + 1) (appR Z l (fun _ => ⟨b5, A5, n5, c5, d5, B5, m5, k5⟩)) ∧ (∀ j, j < l + 1 → EQ true 1 w6 (appR Z l (fun _ => ⟨b5, A5, n5, c5, d5, B5, m5, k5⟩) j).val (unitF i j)) ∧ Below wo.heap.size wo w6) := ⟨ho, fun j hj => by
              by_cases hjl : j < l
              · rw [appR_lt _ _ _ hjl]; exact ((HZE5.out j hjl).alloc_ _).kp hf.keep
              · obtain rfl : l = j := by omega
                rw [appR_at, ← HLI.out]
                exact (HE5.out.alloc_ _).kp hf.keep, (below_trans HBo5.out (below_new _ _)).trans hf.below⟩
            clear ho hf HZ5 HZE5 HE5 HBo5
            go_wp2
            go_roundw
            case rel => exact ⟨l + 1, _, by go_num, by omega, HINV.out⟩
            case measure => (simp [intOf] <;> omega)
          · have hii : ¬ (l : Int) = (i : Int) := by omega
            have HLI := Lib.hid (show (0 : Rat) = unitF i l from (if_neg hli).symm)
            clear hli
            go_wp2_with fail
            refine Calls.mono (lawOf_is law_d0 _ (by omega) (by omega)) ?_
            rintro e w5 ⟨v, rfl, hh, hb⟩
            obtain ⟨b5, A5, n5, c5, d5, B5, m5, k5, rfl, -, -, -, -, -⟩ := hh.form
            have HE5 := Lib.hid (EQ.of (p := true) hh bq0)
            have HZ5 := Lib.hid (HZ.out.below hb)
            have HZE5 := Lib.hid (fun j (hj : j < l) => (HZE.out j hj).below hb)
            have HBo5 := Lib.hid (below_trans HBo.out hb)
            clear hh hb HZ HZE HBo
            go_wp2_with (at_builtin; refine wpList_append_rats rfl rfl (.tmp 35) (.tmp 38) rfl (base := wo.heap.size) (n := l) (m := 1) (c := 1) (X := Z) (Y := fun _ => ⟨b5, A5, n5, c5, d5, B5, m5, k5⟩) rfl (OwnR.alloc_ HZ5.out _) rfl (rowAt_one w5 _ rfl ⟨b5, A5, n5, c5, d5, B5, m5, k5⟩) (fun e => by cases e) (by omega) (by have := HBo5.out.size; simp; omega) ?_; intro v6 w6 ho hf)
            have HINV : Hid (OwnR w6 wo.heap.size v6 (l + 1) (appR Z l (fun _ => ⟨b5, A5, n5, c5, d5, B5, m5, k5⟩)) ∧ (∀ j, j < l + 1 → EQ true 1 w6 (appR Z l (fun _ => ⟨b5, A5, n5, c5, d5, B5, m5, k5⟩) j).val (unitF i j)) ∧ Below wo.heap.size wo w6) := ⟨ho, fun j hj => by
              by_cases hjl : j < l
              · rw [appR_lt _ _ _ hjl]; exact ((HZE5.out j hjl).alloc_ _).kp hf.keep
              · obtain rfl : l = j := by omega
                rw [appR_at, ← HLI.out]
                exact (HE5.out.alloc_ _).kp hf.keep, (below_trans HBo5.out (below_new _ _)).trans hf.below⟩
            clear ho hf HZ5 HZE5 HE5 HBo5
            go_wp2
            go_roundw
            case rel => exact ⟨l + 1, _, by go_num, by omega, HINV.out⟩
            case measure => (simp [intOf] <;> omega)
        · obtain rfl : n = l := by omega
          have hZi := Lib.hid (fun g (e : u7.ownBlock = some g) => (OwnN.inside HZ.out e).1)
          have HV := Lib.hid (OwnR.rowT HZ.out (by omega) HZE.out)
          have hAl := Lib.hid (Apart.late (v := u5) (u := u7) (base := wo.heap.size) (fun g e => (OwnN.inside HW.out e).2) hZi.out)
          obtain ⟨gZ, cZ, rfl, _, _⟩ := OwnN.form HZ.out (by omega)
          have HT1 := Lib.hid (HT.out.below HBo.out)
          have HW1 := Lib.hid (HW.out.below HBo.out)
          have HR1 := Lib.hid (fun j (hj : j < i) => (HR.out j hj).below HBo.out)
          have HE1 := Lib.hid (fun j (hj : j < i) => (HE.out j hj).below HBo.out)
          have HB1 := Lib.hid (below_trans HBw.out HBo.out)
          clear HT HW HR HE HZ HZE hZi HBo
          go_wp2_with (at_builtin; refine wpList_append_rows3 rfl rfl (.tmp 40) (.tmp 42) rfl (base := w1.heap.size) (n := i) (m := 1) (c := 1) (r := rr) (y := fun _ => (.slice (some ⟨gZ, 0, none⟩) n cZ)) rfl (HT1.out.alloc_ _) rfl (slice_row wr _ rfl _) (fun _ _ => ⟨_, _, _, rfl⟩) (fun e => by cases e) (by omega) (by have := HB1.out.size; simp; omega) ?_; intro v8 w8 ho hf hgr; (have HT8 := Lib.hid ho); (have HW8 := Lib.hid (show OwnR w8 w1.heap.size u5 i X from OwnN.fz (HW1.out.alloc_ _) hf hne1.out)); (have HR8 := Lib.hid (show ∀ j, j < i + 1 → RowT true 1 w8 (appR rr i (fun _ => (.slice (some ⟨gZ, 0, none⟩) n cZ)) j) n (unitF j) from fun j hj => Decidable.byCases (fun hh : j < i => (by rw [appR_lt _ _ _ hh]; exact ((HR1.out j hh).alloc_ _).fz hf)) (fun hh : ¬ j < i => (by obtain rfl : i = j := (by omega); rw [appR_at]; exact (HV.out.alloc_ _).fz hf)))); (have HE8 := Lib.hid (fun j (hj : j < i) => ((HE1.out j hj).alloc_ _).kp hf.keep)); (have HA8 := Lib.hid (show ∀ j, j < i + 1 → Apart u5 (appR rr i (fun _ => (.slice (some ⟨gZ, 0, none⟩) n cZ)) j) from fun j hj => Decidable.byCases (fun hh : j < i => (by rw [appR_lt _ _ _ hh]; exact HA.out j hh)) (fun hh : ¬ j < i => (by obtain rfl : i = j := (by omega); rw [appR_at]; exact hAl.out)))); (have HB8 := Lib.hid ((below_trans HB1.out (below_new _ _)).trans hf.below)); (clear ho hf hgr HT1 HW1 HR1 HE1 HB1 HV hAl HA); obtain ⟨bd, c1', ⟨b8, A8, n8, c8, d8, B8, m8, k8⟩, e1, _, _, ⟨x0, x1, x2, x3, x4⟩, hEb⟩ := (B_1.out.below HB8.out).at_ hlt; simp only [Value.slice.injEq] at e1; obtain ⟨rfl, _, rfl⟩ := e1; (have HEb := Lib.hid hEb); (have HBQ := Lib.hid (B_1.out.bq (by omega) hlt)); clear hEb)
          refine Calls.mono (r_plain HEb.out.lq (by omega)) ?_
          rintro e w9 ⟨v, rfl, hh, hb⟩
          obtain ⟨b9, A9, n9, c9, d9, B9, m9, k9, rfl, -, -, -, -, -⟩ := hh.form
          have HE9i := Lib.hid (EQ.of (p := true) hh HBQ.out)
          have HT9 := Lib.hid (HT8.out.below hb)
          have HW9 := Lib.hid (HW8.out.below hb)
          have HR9 := Lib.hid (fun j (hj : j < i + 1) => (HR8.out j hj).below hb)
          have HE9 := Lib.hid (fun j (hj : j < i) => (HE8.out j hj).below hb)
          have HB9 := Lib.hid (below_trans HB8.out hb)
          clear hh hb HT8 HW8 HR8 HE8 HB8 x0 x1 x2 x3 x4 HEb HBQ
          go_wp2_with (at_builtin; refine wpList_append_rats3 rfl rfl (.tmp 44) (.tmp 50) rfl (base := w1.heap.size) (n := i) (m := 1) (c := 1) (X := X) (Y := fun _ => ⟨b9, A9, n9, c9, d9, B9, m9, k9⟩) rfl (OwnR.alloc_ HW9.out _) rfl (rowAt_one w9 _ rfl ⟨b9, A9, n9, c9, d9, B9, m9, k9⟩) (fun e => by cases e) (by omega) (by have := HB9.out.size; simp; omega) ?_; intro v10 w10 ho hf hgr)
          have HINV : Hid (UnI w1 w10 n h (i + 1) v8 v10) := ⟨_, _, OwnN.fz (OwnT.alloc_ HT9.out _) hf hne1.out.symm, ho, fun j hj => RowT.grew ((HR9.out j hj).alloc_ _) hgr (HA8.out j hj) hf.keep, fun j hj => by
            by_cases hh : j < i
            · rw [appR_lt _ _ _ hh]; exact ((HE9.out j hh).alloc_ _).kp hf.keep
            · obtain rfl : i = j := by omega
              rw [appR_at]
              exact (HE9i.out.alloc_ _).kp hf.keep, fun j hj => (HA8.out j hj).grew hgr (fun g e => ((HR9.out j hj).alloc_ _).inside e), (below_trans HB9.out (below_new _ _)).trans hf.below⟩
          clear ho hf hgr HT9 HW9 HR9 HE9 HB9 HA8 HE9i
          go_wp2
          go_roundw
          case rel => exact ⟨i + 1, by go_num, by omega, HINV.out⟩
          case measure => (simp [intOf] <;> omega)
    · obtain rfl : n = i := by omega
      have T0 := Lib.hid (HT.out.tabQ (by omega) HR.out)
      have W0 := Lib.hid (OwnR.rowT HW.out (by omega) HE.out)
      have B0 := Lib.hid (B_1.out.below HBw.out)
      have HB0 := Lib.hid (below_trans HB_1.out HBw.out)
      clear HT HR HW HE HA HBw B_1 HB_1
      obtain ⟨tA, tc, rfl, _, _⟩ := T0.out.len
      obtain ⟨wA, wc, rfl, _, _⟩ := W0.out.rowQ.len
      go_wp2_with fail
      refine Calls.mono (lsolve T0.out B0.out (fun _ _ => by omega) (by omega) (by omega)) ?_
      rintro e w5 ⟨hb, hx⟩
      obtain ⟨v, y, rfl, _, _, huy, hyr⟩ | ⟨_, hno⟩ := hx
      rotate_left
      · exact absurd (by first | exact ⟨rfl, fun _ _ => rfl, _, uniq_unit h n⟩ | exact ⟨trivial, fun _ _ => trivial, _, uniq_unit h n⟩) hno
      have T5 := Lib.hid (T0.out.below hb)
      have W5 := Lib.hid (W0.out.below hb)
      have HB5 := Lib.hid (below_trans HB0.out hb)
      have HY5 := Lib.hid hyr
      have HUY := Lib.hid huy
      obtain ⟨yA, yc, rfl, _, _⟩ := hyr.rowQ.len
      clear hb hyr huy T0 W0 B0 HB0
      go_wp2
      go_loopw [12] (fun v12 wr => ∃ (i : Nat), v12 = .int .i64 (i : Nat) ∧ i ≤ n ∧ Below w5.heap.size w5 wr) (fun v12 _ => n - (intOf v12).toNat)
      case atStart => exact ⟨0, rfl, Nat.zero_le _, Below.refl _ _⟩
      case round =>
        obtain ⟨i, rfl, hi, hbw⟩ := hrel
        have T6 := Lib.hid (T5.out.below hbw)
        have W6 := Lib.hid (W5.out.below hbw)
        have HY6 := Lib.hid (HY5.out.below hbw)
        have HBI := Lib.hid hbw
        clear hbw T5 W5 HY5
        by_cases hlt : i < n
        · have hi0 : (0 : Int) ≤ (i : Int) := by omega
          have hik : (i : Int) < (n : Int) := by omega
          go_wp2_with fail
          refine Calls.mono (lpivot (K := 5) T6.out (by omega) (by omega) (by omega)) ?_
          rintro e w7 ⟨hb, hl⟩
          obtain ⟨hno, _⟩ | ⟨rn, cn, v, e1, e2, h3, h4, h5, h6, rfl, hv⟩ := hl
          · exact absurd (pivOk_of rfl rfl hlt hlt (fun _ _ => rfl) (by show unitF i i ≠ 0; rw [show unitF i i = 1 from if_pos rfl]; decide)) hno
          obtain rfl : i = rn := by omega
          obtain rfl : i = cn := by omega
          have T7 := Lib.hid (T6.out.below hb)
          have P7 := Lib.hid hv
          have HBI7 := Lib.hid (below_trans HBI.out hb)
          obtain ⟨pA, pc, rfl, _, _⟩ := hv.len
          clear hb hv e1 e2 h3 h4 h5 h6 T6 HBI
          go_wp2_with fail
          refine Calls.mono (rtables P7.out T7.out (fun _ _ => rfl) (fun a _ b _ => piv_unit i a b) (by omega)) ?_
          rintro e w8 ⟨rfl, hb⟩
          have HINV := Lib.hid (below_trans HBI7.out hb)
          clear hb P7 T7 HBI7
          go_wp2
          go_roundw
          case rel => exact ⟨i + 1, by go_num, by omega, HINV.out⟩
          case measure => (simp [intOf] <;> omega)
        · obtain rfl : n = i := by omega
          go_wp2_with fail
          refine Calls.mono (rsame HY6.out.rowQ W6.out.rowQ (fun j hj => HUY.out.eq (uniq_unit h n) j hj) (by omega)) ?_
          rintro e w7 ⟨rfl, hb⟩
          have HB7 := Lib.hid (below_trans (below_trans HB5.out HBI.out) hb)
          clear hb
          go_wp2
          go_ret
          exact ⟨rfl, HB7.out⟩
end Go.Proofs.YtebdmidghidaeaaGreat
