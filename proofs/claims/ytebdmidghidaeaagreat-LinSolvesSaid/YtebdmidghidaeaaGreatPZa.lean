/- LinSolves. -/
import Derived.Test.YtebdmidghidaeaaGreatPYy
import Derived.Test.YtebdmidghidaeaaGreatPYz
namespace Go.Proofs.YtebdmidghidaeaaGreat
open Go.RowKit
attribute [local go_sem ↓] Go.wp_at_zero Go.wp_at_succ
set_option linter.unusedVariables false
set_option linter.unusedSimpArgs false

theorem cmpQ_refl (q : Rat) : cmpQ q q = 0 := by
  unfold cmpQ
  rw [if_neg (fun h => absurd h (Rat.lt_irrefl)), if_pos rfl]
theorem dot_bqs {m : Nat} {f x : Nat → Rat} (hm : m ≤ 4) (hf : ∀ j, j < m → BQ 1 (f j)) (hx : ∀ j, j < m → BQ (szF 1 m) (x j)) : ∀ i, i ≤ m → BQ 1400 (dotF f x i) := fun i hi => by
  have h1 := szF_le1 hm
  have h2 : i * (1 + szF 1 m + 1) ≤ 4 * 343 := Nat.mul_le_mul (by omega) (by omega)
  exact dotF_bq i (fun j hj => hf j (by omega)) (fun j hj => hx j (by omega)) (by omega)

set_option maxRecDepth 100000 in
set_option maxHeartbeats 8000000 in
theorem lin_solves (A : Option Addr) (ca m : Nat) (Ln : Nat → Nat) (X : Nat → Nat → RatD) (F : Nat → Nat → Rat) (B : Option Addr) (cb mb : Nat) (Y : Nat → RatD) (h : Nat → Rat) (w : World) (ht : TabR w (.slice A m ca) m Ln X F) (hb : RowR w (.slice B mb cb) mb Y h) :
    Calls Tryz.prog 5 #[.slice A m ca, .slice B mb cb] w fun e w' => e = .returned (.bool true) ∧ Below w.heap.size w w' := by
  have t_0 := Lib.hid ht
  have b_0 := Lib.hid hb
  clear ht hb
  go_enter Tryz.func5, Tryz.ntmps5
  go_wp2_with fail
  refine Calls.mono (awake10 _) ?_
  rintro e w1 ⟨rfl, hb⟩
  have hBw := (show Below w.heap.size w w1 from by first | exact hb | exact bundrew hb)
  have t_1 := Lib.hid (t_0.out.below hBw)
  have b_1 := Lib.hid (b_0.out.below hBw)
  have HB_1 := Lib.hid (hBw)
  clear hBw hb t_0 b_0
  go_wp2_with fail
  refine Calls.mono (rfewrows (N := 4) t_1.out (by omega)) ?_
  rintro e wq ⟨⟨b, rfl, hb⟩, hw⟩
  have hw' := hw.symm
  subst hw'
  clear hw
  cases b
  · clear hb
    go_wp2
    go_ret
    exact ⟨rfl, HB_1.out⟩
  have hft := Lib.hid (hb.1 rfl)
  clear hb
  go_wp2_with fail
  refine Calls.mono (rfew (N := 4) b_1.out (by omega)) ?_
  rintro e wq ⟨⟨b, rfl, hb⟩, hw⟩
  have hw' := hw.symm
  subst hw'
  clear hw
  cases b
  · clear hb
    go_wp2
    go_ret
    exact ⟨rfl, HB_1.out⟩
  have hfb := Lib.hid (hb.1 rfl)
  clear hb
  have T_1 := Lib.hid (t_1.out.few hft.out.1 hft.out.2 (by omega))
  have B_1 := Lib.hid (b_1.out.few hfb.out (by omega))
  have hm : m ≤ 4 := hft.out.1
  have hmb := hfb.out.1
  have hLn := Lib.hid (fun i (hi : i < m) => (hft.out.2 i hi).1)
  clear t_1 b_1 hft hfb
  have hs11 := szF_le1 hm
  have hsp : 1 ≤ szF 1 m := szF_pos (by omega) m
  go_wp2_with fail
  refine Calls.mono (lsolve T_1.out B_1.out (fun i hi => by have := hLn.out i hi; omega) (by omega) (by omega)) ?_
  rintro e w2 ⟨hb, hx⟩
  have hBw := (show Below w1.heap.size w1 w2 from by first | exact hb | exact bundrew hb)
  have T_2 := Lib.hid (T_1.out.below hBw)
  have B_2 := Lib.hid (B_1.out.below hBw)
  have HB_2 := Lib.hid (below_trans HB_1.out hBw)
  clear hBw hb T_1 B_1 HB_1
  obtain ⟨v, xx, rfl, hmm, hL, hux, hxr⟩ | ⟨rfl, hno⟩ := hx
  · subst hmm
    have HL := Lib.hid hL
    have HUX := Lib.hid hux
    clear hL hux
    have x_2 := Lib.hid hxr
    obtain ⟨XA, XC, rfl, _, _⟩ := hxr.rowQ.len
    clear hxr
    go_wp2_with fail
    refine Calls.mono (rsolve T_2.out B_2.out (by omega) (by omega) (by omega)) ?_
    rintro e w3 ⟨hb, hy⟩
    obtain ⟨v, y, rfl, _, _, huy, hyr⟩ | ⟨_, hno⟩ := hy
    rotate_left
    · exact absurd (by first | exact ⟨rfl, HL.out, _, HUX.out⟩ | exact ⟨trivial, HL.out, _, HUX.out⟩) hno
    obtain ⟨YA, YC, rfl, _, _⟩ := hyr.rowQ.len
    have hBw := (show Below w2.heap.size w2 w3 from by first | exact hb | exact bundrew hb)
    have T_3 := Lib.hid (T_2.out.below hBw)
    have B_3 := Lib.hid (B_2.out.below hBw)
    have x_3 := Lib.hid (x_2.out.below hBw)
    have y_3 := Lib.hid (hyr)
    have HB_3 := Lib.hid (below_trans HB_2.out hBw)
    clear hBw hb T_2 B_2 x_2 HB_2
    clear hyr
    go_wp2_with fail
    refine Calls.mono (rsame x_3.out.rowQ y_3.out.rowQ (fun j hj => HUX.out.eq huy j hj) (by omega)) ?_
    rintro e w4 ⟨rfl, hb⟩
    have hBw := (show Below w3.heap.size w3 w4 from by first | exact hb | exact bundrew hb)
    have T_4 := Lib.hid (T_3.out.below hBw)
    have B_4 := Lib.hid (B_3.out.below hBw)
    have x_4 := Lib.hid (x_3.out.below hBw)
    have y_4 := Lib.hid (y_3.out.below hBw)
    have HB_4 := Lib.hid (below_trans HB_3.out hBw)
    clear hBw hb T_3 B_3 x_3 y_3 HB_3
    clear huy
    clear y_4
    have T2 := Lib.hid (T_4.out.congr (L' := fun _ => m) HL.out (fun _ _ _ _ => rfl))
    clear T_4
    go_wp2
    go_loopw [9] (fun v9 wr => ∃ (i : Nat), v9 = .int .i64 (i : Nat) ∧ i ≤ m ∧ Below w4.heap.size w4 wr) (fun v9 _ => m - (intOf v9).toNat)
    case atStart => exact ⟨0, rfl, Nat.zero_le _, Below.refl _ _⟩
    case round =>
      obtain ⟨w20, rfl⟩ : ∃ x, x = wr := ⟨wr, rfl⟩
      obtain ⟨i, rfl, hi, hbw⟩ := hrel
      have T_20 := Lib.hid (T2.out.below hbw)
      have B_20 := Lib.hid (B_4.out.below hbw)
      have x_20 := Lib.hid (x_4.out.below hbw)
      have HBI_20 := Lib.hid hbw
      have HB_20 := Lib.hid (below_trans HB_4.out hbw)
      clear hbw T2 B_4 x_4 HB_4
      by_cases hlt : i < m
      · have hi0 : (0 : Int) ≤ (i : Int) := by omega
        have hik : (i : Int) < (m : Int) := by omega
        obtain ⟨td, ct', R, cR, e1, _, htb, hcell, _, _, hR⟩ := T_20.out.at_ hlt
        simp only [Value.slice.injEq] at e1
        obtain ⟨rfl, _, rfl⟩ := e1
        have HR := Lib.hid hR
        have BF := Lib.hid (dot_bqs hm (fun j hj => hR.bq (by omega) hj) (fun j hj => x_20.out.rowQ.bq hsp hj))
        have HD := Lib.hid (HUX.out.1 i hlt)
        clear hR
        go_wp2_with fail
        refine Calls.mono (ldot (K := 1400) HR.out x_20.out.rowQ (by omega) (by omega) (by omega) hsp BF.out (by omega) (by omega)) ?_
        rintro e w21 ⟨v, rfl, h, hb⟩
        obtain ⟨b21, A21, n21, c21, d21, B21, m21, k21, rfl, -, -, -, -, -⟩ := h.form
        rw [HD.out] at h
        have hE := h
        clear hcell HR BF HD
        have hbX := Lib.hid hb
        have hBw := (show Below w20.heap.size w20 w21 from by first | exact hb | exact bundrew hb)
        have T_21 := Lib.hid (T_20.out.below hBw)
        have B_21 := Lib.hid (B_20.out.below hBw)
        have x_21 := Lib.hid (x_20.out.below hBw)
        have e0_21 := Lib.hid (hE)
        have HB_21 := Lib.hid (below_trans HB_20.out hBw)
        clear hBw hb T_20 B_20 x_20 HB_20
        clear h hE
        have HBI_21 := Lib.hid (below_trans HBI_20.out hbX.out)
        clear hbX HBI_20 T_21 x_21
        go_wp2
        generalize hW : w21.alloc (.cells #[.bool b21, .slice A21 n21 c21, .bool d21, .slice B21 m21 k21] 27) = w22
        have hz_22 := Lib.hid (show w22.heap.size = w21.heap.size + 1 from by rw [← hW]; simp)
        have B_22 := Lib.hid (hW ▸ B_21.out.alloc_ _)
        have e0_22 := Lib.hid (hW ▸ e0_21.out.alloc_ _)
        have kb_22 : Hid (Blk w22 w21.heap.size 27 #[.bool b21, .slice A21 n21 c21, .bool d21, .slice B21 m21 k21]) := by rw [← hW]; exact Blk.new _ _ rfl _ _
        have HB_22 := Lib.hid (show Below w.heap.size w w22 from hW ▸ halloc HB_21.out)
        have hnw := Lib.hid (show Below w21.heap.size w21 w22 from hW ▸ below_new _ _)
        clear hW B_21 e0_21 HB_21
        have HBI_22 := Lib.hid (below_trans HBI_21.out hnw.out)
        clear hnw HBI_21
        obtain ⟨bd, c1', ⟨b8, A8, n8, c8, d8, B8, m8, k8⟩, e1, _, _, ⟨x0, x1, x2, x3, x4⟩, hE⟩ := B_22.out.at_ hlt
        simp only [Value.slice.injEq] at e1
        obtain ⟨rfl, _, rfl⟩ := e1
        have HEb := Lib.hid hE
        have HBQ := Lib.hid (B_22.out.bq (by omega) hlt)
        have tok0 : True := trivial
        obtain ⟨p0, p1, p2, p3, pl⟩ := kb_22.out.use4
        clear hE
        go_region_held3 (fun w' => w'.cell? (bd.add (i * 4)) = some (.bool b8) ∧ w'.cell? ⟨(bd.add (i * 4)).block, (bd.add (i * 4)).off + 1, none⟩ = some (.slice A8 n8 c8) ∧ w'.cell? ⟨(bd.add (i * 4)).block, (bd.add (i * 4)).off + 2, none⟩ = some (.bool d8) ∧ w'.cell? ⟨(bd.add (i * 4)).block, (bd.add (i * 4)).off + 3, none⟩ = some (.slice B8 m8 k8) ∧ w'.cell? ⟨w21.heap.size, 0, none⟩ = some (.bool b21) ∧ w'.cell? ⟨w21.heap.size, 1, none⟩ = some (.slice A21 n21 c21) ∧ w'.cell? ⟨w21.heap.size, 2, none⟩ = some (.bool d21) ∧ w'.cell? ⟨w21.heap.size, 3, none⟩ = some (.slice B21 m21 k21)) (first | (refine ⟨?_, ?_, ?_, ?_, ?_, ?_, ?_, ?_⟩ <;> (first | with_reducible assumption | ((with_reducible refine Eq.trans (cell_drew _ _) ?_); with_reducible assumption) | go_keep)) | go_keep)
          (first
            | (go_at_call 26; have _t := tok0; clear _t tok0; ((with_reducible refine Calls.mono (rcmp_is (k := 1) (l := 1) 0 (cmpQ_refl (h i)) (e0_22.out.limQ HBQ.out).drew_ HEb.out.lq.drew_ (by omega) (by omega) (by omega) (by omega)) ?_)); rintro e w40 ⟨rfl, hb⟩; have hBw := (show Below w22.heap.size w22 w40 from by first | exact hb | exact bundrew hb); have y1 := (hBw.cell (p := (bd.add (i * 4))) x0).trans x1; have y2 := (hBw.cell (p := ⟨(bd.add (i * 4)).block, (bd.add (i * 4)).off + 1, none⟩) x0).trans x2; have y3 := (hBw.cell (p := ⟨(bd.add (i * 4)).block, (bd.add (i * 4)).off + 2, none⟩) x0).trans x3; have y4 := (hBw.cell (p := ⟨(bd.add (i * 4)).block, (bd.add (i * 4)).off + 3, none⟩) x0).trans x4; have KB40 := kb_22.out.below hBw; obtain ⟨q0, q1, q2, q3, ql⟩ := KB40.use4; have HB40 := Lib.hid hBw; clear hb hBw x1 x2 x3 x4 p0 p1 p2 p3 pl KB40))
        have HINV := Lib.hid (below_trans HBI_22.out HB40.out)
        clear y1 y2 y3 y4 q0 q1 q2 q3 ql HB40
        go_wp2
        go_roundw
        case rel => exact ⟨i + 1, by go_num, by omega, HINV.out⟩
        case measure => simp [intOf]; omega
      · obtain rfl : i = m := by omega
        go_wp2
        go_ret
        exact ⟨rfl, HB_20.out⟩
  · go_wp2_with fail
    refine Calls.mono (rsolve T_2.out B_2.out (by omega) (by omega) (by omega)) ?_
    rintro e w3 ⟨hb, hy⟩
    obtain ⟨v, y, rfl, h1, h2, hu, _⟩ | ⟨rfl, _⟩ := hy
    · exact absurd ⟨h1, h2, _, hu⟩ hno

    have hBw := (show Below w2.heap.size w2 w3 from by first | exact hb | exact bundrew hb)
    have T_3 := Lib.hid (T_2.out.below hBw)
    have B_3 := Lib.hid (B_2.out.below hBw)
    have HB_3 := Lib.hid (below_trans HB_2.out hBw)
    clear hBw hb T_2 B_2 HB_2
    go_wp2_with fail
    refine Calls.mono (rsame (k := 1) (l := 1) (n := 0) (f := fun _ => 0) (g := fun _ => 0) rowT_nil.rowQ rowT_nil.rowQ (fun _ _ => rfl) (by omega)) ?_
    rintro e w4 ⟨rfl, hb⟩
    have hBw := (show Below w3.heap.size w3 w4 from by first | exact hb | exact bundrew hb)
    have HB_4 := Lib.hid (below_trans HB_3.out hBw)
    clear hBw hb HB_3
    go_wp2
    go_loopw [9] (fun v9 wr => v9 = .int .i64 0 ∧ Below w4.heap.size w4 wr) (fun _ _ => 0)
    case atStart => exact ⟨rfl, Below.refl _ _⟩
    case round =>
      obtain ⟨rfl, hbw⟩ := hrel
      have HBI := Lib.hid hbw
      clear hbw
      by_cases hlt : 0 < m
      · have hik : (0 : Int) < (m : Int) := by omega
        go_wp2
        go_ret
        exact ⟨rfl, below_trans HB_4.out HBI.out⟩
      · have hik : ¬ (0 : Int) < (m : Int) := by omega
        go_wp2
        go_ret
        exact ⟨rfl, below_trans HB_4.out HBI.out⟩
end Go.Proofs.YtebdmidghidaeaaGreat
