/- Contracts of the document: Pivot. -/
import Derived.Test.YtebdmidghidaeaaGreatPYq
namespace Go.Proofs.YtebdmidghidaeaaGreat
open Go.RowKit
attribute [local go_sem ↓] Go.wp_at_zero Go.wp_at_succ
set_option linter.unusedVariables false
set_option linter.unusedSimpArgs false

theorem pivF_r {F : Nat → Nat → Rat} {r c i : Nat} (h : i ≠ r) (l : Nat) : pivF F r c i l = F i l - F i c * (F r l / F r c) := by
  rw [pivF_ne F h]
  show F i l + F r l / F r c * (0 - F i c) = _
  generalize F r l / F r c = q
  grind
theorem slice_row (w : World) (g : Nat) (hg : g = w.heap.size) (v : Value) : ∀ i, i < 1 → ∃ ad, some (⟨g, 0, none⟩ : Addr) = some ad ∧ (w.alloc (.cells #[v] 22)).cell? (ad.add i) = some v := fun i hi => by
  obtain rfl : i = 0 := by omega
  exact ⟨_, rfl, (Blk.new w g hg 22 #[v]).cell 0⟩

set_option maxRecDepth 100000 in
set_option maxHeartbeats 8000000 in
theorem rpivoted {p : Bool} {k K m r c : Nat} {Ln : Nat → Nat} {w : World} {vt : Value} {F : Nat → Nat → Rat} (hT : TabQ p k w vt m Ln F) (hr : r < m) (hc : c < Ln r) (hL : ∀ i, i < m → Ln i = Ln r) (hF : F r c ≠ 0) (hk : k ≤ 1000) (h1 : 1 ≤ k) (hK : k + (k + (k + k)) + 1 ≤ K) :
    Calls Tryz.prog 21 #[vt, .int .i64 (r : Nat), .int .i64 (c : Nat)] w fun e w' => ∃ v, e = .returned (.tuple #[v, .bool true]) ∧ TabQ true K w' v m (fun _ => Ln r) (pivF F r c) ∧ Below w.heap.size w w' := by
  obtain ⟨td, ct, R, cR, rfl, hm, htb, hcell, hn1, hn, hR⟩ := hT.at_ hr
  have hT2 := hT.congr (L' := fun _ => Ln r) hL (fun _ _ _ _ => rfl)
  generalize Ln r = n at *
  obtain ⟨rd, cr, ⟨b6, A6, n6, c6, d6, B6, m6, k6⟩, e1, _, _, hatc, hE⟩ := hR.at_ hc
  simp only [Value.slice.injEq] at e1
  obtain ⟨rfl, _, rfl⟩ := e1
  have hr0 : ¬ (r : Int) < 0 := by omega
  have hr1 : ¬ (m : Int) ≤ (r : Int) := by omega
  have hr2 : (r : Int) < (m : Int) := by omega
  have hr3 : (0 : Int) ≤ (r : Int) := by omega
  have hc0 : ¬ (c : Int) < 0 := by omega
  have hc1 : ¬ (n : Int) ≤ (c : Int) := by omega
  have hc2 : (c : Int) < (n : Int) := by omega
  have hc3 : (0 : Int) ≤ (c : Int) := by omega
  obtain ⟨z0, z1, z2, z3, z4⟩ := hatc
  have HT := Lib.hid hT
  have HT2 := Lib.hid hT2
  have HR := Lib.hid hR
  have HE := Lib.hid hE.2
  have HL := Lib.hid hL
  have HF := Lib.hid hF
  have HCR := Lib.hid hcell
  have HATC := Lib.hid (show RatAt w (rd.add (c * 4)) ⟨b6, A6, n6, c6, d6, B6, m6, k6⟩ from ⟨z0, z1, z2, z3, z4⟩)
  have HZ := Lib.hid (decide_eq_false hF)
  have BU : Hid (∀ i, i < n → BQ (k + k) (F r i / F r c)) := fun i hi => BQ.div (hR.bq h1 hi) (hE.2.bq h1) h1 (Nat.le_refl _)
  clear hT hT2 hR hE hL hF
  go_enter Tryz.func21, Tryz.ntmps21
  go_wp2_with fail
  refine Calls.mono (rrect HT.out) ?_
  rintro e w1 ⟨⟨b, rfl, hb⟩, rfl⟩
  obtain rfl : b = true := hb.2 (fun i hi => by rw [HL.out i hi])
  clear hb
  go_wp2_with fail
  refine Calls.mono (risz_is HZ.out HE.out (by omega) h1) ?_
  rintro e w2 ⟨rfl, hb⟩
  have HB2 := Lib.hid hb
  clear hb z1 z2 z3 z4 hcell
  go_wp2
  go_loopw [8, 9] (fun v8 v9 wr => ∃ (i : Nat) (rr : Nat → Value), v9 = .int .i64 (i : Nat) ∧ i ≤ m ∧ OwnT wr w1.heap.size v8 i rr ∧ (∀ j, j < i → RowT true K wr (rr j) n (pivF F r c j)) ∧ Below w1.heap.size w1 wr) (fun _ v9 _ => m - (intOf v9).toNat)
  case atStart => exact ⟨0, fun _ => .slice none 0 0, rfl, Nat.zero_le _, OwnT.nil, fun j hj => absurd hj (by omega), HB2.out⟩
  case round =>
    obtain ⟨wo, rfl⟩ : ∃ wo, wo = wr := ⟨wr, rfl⟩
    obtain ⟨i, rr, rfl, hi, g1, g2, g3⟩ := hrel
    have HO := Lib.hid g1
    have HX := Lib.hid g2
    have HB := Lib.hid g3
    clear g1 g2 g3 HB2
    by_cases hlt : i < m
    · have hi0 : (0 : Int) ≤ (i : Int) := by omega
      have hik : (i : Int) < (m : Int) := by omega
      obtain ⟨td', ct', Q, cQ, e1, _, hqb, hqcell, _, _, hQ⟩ := HT2.out.at_ hlt
      simp only [Value.slice.injEq, Option.some.injEq] at e1
      obtain ⟨rfl, _, rfl⟩ := e1
      obtain ⟨qd, cq, ⟨b8, A8, n8, c8, d8, B8, m8, k8⟩, e1, _, _, hatq, hEq⟩ := hQ.at_ hc
      simp only [Value.slice.injEq] at e1
      obtain ⟨rfl, _, rfl⟩ := e1
      have HQ := Lib.hid hQ
      have HEQ := Lib.hid hEq.2
      have HATQ := Lib.hid hatq
      have HQC := Lib.hid hqcell
      clear hQ hEq hatq hqcell
      go_wp2
      go_loopw [10, 11] (fun v10 v11 wi => ∃ (q : Nat) (X : Nat → RatD), v11 = .int .i64 (q : Nat) ∧ q ≤ n ∧ OwnR wi wo.heap.size v10 q X ∧ (∀ l, l < q → EQ true K wi (X l).val (pivF F r c i l)) ∧ Below wo.heap.size wo wi) (fun _ v11 _ => n - (intOf v11).toNat)
      case atStart => exact ⟨0, fun _ => ratZ, rfl, Nat.zero_le _, OwnR.nil, fun j hj => absurd hj (by omega), Below.refl _ _⟩
      case round =>
        obtain ⟨wi, rfl⟩ : ∃ wi, wi = wr := ⟨wr, rfl⟩
        obtain ⟨q, X, rfl, hq, g1, g2, g3⟩ := hrel
        have HO2 := Lib.hid g1
        have HX2 := Lib.hid g2
        have HBi := Lib.hid g3
        have HBw := Lib.hid (below_trans HB.out g3)
        clear g1 g2 g3
        have hci := (HBw.out.cell (p := td.add i) (by rw [add_block]; exact hqb)).trans HQC.out
        by_cases hqn : q < n
        · have hq0 : (0 : Int) ≤ (q : Int) := by omega
          have hqk : (q : Int) < (n : Int) := by omega
          have hcr := (HBw.out.cell (p := td.add r) (by rw [add_block]; exact htb)).trans HCR.out
          obtain ⟨rd', c1', ⟨b5, A5, n5, c5, d5, B5, m5, k5⟩, e1, _, _, hat5, hE5⟩ := HR.out.at_ hqn
          simp only [Value.slice.injEq, Option.some.injEq] at e1
          obtain ⟨rfl, _, rfl⟩ := e1
          obtain ⟨qd', c1', ⟨b7, A7, n7, c7, d7, B7, m7, k7⟩, e1, _, _, hat7, hE7⟩ := HQ.out.at_ hqn
          simp only [Value.slice.injEq, Option.some.injEq] at e1
          obtain ⟨rfl, _, rfl⟩ := e1
          obtain ⟨x0, x1, x2, x3, x4⟩ := hat5.below HBw.out
          obtain ⟨y0, y1, y2, y3, y4⟩ := HATC.out.below HBw.out
          have HE5 := Lib.hid (hE5.2.below HBw.out)
          have HE6 := Lib.hid (HE.out.below HBw.out)
          have HE7 := Lib.hid hE7.2
          have HAT7 := Lib.hid hat7
          have tok0 : True := trivial
          have hnw1 : wi.heap.size ≠ (td.add r).block := by rw [add_block]; have := HBw.out.size; omega
          have hnw2 : wi.heap.size ≠ (rd.add (q * 4)).block := by omega
          have hnw3 : wi.heap.size ≠ (rd.add (c * 4)).block := by omega
          clear hat5 hat7 hE5 hE7
          go_wp2
          go_region_held3 (fun w' => w'.cell? (td.add r) = some (.slice (some rd) n cR) ∧ w'.cell? (rd.add (q * 4)) = some (.bool b5) ∧ w'.cell? ⟨(rd.add (q * 4)).block, (rd.add (q * 4)).off + 1, none⟩ = some (.slice A5 n5 c5) ∧ w'.cell? ⟨(rd.add (q * 4)).block, (rd.add (q * 4)).off + 2, none⟩ = some (.bool d5) ∧ w'.cell? ⟨(rd.add (q * 4)).block, (rd.add (q * 4)).off + 3, none⟩ = some (.slice B5 m5 k5) ∧ w'.cell? (rd.add (c * 4)) = some (.bool b6) ∧ w'.cell? ⟨(rd.add (c * 4)).block, (rd.add (c * 4)).off + 1, none⟩ = some (.slice A6 n6 c6) ∧ w'.cell? ⟨(rd.add (c * 4)).block, (rd.add (c * 4)).off + 2, none⟩ = some (.bool d6) ∧ w'.cell? ⟨(rd.add (c * 4)).block, (rd.add (c * 4)).off + 3, none⟩ = some (.slice B6 m6 k6)) (first | (refine ⟨?_, ?_, ?_, ?_, ?_, ?_, ?_, ?_, ?_⟩ <;> (first | with_reducible assumption | ((with_reducible refine Eq.trans (cell_drew _ _) ?_); with_reducible assumption) | ((repeat rw [World.cell?_setCell_far _ _ _ _ (by first | exact hnw1 | exact hnw2 | exact hnw3)]); with_reducible assumption) | go_keep)) | go_keep)
            (first
              | (go_at_call 44; have _t := tok0; clear _t tok0; ((with_reducible refine Calls.mono (rdiv_q HE5.out.drew_ HE6.out.drew_ (by omega) (by omega) h1 h1) ?_)); rintro e w11 ⟨v, rfl, h, hb⟩; obtain ⟨b11, A11, n11, c11, d11, B11, m11, k11, rfl, -, -, -, -, -⟩ := h.form; have hBw := (show Below wi.heap.size wi w11 from bundrew hb); have hcr1 := (hBw.cell (p := td.add r) (by rw [add_block]; exact Nat.lt_of_lt_of_le htb HBw.out.size)).trans hcr; have x11 := (hBw.cell (p := (rd.add (q * 4))) x0).trans x1; have x21 := (hBw.cell (p := ⟨(rd.add (q * 4)).block, (rd.add (q * 4)).off + 1, none⟩) x0).trans x2; have x31 := (hBw.cell (p := ⟨(rd.add (q * 4)).block, (rd.add (q * 4)).off + 2, none⟩) x0).trans x3; have x41 := (hBw.cell (p := ⟨(rd.add (q * 4)).block, (rd.add (q * 4)).off + 3, none⟩) x0).trans x4; have x01 := Nat.lt_of_lt_of_le x0 hBw.size; have y11 := (hBw.cell (p := (rd.add (c * 4))) y0).trans y1; have y21 := (hBw.cell (p := ⟨(rd.add (c * 4)).block, (rd.add (c * 4)).off + 1, none⟩) y0).trans y2; have y31 := (hBw.cell (p := ⟨(rd.add (c * 4)).block, (rd.add (c * 4)).off + 2, none⟩) y0).trans y3; have y41 := (hBw.cell (p := ⟨(rd.add (c * 4)).block, (rd.add (c * 4)).off + 3, none⟩) y0).trans y4; have y01 := Nat.lt_of_lt_of_le y0 hBw.size; have HQ11 := Lib.hid h; have HB11 := Lib.hid hBw; clear h hb hBw hcr x1 x2 x3 x4 y1 y2 y3 y4 HE5 HE6)
              | (go_at_call 44; have _t := tok0; clear _t tok0; ((with_reducible refine Calls.mono (rdiv_q (HE5.out.alloc_ _).drew_ (HE6.out.alloc_ _).drew_ (by omega) (by omega) h1 h1) ?_)); rintro e w11 ⟨v, rfl, h, hb⟩; obtain ⟨b11, A11, n11, c11, d11, B11, m11, k11, rfl, -, -, -, -, -⟩ := h.form; have hBw := (show Below wi.heap.size wi w11 from by first | exact bundrew (bun hb) | exact bun (bundrew hb)); have hcr1 := (hBw.cell (p := td.add r) (by rw [add_block]; exact Nat.lt_of_lt_of_le htb HBw.out.size)).trans hcr; have x11 := (hBw.cell (p := (rd.add (q * 4))) x0).trans x1; have x21 := (hBw.cell (p := ⟨(rd.add (q * 4)).block, (rd.add (q * 4)).off + 1, none⟩) x0).trans x2; have x31 := (hBw.cell (p := ⟨(rd.add (q * 4)).block, (rd.add (q * 4)).off + 2, none⟩) x0).trans x3; have x41 := (hBw.cell (p := ⟨(rd.add (q * 4)).block, (rd.add (q * 4)).off + 3, none⟩) x0).trans x4; have x01 := Nat.lt_of_lt_of_le x0 hBw.size; have y11 := (hBw.cell (p := (rd.add (c * 4))) y0).trans y1; have y21 := (hBw.cell (p := ⟨(rd.add (c * 4)).block, (rd.add (c * 4)).off + 1, none⟩) y0).trans y2; have y31 := (hBw.cell (p := ⟨(rd.add (c * 4)).block, (rd.add (c * 4)).off + 2, none⟩) y0).trans y3; have y41 := (hBw.cell (p := ⟨(rd.add (c * 4)).block, (rd.add (c * 4)).off + 3, none⟩) y0).trans y4; have y01 := Nat.lt_of_lt_of_le y0 hBw.size; have HQ11 := Lib.hid h; have HB11 := Lib.hid hBw; have K11 := Lib.hid (show Blk w11 wi.heap.size 27 #[.bool false, .slice none 0 0, .bool false, .slice none 0 0] from (Blk.new _ _ rfl _ _).below (show Below (wi.alloc (.cells #[.bool false, .slice none 0 0, .bool false, .slice none 0 0] 27)).heap.size (wi.alloc (.cells #[.bool false, .slice none 0 0, .bool false, .slice none 0 0] 27)) w11 from bundrew hb)); obtain ⟨g0, g1, g2, g3, gl⟩ := K11.out.use4; obtain ⟨i0, i1, i2, i3⟩ := K11.out.into4; clear h hb hBw hcr x1 x2 x3 x4 y1 y2 y3 y4 HE5 HE6))
          · obtain ⟨w12, hW⟩ : ∃ W, W = w11.alloc (.cells #[.bool b11, .slice A11 n11 c11, .bool d11, .slice B11 m11 k11] 27) := ⟨_, rfl⟩
            obtain ⟨gb, hgb⟩ : ∃ g, g = w11.heap.size := ⟨_, rfl⟩
            rw [← hW, ← hgb]
            have KQ : Hid (Blk w12 gb 27 #[.bool b11, .slice A11 n11 c11, .bool d11, .slice B11 m11 k11]) := by rw [hW]; exact Blk.new _ _ hgb _ _
            have HQ12 : Hid (IsRat w12 (.agg #[.bool b11, .slice A11 n11 c11, .bool d11, .slice B11 m11 k11]) (F r q / F r c)) := by rw [hW]; exact HQ11.out.alloc_ _
            have HB12 : Hid (Below wi.heap.size wi w12) := by rw [hW]; exact below_trans HB11.out (below_new _ _)
            have hgb2 : wi.heap.size ≤ gb := by rw [hgb]; exact HB11.out.size
            clear hW hgb HQ11 HB11
            have HBW12 := Lib.hid (below_trans HBw.out HB12.out)
            have HBo12 := Lib.hid (below_trans HBi.out HB12.out)
            have hci12 := (HB12.out.cell (p := td.add i) (by rw [add_block]; exact Nat.lt_of_lt_of_le hqb HBw.out.size)).trans hci
            obtain ⟨a0, a1, a2, a3, a4⟩ := HAT7.out.below HBW12.out
            obtain ⟨e0, e1, e2, e3, e4⟩ := HATQ.out.below HBW12.out
            have HO12 := Lib.hid (HO2.out.below HB12.out)
            have HX12 := Lib.hid (fun l (hl : l < q) => (HX2.out l hl).below HB12.out)
            obtain ⟨f0, f1, f2, f3, fl⟩ := KQ.out.use4
            obtain ⟨h0, h1', h2, h3⟩ := KQ.out.into4
            clear hci
            by_cases hir : i = r
            · have hbne : ((i : Int) != (r : Int)) = false := by rw [hir]; simp
              have HPV : Hid (pivF F r c i = fun l => F r l / F r c) := by show _ = _; rw [hir, pivF_at]
              clear hir
              clear a0 a1 a2 a3 a4 e0 e1 e2 e3 e4
              go_wp2_with (at_builtin; refine wpList_append_rats rfl rfl (.tmp 108) (.tmp 110) rfl (base := wo.heap.size) (n := q) (m := 1) (c := 1) (X := X) (Y := fun _ => ⟨b11, A11, n11, c11, d11, B11, m11, k11⟩) rfl (OwnR.alloc_ HO12.out _) rfl (rowAt_one w12 _ rfl ⟨b11, A11, n11, c11, d11, B11, m11, k11⟩) (fun e => by cases e) (by omega) (by have := HBo12.out.size; simp; omega) ?_; intro v13 w13 ho hf)
              have HINV : Hid (OwnR w13 wo.heap.size v13 (q + 1) (appR X q (fun _ => ⟨b11, A11, n11, c11, d11, B11, m11, k11⟩)) ∧ (∀ l, l < q + 1 → EQ true K w13 (appR X q (fun _ => ⟨b11, A11, n11, c11, d11, B11, m11, k11⟩) l).val (pivF F r c i l)) ∧ Below wo.heap.size wo w13) := ⟨ho, fun l hl => by
                by_cases h : l < q
                · rw [appR_lt _ _ _ h]; exact ((HX12.out l h).alloc_ _).kp hf.keep
                · obtain rfl : l = q := by omega
                  have := appR_ge X l (fun _ => ⟨b11, A11, n11, c11, d11, B11, m11, k11⟩) 0
                  rw [Nat.add_zero] at this
                  rw [this, HPV.out]
                  exact ((EQ.of (p := true) HQ12.out ((BU.out l hqn).more (by omega))).alloc_ _).kp hf.keep, (below_trans HBo12.out (below_new _ _)).trans hf.below⟩
              clear ho hf HO12 HX12 KQ HQ12 HB12 HBo12 HBW12 f0 f1 f2 f3 fl h0 h1' h2 h3 hci12
              go_wp2
              go_roundw
              case rel => exact ⟨q + 1, _, by go_num, by omega, HINV.out⟩
              case measure => simp [intOf]; omega
            · have hir' : ¬ (i : Int) = (r : Int) := by omega
              have hng : gb ≠ (qd.add (q * 4)).block := by
                have := HAT7.out.1; have := HBw.out.size; omega
              have hng2 : gb ≠ (qd.add (c * 4)).block := by
                have := HATQ.out.1; have := HBw.out.size; omega
              have hng3 : gb ≠ (td.add i).block := by
                rw [add_block]; have := HBw.out.size; omega
              have HE7' := Lib.hid (HE7.out.below HBW12.out)
              have HEQ' := Lib.hid (HEQ.out.below HBW12.out)
              have PB : Hid (BQ (k + (k + k)) (F i c * (F r q / F r c))) := BQ.mul (HEQ.out.bq h1) (BU.out q hqn) (Nat.le_refl _)
              go_wp2
              refine wp_region_held_drew (S := (fun w' => w'.cell? (td.add i) = some (.slice (some qd) n cQ) ∧ w'.cell? (qd.add (q * 4)) = some (.bool b7) ∧ w'.cell? ⟨(qd.add (q * 4)).block, (qd.add (q * 4)).off + 1, none⟩ = some (.slice A7 n7 c7) ∧ w'.cell? ⟨(qd.add (q * 4)).block, (qd.add (q * 4)).off + 2, none⟩ = some (.bool d7) ∧ w'.cell? ⟨(qd.add (q * 4)).block, (qd.add (q * 4)).off + 3, none⟩ = some (.slice B7 m7 k7) ∧ w'.cell? (qd.add (c * 4)) = some (.bool b8) ∧ w'.cell? ⟨(qd.add (c * 4)).block, (qd.add (c * 4)).off + 1, none⟩ = some (.slice A8 n8 c8) ∧ w'.cell? ⟨(qd.add (c * 4)).block, (qd.add (c * 4)).off + 2, none⟩ = some (.bool d8) ∧ w'.cell? ⟨(qd.add (c * 4)).block, (qd.add (c * 4)).off + 3, none⟩ = some (.slice B8 m8 k8))) (by kernel_rfl) ?_ (fun hHeld => ?_)
              · (first | (refine ⟨?_, ?_, ?_, ?_, ?_, ?_, ?_, ?_, ?_⟩ <;> (first | with_reducible assumption | ((with_reducible refine Eq.trans (cell_drew _ _) ?_); with_reducible assumption) | ((repeat rw [World.cell?_setCell_far _ _ _ _ (by first | exact hng | exact hng2 | exact hng3)]); with_reducible assumption) | go_keep)) | go_keep)
              refine wpAnyH_take (i := 0) (v := ?_) rfl (by kernel_rfl) (by kernel_rfl) (by kernel_rfl) (fun _ _ _ h => h) (Or.inl ⟨by kernel_rfl, ?_⟩) (by assumption) ?_
              rotate_left
              · intro w hSw; (try dsimp only at hSw); go_simp <;> (try with_reducible rfl)
              (try simp only [Act.put, List.setIfInBounds_toArray, List.set_cons_zero, List.set_cons_succ, List.getElem_toArray, List.getElem_cons_succ, List.getElem_cons_zero])
              refine wpAnyH_take (i := 1) (v := ?_) rfl (by kernel_rfl) (by kernel_rfl) (by kernel_rfl) (fun _ _ _ h => h) (Or.inl ⟨by kernel_rfl, ?_⟩) (by assumption) ?_
              rotate_left
              · intro w hSw; (try dsimp only at hSw); go_simp <;> (try with_reducible rfl)
              (try simp only [Act.put, List.setIfInBounds_toArray, List.set_cons_zero, List.set_cons_succ, List.getElem_toArray, List.getElem_cons_succ, List.getElem_cons_zero])
              refine wpAnyH_take (i := 2) (v := ?_) rfl (by kernel_rfl) (by kernel_rfl) (by kernel_rfl) (fun _ _ _ h => h) (Or.inl ⟨by kernel_rfl, ?_⟩) (by assumption) ?_
              rotate_left
              · intro w hSw; (try dsimp only at hSw); go_simp <;> (try with_reducible rfl)
              (try simp only [Act.put, List.setIfInBounds_toArray, List.set_cons_zero, List.set_cons_succ, List.getElem_toArray, List.getElem_cons_succ, List.getElem_cons_zero])
              refine wpAnyH_take (i := 3) (v := ?_) rfl (by kernel_rfl) (by kernel_rfl) (by kernel_rfl) (fun _ _ _ h => h) (Or.inl ⟨by kernel_rfl, ?_⟩) (by assumption) ?_
              rotate_left
              · intro w hSw; (try dsimp only at hSw); go_simp <;> (try with_reducible rfl)
              (try simp only [Act.put, List.setIfInBounds_toArray, List.set_cons_zero, List.set_cons_succ, List.getElem_toArray, List.getElem_cons_succ, List.getElem_cons_zero])
              refine wpAnyH_take (i := 4) (v := ?_) rfl (by kernel_rfl) (by kernel_rfl) (by kernel_rfl) (fun _ _ _ h => h) (Or.inl ⟨by kernel_rfl, ?_⟩) (by assumption) ?_
              rotate_left
              · intro w hSw; (try dsimp only at hSw); go_simp <;> (try with_reducible rfl)
              (try simp only [Act.put, List.setIfInBounds_toArray, List.set_cons_zero, List.set_cons_succ, List.getElem_toArray, List.getElem_cons_succ, List.getElem_cons_zero])
              refine wpAnyH_take (i := 5) (v := ?_) rfl (by kernel_rfl) (by kernel_rfl) (by kernel_rfl) (fun _ _ _ h => h) (Or.inl ⟨by kernel_rfl, ?_⟩) (by assumption) ?_
              rotate_left
              · intro w hSw; (try dsimp only at hSw); go_simp <;> (try with_reducible rfl)
              (try simp only [Act.put, List.setIfInBounds_toArray, List.set_cons_zero, List.set_cons_succ, List.getElem_toArray, List.getElem_cons_succ, List.getElem_cons_zero])
              refine wpAnyH_take (i := 6) (v := ?_) rfl (by kernel_rfl) (by kernel_rfl) (by kernel_rfl) (fun _ _ _ h => h) (Or.inl ⟨by kernel_rfl, ?_⟩) (by assumption) ?_
              rotate_left
              · intro w hSw; (try dsimp only at hSw); go_simp <;> (try with_reducible rfl)
              (try simp only [Act.put, List.setIfInBounds_toArray, List.set_cons_zero, List.set_cons_succ, List.getElem_toArray, List.getElem_cons_succ, List.getElem_cons_zero])
              refine wpAnyH_take (i := 7) (v := ?_) rfl (by kernel_rfl) (by kernel_rfl) (by kernel_rfl) (fun _ _ _ h => h) (Or.inl ⟨by kernel_rfl, ?_⟩) (by assumption) ?_
              rotate_left
              · intro w hSw; (try dsimp only at hSw); go_simp <;> (try with_reducible rfl)
              (try simp only [Act.put, List.setIfInBounds_toArray, List.set_cons_zero, List.set_cons_succ, List.getElem_toArray, List.getElem_cons_succ, List.getElem_cons_zero])
              refine wpAnyH_take (i := 8) (v := ?_) rfl (by kernel_rfl) (by kernel_rfl) (by kernel_rfl) (fun _ _ _ h => h) (Or.inl ⟨by kernel_rfl, ?_⟩) (by assumption) ?_
              rotate_left
              · intro w hSw; (try dsimp only at hSw); go_simp <;> (try with_reducible rfl)
              (try simp only [Act.put, List.setIfInBounds_toArray, List.set_cons_zero, List.set_cons_succ, List.getElem_toArray, List.getElem_cons_succ, List.getElem_cons_zero])
              refine wpAnyH_take (i := 9) (v := ?_) rfl (by kernel_rfl) (by kernel_rfl) (by kernel_rfl) (fun _ _ _ h => h) (Or.inl ⟨by kernel_rfl, ?_⟩) (by assumption) ?_
              rotate_left
              · intro w hSw; (try dsimp only at hSw); go_simp <;> (try with_reducible rfl)
              (try simp only [Act.put, List.setIfInBounds_toArray, List.set_cons_zero, List.set_cons_succ, List.getElem_toArray, List.getElem_cons_succ, List.getElem_cons_zero])
              refine wpAnyH_take (i := 10) (v := ?_) rfl (by kernel_rfl) (by kernel_rfl) (by kernel_rfl) (fun _ _ _ h => h) (Or.inl ⟨by kernel_rfl, ?_⟩) (by assumption) ?_
              rotate_left
              · intro w hSw; (try dsimp only at hSw); go_simp <;> (try with_reducible rfl)
              (try simp only [Act.put, List.setIfInBounds_toArray, List.set_cons_zero, List.set_cons_succ, List.getElem_toArray, List.getElem_cons_succ, List.getElem_cons_zero])
              refine wpAnyH_take (i := 11) (v := ?_) rfl (by kernel_rfl) (by kernel_rfl) (by kernel_rfl) (fun _ _ _ h => h) (Or.inl ⟨by kernel_rfl, ?_⟩) (by assumption) ?_
              rotate_left
              · intro w hSw; (try dsimp only at hSw); go_simp <;> (try with_reducible rfl)
              (try simp only [Act.put, List.setIfInBounds_toArray, List.set_cons_zero, List.set_cons_succ, List.getElem_toArray, List.getElem_cons_succ, List.getElem_cons_zero])
              refine wpAnyH_take (i := 12) (v := ?_) rfl (by kernel_rfl) (by kernel_rfl) (by kernel_rfl) (fun _ _ _ h => h) (Or.inl ⟨by kernel_rfl, ?_⟩) (by assumption) ?_
              rotate_left
              · intro w hSw; (try dsimp only at hSw); go_simp <;> (try with_reducible rfl)
              (try simp only [Act.put, List.setIfInBounds_toArray, List.set_cons_zero, List.set_cons_succ, List.getElem_toArray, List.getElem_cons_succ, List.getElem_cons_zero])
              refine wpAnyH_take (i := 13) (v := ?_) rfl (by kernel_rfl) (by kernel_rfl) (by kernel_rfl) (fun _ _ _ h => h) (Or.inl ⟨by kernel_rfl, ?_⟩) (by assumption) ?_
              rotate_left
              · intro w hSw; (try dsimp only at hSw); go_simp <;> (try with_reducible rfl)
              (try simp only [Act.put, List.setIfInBounds_toArray, List.set_cons_zero, List.set_cons_succ, List.getElem_toArray, List.getElem_cons_succ, List.getElem_cons_zero])
              refine wpAnyH_ready (rs := [14]) (by kernel_rfl) (by simp) ?_
              refine AllReadyH.cons rfl (fun Kz hKz => ?_) AllReadyH.nil
              go_simp
              refine hKz.out _ _ ?_ (fun hHeld => ?_)
              · (try dsimp only); (first | (refine ⟨?_, ?_, ?_, ?_, ?_, ?_, ?_, ?_, ?_⟩ <;> (first | with_reducible assumption | ((with_reducible refine Eq.trans (cell_drew _ _) ?_); with_reducible assumption) | ((repeat rw [World.cell?_setCell_far _ _ _ _ (by first | exact hng | exact hng2 | exact hng3)]); with_reducible assumption) | go_keep)) | go_keep)
              clear hKz Kz
              (try simp only [Act.put, List.setIfInBounds_toArray, List.set_cons_zero, List.set_cons_succ, List.getElem_toArray, List.getElem_cons_succ, List.getElem_cons_zero])
              refine wpAnyH_ready (rs := [15]) (by kernel_rfl) (by simp) ?_
              refine AllReadyH.cons rfl (fun Kz hKz => ?_) AllReadyH.nil
              go_simp
              ((with_reducible refine Calls.mono (rmul_q HEQ'.out.drew_ (IsRat.limQ (k := k + k) HQ12.out.drew_ (BU.out q hqn)) (by omega) (by omega) h1 (by omega)) ?_)); rintro e w13 ⟨v, rfl, h, hb⟩; obtain ⟨b13, A13, n13, c13, d13, B13, m13, k13, rfl, -, -, -, -, -⟩ := h.form; have hBw := (show Below w12.heap.size w12 w13 from by first | exact hb | exact bundrew hb); have hci13 := (hBw.cell (p := td.add i) (by rw [add_block]; have := HBw.out.size; have := HB12.out.size; omega)).trans hci12; have a113 := (hBw.cell (p := (qd.add (q * 4))) a0).trans a1; have a213 := (hBw.cell (p := ⟨(qd.add (q * 4)).block, (qd.add (q * 4)).off + 1, none⟩) a0).trans a2; have a313 := (hBw.cell (p := ⟨(qd.add (q * 4)).block, (qd.add (q * 4)).off + 2, none⟩) a0).trans a3; have a413 := (hBw.cell (p := ⟨(qd.add (q * 4)).block, (qd.add (q * 4)).off + 3, none⟩) a0).trans a4; have a013 := Nat.lt_of_lt_of_le a0 hBw.size; have e113 := (hBw.cell (p := (qd.add (c * 4))) e0).trans e1; have e213 := (hBw.cell (p := ⟨(qd.add (c * 4)).block, (qd.add (c * 4)).off + 1, none⟩) e0).trans e2; have e313 := (hBw.cell (p := ⟨(qd.add (c * 4)).block, (qd.add (c * 4)).off + 2, none⟩) e0).trans e3; have e413 := (hBw.cell (p := ⟨(qd.add (c * 4)).block, (qd.add (c * 4)).off + 3, none⟩) e0).trans e4; have e013 := Nat.lt_of_lt_of_le e0 hBw.size; have KQ13 := Lib.hid (KQ.out.below hBw); have HB13 := Lib.hid (below_trans HB12.out hBw); have HM13 := Lib.hid (h.limQ PB.out); have HE713 := Lib.hid (HE7'.out.below hBw); clear h hb hBw HE7' HEQ' hci12 a1 a2 a3 a4 e1 e2 e3 e4 KQ f0 f1 f2 f3 fl h0 h1' h2 h3
              refine hKz.out _ _ ?_ (fun hHeld => ?_)
              · (try dsimp only); (first | (refine ⟨?_, ?_, ?_, ?_, ?_, ?_, ?_, ?_, ?_⟩ <;> (first | with_reducible assumption | ((with_reducible refine Eq.trans (cell_drew _ _) ?_); with_reducible assumption) | ((repeat rw [World.cell?_setCell_far _ _ _ _ (by first | exact hng | exact hng2 | exact hng3)]); with_reducible assumption) | go_keep)) | go_keep)
              clear hKz Kz
              (try simp only [Act.put, List.setIfInBounds_toArray, List.set_cons_zero, List.set_cons_succ, List.getElem_toArray, List.getElem_cons_succ, List.getElem_cons_zero])
              refine wpAnyH_ready (rs := [16]) (by kernel_rfl) (by simp) ?_
              refine AllReadyH.cons rfl (fun Kz hKz => ?_) AllReadyH.nil
              go_simp
              ((with_reducible refine Calls.mono (rsub_q HE713.out HM13.out (by omega) (by omega) h1 (by omega)) ?_)); rintro e w14 ⟨v, rfl, h, hb⟩; obtain ⟨b14, A14, n14, c14, d14, B14, m14, k14, rfl, -, -, -, -, -⟩ := h.form; have hBw := (show Below w13.heap.size w13 w14 from by first | exact hb | exact bundrew hb); have hci14 := (hBw.cell (p := td.add i) (by rw [add_block]; have := HBw.out.size; have := HB13.out.size; omega)).trans hci13; have a114 := (hBw.cell (p := (qd.add (q * 4))) a013).trans a113; have a214 := (hBw.cell (p := ⟨(qd.add (q * 4)).block, (qd.add (q * 4)).off + 1, none⟩) a013).trans a213; have a314 := (hBw.cell (p := ⟨(qd.add (q * 4)).block, (qd.add (q * 4)).off + 2, none⟩) a013).trans a313; have a414 := (hBw.cell (p := ⟨(qd.add (q * 4)).block, (qd.add (q * 4)).off + 3, none⟩) a013).trans a413; have a014 := Nat.lt_of_lt_of_le a013 hBw.size; have e114 := (hBw.cell (p := (qd.add (c * 4))) e013).trans e113; have e214 := (hBw.cell (p := ⟨(qd.add (c * 4)).block, (qd.add (c * 4)).off + 1, none⟩) e013).trans e213; have e314 := (hBw.cell (p := ⟨(qd.add (c * 4)).block, (qd.add (c * 4)).off + 2, none⟩) e013).trans e313; have e414 := (hBw.cell (p := ⟨(qd.add (c * 4)).block, (qd.add (c * 4)).off + 3, none⟩) e013).trans e413; have e014 := Nat.lt_of_lt_of_le e013 hBw.size; have KQ14 := Lib.hid (KQ13.out.below hBw); have HB14 := Lib.hid (below_trans HB13.out hBw); have HS14 := Lib.hid h; obtain ⟨g0', g1', g2', g3', gl'⟩ := KQ14.out.use4; obtain ⟨i0', i1', i2', i3'⟩ := KQ14.out.into4; clear h hb hBw HE713 HM13 hci13 a113 a213 a313 a413 e113 e213 e313 e413 KQ13
              refine hKz.out _ _ ?_ (fun hHeld => ?_)
              · (try dsimp only); (first | (refine ⟨?_, ?_, ?_, ?_, ?_, ?_, ?_, ?_, ?_⟩ <;> (first | with_reducible assumption | ((with_reducible refine Eq.trans (cell_drew _ _) ?_); with_reducible assumption) | ((repeat rw [World.cell?_setCell_far _ _ _ _ (by first | exact hng | exact hng2 | exact hng3)]); with_reducible assumption) | go_keep)) | go_keep)
              clear hKz Kz
              (try simp only [Act.put, List.setIfInBounds_toArray, List.set_cons_zero, List.set_cons_succ, List.getElem_toArray, List.getElem_cons_succ, List.getElem_cons_zero])
              refine wpAnyH_ready (rs := [17]) (by kernel_rfl) (by simp) ?_
              refine AllReadyH.cons rfl (fun Kz hKz => ?_) AllReadyH.nil
              go_simp
              refine hKz.out _ _ ?_ (fun hHeld => ?_)
              · (try dsimp only); (first | (refine ⟨?_, ?_, ?_, ?_, ?_, ?_, ?_, ?_, ?_⟩ <;> (first | with_reducible assumption | ((with_reducible refine Eq.trans (cell_drew _ _) ?_); with_reducible assumption) | ((repeat rw [World.cell?_setCell_far _ _ _ _ (by first | exact hng | exact hng2 | exact hng3)]); with_reducible assumption) | go_keep)) | go_keep)
              clear hKz Kz
              (try simp only [Act.put, List.setIfInBounds_toArray, List.set_cons_zero, List.set_cons_succ, List.getElem_toArray, List.getElem_cons_succ, List.getElem_cons_zero])
              refine wpAnyH_done (by kernel_rfl) ?_ _
              obtain ⟨w15, hW⟩ : ∃ W, W = ((((w14.setCell ⟨gb, 0, none⟩ (.bool b14)).setCell ⟨gb, 1, none⟩ (.slice A14 n14 c14)).setCell ⟨gb, 2, none⟩ (.bool d14)).setCell ⟨gb, 3, none⟩ (.slice B14 m14 k14)) := ⟨_, rfl⟩
              rw [← hW]
              have HB15 : Hid (Below wi.heap.size wi w15) := by rw [hW]; exact Below.set4 HB14.out hgb2
              have KQ15 : Hid (Blk w15 gb 27 #[.bool b14, .slice A14 n14 c14, .bool d14, .slice B14 m14 k14]) := by rw [hW]; exact KQ14.out.own4
              have HS15 : Hid (IsRat w15 (.agg #[.bool b14, .slice A14 n14 c14, .bool d14, .slice B14 m14 k14]) (F i q - F i c * (F r q / F r c))) := by rw [hW]; exact HS14.out.other4 KQ14.out nu nu nu nu
              have HBo15 := Lib.hid (below_trans HBi.out HB15.out)
              have HO15 := Lib.hid (HO2.out.below HB15.out)
              have HX15 := Lib.hid (fun l (hl : l < q) => (HX2.out l hl).below HB15.out)
              obtain ⟨f0', f1', f2', f3', fl'⟩ := KQ15.out.use4
              clear hW KQ14 HS14 HB14
              go_wp2_with (at_builtin; refine wpList_append_rats rfl rfl (.tmp 108) (.tmp 110) rfl (base := wo.heap.size) (n := q) (m := 1) (c := 1) (X := X) (Y := fun _ => ⟨b14, A14, n14, c14, d14, B14, m14, k14⟩) rfl (OwnR.alloc_ HO15.out _) rfl (rowAt_one w15 _ rfl ⟨b14, A14, n14, c14, d14, B14, m14, k14⟩) (fun e => by cases e) (by omega) (by have := HBo15.out.size; simp; omega) ?_; intro v16 w16 ho hf)
              have HINV : Hid (OwnR w16 wo.heap.size v16 (q + 1) (appR X q (fun _ => ⟨b14, A14, n14, c14, d14, B14, m14, k14⟩)) ∧ (∀ l, l < q + 1 → EQ true K w16 (appR X q (fun _ => ⟨b14, A14, n14, c14, d14, B14, m14, k14⟩) l).val (pivF F r c i l)) ∧ Below wo.heap.size wo w16) := ⟨ho, fun l hl => by
                by_cases h : l < q
                · rw [appR_lt _ _ _ h]; exact ((HX15.out l h).alloc_ _).kp hf.keep
                · obtain rfl : l = q := by omega
                  have := appR_ge X l (fun _ => ⟨b14, A14, n14, c14, d14, B14, m14, k14⟩) 0
                  rw [Nat.add_zero] at this
                  rw [this, pivF_r hir]
                  exact ((EQ.of (p := true) HS15.out (BQ.sub (HE7.out.bq h1) PB.out (by omega))).alloc_ _).kp hf.keep, (below_trans HBo15.out (below_new _ _)).trans hf.below⟩
              clear ho hf HO15 HX15 KQ15 HS15 HB15 HBo15 f0' f1' f2' f3' fl'
              go_wp2
              go_roundw
              case rel => exact ⟨q + 1, _, by go_num, by omega, HINV.out⟩
              case measure => simp [intOf]; omega
          · obtain ⟨w12, hW⟩ : ∃ W, W = ((((w11.setCell ⟨wi.heap.size, 0, none⟩ (.bool b11)).setCell ⟨wi.heap.size, 1, none⟩ (.slice A11 n11 c11)).setCell ⟨wi.heap.size, 2, none⟩ (.bool d11)).setCell ⟨wi.heap.size, 3, none⟩ (.slice B11 m11 k11)) := ⟨_, rfl⟩
            obtain ⟨gb, hgb⟩ : ∃ g, g = wi.heap.size := ⟨_, rfl⟩
            rw [← hW, ← hgb]
            have KQ : Hid (Blk w12 gb 27 #[.bool b11, .slice A11 n11 c11, .bool d11, .slice B11 m11 k11]) := by rw [hW, hgb]; exact K11.out.own4
            have HQ12 : Hid (IsRat w12 (.agg #[.bool b11, .slice A11 n11 c11, .bool d11, .slice B11 m11 k11]) (F r q / F r c)) := by rw [hW]; exact HQ11.out.other4 K11.out nu nu nu nu
            have HB12 : Hid (Below wi.heap.size wi w12) := by rw [hW]; exact Below.set4 HB11.out (Nat.le_refl _)
            have hgb2 : wi.heap.size ≤ gb := by omega
            clear hW hgb HQ11 HB11 K11
            have HBW12 := Lib.hid (below_trans HBw.out HB12.out)
            have HBo12 := Lib.hid (below_trans HBi.out HB12.out)
            have hci12 := (HB12.out.cell (p := td.add i) (by rw [add_block]; exact Nat.lt_of_lt_of_le hqb HBw.out.size)).trans hci
            obtain ⟨a0, a1, a2, a3, a4⟩ := HAT7.out.below HBW12.out
            obtain ⟨e0, e1, e2, e3, e4⟩ := HATQ.out.below HBW12.out
            have HO12 := Lib.hid (HO2.out.below HB12.out)
            have HX12 := Lib.hid (fun l (hl : l < q) => (HX2.out l hl).below HB12.out)
            obtain ⟨f0, f1, f2, f3, fl⟩ := KQ.out.use4
            obtain ⟨h0, h1', h2, h3⟩ := KQ.out.into4
            clear hci
            by_cases hir : i = r
            · have hbne : ((i : Int) != (r : Int)) = false := by rw [hir]; simp
              have HPV : Hid (pivF F r c i = fun l => F r l / F r c) := by show _ = _; rw [hir, pivF_at]
              clear hir
              clear a0 a1 a2 a3 a4 e0 e1 e2 e3 e4
              go_wp2_with (at_builtin; refine wpList_append_rats rfl rfl (.tmp 108) (.tmp 110) rfl (base := wo.heap.size) (n := q) (m := 1) (c := 1) (X := X) (Y := fun _ => ⟨b11, A11, n11, c11, d11, B11, m11, k11⟩) rfl (OwnR.alloc_ HO12.out _) rfl (rowAt_one w12 _ rfl ⟨b11, A11, n11, c11, d11, B11, m11, k11⟩) (fun e => by cases e) (by omega) (by have := HBo12.out.size; simp; omega) ?_; intro v13 w13 ho hf)
              have HINV : Hid (OwnR w13 wo.heap.size v13 (q + 1) (appR X q (fun _ => ⟨b11, A11, n11, c11, d11, B11, m11, k11⟩)) ∧ (∀ l, l < q + 1 → EQ true K w13 (appR X q (fun _ => ⟨b11, A11, n11, c11, d11, B11, m11, k11⟩) l).val (pivF F r c i l)) ∧ Below wo.heap.size wo w13) := ⟨ho, fun l hl => by
                by_cases h : l < q
                · rw [appR_lt _ _ _ h]; exact ((HX12.out l h).alloc_ _).kp hf.keep
                · obtain rfl : l = q := by omega
                  have := appR_ge X l (fun _ => ⟨b11, A11, n11, c11, d11, B11, m11, k11⟩) 0
                  rw [Nat.add_zero] at this
                  rw [this, HPV.out]
                  exact ((EQ.of (p := true) HQ12.out ((BU.out l hqn).more (by omega))).alloc_ _).kp hf.keep, (below_trans HBo12.out (below_new _ _)).trans hf.below⟩
              clear ho hf HO12 HX12 KQ HQ12 HB12 HBo12 HBW12 f0 f1 f2 f3 fl h0 h1' h2 h3 hci12
              go_wp2
              go_roundw
              case rel => exact ⟨q + 1, _, by go_num, by omega, HINV.out⟩
              case measure => simp [intOf]; omega
            · have hir' : ¬ (i : Int) = (r : Int) := by omega
              have hng : gb ≠ (qd.add (q * 4)).block := by
                have := HAT7.out.1; have := HBw.out.size; omega
              have hng2 : gb ≠ (qd.add (c * 4)).block := by
                have := HATQ.out.1; have := HBw.out.size; omega
              have hng3 : gb ≠ (td.add i).block := by
                rw [add_block]; have := HBw.out.size; omega
              have HE7' := Lib.hid (HE7.out.below HBW12.out)
              have HEQ' := Lib.hid (HEQ.out.below HBW12.out)
              have PB : Hid (BQ (k + (k + k)) (F i c * (F r q / F r c))) := BQ.mul (HEQ.out.bq h1) (BU.out q hqn) (Nat.le_refl _)
              go_wp2
              refine wp_region_held_drew (S := (fun w' => w'.cell? (td.add i) = some (.slice (some qd) n cQ) ∧ w'.cell? (qd.add (q * 4)) = some (.bool b7) ∧ w'.cell? ⟨(qd.add (q * 4)).block, (qd.add (q * 4)).off + 1, none⟩ = some (.slice A7 n7 c7) ∧ w'.cell? ⟨(qd.add (q * 4)).block, (qd.add (q * 4)).off + 2, none⟩ = some (.bool d7) ∧ w'.cell? ⟨(qd.add (q * 4)).block, (qd.add (q * 4)).off + 3, none⟩ = some (.slice B7 m7 k7) ∧ w'.cell? (qd.add (c * 4)) = some (.bool b8) ∧ w'.cell? ⟨(qd.add (c * 4)).block, (qd.add (c * 4)).off + 1, none⟩ = some (.slice A8 n8 c8) ∧ w'.cell? ⟨(qd.add (c * 4)).block, (qd.add (c * 4)).off + 2, none⟩ = some (.bool d8) ∧ w'.cell? ⟨(qd.add (c * 4)).block, (qd.add (c * 4)).off + 3, none⟩ = some (.slice B8 m8 k8))) (by kernel_rfl) ?_ (fun hHeld => ?_)
              · (first | (refine ⟨?_, ?_, ?_, ?_, ?_, ?_, ?_, ?_, ?_⟩ <;> (first | with_reducible assumption | ((with_reducible refine Eq.trans (cell_drew _ _) ?_); with_reducible assumption) | ((repeat rw [World.cell?_setCell_far _ _ _ _ (by first | exact hng | exact hng2 | exact hng3)]); with_reducible assumption) | go_keep)) | go_keep)
              refine wpAnyH_take (i := 0) (v := ?_) rfl (by kernel_rfl) (by kernel_rfl) (by kernel_rfl) (fun _ _ _ h => h) (Or.inl ⟨by kernel_rfl, ?_⟩) (by assumption) ?_
              rotate_left
              · intro w hSw; (try dsimp only at hSw); go_simp <;> (try with_reducible rfl)
              (try simp only [Act.put, List.setIfInBounds_toArray, List.set_cons_zero, List.set_cons_succ, List.getElem_toArray, List.getElem_cons_succ, List.getElem_cons_zero])
              refine wpAnyH_take (i := 1) (v := ?_) rfl (by kernel_rfl) (by kernel_rfl) (by kernel_rfl) (fun _ _ _ h => h) (Or.inl ⟨by kernel_rfl, ?_⟩) (by assumption) ?_
              rotate_left
              · intro w hSw; (try dsimp only at hSw); go_simp <;> (try with_reducible rfl)
              (try simp only [Act.put, List.setIfInBounds_toArray, List.set_cons_zero, List.set_cons_succ, List.getElem_toArray, List.getElem_cons_succ, List.getElem_cons_zero])
              refine wpAnyH_take (i := 2) (v := ?_) rfl (by kernel_rfl) (by kernel_rfl) (by kernel_rfl) (fun _ _ _ h => h) (Or.inl ⟨by kernel_rfl, ?_⟩) (by assumption) ?_
              rotate_left
              · intro w hSw; (try dsimp only at hSw); go_simp <;> (try with_reducible rfl)
              (try simp only [Act.put, List.setIfInBounds_toArray, List.set_cons_zero, List.set_cons_succ, List.getElem_toArray, List.getElem_cons_succ, List.getElem_cons_zero])
              refine wpAnyH_take (i := 3) (v := ?_) rfl (by kernel_rfl) (by kernel_rfl) (by kernel_rfl) (fun _ _ _ h => h) (Or.inl ⟨by kernel_rfl, ?_⟩) (by assumption) ?_
              rotate_left
              · intro w hSw; (try dsimp only at hSw); go_simp <;> (try with_reducible rfl)
              (try simp only [Act.put, List.setIfInBounds_toArray, List.set_cons_zero, List.set_cons_succ, List.getElem_toArray, List.getElem_cons_succ, List.getElem_cons_zero])
              refine wpAnyH_take (i := 4) (v := ?_) rfl (by kernel_rfl) (by kernel_rfl) (by kernel_rfl) (fun _ _ _ h => h) (Or.inl ⟨by kernel_rfl, ?_⟩) (by assumption) ?_
              rotate_left
              · intro w hSw; (try dsimp only at hSw); go_simp <;> (try with_reducible rfl)
              (try simp only [Act.put, List.setIfInBounds_toArray, List.set_cons_zero, List.set_cons_succ, List.getElem_toArray, List.getElem_cons_succ, List.getElem_cons_zero])
              refine wpAnyH_take (i := 5) (v := ?_) rfl (by kernel_rfl) (by kernel_rfl) (by kernel_rfl) (fun _ _ _ h => h) (Or.inl ⟨by kernel_rfl, ?_⟩) (by assumption) ?_
              rotate_left
              · intro w hSw; (try dsimp only at hSw); go_simp <;> (try with_reducible rfl)
              (try simp only [Act.put, List.setIfInBounds_toArray, List.set_cons_zero, List.set_cons_succ, List.getElem_toArray, List.getElem_cons_succ, List.getElem_cons_zero])
              refine wpAnyH_take (i := 6) (v := ?_) rfl (by kernel_rfl) (by kernel_rfl) (by kernel_rfl) (fun _ _ _ h => h) (Or.inl ⟨by kernel_rfl, ?_⟩) (by assumption) ?_
              rotate_left
              · intro w hSw; (try dsimp only at hSw); go_simp <;> (try with_reducible rfl)
              (try simp only [Act.put, List.setIfInBounds_toArray, List.set_cons_zero, List.set_cons_succ, List.getElem_toArray, List.getElem_cons_succ, List.getElem_cons_zero])
              refine wpAnyH_take (i := 7) (v := ?_) rfl (by kernel_rfl) (by kernel_rfl) (by kernel_rfl) (fun _ _ _ h => h) (Or.inl ⟨by kernel_rfl, ?_⟩) (by assumption) ?_
              rotate_left
              · intro w hSw; (try dsimp only at hSw); go_simp <;> (try with_reducible rfl)
              (try simp only [Act.put, List.setIfInBounds_toArray, List.set_cons_zero, List.set_cons_succ, List.getElem_toArray, List.getElem_cons_succ, List.getElem_cons_zero])
              refine wpAnyH_take (i := 8) (v := ?_) rfl (by kernel_rfl) (by kernel_rfl) (by kernel_rfl) (fun _ _ _ h => h) (Or.inl ⟨by kernel_rfl, ?_⟩) (by assumption) ?_
              rotate_left
              · intro w hSw; (try dsimp only at hSw); go_simp <;> (try with_reducible rfl)
              (try simp only [Act.put, List.setIfInBounds_toArray, List.set_cons_zero, List.set_cons_succ, List.getElem_toArray, List.getElem_cons_succ, List.getElem_cons_zero])
              refine wpAnyH_take (i := 9) (v := ?_) rfl (by kernel_rfl) (by kernel_rfl) (by kernel_rfl) (fun _ _ _ h => h) (Or.inl ⟨by kernel_rfl, ?_⟩) (by assumption) ?_
              rotate_left
              · intro w hSw; (try dsimp only at hSw); go_simp <;> (try with_reducible rfl)
              (try simp only [Act.put, List.setIfInBounds_toArray, List.set_cons_zero, List.set_cons_succ, List.getElem_toArray, List.getElem_cons_succ, List.getElem_cons_zero])
              refine wpAnyH_take (i := 10) (v := ?_) rfl (by kernel_rfl) (by kernel_rfl) (by kernel_rfl) (fun _ _ _ h => h) (Or.inl ⟨by kernel_rfl, ?_⟩) (by assumption) ?_
              rotate_left
              · intro w hSw; (try dsimp only at hSw); go_simp <;> (try with_reducible rfl)
              (try simp only [Act.put, List.setIfInBounds_toArray, List.set_cons_zero, List.set_cons_succ, List.getElem_toArray, List.getElem_cons_succ, List.getElem_cons_zero])
              refine wpAnyH_take (i := 11) (v := ?_) rfl (by kernel_rfl) (by kernel_rfl) (by kernel_rfl) (fun _ _ _ h => h) (Or.inl ⟨by kernel_rfl, ?_⟩) (by assumption) ?_
              rotate_left
              · intro w hSw; (try dsimp only at hSw); go_simp <;> (try with_reducible rfl)
              (try simp only [Act.put, List.setIfInBounds_toArray, List.set_cons_zero, List.set_cons_succ, List.getElem_toArray, List.getElem_cons_succ, List.getElem_cons_zero])
              refine wpAnyH_take (i := 12) (v := ?_) rfl (by kernel_rfl) (by kernel_rfl) (by kernel_rfl) (fun _ _ _ h => h) (Or.inl ⟨by kernel_rfl, ?_⟩) (by assumption) ?_
              rotate_left
              · intro w hSw; (try dsimp only at hSw); go_simp <;> (try with_reducible rfl)
              (try simp only [Act.put, List.setIfInBounds_toArray, List.set_cons_zero, List.set_cons_succ, List.getElem_toArray, List.getElem_cons_succ, List.getElem_cons_zero])
              refine wpAnyH_take (i := 13) (v := ?_) rfl (by kernel_rfl) (by kernel_rfl) (by kernel_rfl) (fun _ _ _ h => h) (Or.inl ⟨by kernel_rfl, ?_⟩) (by assumption) ?_
              rotate_left
              · intro w hSw; (try dsimp only at hSw); go_simp <;> (try with_reducible rfl)
              (try simp only [Act.put, List.setIfInBounds_toArray, List.set_cons_zero, List.set_cons_succ, List.getElem_toArray, List.getElem_cons_succ, List.getElem_cons_zero])
              refine wpAnyH_ready (rs := [14]) (by kernel_rfl) (by simp) ?_
              refine AllReadyH.cons rfl (fun Kz hKz => ?_) AllReadyH.nil
              go_simp
              refine hKz.out _ _ ?_ (fun hHeld => ?_)
              · (try dsimp only); (first | (refine ⟨?_, ?_, ?_, ?_, ?_, ?_, ?_, ?_, ?_⟩ <;> (first | with_reducible assumption | ((with_reducible refine Eq.trans (cell_drew _ _) ?_); with_reducible assumption) | ((repeat rw [World.cell?_setCell_far _ _ _ _ (by first | exact hng | exact hng2 | exact hng3)]); with_reducible assumption) | go_keep)) | go_keep)
              clear hKz Kz
              (try simp only [Act.put, List.setIfInBounds_toArray, List.set_cons_zero, List.set_cons_succ, List.getElem_toArray, List.getElem_cons_succ, List.getElem_cons_zero])
              refine wpAnyH_ready (rs := [15]) (by kernel_rfl) (by simp) ?_
              refine AllReadyH.cons rfl (fun Kz hKz => ?_) AllReadyH.nil
              go_simp
              ((with_reducible refine Calls.mono (rmul_q HEQ'.out.drew_ (IsRat.limQ (k := k + k) HQ12.out.drew_ (BU.out q hqn)) (by omega) (by omega) h1 (by omega)) ?_)); rintro e w13 ⟨v, rfl, h, hb⟩; obtain ⟨b13, A13, n13, c13, d13, B13, m13, k13, rfl, -, -, -, -, -⟩ := h.form; have hBw := (show Below w12.heap.size w12 w13 from by first | exact hb | exact bundrew hb); have hci13 := (hBw.cell (p := td.add i) (by rw [add_block]; have := HBw.out.size; have := HB12.out.size; omega)).trans hci12; have a113 := (hBw.cell (p := (qd.add (q * 4))) a0).trans a1; have a213 := (hBw.cell (p := ⟨(qd.add (q * 4)).block, (qd.add (q * 4)).off + 1, none⟩) a0).trans a2; have a313 := (hBw.cell (p := ⟨(qd.add (q * 4)).block, (qd.add (q * 4)).off + 2, none⟩) a0).trans a3; have a413 := (hBw.cell (p := ⟨(qd.add (q * 4)).block, (qd.add (q * 4)).off + 3, none⟩) a0).trans a4; have a013 := Nat.lt_of_lt_of_le a0 hBw.size; have e113 := (hBw.cell (p := (qd.add (c * 4))) e0).trans e1; have e213 := (hBw.cell (p := ⟨(qd.add (c * 4)).block, (qd.add (c * 4)).off + 1, none⟩) e0).trans e2; have e313 := (hBw.cell (p := ⟨(qd.add (c * 4)).block, (qd.add (c * 4)).off + 2, none⟩) e0).trans e3; have e413 := (hBw.cell (p := ⟨(qd.add (c * 4)).block, (qd.add (c * 4)).off + 3, none⟩) e0).trans e4; have e013 := Nat.lt_of_lt_of_le e0 hBw.size; have KQ13 := Lib.hid (KQ.out.below hBw); have HB13 := Lib.hid (below_trans HB12.out hBw); have HM13 := Lib.hid (h.limQ PB.out); have HE713 := Lib.hid (HE7'.out.below hBw); clear h hb hBw HE7' HEQ' hci12 a1 a2 a3 a4 e1 e2 e3 e4 KQ f0 f1 f2 f3 fl h0 h1' h2 h3
              refine hKz.out _ _ ?_ (fun hHeld => ?_)
              · (try dsimp only); (first | (refine ⟨?_, ?_, ?_, ?_, ?_, ?_, ?_, ?_, ?_⟩ <;> (first | with_reducible assumption | ((with_reducible refine Eq.trans (cell_drew _ _) ?_); with_reducible assumption) | ((repeat rw [World.cell?_setCell_far _ _ _ _ (by first | exact hng | exact hng2 | exact hng3)]); with_reducible assumption) | go_keep)) | go_keep)
              clear hKz Kz
              (try simp only [Act.put, List.setIfInBounds_toArray, List.set_cons_zero, List.set_cons_succ, List.getElem_toArray, List.getElem_cons_succ, List.getElem_cons_zero])
              refine wpAnyH_ready (rs := [16]) (by kernel_rfl) (by simp) ?_
              refine AllReadyH.cons rfl (fun Kz hKz => ?_) AllReadyH.nil
              go_simp
              ((with_reducible refine Calls.mono (rsub_q HE713.out HM13.out (by omega) (by omega) h1 (by omega)) ?_)); rintro e w14 ⟨v, rfl, h, hb⟩; obtain ⟨b14, A14, n14, c14, d14, B14, m14, k14, rfl, -, -, -, -, -⟩ := h.form; have hBw := (show Below w13.heap.size w13 w14 from by first | exact hb | exact bundrew hb); have hci14 := (hBw.cell (p := td.add i) (by rw [add_block]; have := HBw.out.size; have := HB13.out.size; omega)).trans hci13; have a114 := (hBw.cell (p := (qd.add (q * 4))) a013).trans a113; have a214 := (hBw.cell (p := ⟨(qd.add (q * 4)).block, (qd.add (q * 4)).off + 1, none⟩) a013).trans a213; have a314 := (hBw.cell (p := ⟨(qd.add (q * 4)).block, (qd.add (q * 4)).off + 2, none⟩) a013).trans a313; have a414 := (hBw.cell (p := ⟨(qd.add (q * 4)).block, (qd.add (q * 4)).off + 3, none⟩) a013).trans a413; have a014 := Nat.lt_of_lt_of_le a013 hBw.size; have e114 := (hBw.cell (p := (qd.add (c * 4))) e013).trans e113; have e214 := (hBw.cell (p := ⟨(qd.add (c * 4)).block, (qd.add (c * 4)).off + 1, none⟩) e013).trans e213; have e314 := (hBw.cell (p := ⟨(qd.add (c * 4)).block, (qd.add (c * 4)).off + 2, none⟩) e013).trans e313; have e414 := (hBw.cell (p := ⟨(qd.add (c * 4)).block, (qd.add (c * 4)).off + 3, none⟩) e013).trans e413; have e014 := Nat.lt_of_lt_of_le e013 hBw.size; have KQ14 := Lib.hid (KQ13.out.below hBw); have HB14 := Lib.hid (below_trans HB13.out hBw); have HS14 := Lib.hid h; obtain ⟨g0', g1', g2', g3', gl'⟩ := KQ14.out.use4; obtain ⟨i0', i1', i2', i3'⟩ := KQ14.out.into4; clear h hb hBw HE713 HM13 hci13 a113 a213 a313 a413 e113 e213 e313 e413 KQ13
              refine hKz.out _ _ ?_ (fun hHeld => ?_)
              · (try dsimp only); (first | (refine ⟨?_, ?_, ?_, ?_, ?_, ?_, ?_, ?_, ?_⟩ <;> (first | with_reducible assumption | ((with_reducible refine Eq.trans (cell_drew _ _) ?_); with_reducible assumption) | ((repeat rw [World.cell?_setCell_far _ _ _ _ (by first | exact hng | exact hng2 | exact hng3)]); with_reducible assumption) | go_keep)) | go_keep)
              clear hKz Kz
              (try simp only [Act.put, List.setIfInBounds_toArray, List.set_cons_zero, List.set_cons_succ, List.getElem_toArray, List.getElem_cons_succ, List.getElem_cons_zero])
              refine wpAnyH_ready (rs := [17]) (by kernel_rfl) (by simp) ?_
              refine AllReadyH.cons rfl (fun Kz hKz => ?_) AllReadyH.nil
              go_simp
              refine hKz.out _ _ ?_ (fun hHeld => ?_)
              · (try dsimp only); (first | (refine ⟨?_, ?_, ?_, ?_, ?_, ?_, ?_, ?_, ?_⟩ <;> (first | with_reducible assumption | ((with_reducible refine Eq.trans (cell_drew _ _) ?_); with_reducible assumption) | ((repeat rw [World.cell?_setCell_far _ _ _ _ (by first | exact hng | exact hng2 | exact hng3)]); with_reducible assumption) | go_keep)) | go_keep)
              clear hKz Kz
              (try simp only [Act.put, List.setIfInBounds_toArray, List.set_cons_zero, List.set_cons_succ, List.getElem_toArray, List.getElem_cons_succ, List.getElem_cons_zero])
              refine wpAnyH_done (by kernel_rfl) ?_ _
              obtain ⟨w15, hW⟩ : ∃ W, W = ((((w14.setCell ⟨gb, 0, none⟩ (.bool b14)).setCell ⟨gb, 1, none⟩ (.slice A14 n14 c14)).setCell ⟨gb, 2, none⟩ (.bool d14)).setCell ⟨gb, 3, none⟩ (.slice B14 m14 k14)) := ⟨_, rfl⟩
              rw [← hW]
              have HB15 : Hid (Below wi.heap.size wi w15) := by rw [hW]; exact Below.set4 HB14.out hgb2
              have KQ15 : Hid (Blk w15 gb 27 #[.bool b14, .slice A14 n14 c14, .bool d14, .slice B14 m14 k14]) := by rw [hW]; exact KQ14.out.own4
              have HS15 : Hid (IsRat w15 (.agg #[.bool b14, .slice A14 n14 c14, .bool d14, .slice B14 m14 k14]) (F i q - F i c * (F r q / F r c))) := by rw [hW]; exact HS14.out.other4 KQ14.out nu nu nu nu
              have HBo15 := Lib.hid (below_trans HBi.out HB15.out)
              have HO15 := Lib.hid (HO2.out.below HB15.out)
              have HX15 := Lib.hid (fun l (hl : l < q) => (HX2.out l hl).below HB15.out)
              obtain ⟨f0', f1', f2', f3', fl'⟩ := KQ15.out.use4
              clear hW KQ14 HS14 HB14
              go_wp2_with (at_builtin; refine wpList_append_rats rfl rfl (.tmp 108) (.tmp 110) rfl (base := wo.heap.size) (n := q) (m := 1) (c := 1) (X := X) (Y := fun _ => ⟨b14, A14, n14, c14, d14, B14, m14, k14⟩) rfl (OwnR.alloc_ HO15.out _) rfl (rowAt_one w15 _ rfl ⟨b14, A14, n14, c14, d14, B14, m14, k14⟩) (fun e => by cases e) (by omega) (by have := HBo15.out.size; simp; omega) ?_; intro v16 w16 ho hf)
              have HINV : Hid (OwnR w16 wo.heap.size v16 (q + 1) (appR X q (fun _ => ⟨b14, A14, n14, c14, d14, B14, m14, k14⟩)) ∧ (∀ l, l < q + 1 → EQ true K w16 (appR X q (fun _ => ⟨b14, A14, n14, c14, d14, B14, m14, k14⟩) l).val (pivF F r c i l)) ∧ Below wo.heap.size wo w16) := ⟨ho, fun l hl => by
                by_cases h : l < q
                · rw [appR_lt _ _ _ h]; exact ((HX15.out l h).alloc_ _).kp hf.keep
                · obtain rfl : l = q := by omega
                  have := appR_ge X l (fun _ => ⟨b14, A14, n14, c14, d14, B14, m14, k14⟩) 0
                  rw [Nat.add_zero] at this
                  rw [this, pivF_r hir]
                  exact ((EQ.of (p := true) HS15.out (BQ.sub (HE7.out.bq h1) PB.out (by omega))).alloc_ _).kp hf.keep, (below_trans HBo15.out (below_new _ _)).trans hf.below⟩
              clear ho hf HO15 HX15 KQ15 HS15 HB15 HBo15 f0' f1' f2' f3' fl'
              go_wp2
              go_roundw
              case rel => exact ⟨q + 1, _, by go_num, by omega, HINV.out⟩
              case measure => simp [intOf]; omega
        · obtain rfl : q = n := by omega
          have HV := Lib.hid (OwnR.rowT HO2.out hn HX2.out)
          obtain ⟨VA, VC, rfl, _, _⟩ := HV.out.rowQ.len
          have HO3 := Lib.hid (HO.out.below HBi.out)
          have HX3 := Lib.hid (fun j (hj : j < i) => (HX.out j hj).below HBi.out)
          clear HO2 HX2 HO HX
          go_wp2_with (at_builtin; refine wpList_append_rows rfl rfl (.tmp 112) (.tmp 114) rfl (base := w1.heap.size) (n := i) (m := 1) (c := 1) (r := rr) (t := fun _ => .slice VA q VC) rfl (OwnT.alloc_ HO3.out _) rfl (slice_row wi _ rfl (.slice VA q VC)) (fun _ _ => ⟨_, _, _, rfl⟩) (fun e => by cases e) (by omega) (by have := HBw.out.size; simp; omega) ?_; intro v13 w13 ho hf)
          have HINV : Hid (OwnT w13 w1.heap.size v13 (i + 1) (appR rr i (fun _ => .slice VA q VC)) ∧ (∀ j, j < i + 1 → RowT true K w13 (appR rr i (fun _ => .slice VA q VC) j) q (pivF F r c j)) ∧ Below w1.heap.size w1 w13) := ⟨ho, fun j hj => by
            by_cases h : j < i
            · rw [appR_lt _ _ _ h]; exact ((HX3.out j h).alloc_ _).fz hf
            · obtain rfl : j = i := by omega
              have := appR_ge rr j (fun _ => (.slice VA q VC : Value)) 0
              rw [Nat.add_zero] at this
              rw [this]
              exact (HV.out.alloc_ _).fz hf, (below_trans HBw.out (below_new _ _)).trans hf.below⟩
          clear ho hf HO3 HX3 HV hci
          go_wp2
          go_roundw
          case rel => exact ⟨i + 1, _, by go_num, by omega, HINV.out⟩
          case measure => simp [intOf]; omega
    · obtain rfl : i = m := by omega
      go_wp2
      go_ret2
      exact ⟨_, rfl, HO.out.tabQ hm HX.out, HB.out⟩

end Go.Proofs.YtebdmidghidaeaaGreat
