/- Contracts of the document: AddTimes, IsZero; Dot of rows that are not of one length; Of. -/
import Derived.Test.YtebdmidghidaeaaGreatPYn
namespace Go.Proofs.YtebdmidghidaeaaGreat
open Go.RowKit
attribute [local go_sem ↓] Go.wp_at_zero Go.wp_at_succ
set_option linter.unusedVariables false

set_option maxRecDepth 100000 in
set_option maxHeartbeats 4000000 in
theorem raddTimes0 {p p' : Bool} {k l j K n : Nat} {w : World} {va vb : Value} {f g : Nat → Rat} {z : Rat} {e : Bool} {E : Option Addr} {s t : Nat} {e' : Bool} {E' : Option Addr} {s' t' : Nat} (ha : RowQ p k w va n f) (hb : RowQ p' l w vb n g) (hz : LimQ j w (.agg #[.bool e, .slice E s t, .bool e', .slice E' s' t']) z) (hk : k ≤ 8000) (hl : l ≤ 4000) (hj : j ≤ 4000) (h1 : 1 ≤ k) (h2 : 1 ≤ l) (h3 : 1 ≤ j) (hK : k + (j + l) + 1 ≤ K) :
    Calls Tryz.prog 15 #[va, vb, (.agg #[.bool e, .slice E s t, .bool e', .slice E' s' t'])] w fun e w' => ∃ v, e = .returned (.tuple #[v, .bool true]) ∧ RowT true K w' v n (fun i => f i + z * g i) ∧ Below w.heap.size w w' := by
  have BP := Lib.hid (fun i (hi : i < n) => BQ.mul (hz.bq h3) (hb.bq h2 hi) (Nat.le_refl (j + l)))
  have BS := Lib.hid (fun i (hi : i < n) => BQ.add (ha.bq h1 hi) (BP.out i hi) hK)
  obtain ⟨A, ca, rfl, _, hn⟩ := ha.len
  obtain ⟨B, cb, rfl, _, _⟩ := hb.len
  have HA := Lib.hid ha
  have HB := Lib.hid hb
  have HZ := Lib.hid hz
  have HN := Lib.hid hn
  clear ha hb hz
  go_enter Tryz.func15, Tryz.ntmps15
  go_wp2
  generalize hW : w.alloc (.cells #[.bool e, .slice E s t, .bool e', .slice E' s' t'] 27) = w1
  have HI0 : Hid (OwnR w1 w.heap.size (.slice none 0 0) 0 (fun _ => ratZ) ∧ Below w.heap.size w w1 ∧ Blk w1 w.heap.size 27 #[.bool e, .slice E s t, .bool e', .slice E' s' t']) := ⟨OwnR.nil, hW ▸ below_new _ _, hW ▸ Blk.new _ _ rfl _ _⟩
  clear hW
  go_loopw [8, 9] (fun v8 v9 wr => ∃ (i : Nat) (X : Nat → RatD), v9 = .int .i64 (i : Nat) ∧ i ≤ n ∧ OwnR wr (w.heap.size + 1) v8 i X ∧ (∀ j, j < i → EQ true K wr (X j).val (f j + z * g j)) ∧ Below w.heap.size w wr ∧ Blk wr w.heap.size 27 #[.bool e, .slice E s t, .bool e', .slice E' s' t']) (fun _ v9 _ => n - (intOf v9).toNat)
  case atStart => exact ⟨0, fun _ => ratZ, rfl, Nat.zero_le _, OwnR.nil, fun j hj => absurd hj (by omega), HI0.out.2.1, HI0.out.2.2⟩
  case round =>
    obtain ⟨i, X, rfl, hi, g1, g2, g3, g4⟩ := hrel
    have HO := Lib.hid g1
    have HX := Lib.hid g2
    have HBW := Lib.hid g3
    have KK := Lib.hid g4
    clear g1 g2 g3 g4 HI0
    by_cases hlt : i < n
    · have hi0 : (0 : Int) ≤ (i : Int) := by omega
      have hik : (i : Int) < (n : Int) := by omega
      obtain ⟨ad, c1', ⟨b5, A5, n5, c5, d5, B5, m5, k5⟩, e1, _, _, hata, hEa⟩ := HA.out.at_ hlt
      simp only [Value.slice.injEq] at e1
      obtain ⟨rfl, _, rfl⟩ := e1
      obtain ⟨bd, c2', ⟨b6, A6, n6, c6, d6, B6, m6, k6⟩, e1, _, _, hatb, hEb⟩ := HB.out.at_ hlt
      simp only [Value.slice.injEq] at e1
      obtain ⟨rfl, _, rfl⟩ := e1
      obtain ⟨x0, x1, x2, x3, x4⟩ := hata.below HBW.out
      obtain ⟨y0, y1, y2, y3, y4⟩ := hatb.below HBW.out
      have hxa := hata.1
      have hyb := hatb.1
      have HEA := Lib.hid (hEa.2.below HBW.out)
      have HEB := Lib.hid (hEb.2.below HBW.out)
      have HEZ := Lib.hid (HZ.out.below HBW.out)
      obtain ⟨p0, p1, p2, p3, pl⟩ := KK.out.use4
      clear hata hatb hEa hEb
      have tok0 : True := trivial
      have tok1 : True := trivial
      have tok2 : True := trivial
      go_wp2
      go_region_held3 (fun w' => w'.cell? (ad.add (i * 4)) = some (.bool b5) ∧ w'.cell? ⟨(ad.add (i * 4)).block, (ad.add (i * 4)).off + 1, none⟩ = some (.slice A5 n5 c5) ∧ w'.cell? ⟨(ad.add (i * 4)).block, (ad.add (i * 4)).off + 2, none⟩ = some (.bool d5) ∧ w'.cell? ⟨(ad.add (i * 4)).block, (ad.add (i * 4)).off + 3, none⟩ = some (.slice B5 m5 k5) ∧ w'.cell? (bd.add (i * 4)) = some (.bool b6) ∧ w'.cell? ⟨(bd.add (i * 4)).block, (bd.add (i * 4)).off + 1, none⟩ = some (.slice A6 n6 c6) ∧ w'.cell? ⟨(bd.add (i * 4)).block, (bd.add (i * 4)).off + 2, none⟩ = some (.bool d6) ∧ w'.cell? ⟨(bd.add (i * 4)).block, (bd.add (i * 4)).off + 3, none⟩ = some (.slice B6 m6 k6) ∧ w'.cell? ⟨w.heap.size, 0, none⟩ = some (.bool e) ∧ w'.cell? ⟨w.heap.size, 1, none⟩ = some (.slice E s t) ∧ w'.cell? ⟨w.heap.size, 2, none⟩ = some (.bool e') ∧ w'.cell? ⟨w.heap.size, 3, none⟩ = some (.slice E' s' t')) (first | (refine ⟨?_, ?_, ?_, ?_, ?_, ?_, ?_, ?_, ?_, ?_, ?_, ?_⟩ <;> (first | with_reducible assumption | ((with_reducible refine Eq.trans (cell_drew _ _) ?_); with_reducible assumption) | go_keep)) | go_keep)
        (first
          | (go_at_call 28; have _t := tok0; clear _t tok0; ((with_reducible refine Calls.mono (rmul_q HEZ.out.drew_ HEB.out.drew_ (by omega) (by omega) h3 h2) ?_)); rintro e w11 ⟨v, rfl, h, hb⟩; obtain ⟨b5', A5', n5', c5', d5', B5', m5', k5', rfl, -, -, -, -, -⟩ := h.form; have hBw := (show Below wr.heap.size wr w11 from by first | exact hb | exact bundrew hb); have x011 := Nat.lt_of_lt_of_le x0 hBw.size; have y011 := Nat.lt_of_lt_of_le y0 hBw.size; have x111 := (hBw.cell (p := (ad.add (i * 4))) x0).trans x1; have x211 := (hBw.cell (p := ⟨(ad.add (i * 4)).block, (ad.add (i * 4)).off + 1, none⟩) x0).trans x2; have x311 := (hBw.cell (p := ⟨(ad.add (i * 4)).block, (ad.add (i * 4)).off + 2, none⟩) x0).trans x3; have x411 := (hBw.cell (p := ⟨(ad.add (i * 4)).block, (ad.add (i * 4)).off + 3, none⟩) x0).trans x4; have y111 := (hBw.cell (p := (bd.add (i * 4))) y0).trans y1; have y211 := (hBw.cell (p := ⟨(bd.add (i * 4)).block, (bd.add (i * 4)).off + 1, none⟩) y0).trans y2; have y311 := (hBw.cell (p := ⟨(bd.add (i * 4)).block, (bd.add (i * 4)).off + 2, none⟩) y0).trans y3; have y411 := (hBw.cell (p := ⟨(bd.add (i * 4)).block, (bd.add (i * 4)).off + 3, none⟩) y0).trans y4; have KK11 := Lib.hid (KK.out.below hBw); obtain ⟨p011, p111, p211, p311, pl11⟩ := KK11.out.use4; have HB11 := Lib.hid (below_trans HBW.out hBw); have HO11 := Lib.hid (HO.out.below hBw); have HX11 := Lib.hid (fun j (hj : j < i) => (HX.out j hj).below hBw); have HM11 := Lib.hid (h.limQ (BP.out i hlt)); have HEA11 := Lib.hid (HEA.out.below hBw); clear hBw h hb HEA HEB HEZ x1 x2 x3 x4 y1 y2 y3 y4 p0 p1 p2 p3 pl KK HBW HO HX)
          | (go_at_call 37; have _t := tok1; clear _t tok1; ((with_reducible refine Calls.mono (radd_q HEA11.out HM11.out (by omega) (by omega) h1 (by omega)) ?_)); rintro e w12 ⟨v, rfl, h, hb⟩; obtain ⟨b12, A12, n12, c12, d12, B12, m12, k12, rfl, -, -, -, -, -⟩ := h.form; have hBw := (show Below w11.heap.size w11 w12 from by first | exact hb | exact bundrew hb); have x012 := Nat.lt_of_lt_of_le x011 hBw.size; have y012 := Nat.lt_of_lt_of_le y011 hBw.size; have x112 := (hBw.cell (p := (ad.add (i * 4))) x011).trans x111; have x212 := (hBw.cell (p := ⟨(ad.add (i * 4)).block, (ad.add (i * 4)).off + 1, none⟩) x011).trans x211; have x312 := (hBw.cell (p := ⟨(ad.add (i * 4)).block, (ad.add (i * 4)).off + 2, none⟩) x011).trans x311; have x412 := (hBw.cell (p := ⟨(ad.add (i * 4)).block, (ad.add (i * 4)).off + 3, none⟩) x011).trans x411; have y112 := (hBw.cell (p := (bd.add (i * 4))) y011).trans y111; have y212 := (hBw.cell (p := ⟨(bd.add (i * 4)).block, (bd.add (i * 4)).off + 1, none⟩) y011).trans y211; have y312 := (hBw.cell (p := ⟨(bd.add (i * 4)).block, (bd.add (i * 4)).off + 2, none⟩) y011).trans y311; have y412 := (hBw.cell (p := ⟨(bd.add (i * 4)).block, (bd.add (i * 4)).off + 3, none⟩) y011).trans y411; have KK12 := Lib.hid (KK11.out.below hBw); obtain ⟨p012, p112, p212, p312, pl12⟩ := KK12.out.use4; have HB12 := Lib.hid (below_trans HB11.out hBw); have HO12 := Lib.hid (HO11.out.below hBw); have HX12 := Lib.hid (fun j (hj : j < i) => (HX11.out j hj).below hBw); have HT12 := Lib.hid (EQ.of (p := true) h (BS.out i hlt)); clear hBw h hb HM11 HEA11 x111 x211 x311 x411 y111 y211 y311 y411 p011 p111 p211 p311 pl11 KK11 HB11 HO11 HX11)
          | (have _t := tok2; refine step_append_rats rfl rfl (.tmp 21) (.tmp 33) rfl (base := w.heap.size + 1) (n := i) (m := 1) (c := 1) (X := X) (Y := fun _ => ⟨b12, A12, n12, c12, d12, B12, m12, k12⟩) rfl (OwnR.alloc_ HO12.out _) rfl (rowAt_one w12 _ rfl ⟨b12, A12, n12, c12, d12, B12, m12, k12⟩) (fun e => by cases e) (by have := HN.out; omega) (by have := pl12; simp; omega) ?_; intro v13 w13 ho hf; clear _t tok2; have hB1 := ((below_new w12 (.cells #[.bool b12, .slice A12 n12 c12, .bool d12, .slice B12 m12 k12] 27)).mono (show w.heap.size + 1 ≤ w12.heap.size from pl12)).trans hf.below; have KK13 := Lib.hid (show Blk w13 w.heap.size 27 #[.bool e, .slice E s t, .bool e', .slice E' s' t'] from (hB1.block _ (by omega)).trans KK12.out); obtain ⟨p013, p113, p213, p313, pl13⟩ := KK13.out.use4; have x113 := (hB1.cell (p := (ad.add (i * 4))) (show (ad.add (i * 4)).block < _ from by omega)).trans x112; have x213 := (hB1.cell (p := ⟨(ad.add (i * 4)).block, (ad.add (i * 4)).off + 1, none⟩) (show (ad.add (i * 4)).block < _ from by omega)).trans x212; have x313 := (hB1.cell (p := ⟨(ad.add (i * 4)).block, (ad.add (i * 4)).off + 2, none⟩) (show (ad.add (i * 4)).block < _ from by omega)).trans x312; have x413 := (hB1.cell (p := ⟨(ad.add (i * 4)).block, (ad.add (i * 4)).off + 3, none⟩) (show (ad.add (i * 4)).block < _ from by omega)).trans x412; have y113 := (hB1.cell (p := (bd.add (i * 4))) (show (bd.add (i * 4)).block < _ from by omega)).trans y112; have y213 := (hB1.cell (p := ⟨(bd.add (i * 4)).block, (bd.add (i * 4)).off + 1, none⟩) (show (bd.add (i * 4)).block < _ from by omega)).trans y212; have y313 := (hB1.cell (p := ⟨(bd.add (i * 4)).block, (bd.add (i * 4)).off + 2, none⟩) (show (bd.add (i * 4)).block < _ from by omega)).trans y312; have y413 := (hB1.cell (p := ⟨(bd.add (i * 4)).block, (bd.add (i * 4)).off + 3, none⟩) (show (bd.add (i * 4)).block < _ from by omega)).trans y412; have HO13 := Lib.hid ho; have HX13 := Lib.hid (fun j (hj : j < i) => ((HX12.out j hj).alloc_ (.cells #[.bool b12, .slice A12 n12 c12, .bool d12, .slice B12 m12 k12] 27)).kp hf.keep); have HT13 := Lib.hid ((HT12.out.alloc_ (.cells #[.bool b12, .slice A12 n12 c12, .bool d12, .slice B12 m12 k12] 27)).kp hf.keep); have HB13 := Lib.hid (HB12.out.trans (hB1.mono (by omega))); clear ho hf hB1 HT12 x112 x212 x312 x412 y112 y212 y312 y412 p012 p112 p212 p312 pl12 KK12 HB12 HO12 HX12))
      have HINV : Hid (OwnR w13 (w.heap.size + 1) v13 (i + 1) (appR X i (fun _ => ⟨b12, A12, n12, c12, d12, B12, m12, k12⟩)) ∧ (∀ j, j < i + 1 → EQ true K w13 (appR X i (fun _ => ⟨b12, A12, n12, c12, d12, B12, m12, k12⟩) j).val (f j + z * g j)) ∧ Below w.heap.size w w13 ∧ Blk w13 w.heap.size 27 #[.bool e, .slice E s t, .bool e', .slice E' s' t']) := ⟨HO13.out, fun j hj => by
        by_cases h : j < i
        · rw [appR_lt _ _ _ h]; exact HX13.out j h
        · obtain rfl : j = i := by omega
          have := appR_ge X j (fun _ => ⟨b12, A12, n12, c12, d12, B12, m12, k12⟩) 0
          rw [Nat.add_zero] at this
          rw [this]
          exact HT13.out, HB13.out, KK13.out⟩
      clear HO13 HX13 HB13 KK13 HT13
      go_wp2
      go_roundw
      case rel => exact ⟨i + 1, _, by go_num, by omega, HINV.out⟩
      case measure => simp [intOf]; omega
    · obtain rfl : i = n := by omega
      go_wp2
      go_ret2
      exact ⟨_, rfl, OwnR.rowT HO.out HN.out HX.out, HBW.out⟩

theorem raddTimes {p p' : Bool} {k l j K n : Nat} {w : World} {va vb vz : Value} {f g : Nat → Rat} {z : Rat} (ha : RowQ p k w va n f) (hb : RowQ p' l w vb n g) (hz : LimQ j w vz z) (hk : k ≤ 8000) (hl : l ≤ 4000) (hj : j ≤ 4000) (h1 : 1 ≤ k) (h2 : 1 ≤ l) (h3 : 1 ≤ j) (hK : k + (j + l) + 1 ≤ K) :
    Calls Tryz.prog 15 #[va, vb, vz] w fun e w' => ∃ v, e = .returned (.tuple #[v, .bool true]) ∧ RowT true K w' v n (fun i => f i + z * g i) ∧ Below w.heap.size w w' := by
  obtain ⟨⟨e, E, s, t, e', E', s', t'⟩, rfl⟩ := hz.parts
  exact raddTimes0 ha hb hz hk hl hj h1 h2 h3 hK

end Go.Proofs.YtebdmidghidaeaaGreat
