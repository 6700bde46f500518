/- Contracts of the document: IsZero, Same, Tables, Few, FewRows; a number. -/
import Derived.Test.YtebdmidghidaeaaGreatPYn
namespace Go.Proofs.YtebdmidghidaeaaGreat
open Go.RowKit
attribute [local go_sem ↓] Go.wp_at_zero Go.wp_at_succ
set_option linter.unusedVariables false

set_option maxRecDepth 100000 in
set_option maxHeartbeats 2000000 in
theorem rsame {k l n : Nat} {w : World} {va vb : Value} {f g : Nat → Rat} (ha : RowQ true k w va n f) (hb : RowQ true l w vb n g) (he : ∀ i, i < n → f i = g i) (hk : k ≤ 100000) :
    Calls Tryz.prog 17 #[va, vb] w fun e w' => e = .returned (.bool true) ∧ Below w.heap.size w w' := by
  obtain ⟨A, ca, rfl, _, hn⟩ := ha.len
  obtain ⟨B, cb, rfl, _, _⟩ := hb.len
  have HA := Lib.hid ha
  have HB := Lib.hid hb
  have HE := Lib.hid he
  clear ha hb he
  go_enter Tryz.func17, Tryz.ntmps17
  go_wp2
  go_loopw [5] (fun v5 wr => ∃ (i : Nat), v5 = .int .i64 (i : Nat) ∧ i ≤ n ∧ Below w.heap.size w wr) (fun v5 _ => n - (intOf v5).toNat)
  case atStart => exact ⟨0, rfl, Nat.zero_le _, Below.refl _ _⟩
  case round =>
    obtain ⟨i, rfl, hi, hbw⟩ := hrel
    have HW := Lib.hid hbw
    clear hbw
    by_cases hlt : i < n
    · have hi0 : (0 : Int) ≤ (i : Int) := by omega
      have hik : (i : Int) < (n : Int) := by omega
      obtain ⟨ad, c1', ⟨b5, A5, n5, c5, d5, B5, m5, k5⟩, e1, _, _, ⟨x0, x1, x2, x3, x4⟩, hEa⟩ := (HA.out.below HW.out).at_ hlt
      simp only [Value.slice.injEq] at e1
      obtain ⟨rfl, _, rfl⟩ := e1
      obtain ⟨bd, c2', ⟨b6, A6, n6, c6, d6, B6, m6, k6⟩, e1, _, _, ⟨y0, y1, y2, y3, y4⟩, hEb⟩ := (HB.out.below HW.out).at_ hlt
      simp only [Value.slice.injEq] at e1
      obtain ⟨rfl, _, rfl⟩ := e1
      have e2 := HE.out i hlt
      have HX := Lib.hid (hEa.1 rfl)
      have HY := Lib.hid (show IsRat wr _ (f i) from e2 ▸ (hEb.1 rfl).1)
      have tok0 : True := trivial
      clear hEa hEb e2
      go_wp2
      go_region_held3 (fun w' => w'.cell? (ad.add (i * 4)) = some (.bool b5) ∧ w'.cell? ⟨(ad.add (i * 4)).block, (ad.add (i * 4)).off + 1, none⟩ = some (.slice A5 n5 c5) ∧ w'.cell? ⟨(ad.add (i * 4)).block, (ad.add (i * 4)).off + 2, none⟩ = some (.bool d5) ∧ w'.cell? ⟨(ad.add (i * 4)).block, (ad.add (i * 4)).off + 3, none⟩ = some (.slice B5 m5 k5) ∧ w'.cell? (bd.add (i * 4)) = some (.bool b6) ∧ w'.cell? ⟨(bd.add (i * 4)).block, (bd.add (i * 4)).off + 1, none⟩ = some (.slice A6 n6 c6) ∧ w'.cell? ⟨(bd.add (i * 4)).block, (bd.add (i * 4)).off + 2, none⟩ = some (.bool d6) ∧ w'.cell? ⟨(bd.add (i * 4)).block, (bd.add (i * 4)).off + 3, none⟩ = some (.slice B6 m6 k6)) (first | (refine ⟨?_, ?_, ?_, ?_, ?_, ?_, ?_, ?_⟩ <;> (first | with_reducible assumption | ((with_reducible refine Eq.trans (cell_drew _ _) ?_); with_reducible assumption) | go_keep)) | go_keep)
        (first
          | (go_at_call 16; have _t := tok0; clear _t tok0; ((with_reducible refine Calls.mono (rat_same HX.out.1.drew_ HY.out.drew_ HX.out.2 hk) ?_)); rintro e w2 ⟨rfl, hb⟩; have hBw := (show Below wr.heap.size wr w2 from by first | exact hb | exact bundrew hb); have HW2 := Lib.hid (below_trans HW.out hBw); have x12 := (hBw.cell (p := (ad.add (i * 4))) x0).trans x1; have x22 := (hBw.cell (p := ⟨(ad.add (i * 4)).block, (ad.add (i * 4)).off + 1, none⟩) x0).trans x2; have x32 := (hBw.cell (p := ⟨(ad.add (i * 4)).block, (ad.add (i * 4)).off + 2, none⟩) x0).trans x3; have x42 := (hBw.cell (p := ⟨(ad.add (i * 4)).block, (ad.add (i * 4)).off + 3, none⟩) x0).trans x4; have y12 := (hBw.cell (p := (bd.add (i * 4))) y0).trans y1; have y22 := (hBw.cell (p := ⟨(bd.add (i * 4)).block, (bd.add (i * 4)).off + 1, none⟩) y0).trans y2; have y32 := (hBw.cell (p := ⟨(bd.add (i * 4)).block, (bd.add (i * 4)).off + 2, none⟩) y0).trans y3; have y42 := (hBw.cell (p := ⟨(bd.add (i * 4)).block, (bd.add (i * 4)).off + 3, none⟩) y0).trans y4; clear hb hBw HW x1 x2 x3 x4 y1 y2 y3 y4 HX HY))
      go_wp2
      go_roundw
      case rel => exact ⟨i + 1, by go_num, by omega, HW2.out⟩
      case measure => simp [intOf]; omega
    · obtain rfl : i = n := by omega
      go_wp2
      go_ret
      exact ⟨rfl, HW.out⟩

set_option maxRecDepth 100000 in
set_option maxHeartbeats 2000000 in
theorem rtables {k l m : Nat} {w : World} {va vb : Value} {Ln Mn : Nat → Nat} {F G : Nat → Nat → Rat} (ha : TabQ true k w va m Ln F) (hb : TabQ true l w vb m Mn G) (hL : ∀ i, i < m → Ln i = Mn i) (he : ∀ i, i < m → ∀ j, j < Ln i → F i j = G i j) (hk : k ≤ 100000) :
    Calls Tryz.prog 22 #[va, vb] w fun e w' => e = .returned (.bool true) ∧ Below w.heap.size w w' := by
  obtain ⟨A, ca, rfl, _, hn⟩ := ha.len
  obtain ⟨B, cb, rfl, _, _⟩ := hb.len
  have HA := Lib.hid ha
  have HB := Lib.hid hb
  have HL := Lib.hid hL
  have HE := Lib.hid he
  clear ha hb hL he
  go_enter Tryz.func22, Tryz.ntmps22
  go_wp2
  go_loopw [5] (fun v5 wr => ∃ (i : Nat), v5 = .int .i64 (i : Nat) ∧ i ≤ m ∧ Below w.heap.size w wr) (fun v5 _ => m - (intOf v5).toNat)
  case atStart => exact ⟨0, rfl, Nat.zero_le _, Below.refl _ _⟩
  case round =>
    obtain ⟨i, rfl, hi, hbw⟩ := hrel
    have HW := Lib.hid hbw
    clear hbw
    by_cases hlt : i < m
    · have hi0 : (0 : Int) ≤ (i : Int) := by omega
      have hik : (i : Int) < (m : Int) := by omega
      obtain ⟨td, ct', R, cR, e1, _, htb, hcell, _, _, hR⟩ := (HA.out.below HW.out).at_ hlt
      simp only [Value.slice.injEq] at e1
      obtain ⟨rfl, _, rfl⟩ := e1
      obtain ⟨ud, cu', U, cU, e1, _, hub, hucell, _, _, hU⟩ := (HB.out.below HW.out).at_ hlt
      simp only [Value.slice.injEq] at e1
      obtain ⟨rfl, _, rfl⟩ := e1
      have HR := Lib.hid hR
      have HU := Lib.hid (show RowQ true l wr (.slice U (Mn i) cU) (Ln i) (G i) from by rw [HL.out i hlt]; exact hU)
      have tok0 : True := trivial
      clear hR hU
      go_wp2
      go_region_held3 (fun w' => w'.cell? (td.add i) = some (.slice R (Ln i) cR) ∧ w'.cell? (ud.add i) = some (.slice U (Mn i) cU)) (first | (refine ⟨?_, ?_⟩ <;> (first | with_reducible assumption | ((with_reducible refine Eq.trans (cell_drew _ _) ?_); with_reducible assumption) | go_keep)) | go_keep)
        (first
          | (go_at_call 17; have _t := tok0; clear _t tok0; ((with_reducible refine Calls.mono (rsame HR.out.drew_ HU.out.drew_ (HE.out i hlt) hk) ?_)); rintro e w2 ⟨rfl, hb⟩; have hBw := (show Below wr.heap.size wr w2 from by first | exact hb | exact bundrew hb); have HW2 := Lib.hid (below_trans HW.out hBw); have hc2 := (hBw.cell (p := td.add i) (by rw [add_block]; exact htb)).trans hcell; have hd2 := (hBw.cell (p := ud.add i) (by rw [add_block]; exact hub)).trans hucell; clear hb hBw HW hcell hucell HR HU))
      go_wp2
      go_roundw
      case rel => exact ⟨i + 1, by go_num, by omega, HW2.out⟩
      case measure => simp [intOf]; omega
    · obtain rfl : i = m := by omega
      go_wp2
      go_ret
      exact ⟨rfl, HW.out⟩

/-- A row as it came in. -/
def RowR (w : World) (v : Value) (n : Nat) (X : Nat → RatD) (q : Nat → Rat) : Prop := ∃ A c, v = .slice A n c ∧ Fits A n c ∧ n ≤ 9223372036854775807 ∧ RowAt w A n X ∧ ∀ i, i < n → (X i).n ≤ 1 → (X i).n' ≤ 1 → LimQ 1 w (X i).val (q i)
/-- Whether something is so, and nothing changes. -/
def FewPost (w w' : World) (e : Ending) (P : Prop) : Prop := (∃ b, e = .returned (.bool b) ∧ (b = true ↔ P)) ∧ w' = w
/-- Its numbers are few, and small. -/
def FewP (n : Nat) (X : Nat → RatD) (N : Nat) : Prop := n ≤ N ∧ ∀ i, i < n → (X i).n ≤ 1 ∧ (X i).n' ≤ 1
theorem RowR.few {w : World} {v : Value} {n N : Nat} {X : Nat → RatD} {q : Nat → Rat} (h : RowR w v n X q) (hf : FewP n X N) (hN : N ≤ 1000000) : RowQ false 1 w v n q := by
  obtain ⟨A, c, h0, h1, h2, h3, h4⟩ := h
  exact ⟨A, c, X, h0, h1, by have := hf.1; omega, h3, fun i hi => EQ.lim (h4 i hi (hf.2 i hi).1 (hf.2 i hi).2)⟩
theorem RowR.below {w w' : World} {v : Value} {n : Nat} {X : Nat → RatD} {q : Nat → Rat} (h : RowR w v n X q) (hb : Below w.heap.size w w') : RowR w' v n X q := by
  obtain ⟨A, c, h0, h1, h2, h3, h4⟩ := h
  exact ⟨A, c, h0, h1, h2, h3.below hb, fun i hi a b => (h4 i hi a b).below hb⟩
/-- A table as it came in. -/
def TabR (w : World) (v : Value) (m : Nat) (Ln : Nat → Nat) (X : Nat → Nat → RatD) (F : Nat → Nat → Rat) : Prop := ∃ A c, v = .slice A m c ∧ Fits A m c ∧ m ≤ 9223372036854775807 ∧ ∀ i, i < m → ∃ ad r, A = some ad ∧ ad.block < w.heap.size ∧ w.cell? (ad.add i) = some r ∧ RowR w r (Ln i) (X i) (F i)
theorem TabR.below {w w' : World} {v : Value} {m : Nat} {Ln : Nat → Nat} {X : Nat → Nat → RatD} {F : Nat → Nat → Rat} (h : TabR w v m Ln X F) (hb : Below w.heap.size w w') : TabR w' v m Ln X F := by
  obtain ⟨A, c, h0, h1, h2, h3⟩ := h
  refine ⟨A, c, h0, h1, h2, fun i hi => ?_⟩
  obtain ⟨ad, r, e, h4, h5, h6⟩ := h3 i hi
  exact ⟨ad, r, e, Nat.lt_of_lt_of_le h4 hb.size, (hb.cell (p := ad.add i) (by rw [add_block]; exact h4)).trans h5, h6.below hb⟩
theorem TabR.few {w : World} {v : Value} {m N : Nat} {Ln : Nat → Nat} {X : Nat → Nat → RatD} {F : Nat → Nat → Rat} (h : TabR w v m Ln X F) (hm : m ≤ N) (hf : ∀ i, i < m → FewP (Ln i) (X i) N) (hN : N ≤ 1000000) : TabQ false 1 w v m Ln F := by
  obtain ⟨A, c, h0, h1, h2, h3⟩ := h
  refine ⟨A, c, h0, h1, by omega, fun i hi => ?_⟩
  obtain ⟨ad, r, e, h4, h5, h6⟩ := h3 i hi
  exact ⟨ad, r, e, h4, h5, h6.few (hf i hi) hN⟩

set_option maxRecDepth 100000 in
set_option maxHeartbeats 2000000 in
theorem rfew {w : World} {v : Value} {n N : Nat} {X : Nat → RatD} {q : Nat → Rat} (h : RowR w v n X q) (hN : N ≤ 1000) :
    Calls Tryz.prog 11 #[v, .int .i64 (N : Nat)] w fun e w' => FewPost w w' e (FewP n X N) := by
  obtain ⟨A, c, rfl, _, hn, hX, _⟩ := h
  have HX := Lib.hid hX
  clear hX
  by_cases hlong : N < n
  · have hl : (N : Int) < (n : Int) := by omega
    go_enter Tryz.func11, Tryz.ntmps11
    go_wp2
    go_ret
    exact ⟨⟨_, rfl, fun h => (by cases h), fun h => absurd h.1 (by omega)⟩, rfl⟩
  have hl : ¬ (N : Int) < (n : Int) := by omega
  go_enter Tryz.func11, Tryz.ntmps11
  go_wp2
  go_loopw [5] (fun v5 wr => ∃ (i : Nat), v5 = .int .i64 (i : Nat) ∧ i ≤ n ∧ w = wr ∧ ∀ j, j < i → (X j).n ≤ 1 ∧ (X j).n' ≤ 1) (fun v5 _ => n - (intOf v5).toNat)
  case atStart => exact ⟨0, rfl, Nat.zero_le _, rfl, fun j hj => absurd hj (by omega)⟩
  case round =>
    obtain ⟨i, rfl, hi, rfl, hinv⟩ := hrel
    have HI := Lib.hid hinv
    clear hinv
    by_cases hlt : i < n
    · have hi0 : (0 : Int) ≤ (i : Int) := by omega
      have hik : (i : Int) < (n : Int) := by omega
      obtain ⟨ad, rfl, x0, x1, x2, x3, x4⟩ := HX.out i hlt
      generalize hx : X i = x at *
      obtain ⟨b5, A5, n5, c5, d5, B5, m5, k5⟩ := x
      have EX := Lib.hid hx
      have e1 : (X i).n = n5 := by rw [hx]
      have e2 : (X i).n' = m5 := by rw [hx]
      have E1 := Lib.hid e1
      have E2 := Lib.hid e2
      clear e1 e2 hx
      dsimp only at x1 x2 x3 x4
      by_cases h5 : n5 ≤ 1
      · have h5' : ¬ (1 : Int) < (n5 : Int) := by omega
        by_cases h6 : m5 ≤ 1
        · have h6' : ¬ (1 : Int) < (m5 : Int) := by omega
          go_wp2
          go_roundw
          case rel => exact ⟨i + 1, by go_num, by omega, by first | rfl | trivial, fun j hj => by
            by_cases hji : j = i
            · rw [hji, E1.out, E2.out]; exact ⟨h5, h6⟩
            · exact HI.out j (by omega)⟩
          case measure => simp [intOf]; omega
        · have h6' : (1 : Int) < (m5 : Int) := by omega
          go_wp2
          go_ret
          exact ⟨⟨_, rfl, fun h => (by cases h), fun h => absurd (E2.out ▸ (h.2 i hlt).2) h6⟩, rfl⟩
      · have h5' : (1 : Int) < (n5 : Int) := by omega
        go_wp2
        go_ret
        exact ⟨⟨_, rfl, fun h => (by cases h), fun h => absurd (E1.out ▸ (h.2 i hlt).1) h5⟩, rfl⟩
    · obtain rfl : i = n := by omega
      go_wp2
      go_ret
      exact ⟨⟨_, rfl, fun _ => ⟨by omega, HI.out⟩, fun _ => rfl⟩, rfl⟩

set_option maxRecDepth 100000 in
set_option maxHeartbeats 2000000 in
theorem rfewrows {w : World} {v : Value} {m N : Nat} {Ln : Nat → Nat} {X : Nat → Nat → RatD} {F : Nat → Nat → Rat} (h : TabR w v m Ln X F) (hN : N ≤ 1000) :
    Calls Tryz.prog 19 #[v, .int .i64 (N : Nat)] w fun e w' => FewPost w w' e (m ≤ N ∧ ∀ i, i < m → FewP (Ln i) (X i) N) := by
  obtain ⟨A, c, rfl, _, hm, hT⟩ := h
  have HT := Lib.hid hT
  clear hT
  by_cases hlong : N < m
  · have hl : (N : Int) < (m : Int) := by omega
    go_enter Tryz.func19, Tryz.ntmps19
    go_wp2
    go_ret
    exact ⟨⟨_, rfl, fun h => (by cases h), fun h => absurd h.1 (by omega)⟩, rfl⟩
  have hl : ¬ (N : Int) < (m : Int) := by omega
  go_enter Tryz.func19, Tryz.ntmps19
  go_wp2
  go_loopw [5] (fun v5 wr => ∃ (i : Nat), v5 = .int .i64 (i : Nat) ∧ i ≤ m ∧ w = wr ∧ ∀ j, j < i → FewP (Ln j) (X j) N) (fun v5 _ => m - (intOf v5).toNat)
  case atStart => exact ⟨0, rfl, Nat.zero_le _, rfl, fun j hj => absurd hj (by omega)⟩
  case round =>
    obtain ⟨i, rfl, hi, rfl, hinv⟩ := hrel
    have HI := Lib.hid hinv
    clear hinv
    by_cases hlt : i < m
    · have hi0 : (0 : Int) ≤ (i : Int) := by omega
      have hik : (i : Int) < (m : Int) := by omega
      obtain ⟨ad, r, rfl, hb, hcell, hr⟩ := HT.out i hlt
      obtain ⟨R, cR, e1, _⟩ := id hr
      rw [e1] at hcell hr
      have HR := Lib.hid hr
      clear hr e1
      go_wp2_with fail
      refine Calls.mono (rfew HR.out hN) ?_
      rintro e w2 ⟨⟨b, rfl, hb2⟩, hw⟩
      have hw' := hw.symm
      subst hw'
      clear hw
      cases b with
      | true =>
        have HF := Lib.hid (hb2.1 rfl)
        clear hb2
        go_wp2
        go_roundw
        case rel => exact ⟨i + 1, by go_num, by omega, by first | rfl | trivial, fun j hj => by
          by_cases hji : j = i
          · rw [hji]; exact HF.out
          · exact HI.out j (by omega)⟩
        case measure => simp [intOf]; omega
      | false =>
        have HF := Lib.hid (fun h => Bool.noConfusion (hb2.2 h) : ¬ FewP (Ln i) (X i) N)
        clear hb2
        go_wp2
        go_ret
        exact ⟨⟨_, rfl, fun h => (by cases h), fun h => absurd (h.2 i hlt) HF.out⟩, rfl⟩
    · obtain rfl : i = m := by omega
      go_wp2
      go_ret
      exact ⟨⟨_, rfl, fun _ => ⟨by omega, HI.out⟩, fun _ => rfl⟩, rfl⟩

set_option maxRecDepth 100000 in
set_option maxHeartbeats 1000000 in
theorem lawOf {N : Int} (w : World) (h1 : -9223372036854775808 ≤ N) (h2 : N ≤ 9223372036854775807) :
    Calls Tryz.prog 23 #[.int .i64 N] w fun e w' => RatPost w w' e (Rat.divInt N 1) := by
  go_enter Tryz.func23, Tryz.ntmps23
  go_wp2_with fail
  refine Calls.mono (rof3_q N 1 _ h1 h2 (by omega) (by omega)) ?_
  rintro e w1 ⟨v, rfl, h, hb⟩
  obtain ⟨b1, A1, n1, c1, d1, B1, m1, k1, rfl, -, -, -, -, -⟩ := h.form
  have hB := bun (hb)
  have Kr_1 := Lib.hid (show Blk w1 (w.heap.size) 27 #[.bool false, .slice none 0 0, .bool false, .slice none 0 0] from (Blk.new _ _ (by simp) _ _).below hb)
  have s_1 := Lib.hid (h)
  have HB_1 := Lib.hid (hB)
  have hs_1 : w.heap.size ≤ w1.heap.size := HB_1.out.size
  have hz_1 : w.heap.size + 1 ≤ w1.heap.size := (by have h := hb.size; (try simp at h); omega)
  clear hB hb 
  obtain ⟨p10, p11, p12, p13, l1⟩ := Kr_1.out.use4
  obtain ⟨r10, r11, r12, r13⟩ := Kr_1.out.into4
  go_wp2
  obtain ⟨WF, hWF⟩ : ∃ W, W = (((((w1.setCell ⟨w.heap.size, 0, none⟩ (.bool b1)).setCell ⟨w.heap.size, 1, none⟩ (.slice A1 n1 c1)).setCell ⟨w.heap.size, 2, none⟩ (.bool d1)).setCell ⟨w.heap.size, 3, none⟩ (.slice B1 m1 k1)).alloc (.cells #[.bool b1, .slice A1 n1 c1, .bool d1, .slice B1 m1 k1] 27)) := ⟨_, rfl⟩
  rw [← hWF]
  have kq : Blk WF w.heap.size 27 #[.bool b1, .slice A1 n1 c1, .bool d1, .slice B1 m1 k1] := by rw [hWF]; exact Kr_1.out.own4.alloc_ _
  have hBF : Below w.heap.size w WF := by rw [hWF]; exact halloc (Below.set4 HB_1.out (Nat.le_refl _))
  have fq : IsRat WF (.agg #[.bool b1, .slice A1 n1 c1, .bool d1, .slice B1 m1 k1]) (Rat.divInt N 1) := by rw [hWF]; exact (s_1.out.other4 Kr_1.out nu nu nu nu).alloc_ _
  have HE : Hid (RatPost w WF (Ending.returned (.agg #[.bool b1, .slice A1 n1 c1, .bool d1, .slice B1 m1 k1])) (Rat.divInt N 1)) := ⟨_, rfl, fq, hBF⟩
  obtain ⟨e0, e1, e2, e3⟩ := kq.cells4
  clear hWF
  exact bodyPost_ret (v := (.agg #[.bool b1, .slice A1 n1 c1, .bool d1, .slice B1 m1 k1])) (by simp [results, Tryz.results23, go_sem, e0, e1, e2, e3] <;> omega) rfl HE.out
end Go.Proofs.YtebdmidghidaeaaGreat

/- Contracts of the document: Pivot. -/
namespace Go.Proofs.YtebdmidghidaeaaGreat
open Go.RowKit
attribute [local go_sem ↓] Go.wp_at_zero Go.wp_at_succ
set_option linter.unusedVariables false
set_option linter.unusedSimpArgs false

theorem slice_row (w : World) (g : Nat) (hg : g = w.heap.size) (v : Value) : ∀ i, i < 1 → ∃ ad, some (⟨g, 0, none⟩ : Addr) = some ad ∧ (w.alloc (.cells #[v] 22)).cell? (ad.add i) = some v := fun i hi => by
  obtain rfl : i = 0 := by omega
  exact ⟨_, rfl, (Blk.new w g hg 22 #[v]).cell 0⟩

end Go.Proofs.YtebdmidghidaeaaGreat
