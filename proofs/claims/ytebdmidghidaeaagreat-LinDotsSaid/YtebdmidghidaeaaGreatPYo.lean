/- Contracts of the document: Dot, AddTimes, IsZero of rows; lin: Dot of rows that are not of one length. -/
import Derived.Test.YtebdmidghidaeaaGreatPYn
namespace Go.Proofs.YtebdmidghidaeaaGreat
open Go.RowKit
attribute [local go_sem ↓] Go.wp_at_zero Go.wp_at_succ
set_option linter.unusedVariables false

set_option maxRecDepth 100000 in
set_option maxHeartbeats 4000000 in
theorem rdot {p p' : Bool} {k l K n : Nat} {w : World} {va vb : Value} {f g : Nat → Rat} (ha : RowQ p k w va n f) (hb : RowQ p' l w vb n g) (hk : k ≤ 10000) (hl : l ≤ 10000) (h1 : 1 ≤ k) (h2 : 1 ≤ l) (hK : ∀ i, i ≤ n → BQ K (dotF f g i)) (hK1 : 1 ≤ K) (hK2 : K ≤ 20000) :
    Calls Tryz.prog 13 #[va, vb] w fun e w' => ∃ v, e = .returned (.tuple #[v, .bool true]) ∧ IsRat w' v (dotF f g n) ∧ Below w.heap.size w w' := by
  have BP := Lib.hid (fun i (hi : i < n) => BQ.mul (ha.bq h1 hi) (hb.bq h2 hi) (Nat.le_refl (k + l)))
  obtain ⟨A, ca, rfl, _, hn⟩ := ha.len
  obtain ⟨B, cb, rfl, _, _⟩ := hb.len
  have x_0 := Lib.hid ha
  have y_0 := Lib.hid hb
  have HK := Lib.hid hK
  clear ha hb hK
  go_enter Tryz.func13, Tryz.ntmps13
  go_wp2_with fail
  refine Calls.mono (rzero_any _) ?_
  rintro e w1 ⟨v, rfl, h, hb⟩
  obtain ⟨b1, A1, n1, c1, d1, B1, m1, k1, rfl, -, -, -, -, -⟩ := h.form
  have hB := bun (hb)
  have x_1 := Lib.hid (x_0.out.below hB)
  have y_1 := Lib.hid (y_0.out.below hB)
  have Kr_1 := Lib.hid (show Blk w1 (w.heap.size) 27 #[.bool false, .slice none 0 0, .bool false, .slice none 0 0] from (Blk.new _ _ (by simp) _ _).below hb)
  have s_1 := Lib.hid (h)
  have HB_1 := Lib.hid (hB)
  have hs_1 : w.heap.size ≤ w1.heap.size := HB_1.out.size
  have hz_1 : w.heap.size + 1 ≤ w1.heap.size := (by have h := hb.size; (try simp at h); omega)
  clear hB hb x_0 y_0
  have HX1 := Lib.hid x_1.out
  have HY1 := Lib.hid y_1.out
  have HBw := Lib.hid HB_1.out
  have HR1 := Lib.hid Kr_1.out
  go_wp2
  have HN2' := below_new w1 (.cells #[.bool b1, .slice A1 n1 c1, .bool d1, .slice B1 m1 k1] 27)
  generalize hW : (w1.alloc (.cells #[.bool b1, .slice A1 n1 c1, .bool d1, .slice B1 m1 k1] 27)) = w2
  have x_2 := Lib.hid (hW ▸ (x_1.out.alloc_ _))
  have y_2 := Lib.hid (hW ▸ (y_1.out.alloc_ _))
  have s_2 := Lib.hid (hW ▸ (s_1.out.alloc_ _))
  have Kr_2 := Lib.hid (show Blk w2 (w.heap.size) 27 #[.bool false, .slice none 0 0, .bool false, .slice none 0 0] from by rw [← hW]; exact (Kr_1.out.alloc_ _))
  have Ks_2 := Lib.hid (show Blk w2 (w1.heap.size) 27 #[.bool b1, .slice A1 n1 c1, .bool d1, .slice B1 m1 k1] from by rw [← hW]; exact Blk.new _ _ (by simp) _ _)
  have HB_2 := Lib.hid (show Below w.heap.size w w2 from by rw [← hW]; exact halloc (HB_1.out))
  have hs_2 : w.heap.size ≤ w2.heap.size := HB_2.out.size
  have hz_2 : w1.heap.size + 1 ≤ w2.heap.size := by rw [← hW]; simp
  have HN2 := Lib.hid (show Below w1.heap.size w1 w2 from hW ▸ HN2')
  clear HN2' hW x_1 y_1 s_1 Kr_1 HB_1
  have HI0 := Lib.hid (show DtI w1 w2 ⟨b1, A1, n1, c1, d1, B1, m1, k1⟩ 0 from ⟨Ks_2.out, s_2.out, HN2.out⟩)
  clear Ks_2 s_2 Kr_2 x_2 y_2 HB_2
  go_loopw [7] (fun v7 wr => ∃ (i : Nat) (S : RatD), v7 = .int .i64 (i : Nat) ∧ i ≤ n ∧ DtI w1 wr S (dotF f g i)) (fun v7 _ => n - (intOf v7).toNat)
  case atStart => exact ⟨0, _, rfl, Nat.zero_le _, HI0.out⟩
  case round =>
    clear HI0
    obtain ⟨i, ⟨sb, sA, sn, sc, tb, tA, tn, tc⟩, rfl, hi, hinv⟩ := hrel
    have HI := Lib.hid hinv
    clear hinv
    by_cases hlt : i < n
    · have hi0 : (0 : Int) ≤ (i : Int) := by omega
      have hik : (i : Int) < (n : Int) := by omega
      obtain ⟨ad, c1', ⟨b5, A5, n5, c5, d5, B5, m5, k5⟩, e1, _, _, hata, hEa⟩ := HX1.out.at_ hlt
      simp only [Value.slice.injEq] at e1
      obtain ⟨rfl, _, rfl⟩ := e1
      obtain ⟨bd, c2', ⟨b6, A6, n6, c6, d6, B6, m6, k6⟩, e1, _, _, hatb, hEb⟩ := HY1.out.at_ hlt
      simp only [Value.slice.injEq] at e1
      obtain ⟨rfl, _, rfl⟩ := e1
      have hna : w1.heap.size ≠ (ad.add (i * 4)).block := by have := hata.1; omega
      have hnb : w1.heap.size ≠ (bd.add (i * 4)).block := by have := hatb.1; omega
      obtain ⟨x0, x1, x2, x3, x4⟩ := hata.below HI.out.2.2
      obtain ⟨y0, y1, y2, y3, y4⟩ := hatb.below HI.out.2.2
      have HEA := Lib.hid (hEa.2.below HI.out.2.2)
      have HEB := Lib.hid (hEb.2.below HI.out.2.2)
      have HS := Lib.hid HI.out.2.1
      have KS := Lib.hid HI.out.1
      have HB' := Lib.hid HI.out.2.2
      have BS := Lib.hid (HK.out i hi)
      obtain ⟨p0, p1, p2, p3, pl⟩ := KS.out.use4
      clear hata hatb hEa hEb HI
      go_wp2
      refine wp_region_held_drew (S := (fun w' => w'.cell? (ad.add (i * 4)) = some (.bool b5) ∧ w'.cell? ⟨(ad.add (i * 4)).block, (ad.add (i * 4)).off + 1, none⟩ = some (.slice A5 n5 c5) ∧ w'.cell? ⟨(ad.add (i * 4)).block, (ad.add (i * 4)).off + 2, none⟩ = some (.bool d5) ∧ w'.cell? ⟨(ad.add (i * 4)).block, (ad.add (i * 4)).off + 3, none⟩ = some (.slice B5 m5 k5) ∧ w'.cell? (bd.add (i * 4)) = some (.bool b6) ∧ w'.cell? ⟨(bd.add (i * 4)).block, (bd.add (i * 4)).off + 1, none⟩ = some (.slice A6 n6 c6) ∧ w'.cell? ⟨(bd.add (i * 4)).block, (bd.add (i * 4)).off + 2, none⟩ = some (.bool d6) ∧ w'.cell? ⟨(bd.add (i * 4)).block, (bd.add (i * 4)).off + 3, none⟩ = some (.slice B6 m6 k6))) (by kernel_rfl) ?_ (fun hHeld => ?_)
      · (first | (refine ⟨?_, ?_, ?_, ?_, ?_, ?_, ?_, ?_⟩ <;> (first | with_reducible assumption | ((with_reducible refine Eq.trans (cell_drew _ _) ?_); with_reducible assumption) | ((repeat rw [World.cell?_setCell_far _ _ _ _ (by first | exact hna | exact hnb)]); with_reducible assumption) | go_keep)) | go_keep)
      refine wpAnyH_take (i := 1) (v := ?_) rfl (by kernel_rfl) (by kernel_rfl) (by kernel_rfl) (fun _ _ _ h => h) (Or.inl ⟨by kernel_rfl, ?_⟩) (by assumption) ?_
      rotate_left
      · intro w hSw; (try dsimp only at hSw); go_simp <;> (try with_reducible rfl)
      (try simp only [Act.put, List.setIfInBounds_toArray, List.set_cons_zero, List.set_cons_succ, List.getElem_toArray, List.getElem_cons_succ, List.getElem_cons_zero])
      refine wpAnyH_take (i := 2) (v := ?_) rfl (by kernel_rfl) (by kernel_rfl) (by kernel_rfl) (fun _ _ _ h => h) (Or.inl ⟨by kernel_rfl, ?_⟩) (by assumption) ?_
      rotate_left
      · intro w hSw; (try dsimp only at hSw); go_simp <;> (try with_reducible rfl)
      (try simp only [Act.put, List.setIfInBounds_toArray, List.set_cons_zero, List.set_cons_succ, List.getElem_toArray, List.getElem_cons_succ, List.getElem_cons_zero])
      refine wpAnyH_take (i := 3) (v := ?_) rfl (by kernel_rfl) (by kernel_rfl) (by kernel_rfl) (fun _ _ _ h => h) (Or.inl ⟨by kernel_rfl, ?_⟩) (by assumption) ?_
      rotate_left
      · intro w hSw; (try dsimp only at hSw); go_simp <;> (try with_reducible rfl)
      (try simp only [Act.put, List.setIfInBounds_toArray, List.set_cons_zero, List.set_cons_succ, List.getElem_toArray, List.getElem_cons_succ, List.getElem_cons_zero])
      refine wpAnyH_take (i := 4) (v := ?_) rfl (by kernel_rfl) (by kernel_rfl) (by kernel_rfl) (fun _ _ _ h => h) (Or.inl ⟨by kernel_rfl, ?_⟩) (by assumption) ?_
      rotate_left
      · intro w hSw; (try dsimp only at hSw); go_simp <;> (try with_reducible rfl)
      (try simp only [Act.put, List.setIfInBounds_toArray, List.set_cons_zero, List.set_cons_succ, List.getElem_toArray, List.getElem_cons_succ, List.getElem_cons_zero])
      refine wpAnyH_take (i := 5) (v := ?_) rfl (by kernel_rfl) (by kernel_rfl) (by kernel_rfl) (fun _ _ _ h => h) (Or.inl ⟨by kernel_rfl, ?_⟩) (by assumption) ?_
      rotate_left
      · intro w hSw; (try dsimp only at hSw); go_simp <;> (try with_reducible rfl)
      (try simp only [Act.put, List.setIfInBounds_toArray, List.set_cons_zero, List.set_cons_succ, List.getElem_toArray, List.getElem_cons_succ, List.getElem_cons_zero])
      refine wpAnyH_take (i := 6) (v := ?_) rfl (by kernel_rfl) (by kernel_rfl) (by kernel_rfl) (fun _ _ _ h => h) (Or.inl ⟨by kernel_rfl, ?_⟩) (by assumption) ?_
      rotate_left
      · intro w hSw; (try dsimp only at hSw); go_simp <;> (try with_reducible rfl)
      (try simp only [Act.put, List.setIfInBounds_toArray, List.set_cons_zero, List.set_cons_succ, List.getElem_toArray, List.getElem_cons_succ, List.getElem_cons_zero])
      refine wpAnyH_take (i := 7) (v := ?_) rfl (by kernel_rfl) (by kernel_rfl) (by kernel_rfl) (fun _ _ _ h => h) (Or.inl ⟨by kernel_rfl, ?_⟩) (by assumption) ?_
      rotate_left
      · intro w hSw; (try dsimp only at hSw); go_simp <;> (try with_reducible rfl)
      (try simp only [Act.put, List.setIfInBounds_toArray, List.set_cons_zero, List.set_cons_succ, List.getElem_toArray, List.getElem_cons_succ, List.getElem_cons_zero])
      refine wpAnyH_take (i := 8) (v := ?_) rfl (by kernel_rfl) (by kernel_rfl) (by kernel_rfl) (fun _ _ _ h => h) (Or.inl ⟨by kernel_rfl, ?_⟩) (by assumption) ?_
      rotate_left
      · intro w hSw; (try dsimp only at hSw); go_simp <;> (try with_reducible rfl)
      (try simp only [Act.put, List.setIfInBounds_toArray, List.set_cons_zero, List.set_cons_succ, List.getElem_toArray, List.getElem_cons_succ, List.getElem_cons_zero])
      refine wpAnyH_ready (rs := [0, 9]) (by kernel_rfl) (by simp) ?_
      refine AllReadyH.cons rfl (fun KQ hKQ => ?_) (AllReadyH.cons rfl (fun KQ hKQ => ?_) AllReadyH.nil)
      · go_simp
        refine hKQ.out _ _ ?_ (fun hHeld => ?_)
        · (try dsimp only); (first | (refine ⟨?_, ?_, ?_, ?_, ?_, ?_, ?_, ?_⟩ <;> (first | with_reducible assumption | ((with_reducible refine Eq.trans (cell_drew _ _) ?_); with_reducible assumption) | ((repeat rw [World.cell?_setCell_far _ _ _ _ (by first | exact hna | exact hnb)]); with_reducible assumption) | go_keep)) | go_keep)
        clear hKQ KQ
        (try simp only [Act.put, List.setIfInBounds_toArray, List.set_cons_zero, List.set_cons_succ, List.getElem_toArray, List.getElem_cons_succ, List.getElem_cons_zero])
        refine wpAnyH_ready (rs := [9]) (by kernel_rfl) (by simp) ?_
        refine AllReadyH.cons rfl (fun KQ hKQ => ?_) AllReadyH.nil
        go_simp
        ((with_reducible refine Calls.mono (rmul_q HEA.out.drew_ HEB.out.drew_ (by omega) (by omega) h1 h2) ?_)); rintro e w11 ⟨v, rfl, h, hb⟩; obtain ⟨b5', A5', n5', c5', d5', B5', m5', k5', rfl, -, -, -, -, -⟩ := h.form; have hBw := (show Below wr.heap.size wr w11 from by first | exact hb | exact bundrew hb); have x011 := Nat.lt_of_lt_of_le x0 hBw.size; have y011 := Nat.lt_of_lt_of_le y0 hBw.size; have x111 := (hBw.cell (p := (ad.add (i * 4))) x0).trans x1; have x211 := (hBw.cell (p := ⟨(ad.add (i * 4)).block, (ad.add (i * 4)).off + 1, none⟩) x0).trans x2; have x311 := (hBw.cell (p := ⟨(ad.add (i * 4)).block, (ad.add (i * 4)).off + 2, none⟩) x0).trans x3; have x411 := (hBw.cell (p := ⟨(ad.add (i * 4)).block, (ad.add (i * 4)).off + 3, none⟩) x0).trans x4; have y111 := (hBw.cell (p := (bd.add (i * 4))) y0).trans y1; have y211 := (hBw.cell (p := ⟨(bd.add (i * 4)).block, (bd.add (i * 4)).off + 1, none⟩) y0).trans y2; have y311 := (hBw.cell (p := ⟨(bd.add (i * 4)).block, (bd.add (i * 4)).off + 2, none⟩) y0).trans y3; have y411 := (hBw.cell (p := ⟨(bd.add (i * 4)).block, (bd.add (i * 4)).off + 3, none⟩) y0).trans y4; have KS11 := Lib.hid (KS.out.below hBw); have HB11 := Lib.hid (below_trans HB'.out hBw); have HS11 := Lib.hid (HS.out.below hBw); obtain ⟨q0, q1, q2, q3, ql⟩ := KS11.out.use4; have HM11 := Lib.hid (h.limQ (BP.out i hlt)); clear hBw h hb KS HB' HS HEA HEB x1 x2 x3 x4 y1 y2 y3 y4 p0 p1 p2 p3 pl
        refine hKQ.out _ _ ?_ (fun hHeld => ?_)
        · (try dsimp only); (first | (refine ⟨?_, ?_, ?_, ?_, ?_, ?_, ?_, ?_⟩ <;> (first | with_reducible assumption | ((with_reducible refine Eq.trans (cell_drew _ _) ?_); with_reducible assumption) | ((repeat rw [World.cell?_setCell_far _ _ _ _ (by first | exact hna | exact hnb)]); with_reducible assumption) | go_keep)) | go_keep)
        clear hKQ KQ
        (try simp only [Act.put, List.setIfInBounds_toArray, List.set_cons_zero, List.set_cons_succ, List.getElem_toArray, List.getElem_cons_succ, List.getElem_cons_zero])
        refine wpAnyH_ready (rs := [10]) (by kernel_rfl) (by simp) ?_
        refine AllReadyH.cons rfl (fun KQ hKQ => ?_) AllReadyH.nil
        go_simp
        ((with_reducible refine Calls.mono (radd_q (by first | exact (IsRat.limQ (k := K) HS11.out BS.out) | exact (IsRat.limQ (k := K) HS11.out.drew_ BS.out)) (by first | exact HM11.out | exact HM11.out.drew_) (by omega) (by omega) (by omega) (by omega)) ?_)); rintro e w12 ⟨v, rfl, h, hb⟩; obtain ⟨b12, A12, n12, c12, d12, B12, m12, k12, rfl, -, -, -, -, -⟩ := h.form; have hBw := (show Below w11.heap.size w11 w12 from by first | exact hb | exact bundrew hb); have x012 := Nat.lt_of_lt_of_le x011 hBw.size; have y012 := Nat.lt_of_lt_of_le y011 hBw.size; have x112 := (hBw.cell (p := (ad.add (i * 4))) x011).trans x111; have x212 := (hBw.cell (p := ⟨(ad.add (i * 4)).block, (ad.add (i * 4)).off + 1, none⟩) x011).trans x211; have x312 := (hBw.cell (p := ⟨(ad.add (i * 4)).block, (ad.add (i * 4)).off + 2, none⟩) x011).trans x311; have x412 := (hBw.cell (p := ⟨(ad.add (i * 4)).block, (ad.add (i * 4)).off + 3, none⟩) x011).trans x411; have y112 := (hBw.cell (p := (bd.add (i * 4))) y011).trans y111; have y212 := (hBw.cell (p := ⟨(bd.add (i * 4)).block, (bd.add (i * 4)).off + 1, none⟩) y011).trans y211; have y312 := (hBw.cell (p := ⟨(bd.add (i * 4)).block, (bd.add (i * 4)).off + 2, none⟩) y011).trans y311; have y412 := (hBw.cell (p := ⟨(bd.add (i * 4)).block, (bd.add (i * 4)).off + 3, none⟩) y011).trans y411; have KS12 := Lib.hid (KS11.out.below hBw); have HB12 := Lib.hid (below_trans HB11.out hBw); have HS12 := Lib.hid (HS11.out.below hBw); obtain ⟨z0, z1, z2, z3, zl⟩ := KS12.out.use4; obtain ⟨r0, r1, r2, r3⟩ := KS12.out.into4; have HT12 := Lib.hid h; clear hBw h hb KS11 HB11 HS11 HS12 HM11 x111 x211 x311 x411 y111 y211 y311 y411 q0 q1 q2 q3 ql
        refine hKQ.out _ _ ?_ (fun hHeld => ?_)
        · (try dsimp only); (first | (refine ⟨?_, ?_, ?_, ?_, ?_, ?_, ?_, ?_⟩ <;> (first | with_reducible assumption | ((with_reducible refine Eq.trans (cell_drew _ _) ?_); with_reducible assumption) | ((repeat rw [World.cell?_setCell_far _ _ _ _ (by first | exact hna | exact hnb)]); with_reducible assumption) | go_keep)) | go_keep)
        clear hKQ KQ
        (try simp only [Act.put, List.setIfInBounds_toArray, List.set_cons_zero, List.set_cons_succ, List.getElem_toArray, List.getElem_cons_succ, List.getElem_cons_zero])
        refine wpAnyH_ready (rs := [11]) (by kernel_rfl) (by simp) ?_
        refine AllReadyH.cons rfl (fun KQ hKQ => ?_) AllReadyH.nil
        go_simp
        refine hKQ.out _ _ ?_ (fun hHeld => ?_)
        · (try dsimp only); (first | (refine ⟨?_, ?_, ?_, ?_, ?_, ?_, ?_, ?_⟩ <;> (first | with_reducible assumption | ((with_reducible refine Eq.trans (cell_drew _ _) ?_); with_reducible assumption) | ((repeat rw [World.cell?_setCell_far _ _ _ _ (by first | exact hna | exact hnb)]); with_reducible assumption) | go_keep)) | go_keep)
        clear hKQ KQ
        (try simp only [Act.put, List.setIfInBounds_toArray, List.set_cons_zero, List.set_cons_succ, List.getElem_toArray, List.getElem_cons_succ, List.getElem_cons_zero])
        refine wpAnyH_done (by kernel_rfl) ?_ _
        obtain ⟨W, hW⟩ : ∃ W, W = ((((w12.setCell ⟨w1.heap.size, 0, none⟩ (.bool b12)).setCell ⟨w1.heap.size, 1, none⟩ (.slice A12 n12 c12)).setCell ⟨w1.heap.size, 2, none⟩ (.bool d12)).setCell ⟨w1.heap.size, 3, none⟩ (.slice B12 m12 k12)) := ⟨_, rfl⟩
        rw [← hW]
        have HINV : Hid (DtI w1 W ⟨b12, A12, n12, c12, d12, B12, m12, k12⟩ (dotF f g (i + 1))) := ⟨by rw [hW]; exact KS12.out.own4, by rw [hW]; exact HT12.out.other4 KS12.out nu nu nu nu, by rw [hW]; exact Below.set4 HB12.out (Nat.le_refl _)⟩
        clear hW KS12 HT12 HB12 r0 r1 r2 r3 z0 z1 z2 z3 zl
        go_wp2
        go_roundw
        case rel => exact ⟨i + 1, _, by go_num, by omega, HINV.out⟩
        case measure => simp [intOf]; omega
      · go_simp
        ((with_reducible refine Calls.mono (rmul_q HEA.out.drew_ HEB.out.drew_ (by omega) (by omega) h1 h2) ?_)); rintro e w11 ⟨v, rfl, h, hb⟩; obtain ⟨b5', A5', n5', c5', d5', B5', m5', k5', rfl, -, -, -, -, -⟩ := h.form; have hBw := (show Below wr.heap.size wr w11 from by first | exact hb | exact bundrew hb); have x011 := Nat.lt_of_lt_of_le x0 hBw.size; have y011 := Nat.lt_of_lt_of_le y0 hBw.size; have x111 := (hBw.cell (p := (ad.add (i * 4))) x0).trans x1; have x211 := (hBw.cell (p := ⟨(ad.add (i * 4)).block, (ad.add (i * 4)).off + 1, none⟩) x0).trans x2; have x311 := (hBw.cell (p := ⟨(ad.add (i * 4)).block, (ad.add (i * 4)).off + 2, none⟩) x0).trans x3; have x411 := (hBw.cell (p := ⟨(ad.add (i * 4)).block, (ad.add (i * 4)).off + 3, none⟩) x0).trans x4; have y111 := (hBw.cell (p := (bd.add (i * 4))) y0).trans y1; have y211 := (hBw.cell (p := ⟨(bd.add (i * 4)).block, (bd.add (i * 4)).off + 1, none⟩) y0).trans y2; have y311 := (hBw.cell (p := ⟨(bd.add (i * 4)).block, (bd.add (i * 4)).off + 2, none⟩) y0).trans y3; have y411 := (hBw.cell (p := ⟨(bd.add (i * 4)).block, (bd.add (i * 4)).off + 3, none⟩) y0).trans y4; have KS11 := Lib.hid (KS.out.below hBw); have HB11 := Lib.hid (below_trans HB'.out hBw); have HS11 := Lib.hid (HS.out.below hBw); obtain ⟨q0, q1, q2, q3, ql⟩ := KS11.out.use4; have HM11 := Lib.hid (h.limQ (BP.out i hlt)); clear hBw h hb KS HB' HS HEA HEB x1 x2 x3 x4 y1 y2 y3 y4 p0 p1 p2 p3 pl
        refine hKQ.out _ _ ?_ (fun hHeld => ?_)
        · (try dsimp only); (first | (refine ⟨?_, ?_, ?_, ?_, ?_, ?_, ?_, ?_⟩ <;> (first | with_reducible assumption | ((with_reducible refine Eq.trans (cell_drew _ _) ?_); with_reducible assumption) | ((repeat rw [World.cell?_setCell_far _ _ _ _ (by first | exact hna | exact hnb)]); with_reducible assumption) | go_keep)) | go_keep)
        clear hKQ KQ
        (try simp only [Act.put, List.setIfInBounds_toArray, List.set_cons_zero, List.set_cons_succ, List.getElem_toArray, List.getElem_cons_succ, List.getElem_cons_zero])
        refine wpAnyH_ready (rs := [0]) (by kernel_rfl) (by simp) ?_
        refine AllReadyH.cons rfl (fun KQ hKQ => ?_) AllReadyH.nil
        go_simp
        refine hKQ.out _ _ ?_ (fun hHeld => ?_)
        · (try dsimp only); (first | (refine ⟨?_, ?_, ?_, ?_, ?_, ?_, ?_, ?_⟩ <;> (first | with_reducible assumption | ((with_reducible refine Eq.trans (cell_drew _ _) ?_); with_reducible assumption) | ((repeat rw [World.cell?_setCell_far _ _ _ _ (by first | exact hna | exact hnb)]); with_reducible assumption) | go_keep)) | go_keep)
        clear hKQ KQ
        (try simp only [Act.put, List.setIfInBounds_toArray, List.set_cons_zero, List.set_cons_succ, List.getElem_toArray, List.getElem_cons_succ, List.getElem_cons_zero])
        refine wpAnyH_ready (rs := [10]) (by kernel_rfl) (by simp) ?_
        refine AllReadyH.cons rfl (fun KQ hKQ => ?_) AllReadyH.nil
        go_simp
        ((with_reducible refine Calls.mono (radd_q (by first | exact (IsRat.limQ (k := K) HS11.out BS.out) | exact (IsRat.limQ (k := K) HS11.out.drew_ BS.out)) (by first | exact HM11.out | exact HM11.out.drew_) (by omega) (by omega) (by omega) (by omega)) ?_)); rintro e w12 ⟨v, rfl, h, hb⟩; obtain ⟨b12, A12, n12, c12, d12, B12, m12, k12, rfl, -, -, -, -, -⟩ := h.form; have hBw := (show Below w11.heap.size w11 w12 from by first | exact hb | exact bundrew hb); have x012 := Nat.lt_of_lt_of_le x011 hBw.size; have y012 := Nat.lt_of_lt_of_le y011 hBw.size; have x112 := (hBw.cell (p := (ad.add (i * 4))) x011).trans x111; have x212 := (hBw.cell (p := ⟨(ad.add (i * 4)).block, (ad.add (i * 4)).off + 1, none⟩) x011).trans x211; have x312 := (hBw.cell (p := ⟨(ad.add (i * 4)).block, (ad.add (i * 4)).off + 2, none⟩) x011).trans x311; have x412 := (hBw.cell (p := ⟨(ad.add (i * 4)).block, (ad.add (i * 4)).off + 3, none⟩) x011).trans x411; have y112 := (hBw.cell (p := (bd.add (i * 4))) y011).trans y111; have y212 := (hBw.cell (p := ⟨(bd.add (i * 4)).block, (bd.add (i * 4)).off + 1, none⟩) y011).trans y211; have y312 := (hBw.cell (p := ⟨(bd.add (i * 4)).block, (bd.add (i * 4)).off + 2, none⟩) y011).trans y311; have y412 := (hBw.cell (p := ⟨(bd.add (i * 4)).block, (bd.add (i * 4)).off + 3, none⟩) y011).trans y411; have KS12 := Lib.hid (KS11.out.below hBw); have HB12 := Lib.hid (below_trans HB11.out hBw); have HS12 := Lib.hid (HS11.out.below hBw); obtain ⟨z0, z1, z2, z3, zl⟩ := KS12.out.use4; obtain ⟨r0, r1, r2, r3⟩ := KS12.out.into4; have HT12 := Lib.hid h; clear hBw h hb KS11 HB11 HS11 HS12 HM11 x111 x211 x311 x411 y111 y211 y311 y411 q0 q1 q2 q3 ql
        refine hKQ.out _ _ ?_ (fun hHeld => ?_)
        · (try dsimp only); (first | (refine ⟨?_, ?_, ?_, ?_, ?_, ?_, ?_, ?_⟩ <;> (first | with_reducible assumption | ((with_reducible refine Eq.trans (cell_drew _ _) ?_); with_reducible assumption) | ((repeat rw [World.cell?_setCell_far _ _ _ _ (by first | exact hna | exact hnb)]); with_reducible assumption) | go_keep)) | go_keep)
        clear hKQ KQ
        (try simp only [Act.put, List.setIfInBounds_toArray, List.set_cons_zero, List.set_cons_succ, List.getElem_toArray, List.getElem_cons_succ, List.getElem_cons_zero])
        refine wpAnyH_ready (rs := [11]) (by kernel_rfl) (by simp) ?_
        refine AllReadyH.cons rfl (fun KQ hKQ => ?_) AllReadyH.nil
        go_simp
        refine hKQ.out _ _ ?_ (fun hHeld => ?_)
        · (try dsimp only); (first | (refine ⟨?_, ?_, ?_, ?_, ?_, ?_, ?_, ?_⟩ <;> (first | with_reducible assumption | ((with_reducible refine Eq.trans (cell_drew _ _) ?_); with_reducible assumption) | ((repeat rw [World.cell?_setCell_far _ _ _ _ (by first | exact hna | exact hnb)]); with_reducible assumption) | go_keep)) | go_keep)
        clear hKQ KQ
        (try simp only [Act.put, List.setIfInBounds_toArray, List.set_cons_zero, List.set_cons_succ, List.getElem_toArray, List.getElem_cons_succ, List.getElem_cons_zero])
        refine wpAnyH_done (by kernel_rfl) ?_ _
        obtain ⟨W, hW⟩ : ∃ W, W = ((((w12.setCell ⟨w1.heap.size, 0, none⟩ (.bool b12)).setCell ⟨w1.heap.size, 1, none⟩ (.slice A12 n12 c12)).setCell ⟨w1.heap.size, 2, none⟩ (.bool d12)).setCell ⟨w1.heap.size, 3, none⟩ (.slice B12 m12 k12)) := ⟨_, rfl⟩
        rw [← hW]
        have HINV : Hid (DtI w1 W ⟨b12, A12, n12, c12, d12, B12, m12, k12⟩ (dotF f g (i + 1))) := ⟨by rw [hW]; exact KS12.out.own4, by rw [hW]; exact HT12.out.other4 KS12.out nu nu nu nu, by rw [hW]; exact Below.set4 HB12.out (Nat.le_refl _)⟩
        clear hW KS12 HT12 HB12 r0 r1 r2 r3 z0 z1 z2 z3 zl
        go_wp2
        go_roundw
        case rel => exact ⟨i + 1, _, by go_num, by omega, HINV.out⟩
        case measure => simp [intOf]; omega
    · obtain rfl : i = n := by omega
      have s_10 := Lib.hid HI.out.2.1
      have Ks_10 := Lib.hid HI.out.1
      have HB_10 := Lib.hid (HBw.out.trans (HI.out.2.2.mono (by omega)))
      have Kr_10 := Lib.hid (HR1.out.below HI.out.2.2)
      have hne : w.heap.size ≠ w1.heap.size := by omega
      clear HI
      obtain ⟨p10, p11, p12, p13, l1⟩ := Ks_10.out.use4
      obtain ⟨p20, p21, p22, p23, l2⟩ := Kr_10.out.use4
      obtain ⟨r20, r21, r22, r23⟩ := Kr_10.out.into4
      go_wp2
      obtain ⟨WF, hWF⟩ : ∃ W, W = ((((wr.setCell ⟨w.heap.size, 0, none⟩ (.bool sb)).setCell ⟨w.heap.size, 1, none⟩ (.slice sA sn sc)).setCell ⟨w.heap.size, 2, none⟩ (.bool tb)).setCell ⟨w.heap.size, 3, none⟩ (.slice tA tn tc)) := ⟨_, rfl⟩
      rw [← hWF]
      have kq0 : Blk WF (w.heap.size) 27 #[.bool sb, .slice sA sn sc, .bool tb, .slice tA tn tc] := by rw [hWF]; exact ((((Kr_10.out.set_ 0 (.bool sb)).set_ 1 (.slice sA sn sc)).set_ 2 (.bool tb)).set_ 3 (.slice tA tn tc))
      obtain ⟨e00, e01, e02, e03⟩ := kq0.cells4
      have hBF : Below w.heap.size w WF := by rw [hWF]; exact (bset (bset (bset (bset HB_10.out (by omega)) (by omega)) (by omega)) (by omega))
      have fq : IsRat WF (.agg #[.bool sb, .slice sA sn sc, .bool tb, .slice tA tn tc]) (dotF f g i) := by rw [hWF]; exact ((((s_10.out.one Kr_10.out (i := 0) (x := .bool false) (y := .bool sb) rfl nu).one (Kr_10.out.set_ 0 (.bool sb)) (i := 1) (x := .slice none 0 0) (y := .slice sA sn sc) rfl nu).one ((Kr_10.out.set_ 0 (.bool sb)).set_ 1 (.slice sA sn sc)) (i := 2) (x := .bool false) (y := .bool tb) rfl nu).one (((Kr_10.out.set_ 0 (.bool sb)).set_ 1 (.slice sA sn sc)).set_ 2 (.bool tb)) (i := 3) (x := .slice none 0 0) (y := .slice tA tn tc) rfl nu)
      have HE : Hid (∃ v, (Ending.returned (.tuple #[.agg #[.bool sb, .slice sA sn sc, .bool tb, .slice tA tn tc], .bool true])) = .returned (.tuple #[v, .bool true]) ∧ IsRat WF v (dotF f g i) ∧ Below w.heap.size w WF) := ⟨_, rfl, fq, hBF⟩
      clear hWF
      exact bodyPost_ret (v := .tuple #[.agg #[.bool sb, .slice sA sn sc, .bool tb, .slice tA tn tc], .bool true]) (by simp [results, Tryz.results13, go_sem, e00, e01, e02, e03] <;> omega) rfl HE.out
end Go.Proofs.YtebdmidghidaeaaGreat
