/- LinDots. -/
import Derived.Test.YtebdmidghidaeaaGreatPYu
namespace Go.Proofs.YtebdmidghidaeaaGreat
open Go.RowKit
attribute [local go_sem ↓] Go.wp_at_zero Go.wp_at_succ
set_option linter.unusedVariables false
set_option linter.unusedSimpArgs false

theorem cmpQ_self (x : Rat) : cmpQ x x = 0 := by
  unfold cmpQ
  rw [if_neg (Rat.lt_irrefl), if_pos rfl]
theorem cmpQ_eq {x y : Rat} (h : x = y) : cmpQ x y = 0 := h ▸ cmpQ_self x
theorem dotF_comm (f g : Nat → Rat) (n : Nat) : dotF f g n = dotF g f n := by
  rw [dotF_sum, dotF_sum]
  exact sumF_congr n fun k _ => Rat.mul_comm _ _
theorem dotF_times (f g : Nat → Rat) (z : Rat) (n : Nat) : dotF (fun i => 0 + f i * z) g n = z * dotF f g n := by
  rw [dotF_sum, dotF_sum, Rat.mul_comm, ← sumF_mul]
  exact sumF_congr n fun k _ => by grind
theorem OwnR.zeros {w : World} {base n : Nat} {v : Value} (h : OwnR w base v n (fun _ => ratZ)) (hn : n ≤ 1000000) : RowQ false 1 w v n (fun _ => 0) :=
  (h.rowT (p := false) hn fun i hi => EQ.lim (limQ_zero (by omega))).rowQ

set_option maxRecDepth 100000 in
set_option maxHeartbeats 4000000 in
theorem dots_eq (A : Option Addr) (ca : Nat) (B : Option Addr) (cb : Nat) (xb : Bool) (xA : Option Addr) (xn xc : Nat) (xd : Bool) (xB : Option Addr) (xm xk : Nat) (n m : Nat) (X Y : Nat → RatD) (f h : Nat → Rat) (z : Rat) (w : World) (ha : RowR w (.slice A n ca) n X f) (hb : RowR w (.slice B m cb) m Y h) (hz : RatR w ⟨xb, xA, xn, xc, xd, xB, xm, xk⟩ z) (hnm : n = m) :
    Calls Tryz.prog 7 #[.slice A n ca, .slice B m cb, (.agg #[.bool xb, .slice xA xn xc, .bool xd, .slice xB xm xk])] w fun e w' => e = .returned (.bool true) ∧ Below w.heap.size w w' := by
  have a_0 := Lib.hid ha
  have b_0 := Lib.hid hb
  have z_0 := Lib.hid hz
  clear ha hb hz
  subst hnm
  go_enter Tryz.func7, Tryz.ntmps7
  go_wp2_with fail
  generalize hW : w.alloc (.cells #[.bool xb, .slice xA xn xc, .bool xd, .slice xB xm xk] 27) = w1
  have hz_1 := Lib.hid (show w1.heap.size = w.heap.size + 1 from by rw [← hW]; simp)
  have a_1 := Lib.hid (hW ▸ a_0.out.alloc_ _)
  have b_1 := Lib.hid (hW ▸ b_0.out.alloc_ _)
  have z_1 := Lib.hid (hW ▸ z_0.out.alloc_ _)
  have kz_1 : Hid (Blk w1 w.heap.size 27 #[.bool xb, .slice xA xn xc, .bool xd, .slice xB xm xk]) := by rw [← hW]; exact Blk.new _ _ rfl _ _
  have HB_1 := Lib.hid (show Below w.heap.size w w1 from hW ▸ halloc (Below.refl _ _))
  clear hW a_0 b_0 z_0 
  refine Calls.mono (awake10 _) ?_
  rintro e w2 ⟨rfl, hb⟩
  have hBw := (show Below w1.heap.size w1 w2 from by first | exact hb | exact bundrew hb)
  have a_2 := Lib.hid (a_1.out.below hBw)
  have b_2 := Lib.hid (b_1.out.below hBw)
  have z_2 := Lib.hid (z_1.out.below hBw)
  have kz_2 := Lib.hid (kz_1.out.below hBw)
  have HB_2 := Lib.hid (below_trans HB_1.out hBw)
  clear hBw hb a_1 b_1 z_1 kz_1 HB_1
  go_wp2_with fail
  refine Calls.mono (rfew (N := 10) a_2.out (by omega)) ?_
  rintro e wq ⟨⟨b, rfl, hb⟩, hw⟩
  have hw' := hw.symm
  subst hw'
  clear hw
  cases b
  · clear hb
    go_wp2
    go_ret
    exact ⟨rfl, HB_2.out⟩
  have hfa := Lib.hid (hb.1 rfl)
  clear hb
  go_wp2_with fail
  refine Calls.mono (rfew (N := 10) b_2.out (by omega)) ?_
  rintro e wq ⟨⟨b, rfl, hb⟩, hw⟩
  have hw' := hw.symm
  subst hw'
  clear hw
  cases b
  · clear hb
    go_wp2
    go_ret
    exact ⟨rfl, HB_2.out⟩
  have hfb := Lib.hid (hb.1 rfl)
  clear hb
  obtain ⟨u0, u1, u2, u3, ul⟩ := kz_2.out.use4
  go_wp2_with fail
  generalize hW : w2.alloc (.cells #[.bool xb, .slice xA xn xc, .bool xd, .slice xB xm xk] 27) = w3
  have hz_3 := Lib.hid (show w3.heap.size = w2.heap.size + 1 from by rw [← hW]; simp)
  have a_3 := Lib.hid (hW ▸ a_2.out.alloc_ _)
  have b_3 := Lib.hid (hW ▸ b_2.out.alloc_ _)
  have z_3 := Lib.hid (hW ▸ z_2.out.alloc_ _)
  have kz_3 := Lib.hid (hW ▸ kz_2.out.alloc_ _)
  have zr_3 : Hid (RowR w3 (.slice (some ⟨w2.heap.size, 0, none⟩) 1 1) 1 (fun _ => ⟨xb, xA, xn, xc, xd, xB, xm, xk⟩) (fun _ => z)) := by rw [← hW]; exact rowR_one (x := ⟨xb, xA, xn, xc, xd, xB, xm, xk⟩) rfl z_2.out
  have HB_3 := Lib.hid (show Below w.heap.size w w3 from hW ▸ halloc HB_2.out)
  clear hW a_2 b_2 z_2 kz_2 HB_2
  refine Calls.mono (rfew (N := 1) zr_3.out (by omega)) ?_
  rintro e wq ⟨⟨b, rfl, hb⟩, hw⟩
  have hw' := hw.symm
  subst hw'
  clear hw
  cases b
  · clear hb
    go_wp2
    go_ret
    exact ⟨rfl, HB_3.out⟩
  have hfz := Lib.hid (hb.1 rfl)
  clear hb
  have A_3 := Lib.hid (a_3.out.few hfa.out (by omega))
  have B_3 := Lib.hid (b_3.out.few hfb.out (by omega))
  have Z_3 := Lib.hid (z_3.out (hfz.out.2 0 (by omega)).1 (hfz.out.2 0 (by omega)).2)
  have hn : n ≤ 10 := hfa.out.1
  clear a_3 b_3 z_3 zr_3 hfa hfb hfz u0 u1 u2 u3 ul
  have BF : Hid (∀ i, i ≤ n → BQ 40 (dotF f h i)) := fun i hi => dotF_bq i (fun j hj => A_3.out.bq (by omega) (by omega)) (fun j hj => B_3.out.bq (by omega) (by omega)) (by omega)
  have BG : Hid (∀ i, i ≤ n → BQ 40 (dotF h f i)) := fun i hi => by rw [dotF_comm]; exact BF.out i hi
  go_wp2_with fail
  refine Calls.mono (ldot (K := 40) A_3.out B_3.out (by omega) (by omega) (by omega) (by omega) BF.out (by omega) (by omega)) ?_
  rintro e w4 ⟨v, rfl, h, hb⟩
  obtain ⟨b4, A4, n4, c4, d4, B4, m4, k4, rfl, -, -, -, -, -⟩ := h.form
  have hBw := (show Below w3.heap.size w3 w4 from by first | exact hb | exact bundrew hb)
  have A_4 := Lib.hid (A_3.out.below hBw)
  have B_4 := Lib.hid (B_3.out.below hBw)
  have Z_4 := Lib.hid (Z_3.out.below hBw)
  have kz_4 := Lib.hid (kz_3.out.below hBw)
  have d_4 := Lib.hid (h)
  have HB_4 := Lib.hid (below_trans HB_3.out hBw)
  clear hBw hb A_3 B_3 Z_3 kz_3 HB_3
  clear h
  go_wp2_with fail
  generalize hW : w4.alloc (.cells #[.bool b4, .slice A4 n4 c4, .bool d4, .slice B4 m4 k4] 27) = w5
  have hz_5 := Lib.hid (show w5.heap.size = w4.heap.size + 1 from by rw [← hW]; simp)
  have A_5 := Lib.hid (hW ▸ A_4.out.alloc_ _)
  have B_5 := Lib.hid (hW ▸ B_4.out.alloc_ _)
  have Z_5 := Lib.hid (hW ▸ Z_4.out.alloc_ _)
  have kz_5 := Lib.hid (hW ▸ kz_4.out.alloc_ _)
  have d_5 := Lib.hid (hW ▸ d_4.out.alloc_ _)
  have k1_5 : Hid (Blk w5 w4.heap.size 27 #[.bool b4, .slice A4 n4 c4, .bool d4, .slice B4 m4 k4]) := by rw [← hW]; exact Blk.new _ _ rfl _ _
  have HB_5 := Lib.hid (show Below w.heap.size w w5 from hW ▸ halloc HB_4.out)
  clear hW A_4 B_4 Z_4 kz_4 d_4 HB_4
  refine Calls.mono (ldot (K := 40) B_5.out A_5.out (by omega) (by omega) (by omega) (by omega) BG.out (by omega) (by omega)) ?_
  rintro e w6 ⟨v, rfl, h, hb⟩
  obtain ⟨b6, A6, n6, c6, d6, B6, m6, k6, rfl, -, -, -, -, -⟩ := h.form
  have hBw := (show Below w5.heap.size w5 w6 from by first | exact hb | exact bundrew hb)
  have A_6 := Lib.hid (A_5.out.below hBw)
  have B_6 := Lib.hid (B_5.out.below hBw)
  have Z_6 := Lib.hid (Z_5.out.below hBw)
  have kz_6 := Lib.hid (kz_5.out.below hBw)
  have d_6 := Lib.hid (d_5.out.below hBw)
  have k1_6 := Lib.hid (k1_5.out.below hBw)
  have e_6 := Lib.hid (h)
  have HB_6 := Lib.hid (below_trans HB_5.out hBw)
  clear hBw hb A_5 B_5 Z_5 kz_5 d_5 k1_5 HB_5
  clear h
  go_wp2_with (at_make; generalize hW : (w6.alloc (.cells #[.bool b6, .slice A6 n6 c6, .bool d6, .slice B6 m6 k6] 27)) = w7; refine wpList_make_rats rfl rfl _ _ rfl w7.heap.size _ _ _ _ n rfl rfl rfl rfl (by omega) (Nat.le_refl _) ?_; intro w8 hown hb hsw; have A_7 := Lib.hid (hW ▸ A_6.out.alloc_ _); have B_7 := Lib.hid (hW ▸ B_6.out.alloc_ _); have Z_7 := Lib.hid (hW ▸ Z_6.out.alloc_ _); have kz_7 := Lib.hid (hW ▸ kz_6.out.alloc_ _); have d_7 := Lib.hid (hW ▸ d_6.out.alloc_ _); have k1_7 := Lib.hid (hW ▸ k1_6.out.alloc_ _); have e_7 := Lib.hid (hW ▸ e_6.out.alloc_ _); have k2_7 : Hid (Blk w7 w6.heap.size 27 #[.bool b6, .slice A6 n6 c6, .bool d6, .slice B6 m6 k6]) := hW ▸ Blk.new _ _ rfl _ _; have HB_7 := Lib.hid (show Below w.heap.size w w7 from hW ▸ halloc HB_6.out); clear hW A_6 B_6 Z_6 kz_6 d_6 k1_6 e_6 HB_6; have hO := Lib.hid (OwnR.zeros hown (by omega)); clear hown hsw; have hBw := (show Below w7.heap.size w7 w8 from by first | exact hb | exact bundrew hb); have A_8 := Lib.hid (A_7.out.below hBw); have B_8 := Lib.hid (B_7.out.below hBw); have Z_8 := Lib.hid (Z_7.out.below hBw); have kz_8 := Lib.hid (kz_7.out.below hBw); have d_8 := Lib.hid (d_7.out.below hBw); have k1_8 := Lib.hid (k1_7.out.below hBw); have e_8 := Lib.hid (e_7.out.below hBw); have k2_8 := Lib.hid (k2_7.out.below hBw); have o_8 := Lib.hid (hO.out); have HB_8 := Lib.hid (below_trans HB_7.out hBw); clear hBw hb A_7 B_7 Z_7 kz_7 d_7 k1_7 e_7 k2_7 HB_7; clear hO; obtain ⟨u0, u1, u2, u3, ul⟩ := kz_8.out.use4)
  refine Calls.mono (laddTimes (K := 4) o_8.out A_8.out Z_8.out (by omega) (by omega) (by omega) (by omega) (by omega) (by omega) (by omega)) ?_
  rintro e w9 ⟨v, rfl, h, hb⟩
  obtain ⟨SA, SC, rfl, _, _⟩ := h.rowQ.len
  have hBw := (show Below w8.heap.size w8 w9 from by first | exact hb | exact bundrew hb)
  have A_9 := Lib.hid (A_8.out.below hBw)
  have B_9 := Lib.hid (B_8.out.below hBw)
  have Z_9 := Lib.hid (Z_8.out.below hBw)
  have kz_9 := Lib.hid (kz_8.out.below hBw)
  have d_9 := Lib.hid (d_8.out.below hBw)
  have k1_9 := Lib.hid (k1_8.out.below hBw)
  have e_9 := Lib.hid (e_8.out.below hBw)
  have k2_9 := Lib.hid (k2_8.out.below hBw)
  have o_9 := Lib.hid (o_8.out.below hBw)
  have s_9 := Lib.hid (h)
  have HB_9 := Lib.hid (below_trans HB_8.out hBw)
  clear hBw hb A_8 B_8 Z_8 kz_8 d_8 k1_8 e_8 k2_8 o_8 HB_8
  clear h u0 u1 u2 u3 ul
  have BH : Hid (∀ i, i ≤ n → BQ 64 (dotF (fun i => 0 + f i * z) h i)) := fun i hi => dotF_bq i (fun j hj => s_9.out.rowQ.bq (by omega) (by omega)) (fun j hj => B_9.out.bq (by omega) (by omega)) (by omega)
  go_wp2_with fail
  refine Calls.mono (ldot (K := 64) s_9.out.rowQ B_9.out (by omega) (by omega) (by omega) (by omega) BH.out (by omega) (by omega)) ?_
  rintro e w10 ⟨v, rfl, h, hb⟩
  obtain ⟨b10, A10, n10, c10, d10, B10, m10, k10, rfl, -, -, -, -, -⟩ := h.form
  have hBw := (show Below w9.heap.size w9 w10 from by first | exact hb | exact bundrew hb)
  have A_10 := Lib.hid (A_9.out.below hBw)
  have B_10 := Lib.hid (B_9.out.below hBw)
  have Z_10 := Lib.hid (Z_9.out.below hBw)
  have kz_10 := Lib.hid (kz_9.out.below hBw)
  have d_10 := Lib.hid (d_9.out.below hBw)
  have k1_10 := Lib.hid (k1_9.out.below hBw)
  have e_10 := Lib.hid (e_9.out.below hBw)
  have k2_10 := Lib.hid (k2_9.out.below hBw)
  have o_10 := Lib.hid (o_9.out.below hBw)
  have s_10 := Lib.hid (s_9.out.below hBw)
  have zz_10 := Lib.hid (h)
  have HB_10 := Lib.hid (below_trans HB_9.out hBw)
  clear hBw hb A_9 B_9 Z_9 kz_9 d_9 k1_9 e_9 k2_9 o_9 s_9 HB_9
  clear h
  go_wp2
  generalize hW : w10.alloc (.cells #[.bool b10, .slice A10 n10 c10, .bool d10, .slice B10 m10 k10] 27) = w11
  have hz_11 := Lib.hid (show w11.heap.size = w10.heap.size + 1 from by rw [← hW]; simp)
  have A_11 := Lib.hid (hW ▸ A_10.out.alloc_ _)
  have B_11 := Lib.hid (hW ▸ B_10.out.alloc_ _)
  have Z_11 := Lib.hid (hW ▸ Z_10.out.alloc_ _)
  have kz_11 := Lib.hid (hW ▸ kz_10.out.alloc_ _)
  have d_11 := Lib.hid (hW ▸ d_10.out.alloc_ _)
  have k1_11 := Lib.hid (hW ▸ k1_10.out.alloc_ _)
  have e_11 := Lib.hid (hW ▸ e_10.out.alloc_ _)
  have k2_11 := Lib.hid (hW ▸ k2_10.out.alloc_ _)
  have o_11 := Lib.hid (hW ▸ o_10.out.alloc_ _)
  have s_11 := Lib.hid (hW ▸ s_10.out.alloc_ _)
  have zz_11 := Lib.hid (hW ▸ zz_10.out.alloc_ _)
  have k3_11 : Hid (Blk w11 w10.heap.size 27 #[.bool b10, .slice A10 n10 c10, .bool d10, .slice B10 m10 k10]) := by rw [← hW]; exact Blk.new _ _ rfl _ _
  have HB_11 := Lib.hid (show Below w.heap.size w w11 from hW ▸ halloc HB_10.out)
  clear hW A_10 B_10 Z_10 kz_10 d_10 k1_10 e_10 k2_10 o_10 s_10 zz_10 HB_10
  obtain ⟨x11_0_0, x11_0_1, x11_0_2, x11_0_3, x11_0_l⟩ := kz_11.out.use4
  obtain ⟨x11_1_0, x11_1_1, x11_1_2, x11_1_3, x11_1_l⟩ := k1_11.out.use4
  obtain ⟨x11_2_0, x11_2_1, x11_2_2, x11_2_3, x11_2_l⟩ := k2_11.out.use4
  obtain ⟨x11_3_0, x11_3_1, x11_3_2, x11_3_3, x11_3_l⟩ := k3_11.out.use4
  have BP : Hid (BQ 41 (z * dotF f h n)) := BQ.mul (Z_11.out.bq (by omega)) (BF.out n (Nat.le_refl n)) (by omega)
  refine wp_region_held_drew (S := (fun w' => w'.cell? ⟨w.heap.size, 0, none⟩ = some (.bool xb) ∧ w'.cell? ⟨w.heap.size, 1, none⟩ = some (.slice xA xn xc) ∧ w'.cell? ⟨w.heap.size, 2, none⟩ = some (.bool xd) ∧ w'.cell? ⟨w.heap.size, 3, none⟩ = some (.slice xB xm xk) ∧ w'.cell? ⟨w4.heap.size, 0, none⟩ = some (.bool b4) ∧ w'.cell? ⟨w4.heap.size, 1, none⟩ = some (.slice A4 n4 c4) ∧ w'.cell? ⟨w4.heap.size, 2, none⟩ = some (.bool d4) ∧ w'.cell? ⟨w4.heap.size, 3, none⟩ = some (.slice B4 m4 k4) ∧ w'.cell? ⟨w6.heap.size, 0, none⟩ = some (.bool b6) ∧ w'.cell? ⟨w6.heap.size, 1, none⟩ = some (.slice A6 n6 c6) ∧ w'.cell? ⟨w6.heap.size, 2, none⟩ = some (.bool d6) ∧ w'.cell? ⟨w6.heap.size, 3, none⟩ = some (.slice B6 m6 k6) ∧ w'.cell? ⟨w10.heap.size, 0, none⟩ = some (.bool b10) ∧ w'.cell? ⟨w10.heap.size, 1, none⟩ = some (.slice A10 n10 c10) ∧ w'.cell? ⟨w10.heap.size, 2, none⟩ = some (.bool d10) ∧ w'.cell? ⟨w10.heap.size, 3, none⟩ = some (.slice B10 m10 k10))) (by kernel_rfl) ?_ (fun hHeld => ?_)
  · (first | (refine ⟨?_, ?_, ?_, ?_, ?_, ?_, ?_, ?_, ?_, ?_, ?_, ?_, ?_, ?_, ?_, ?_⟩ <;> (first | with_reducible assumption | ((with_reducible refine Eq.trans (cell_drew _ _) ?_); with_reducible assumption) | go_keep)) | go_keep)
  refine wpAnyH_take (i := 0) (v := ?_) rfl (by kernel_rfl) (by kernel_rfl) (by kernel_rfl) (fun _ _ _ h => h) (Or.inl ⟨by kernel_rfl, ?_⟩) (by assumption) ?_
  rotate_left
  · intro w hSw; (try dsimp only at hSw); go_simp <;> (try with_reducible rfl)
  (try simp only [Act.put, List.setIfInBounds_toArray, List.set_cons_zero, List.set_cons_succ, List.getElem_toArray, List.getElem_cons_succ, List.getElem_cons_zero])
  refine wpAnyH_take (i := 1) (v := ?_) rfl (by kernel_rfl) (by kernel_rfl) (by kernel_rfl) (fun _ _ _ h => h) (Or.inl ⟨by kernel_rfl, ?_⟩) (by assumption) ?_
  rotate_left
  · intro w hSw; (try dsimp only at hSw); go_simp <;> (try with_reducible rfl)
  (try simp only [Act.put, List.setIfInBounds_toArray, List.set_cons_zero, List.set_cons_succ, List.getElem_toArray, List.getElem_cons_succ, List.getElem_cons_zero])
  refine wpAnyH_take (i := 2) (v := ?_) rfl (by kernel_rfl) (by kernel_rfl) (by kernel_rfl) (fun _ _ _ h => h) (Or.inl ⟨by kernel_rfl, ?_⟩) (by assumption) ?_
  rotate_left
  · intro w hSw; (try dsimp only at hSw); go_simp <;> (try with_reducible rfl)
  (try simp only [Act.put, List.setIfInBounds_toArray, List.set_cons_zero, List.set_cons_succ, List.getElem_toArray, List.getElem_cons_succ, List.getElem_cons_zero])
  refine wpAnyH_take (i := 3) (v := ?_) rfl (by kernel_rfl) (by kernel_rfl) (by kernel_rfl) (fun _ _ _ h => h) (Or.inl ⟨by kernel_rfl, ?_⟩) (by assumption) ?_
  rotate_left
  · intro w hSw; (try dsimp only at hSw); go_simp <;> (try with_reducible rfl)
  (try simp only [Act.put, List.setIfInBounds_toArray, List.set_cons_zero, List.set_cons_succ, List.getElem_toArray, List.getElem_cons_succ, List.getElem_cons_zero])
  refine wpAnyH_take (i := 4) (v := ?_) rfl (by kernel_rfl) (by kernel_rfl) (by kernel_rfl) (fun _ _ _ h => h) (Or.inl ⟨by kernel_rfl, ?_⟩) (by assumption) ?_
  rotate_left
  · intro w hSw; (try dsimp only at hSw); go_simp <;> (try with_reducible rfl)
  (try simp only [Act.put, List.setIfInBounds_toArray, List.set_cons_zero, List.set_cons_succ, List.getElem_toArray, List.getElem_cons_succ, List.getElem_cons_zero])
  refine wpAnyH_take (i := 5) (v := ?_) rfl (by kernel_rfl) (by kernel_rfl) (by kernel_rfl) (fun _ _ _ h => h) (Or.inl ⟨by kernel_rfl, ?_⟩) (by assumption) ?_
  rotate_left
  · intro w hSw; (try dsimp only at hSw); go_simp <;> (try with_reducible rfl)
  (try simp only [Act.put, List.setIfInBounds_toArray, List.set_cons_zero, List.set_cons_succ, List.getElem_toArray, List.getElem_cons_succ, List.getElem_cons_zero])
  refine wpAnyH_take (i := 6) (v := ?_) rfl (by kernel_rfl) (by kernel_rfl) (by kernel_rfl) (fun _ _ _ h => h) (Or.inl ⟨by kernel_rfl, ?_⟩) (by assumption) ?_
  rotate_left
  · intro w hSw; (try dsimp only at hSw); go_simp <;> (try with_reducible rfl)
  (try simp only [Act.put, List.setIfInBounds_toArray, List.set_cons_zero, List.set_cons_succ, List.getElem_toArray, List.getElem_cons_succ, List.getElem_cons_zero])
  refine wpAnyH_ready (rs := [7]) (by kernel_rfl) (by simp) ?_
  refine AllReadyH.cons rfl (fun Kz hKz => ?_) AllReadyH.nil
  go_simp
  refine Calls.mono (rat_same d_11.out.drew_ (dotF_comm h f n ▸ e_11.out).drew_ (BF.out n (Nat.le_refl n)) (by omega)) ?_
  rintro e w12 ⟨rfl, hb⟩
  have hBw := (show Below w11.heap.size w11 w12 from by first | exact hb | exact bundrew hb)
  have A_12 := Lib.hid (A_11.out.below hBw)
  have B_12 := Lib.hid (B_11.out.below hBw)
  have Z_12 := Lib.hid (Z_11.out.below hBw)
  have kz_12 := Lib.hid (kz_11.out.below hBw)
  have d_12 := Lib.hid (d_11.out.below hBw)
  have k1_12 := Lib.hid (k1_11.out.below hBw)
  have e_12 := Lib.hid (e_11.out.below hBw)
  have k2_12 := Lib.hid (k2_11.out.below hBw)
  have o_12 := Lib.hid (o_11.out.below hBw)
  have s_12 := Lib.hid (s_11.out.below hBw)
  have zz_12 := Lib.hid (zz_11.out.below hBw)
  have k3_12 := Lib.hid (k3_11.out.below hBw)
  have HB_12 := Lib.hid (below_trans HB_11.out hBw)
  clear hBw hb A_11 B_11 Z_11 kz_11 d_11 k1_11 e_11 k2_11 o_11 s_11 zz_11 k3_11 HB_11
  obtain ⟨x12_0_0, x12_0_1, x12_0_2, x12_0_3, x12_0_l⟩ := kz_12.out.use4
  obtain ⟨x12_1_0, x12_1_1, x12_1_2, x12_1_3, x12_1_l⟩ := k1_12.out.use4
  obtain ⟨x12_2_0, x12_2_1, x12_2_2, x12_2_3, x12_2_l⟩ := k2_12.out.use4
  obtain ⟨x12_3_0, x12_3_1, x12_3_2, x12_3_3, x12_3_l⟩ := k3_12.out.use4
  clear x11_0_0 x11_0_1 x11_0_2 x11_0_3 x11_0_l x11_1_0 x11_1_1 x11_1_2 x11_1_3 x11_1_l x11_2_0 x11_2_1 x11_2_2 x11_2_3 x11_2_l x11_3_0 x11_3_1 x11_3_2 x11_3_3 x11_3_l

  refine hKz.out _ _ ?_ (fun hHeld => ?_)
  · (try dsimp only); (first | (refine ⟨?_, ?_, ?_, ?_, ?_, ?_, ?_, ?_, ?_, ?_, ?_, ?_, ?_, ?_, ?_, ?_⟩ <;> (first | with_reducible assumption | ((with_reducible refine Eq.trans (cell_drew _ _) ?_); with_reducible assumption) | go_keep)) | go_keep)
  clear hKz Kz
  (try simp only [Act.put, List.setIfInBounds_toArray, List.set_cons_zero, List.set_cons_succ, List.getElem_toArray, List.getElem_cons_succ, List.getElem_cons_zero])
  refine wpAnyH_take (i := 8) (v := ?_) rfl (by kernel_rfl) (by kernel_rfl) (by kernel_rfl) (fun _ _ _ h => h) (Or.inl ⟨by kernel_rfl, ?_⟩) (by assumption) ?_
  rotate_left
  · intro w hSw; (try dsimp only at hSw); go_simp <;> (try with_reducible rfl)
  (try simp only [Act.put, List.setIfInBounds_toArray, List.set_cons_zero, List.set_cons_succ, List.getElem_toArray, List.getElem_cons_succ, List.getElem_cons_zero])
  refine wpAnyH_take (i := 9) (v := ?_) rfl (by kernel_rfl) (by kernel_rfl) (by kernel_rfl) (fun _ _ _ h => h) (Or.inl ⟨by kernel_rfl, ?_⟩) (by assumption) ?_
  rotate_left
  · intro w hSw; (try dsimp only at hSw); go_simp <;> (try with_reducible rfl)
  (try simp only [Act.put, List.setIfInBounds_toArray, List.set_cons_zero, List.set_cons_succ, List.getElem_toArray, List.getElem_cons_succ, List.getElem_cons_zero])
  refine wpAnyH_take (i := 10) (v := ?_) rfl (by kernel_rfl) (by kernel_rfl) (by kernel_rfl) (fun _ _ _ h => h) (Or.inl ⟨by kernel_rfl, ?_⟩) (by assumption) ?_
  rotate_left
  · intro w hSw; (try dsimp only at hSw); go_simp <;> (try with_reducible rfl)
  (try simp only [Act.put, List.setIfInBounds_toArray, List.set_cons_zero, List.set_cons_succ, List.getElem_toArray, List.getElem_cons_succ, List.getElem_cons_zero])
  refine wpAnyH_take (i := 11) (v := ?_) rfl (by kernel_rfl) (by kernel_rfl) (by kernel_rfl) (fun _ _ _ h => h) (Or.inl ⟨by kernel_rfl, ?_⟩) (by assumption) ?_
  rotate_left
  · intro w hSw; (try dsimp only at hSw); go_simp <;> (try with_reducible rfl)
  (try simp only [Act.put, List.setIfInBounds_toArray, List.set_cons_zero, List.set_cons_succ, List.getElem_toArray, List.getElem_cons_succ, List.getElem_cons_zero])
  refine wpAnyH_take (i := 12) (v := ?_) rfl (by kernel_rfl) (by kernel_rfl) (by kernel_rfl) (fun _ _ _ h => h) (Or.inl ⟨by kernel_rfl, ?_⟩) (by assumption) ?_
  rotate_left
  · intro w hSw; (try dsimp only at hSw); go_simp <;> (try with_reducible rfl)
  (try simp only [Act.put, List.setIfInBounds_toArray, List.set_cons_zero, List.set_cons_succ, List.getElem_toArray, List.getElem_cons_succ, List.getElem_cons_zero])
  refine wpAnyH_ready (rs := [13]) (by kernel_rfl) (by simp) ?_
  refine AllReadyH.cons rfl (fun Kz hKz => ?_) AllReadyH.nil
  go_simp
  refine Calls.mono (rmul_q Z_12.out (d_12.out.limQ (BF.out n (Nat.le_refl n))) (by omega) (by omega) (by omega) (by omega)) ?_
  rintro e w13 ⟨v, rfl, h, hb⟩
  obtain ⟨b13, A13, n13, c13, d13, B13, m13, k13, rfl, -, -, -, -, -⟩ := h.form
  have hBw := (show Below w12.heap.size w12 w13 from by first | exact hb | exact bundrew hb)
  have A_13 := Lib.hid (A_12.out.below hBw)
  have B_13 := Lib.hid (B_12.out.below hBw)
  have Z_13 := Lib.hid (Z_12.out.below hBw)
  have kz_13 := Lib.hid (kz_12.out.below hBw)
  have d_13 := Lib.hid (d_12.out.below hBw)
  have k1_13 := Lib.hid (k1_12.out.below hBw)
  have e_13 := Lib.hid (e_12.out.below hBw)
  have k2_13 := Lib.hid (k2_12.out.below hBw)
  have o_13 := Lib.hid (o_12.out.below hBw)
  have s_13 := Lib.hid (s_12.out.below hBw)
  have zz_13 := Lib.hid (zz_12.out.below hBw)
  have k3_13 := Lib.hid (k3_12.out.below hBw)
  have pr_13 := Lib.hid (h)
  have HB_13 := Lib.hid (below_trans HB_12.out hBw)
  clear hBw hb A_12 B_12 Z_12 kz_12 d_12 k1_12 e_12 k2_12 o_12 s_12 zz_12 k3_12 HB_12
  clear h
  obtain ⟨x13_0_0, x13_0_1, x13_0_2, x13_0_3, x13_0_l⟩ := kz_13.out.use4
  obtain ⟨x13_1_0, x13_1_1, x13_1_2, x13_1_3, x13_1_l⟩ := k1_13.out.use4
  obtain ⟨x13_2_0, x13_2_1, x13_2_2, x13_2_3, x13_2_l⟩ := k2_13.out.use4
  obtain ⟨x13_3_0, x13_3_1, x13_3_2, x13_3_3, x13_3_l⟩ := k3_13.out.use4
  clear x12_0_0 x12_0_1 x12_0_2 x12_0_3 x12_0_l x12_1_0 x12_1_1 x12_1_2 x12_1_3 x12_1_l x12_2_0 x12_2_1 x12_2_2 x12_2_3 x12_2_l x12_3_0 x12_3_1 x12_3_2 x12_3_3 x12_3_l

  refine hKz.out _ _ ?_ (fun hHeld => ?_)
  · (try dsimp only); (first | (refine ⟨?_, ?_, ?_, ?_, ?_, ?_, ?_, ?_, ?_, ?_, ?_, ?_, ?_, ?_, ?_, ?_⟩ <;> (first | with_reducible assumption | ((with_reducible refine Eq.trans (cell_drew _ _) ?_); with_reducible assumption) | go_keep)) | go_keep)
  clear hKz Kz
  (try simp only [Act.put, List.setIfInBounds_toArray, List.set_cons_zero, List.set_cons_succ, List.getElem_toArray, List.getElem_cons_succ, List.getElem_cons_zero])
  refine wpAnyH_ready (rs := [14]) (by kernel_rfl) (by simp) ?_
  refine AllReadyH.cons rfl (fun Kz hKz => ?_) AllReadyH.nil
  go_simp
  refine Calls.mono (rcmp_is (k := 64) (l := 41) 0 (cmpQ_eq (dotF_times f h z n)) (zz_13.out.limQ (BH.out n (Nat.le_refl n))) (pr_13.out.limQ BP.out) (by omega) (by omega) (by omega) (by omega)) ?_
  rintro e w14 ⟨rfl, hb⟩
  have hBw := (show Below w13.heap.size w13 w14 from by first | exact hb | exact bundrew hb)
  have A_14 := Lib.hid (A_13.out.below hBw)
  have B_14 := Lib.hid (B_13.out.below hBw)
  have Z_14 := Lib.hid (Z_13.out.below hBw)
  have kz_14 := Lib.hid (kz_13.out.below hBw)
  have d_14 := Lib.hid (d_13.out.below hBw)
  have k1_14 := Lib.hid (k1_13.out.below hBw)
  have e_14 := Lib.hid (e_13.out.below hBw)
  have k2_14 := Lib.hid (k2_13.out.below hBw)
  have o_14 := Lib.hid (o_13.out.below hBw)
  have s_14 := Lib.hid (s_13.out.below hBw)
  have zz_14 := Lib.hid (zz_13.out.below hBw)
  have k3_14 := Lib.hid (k3_13.out.below hBw)
  have pr_14 := Lib.hid (pr_13.out.below hBw)
  have HB_14 := Lib.hid (below_trans HB_13.out hBw)
  clear hBw hb A_13 B_13 Z_13 kz_13 d_13 k1_13 e_13 k2_13 o_13 s_13 zz_13 k3_13 pr_13 HB_13
  obtain ⟨x14_0_0, x14_0_1, x14_0_2, x14_0_3, x14_0_l⟩ := kz_14.out.use4
  obtain ⟨x14_1_0, x14_1_1, x14_1_2, x14_1_3, x14_1_l⟩ := k1_14.out.use4
  obtain ⟨x14_2_0, x14_2_1, x14_2_2, x14_2_3, x14_2_l⟩ := k2_14.out.use4
  obtain ⟨x14_3_0, x14_3_1, x14_3_2, x14_3_3, x14_3_l⟩ := k3_14.out.use4
  clear x13_0_0 x13_0_1 x13_0_2 x13_0_3 x13_0_l x13_1_0 x13_1_1 x13_1_2 x13_1_3 x13_1_l x13_2_0 x13_2_1 x13_2_2 x13_2_3 x13_2_l x13_3_0 x13_3_1 x13_3_2 x13_3_3 x13_3_l

  refine hKz.out _ _ ?_ (fun hHeld => ?_)
  · (try dsimp only); (first | (refine ⟨?_, ?_, ?_, ?_, ?_, ?_, ?_, ?_, ?_, ?_, ?_, ?_, ?_, ?_, ?_, ?_⟩ <;> (first | with_reducible assumption | ((with_reducible refine Eq.trans (cell_drew _ _) ?_); with_reducible assumption) | go_keep)) | go_keep)
  clear hKz Kz
  (try simp only [Act.put, List.setIfInBounds_toArray, List.set_cons_zero, List.set_cons_succ, List.getElem_toArray, List.getElem_cons_succ, List.getElem_cons_zero])
  refine wpAnyH_take (i := 15) (v := ?_) rfl (by kernel_rfl) (by kernel_rfl) (by kernel_rfl) (fun _ _ _ h => h) (Or.inl ⟨by kernel_rfl, ?_⟩) (by assumption) ?_
  rotate_left
  · intro w hSw; (try dsimp only at hSw); go_simp <;> (try with_reducible rfl)
  (try simp only [Act.put, List.setIfInBounds_toArray, List.set_cons_zero, List.set_cons_succ, List.getElem_toArray, List.getElem_cons_succ, List.getElem_cons_zero])
  refine wpAnyH_take (i := 16) (v := ?_) rfl (by kernel_rfl) (by kernel_rfl) (by kernel_rfl) (fun _ _ _ h => h) (Or.inl ⟨by kernel_rfl, ?_⟩) (by assumption) ?_
  rotate_left
  · intro w hSw; (try dsimp only at hSw); go_simp <;> (try with_reducible rfl)
  (try simp only [Act.put, List.setIfInBounds_toArray, List.set_cons_zero, List.set_cons_succ, List.getElem_toArray, List.getElem_cons_succ, List.getElem_cons_zero])
  refine wpAnyH_take (i := 17) (v := ?_) rfl (by kernel_rfl) (by kernel_rfl) (by kernel_rfl) (fun _ _ _ h => h) (Or.inl ⟨by kernel_rfl, ?_⟩) (by assumption) ?_
  rotate_left
  · intro w hSw; (try dsimp only at hSw); go_simp <;> (try with_reducible rfl)
  (try simp only [Act.put, List.setIfInBounds_toArray, List.set_cons_zero, List.set_cons_succ, List.getElem_toArray, List.getElem_cons_succ, List.getElem_cons_zero])
  refine wpAnyH_done (by kernel_rfl) ?_ _
  go_wp2
  go_ret
  exact ⟨rfl, HB_14.out⟩

set_option maxRecDepth 100000 in
set_option maxHeartbeats 4000000 in
theorem dots_ne (A : Option Addr) (ca : Nat) (B : Option Addr) (cb : Nat) (xb : Bool) (xA : Option Addr) (xn xc : Nat) (xd : Bool) (xB : Option Addr) (xm xk : Nat) (n m : Nat) (X Y : Nat → RatD) (f h : Nat → Rat) (z : Rat) (w : World) (ha : RowR w (.slice A n ca) n X f) (hb : RowR w (.slice B m cb) m Y h) (hz : RatR w ⟨xb, xA, xn, xc, xd, xB, xm, xk⟩ z) (hnm : n ≠ m) :
    Calls Tryz.prog 7 #[.slice A n ca, .slice B m cb, (.agg #[.bool xb, .slice xA xn xc, .bool xd, .slice xB xm xk])] w fun e w' => e = .returned (.bool true) ∧ Below w.heap.size w w' := by
  have a_0 := Lib.hid ha
  have b_0 := Lib.hid hb
  have z_0 := Lib.hid hz
  clear ha hb hz
  have hnm0 : ¬ ((n : Int) = (m : Int)) := by omega
  go_enter Tryz.func7, Tryz.ntmps7
  go_wp2_with fail
  generalize hW : w.alloc (.cells #[.bool xb, .slice xA xn xc, .bool xd, .slice xB xm xk] 27) = w1
  have hz_1 := Lib.hid (show w1.heap.size = w.heap.size + 1 from by rw [← hW]; simp)
  have a_1 := Lib.hid (hW ▸ a_0.out.alloc_ _)
  have b_1 := Lib.hid (hW ▸ b_0.out.alloc_ _)
  have z_1 := Lib.hid (hW ▸ z_0.out.alloc_ _)
  have kz_1 : Hid (Blk w1 w.heap.size 27 #[.bool xb, .slice xA xn xc, .bool xd, .slice xB xm xk]) := by rw [← hW]; exact Blk.new _ _ rfl _ _
  have HB_1 := Lib.hid (show Below w.heap.size w w1 from hW ▸ halloc (Below.refl _ _))
  clear hW a_0 b_0 z_0 
  refine Calls.mono (awake10 _) ?_
  rintro e w2 ⟨rfl, hb⟩
  have hBw := (show Below w1.heap.size w1 w2 from by first | exact hb | exact bundrew hb)
  have a_2 := Lib.hid (a_1.out.below hBw)
  have b_2 := Lib.hid (b_1.out.below hBw)
  have z_2 := Lib.hid (z_1.out.below hBw)
  have kz_2 := Lib.hid (kz_1.out.below hBw)
  have HB_2 := Lib.hid (below_trans HB_1.out hBw)
  clear hBw hb a_1 b_1 z_1 kz_1 HB_1
  go_wp2_with fail
  refine Calls.mono (rfew (N := 10) a_2.out (by omega)) ?_
  rintro e wq ⟨⟨b, rfl, hb⟩, hw⟩
  have hw' := hw.symm
  subst hw'
  clear hw
  cases b
  · clear hb
    go_wp2
    go_ret
    exact ⟨rfl, HB_2.out⟩
  have hfa := Lib.hid (hb.1 rfl)
  clear hb
  go_wp2_with fail
  refine Calls.mono (rfew (N := 10) b_2.out (by omega)) ?_
  rintro e wq ⟨⟨b, rfl, hb⟩, hw⟩
  have hw' := hw.symm
  subst hw'
  clear hw
  cases b
  · clear hb
    go_wp2
    go_ret
    exact ⟨rfl, HB_2.out⟩
  have hfb := Lib.hid (hb.1 rfl)
  clear hb
  obtain ⟨u0, u1, u2, u3, ul⟩ := kz_2.out.use4
  go_wp2_with fail
  generalize hW : w2.alloc (.cells #[.bool xb, .slice xA xn xc, .bool xd, .slice xB xm xk] 27) = w3
  have hz_3 := Lib.hid (show w3.heap.size = w2.heap.size + 1 from by rw [← hW]; simp)
  have a_3 := Lib.hid (hW ▸ a_2.out.alloc_ _)
  have b_3 := Lib.hid (hW ▸ b_2.out.alloc_ _)
  have z_3 := Lib.hid (hW ▸ z_2.out.alloc_ _)
  have kz_3 := Lib.hid (hW ▸ kz_2.out.alloc_ _)
  have zr_3 : Hid (RowR w3 (.slice (some ⟨w2.heap.size, 0, none⟩) 1 1) 1 (fun _ => ⟨xb, xA, xn, xc, xd, xB, xm, xk⟩) (fun _ => z)) := by rw [← hW]; exact rowR_one (x := ⟨xb, xA, xn, xc, xd, xB, xm, xk⟩) rfl z_2.out
  have HB_3 := Lib.hid (show Below w.heap.size w w3 from hW ▸ halloc HB_2.out)
  clear hW a_2 b_2 z_2 kz_2 HB_2
  refine Calls.mono (rfew (N := 1) zr_3.out (by omega)) ?_
  rintro e wq ⟨⟨b, rfl, hb⟩, hw⟩
  have hw' := hw.symm
  subst hw'
  clear hw
  cases b
  · clear hb
    go_wp2
    go_ret
    exact ⟨rfl, HB_3.out⟩
  have hfz := Lib.hid (hb.1 rfl)
  clear hb
  clear hfa hfb hfz
  go_wp2
  go_ret
  exact ⟨rfl, HB_3.out⟩

theorem lin_dots (A : Option Addr) (ca : Nat) (B : Option Addr) (cb : Nat) (x : RatD) (n m : Nat) (X Y : Nat → RatD) (f h : Nat → Rat) (z : Rat) (w : World) (ha : RowR w (.slice A n ca) n X f) (hb : RowR w (.slice B m cb) m Y h) (hz : RatR w x z) :
    Calls Tryz.prog 7 #[.slice A n ca, .slice B m cb, x.val] w fun e w' => e = .returned (.bool true) ∧ Below w.heap.size w w' := by
  by_cases hnm : n = m
  · exact dots_eq A ca B cb _ _ _ _ _ _ _ _ n m X Y f h z w ha hb hz hnm
  · exact dots_ne A ca B cb _ _ _ _ _ _ _ _ n m X Y f h z w ha hb hz hnm
end Go.Proofs.YtebdmidghidaeaaGreat
