/- LinRows. -/
import Derived.Test.YtebdmidghidaeaaGreatPYs
import Derived.Test.YtebdmidghidaeaaGreatPYt
namespace Go.Proofs.YtebdmidghidaeaaGreat
open Go.RowKit
attribute [local go_sem ↓] Go.wp_at_zero Go.wp_at_succ
set_option linter.unusedVariables false
set_option linter.unusedSimpArgs false

def RatR (w : World) (x : RatD) (z : Rat) : Prop := x.n ≤ 1 → x.n' ≤ 1 → LimQ 1 w x.val z
theorem RatR.below {w w' : World} {x : RatD} {z : Rat} (h : RatR w x z) (hb : Below w.heap.size w w') : RatR w' x z := fun a b => (h a b).below hb
theorem RatR.alloc_ {w : World} {x : RatD} {z : Rat} (h : RatR w x z) (o : Obj) : RatR (w.alloc o) x z := h.below (below_new w o)
theorem RowR.alloc_ {w : World} {v : Value} {n : Nat} {X : Nat → RatD} {q : Nat → Rat} (h : RowR w v n X q) (o : Obj) : RowR (w.alloc o) v n X q := h.below (below_new w o)
theorem rowR_one {w : World} {g : Nat} (hg : g = w.heap.size) {x : RatD} {z : Rat} (h : RatR w x z) : RowR (w.alloc (.cells #[.bool x.b, .slice x.A x.n x.c, .bool x.b', .slice x.A' x.n' x.c'] 27)) (.slice (some ⟨g, 0, none⟩) 1 1) 1 (fun _ => x) (fun _ => z) :=
  ⟨_, 1, rfl, ⟨Nat.le_refl _, fun e => by cases e⟩, by omega, rowAt_one w g hg x, fun i hi a b => (h a b).alloc_ _⟩
/-- Two rows of any length made a table of. -/
theorem tabQ2 {p : Bool} {k n m : Nat} {w : World} {g : Nat} (hg : g = w.heap.size) {v1 v2 : Value} {F G : Nat → Rat} (h1 : RowQ p k w v1 n F) (h2 : RowQ p k w v2 m G) :
    TabQ p k (w.alloc (.cells #[v1, v2] 22)) (.slice (some ⟨g, 0, none⟩) 2 2) 2 (fun i => if i = 0 then n else m) (twoT F G) := by
  have hk := Blk.new w g hg 22 #[v1, v2]
  refine ⟨_, 2, rfl, ⟨Nat.le_refl _, fun e => by cases e⟩, by omega, fun i hi => ?_⟩
  have : i = 0 ∨ i = 1 := by omega
  rcases this with rfl | rfl
  · exact ⟨_, _, rfl, hk.lt, hk.cell 0, h1.alloc_ _⟩
  · exact ⟨_, _, rfl, hk.lt, hk.cell 1, h2.alloc_ _⟩
theorem add_comm_times {a b : Rat} (k : Rat) : a + b * k = a + k * b := by grind

set_option maxRecDepth 100000 in
set_option maxHeartbeats 4000000 in
theorem rows_eq (A : Option Addr) (ca : Nat) (B : Option Addr) (cb : Nat) (xb : Bool) (xA : Option Addr) (xn xc : Nat) (xd : Bool) (xB : Option Addr) (xm xk : Nat) (n m : Nat) (X Y : Nat → RatD) (f h : Nat → Rat) (z : Rat) (w : World) (ha : RowR w (.slice A n ca) n X f) (hb : RowR w (.slice B m cb) m Y h) (hz : RatR w ⟨xb, xA, xn, xc, xd, xB, xm, xk⟩ z) (hnm : n = m) :
    Calls Tryz.prog 3 #[.slice A n ca, .slice B m cb, (.agg #[.bool xb, .slice xA xn xc, .bool xd, .slice xB xm xk])] w fun e w' => e = .returned (.bool true) ∧ Below w.heap.size w w' := by
  have a_0 := Lib.hid ha
  have b_0 := Lib.hid hb
  have z_0 := Lib.hid hz
  clear ha hb hz
  subst hnm
  go_enter Tryz.func3, Tryz.ntmps3
  go_wp2_with fail
  generalize hW : w.alloc (.cells #[.bool xb, .slice xA xn xc, .bool xd, .slice xB xm xk] 27) = w1
  have hz_1 := Lib.hid (show w1.heap.size = w.heap.size + 1 from by rw [← hW]; simp)
  have a_1 := Lib.hid (hW ▸ a_0.out.alloc_ _)
  have b_1 := Lib.hid (hW ▸ b_0.out.alloc_ _)
  have z_1 := Lib.hid (hW ▸ z_0.out.alloc_ _)
  have kz_1 : Hid (Blk w1 w.heap.size 27 #[.bool xb, .slice xA xn xc, .bool xd, .slice xB xm xk]) := by rw [← hW]; exact Blk.new _ _ rfl _ _
  have HB_1 := Lib.hid (show Below w.heap.size w w1 from hW ▸ halloc (Below.refl _ _))
  clear hW a_0 b_0 z_0 
  refine Calls.mono (awake10 _) ?_
  rintro e w2 ⟨rfl, hb⟩
  have hBw := (show Below w1.heap.size w1 w2 from by first | exact hb | exact bundrew hb)
  have a_2 := Lib.hid (a_1.out.below hBw)
  have b_2 := Lib.hid (b_1.out.below hBw)
  have z_2 := Lib.hid (z_1.out.below hBw)
  have kz_2 := Lib.hid (kz_1.out.below hBw)
  have HB_2 := Lib.hid (below_trans HB_1.out hBw)
  clear hBw hb a_1 b_1 z_1 kz_1 HB_1
  go_wp2_with fail
  refine Calls.mono (rfew (N := 12) a_2.out (by omega)) ?_
  rintro e wq ⟨⟨b, rfl, hb⟩, hw⟩
  have hw' := hw.symm
  subst hw'
  clear hw
  cases b
  · clear hb
    go_wp2
    go_ret
    exact ⟨rfl, HB_2.out⟩
  have hfa := Lib.hid (hb.1 rfl)
  clear hb
  go_wp2_with fail
  refine Calls.mono (rfew (N := 12) b_2.out (by omega)) ?_
  rintro e wq ⟨⟨b, rfl, hb⟩, hw⟩
  have hw' := hw.symm
  subst hw'
  clear hw
  cases b
  · clear hb
    go_wp2
    go_ret
    exact ⟨rfl, HB_2.out⟩
  have hfb := Lib.hid (hb.1 rfl)
  clear hb
  obtain ⟨u0, u1, u2, u3, ul⟩ := kz_2.out.use4
  go_wp2_with fail
  generalize hW : w2.alloc (.cells #[.bool xb, .slice xA xn xc, .bool xd, .slice xB xm xk] 27) = w3
  have hz_3 := Lib.hid (show w3.heap.size = w2.heap.size + 1 from by rw [← hW]; simp)
  have a_3 := Lib.hid (hW ▸ a_2.out.alloc_ _)
  have b_3 := Lib.hid (hW ▸ b_2.out.alloc_ _)
  have z_3 := Lib.hid (hW ▸ z_2.out.alloc_ _)
  have kz_3 := Lib.hid (hW ▸ kz_2.out.alloc_ _)
  have zr_3 : Hid (RowR w3 (.slice (some ⟨w2.heap.size, 0, none⟩) 1 1) 1 (fun _ => ⟨xb, xA, xn, xc, xd, xB, xm, xk⟩) (fun _ => z)) := by rw [← hW]; exact rowR_one (x := ⟨xb, xA, xn, xc, xd, xB, xm, xk⟩) rfl z_2.out
  have HB_3 := Lib.hid (show Below w.heap.size w w3 from hW ▸ halloc HB_2.out)
  clear hW a_2 b_2 z_2 kz_2 HB_2
  refine Calls.mono (rfew (N := 1) zr_3.out (by omega)) ?_
  rintro e wq ⟨⟨b, rfl, hb⟩, hw⟩
  have hw' := hw.symm
  subst hw'
  clear hw
  cases b
  · clear hb
    go_wp2
    go_ret
    exact ⟨rfl, HB_3.out⟩
  have hfz := Lib.hid (hb.1 rfl)
  clear hb
  have A_3 := Lib.hid (a_3.out.few hfa.out (by omega))
  have B_3 := Lib.hid (b_3.out.few hfb.out (by omega))
  have Z_3 := Lib.hid (z_3.out (hfz.out.2 0 (by omega)).1 (hfz.out.2 0 (by omega)).2)
  have hn : n ≤ 12 := hfa.out.1
  have hm : n ≤ 12 := hfb.out.1
  clear a_3 b_3 z_3 zr_3 hfa hfb hfz u0 u1 u2 u3 ul
  have BF : Hid (∀ i, i ≤ n → BQ 40 (dotF f h i)) := fun i hi => dotF_bq i (fun j hj => A_3.out.bq (by omega) (by omega)) (fun j hj => B_3.out.bq (by omega) (by omega)) (by omega)
  go_wp2_with fail
  refine Calls.mono (ldot (K := 40) A_3.out B_3.out (by omega) (by omega) (by omega) (by omega) BF.out (by omega) (by omega)) ?_
  rintro e w4 ⟨v, rfl, h, hb⟩
  obtain ⟨b4, A4, n4, c4, d4, B4, m4, k4, rfl, -, -, -, -, -⟩ := h.form
  have hBw := (show Below w3.heap.size w3 w4 from by first | exact hb | exact bundrew hb)
  have A_4 := Lib.hid (A_3.out.below hBw)
  have B_4 := Lib.hid (B_3.out.below hBw)
  have Z_4 := Lib.hid (Z_3.out.below hBw)
  have kz_4 := Lib.hid (kz_3.out.below hBw)
  have d_4 := Lib.hid (h)
  have HB_4 := Lib.hid (below_trans HB_3.out hBw)
  clear hBw hb A_3 B_3 Z_3 kz_3 HB_3
  clear h
  go_wp2_with fail
  generalize hW : w4.alloc (.cells #[.bool b4, .slice A4 n4 c4, .bool d4, .slice B4 m4 k4] 27) = w5
  have hz_5 := Lib.hid (show w5.heap.size = w4.heap.size + 1 from by rw [← hW]; simp)
  have A_5 := Lib.hid (hW ▸ A_4.out.alloc_ _)
  have B_5 := Lib.hid (hW ▸ B_4.out.alloc_ _)
  have Z_5 := Lib.hid (hW ▸ Z_4.out.alloc_ _)
  have kz_5 := Lib.hid (hW ▸ kz_4.out.alloc_ _)
  have d_5 := Lib.hid (hW ▸ d_4.out.alloc_ _)
  have k1_5 : Hid (Blk w5 w4.heap.size 27 #[.bool b4, .slice A4 n4 c4, .bool d4, .slice B4 m4 k4]) := by rw [← hW]; exact Blk.new _ _ rfl _ _
  have HB_5 := Lib.hid (show Below w.heap.size w w5 from hW ▸ halloc HB_4.out)
  clear hW A_4 B_4 Z_4 kz_4 d_4 HB_4
  refine Calls.mono (rdot (K := 40) A_5.out B_5.out (by omega) (by omega) (by omega) (by omega) BF.out (by omega) (by omega)) ?_
  rintro e w6 ⟨v, rfl, h, hb⟩
  obtain ⟨b6, A6, n6, c6, d6, B6, m6, k6, rfl, -, -, -, -, -⟩ := h.form
  have hBw := (show Below w5.heap.size w5 w6 from by first | exact hb | exact bundrew hb)
  have A_6 := Lib.hid (A_5.out.below hBw)
  have B_6 := Lib.hid (B_5.out.below hBw)
  have Z_6 := Lib.hid (Z_5.out.below hBw)
  have kz_6 := Lib.hid (kz_5.out.below hBw)
  have d_6 := Lib.hid (d_5.out.below hBw)
  have k1_6 := Lib.hid (k1_5.out.below hBw)
  have e_6 := Lib.hid (h)
  have HB_6 := Lib.hid (below_trans HB_5.out hBw)
  clear hBw hb A_5 B_5 Z_5 kz_5 d_5 k1_5 HB_5
  clear h
  obtain ⟨u0, u1, u2, u3, ul⟩ := kz_6.out.use4
  go_wp2_with fail
  generalize hW : w6.alloc (.cells #[.bool b6, .slice A6 n6 c6, .bool d6, .slice B6 m6 k6] 27) = w7
  have hz_7 := Lib.hid (show w7.heap.size = w6.heap.size + 1 from by rw [← hW]; simp)
  have A_7 := Lib.hid (hW ▸ A_6.out.alloc_ _)
  have B_7 := Lib.hid (hW ▸ B_6.out.alloc_ _)
  have Z_7 := Lib.hid (hW ▸ Z_6.out.alloc_ _)
  have kz_7 := Lib.hid (hW ▸ kz_6.out.alloc_ _)
  have d_7 := Lib.hid (hW ▸ d_6.out.alloc_ _)
  have k1_7 := Lib.hid (hW ▸ k1_6.out.alloc_ _)
  have e_7 := Lib.hid (hW ▸ e_6.out.alloc_ _)
  have k2_7 : Hid (Blk w7 w6.heap.size 27 #[.bool b6, .slice A6 n6 c6, .bool d6, .slice B6 m6 k6]) := by rw [← hW]; exact Blk.new _ _ rfl _ _
  have HB_7 := Lib.hid (show Below w.heap.size w w7 from hW ▸ halloc HB_6.out)
  clear hW A_6 B_6 Z_6 kz_6 d_6 k1_6 e_6 HB_6
  refine Calls.mono (laddTimes (K := 4) A_7.out B_7.out Z_7.out (by omega) (by omega) (by omega) (by omega) (by omega) (by omega) (by omega)) ?_
  rintro e w8 ⟨v, rfl, h, hb⟩
  obtain ⟨SA, SC, rfl, _, _⟩ := h.rowQ.len
  have hBw := (show Below w7.heap.size w7 w8 from by first | exact hb | exact bundrew hb)
  have A_8 := Lib.hid (A_7.out.below hBw)
  have B_8 := Lib.hid (B_7.out.below hBw)
  have Z_8 := Lib.hid (Z_7.out.below hBw)
  have kz_8 := Lib.hid (kz_7.out.below hBw)
  have d_8 := Lib.hid (d_7.out.below hBw)
  have k1_8 := Lib.hid (k1_7.out.below hBw)
  have e_8 := Lib.hid (e_7.out.below hBw)
  have k2_8 := Lib.hid (k2_7.out.below hBw)
  have s_8 := Lib.hid (h)
  have HB_8 := Lib.hid (below_trans HB_7.out hBw)
  clear hBw hb A_7 B_7 Z_7 kz_7 d_7 k1_7 e_7 k2_7 HB_7
  clear h u0 u1 u2 u3 ul
  obtain ⟨u0, u1, u2, u3, ul⟩ := kz_8.out.use4
  go_wp2_with fail
  refine Calls.mono (raddTimes (K := 4) A_8.out B_8.out Z_8.out (by omega) (by omega) (by omega) (by omega) (by omega) (by omega) (by omega)) ?_
  rintro e w9 ⟨v, rfl, h, hb⟩
  obtain ⟨TA, TC, rfl, _, _⟩ := h.rowQ.len
  have hBw := (show Below w8.heap.size w8 w9 from by first | exact hb | exact bundrew hb)
  have A_9 := Lib.hid (A_8.out.below hBw)
  have B_9 := Lib.hid (B_8.out.below hBw)
  have Z_9 := Lib.hid (Z_8.out.below hBw)
  have kz_9 := Lib.hid (kz_8.out.below hBw)
  have d_9 := Lib.hid (d_8.out.below hBw)
  have k1_9 := Lib.hid (k1_8.out.below hBw)
  have e_9 := Lib.hid (e_8.out.below hBw)
  have k2_9 := Lib.hid (k2_8.out.below hBw)
  have s_9 := Lib.hid (s_8.out.below hBw)
  have t_9 := Lib.hid (h)
  have HB_9 := Lib.hid (below_trans HB_8.out hBw)
  clear hBw hb A_8 B_8 Z_8 kz_8 d_8 k1_8 e_8 k2_8 s_8 HB_8
  clear h u0 u1 u2 u3 ul
  obtain ⟨u0, u1, u2, u3, ul⟩ := k1_9.out.use4
  obtain ⟨y0, y1, y2, y3, yl⟩ := k2_9.out.use4
  go_wp2_with fail
  refine Calls.mono (rat_same d_9.out e_9.out (BF.out n (Nat.le_refl n)) (by omega)) ?_
  rintro e w10 ⟨rfl, hb⟩
  have hBw := (show Below w9.heap.size w9 w10 from by first | exact hb | exact bundrew hb)
  have A_10 := Lib.hid (A_9.out.below hBw)
  have B_10 := Lib.hid (B_9.out.below hBw)
  have Z_10 := Lib.hid (Z_9.out.below hBw)
  have kz_10 := Lib.hid (kz_9.out.below hBw)
  have d_10 := Lib.hid (d_9.out.below hBw)
  have k1_10 := Lib.hid (k1_9.out.below hBw)
  have e_10 := Lib.hid (e_9.out.below hBw)
  have k2_10 := Lib.hid (k2_9.out.below hBw)
  have s_10 := Lib.hid (s_9.out.below hBw)
  have t_10 := Lib.hid (t_9.out.below hBw)
  have HB_10 := Lib.hid (below_trans HB_9.out hBw)
  clear hBw hb A_9 B_9 Z_9 kz_9 d_9 k1_9 e_9 k2_9 s_9 t_9 HB_9
  clear u0 u1 u2 u3 ul y0 y1 y2 y3 yl
  go_wp2_with fail
  refine Calls.mono (rsame s_10.out.rowQ t_10.out.rowQ (fun i _ => add_comm_times z) (by omega)) ?_
  rintro e w11 ⟨rfl, hb⟩
  have hBw := (show Below w10.heap.size w10 w11 from by first | exact hb | exact bundrew hb)
  have A_11 := Lib.hid (A_10.out.below hBw)
  have B_11 := Lib.hid (B_10.out.below hBw)
  have Z_11 := Lib.hid (Z_10.out.below hBw)
  have kz_11 := Lib.hid (kz_10.out.below hBw)
  have d_11 := Lib.hid (d_10.out.below hBw)
  have k1_11 := Lib.hid (k1_10.out.below hBw)
  have e_11 := Lib.hid (e_10.out.below hBw)
  have k2_11 := Lib.hid (k2_10.out.below hBw)
  have s_11 := Lib.hid (s_10.out.below hBw)
  have t_11 := Lib.hid (t_10.out.below hBw)
  have HB_11 := Lib.hid (below_trans HB_10.out hBw)
  clear hBw hb A_10 B_10 Z_10 kz_10 d_10 k1_10 e_10 k2_10 s_10 t_10 HB_10
  go_wp2_with fail
  generalize hW : w11.alloc (.cells #[.slice A n ca, .slice B n cb] 22) = w12
  have hz_12 := Lib.hid (show w12.heap.size = w11.heap.size + 1 from by rw [← hW]; simp)
  have A_12 := Lib.hid (hW ▸ A_11.out.alloc_ _)
  have B_12 := Lib.hid (hW ▸ B_11.out.alloc_ _)
  have Z_12 := Lib.hid (hW ▸ Z_11.out.alloc_ _)
  have kz_12 := Lib.hid (hW ▸ kz_11.out.alloc_ _)
  have d_12 := Lib.hid (hW ▸ d_11.out.alloc_ _)
  have k1_12 := Lib.hid (hW ▸ k1_11.out.alloc_ _)
  have e_12 := Lib.hid (hW ▸ e_11.out.alloc_ _)
  have k2_12 := Lib.hid (hW ▸ k2_11.out.alloc_ _)
  have s_12 := Lib.hid (hW ▸ s_11.out.alloc_ _)
  have t_12 := Lib.hid (hW ▸ t_11.out.alloc_ _)
  have tb_12 : Hid (TabQ false 1 w12 (.slice (some ⟨w11.heap.size, 0, none⟩) 2 2) 2 (fun i => if i = 0 then n else n) (twoT f h)) := by rw [← hW]; exact tabQ2 rfl A_11.out B_11.out
  have HB_12 := Lib.hid (show Below w.heap.size w w12 from hW ▸ halloc HB_11.out)
  clear hW A_11 B_11 Z_11 kz_11 d_11 k1_11 e_11 k2_11 s_11 t_11 HB_11
  refine Calls.mono (lrect tb_12.out) ?_
  rintro e wq ⟨⟨b, rfl, hb⟩, hw⟩
  have hw' := hw.symm
  subst hw'
  clear hw
  obtain rfl : b = true := hb.2 (fun i _ => by split <;> rfl)
  clear hb
  go_wp2
  go_ret
  exact ⟨rfl, HB_12.out⟩

set_option maxRecDepth 100000 in
set_option maxHeartbeats 4000000 in
theorem rows_ne (A : Option Addr) (ca : Nat) (B : Option Addr) (cb : Nat) (xb : Bool) (xA : Option Addr) (xn xc : Nat) (xd : Bool) (xB : Option Addr) (xm xk : Nat) (n m : Nat) (X Y : Nat → RatD) (f h : Nat → Rat) (z : Rat) (w : World) (ha : RowR w (.slice A n ca) n X f) (hb : RowR w (.slice B m cb) m Y h) (hz : RatR w ⟨xb, xA, xn, xc, xd, xB, xm, xk⟩ z) (hnm : n ≠ m) :
    Calls Tryz.prog 3 #[.slice A n ca, .slice B m cb, (.agg #[.bool xb, .slice xA xn xc, .bool xd, .slice xB xm xk])] w fun e w' => e = .returned (.bool true) ∧ Below w.heap.size w w' := by
  have a_0 := Lib.hid ha
  have b_0 := Lib.hid hb
  have z_0 := Lib.hid hz
  clear ha hb hz
  go_enter Tryz.func3, Tryz.ntmps3
  go_wp2_with fail
  generalize hW : w.alloc (.cells #[.bool xb, .slice xA xn xc, .bool xd, .slice xB xm xk] 27) = w1
  have hz_1 := Lib.hid (show w1.heap.size = w.heap.size + 1 from by rw [← hW]; simp)
  have a_1 := Lib.hid (hW ▸ a_0.out.alloc_ _)
  have b_1 := Lib.hid (hW ▸ b_0.out.alloc_ _)
  have z_1 := Lib.hid (hW ▸ z_0.out.alloc_ _)
  have kz_1 : Hid (Blk w1 w.heap.size 27 #[.bool xb, .slice xA xn xc, .bool xd, .slice xB xm xk]) := by rw [← hW]; exact Blk.new _ _ rfl _ _
  have HB_1 := Lib.hid (show Below w.heap.size w w1 from hW ▸ halloc (Below.refl _ _))
  clear hW a_0 b_0 z_0 
  refine Calls.mono (awake10 _) ?_
  rintro e w2 ⟨rfl, hb⟩
  have hBw := (show Below w1.heap.size w1 w2 from by first | exact hb | exact bundrew hb)
  have a_2 := Lib.hid (a_1.out.below hBw)
  have b_2 := Lib.hid (b_1.out.below hBw)
  have z_2 := Lib.hid (z_1.out.below hBw)
  have kz_2 := Lib.hid (kz_1.out.below hBw)
  have HB_2 := Lib.hid (below_trans HB_1.out hBw)
  clear hBw hb a_1 b_1 z_1 kz_1 HB_1
  go_wp2_with fail
  refine Calls.mono (rfew (N := 12) a_2.out (by omega)) ?_
  rintro e wq ⟨⟨b, rfl, hb⟩, hw⟩
  have hw' := hw.symm
  subst hw'
  clear hw
  cases b
  · clear hb
    go_wp2
    go_ret
    exact ⟨rfl, HB_2.out⟩
  have hfa := Lib.hid (hb.1 rfl)
  clear hb
  go_wp2_with fail
  refine Calls.mono (rfew (N := 12) b_2.out (by omega)) ?_
  rintro e wq ⟨⟨b, rfl, hb⟩, hw⟩
  have hw' := hw.symm
  subst hw'
  clear hw
  cases b
  · clear hb
    go_wp2
    go_ret
    exact ⟨rfl, HB_2.out⟩
  have hfb := Lib.hid (hb.1 rfl)
  clear hb
  obtain ⟨u0, u1, u2, u3, ul⟩ := kz_2.out.use4
  go_wp2_with fail
  generalize hW : w2.alloc (.cells #[.bool xb, .slice xA xn xc, .bool xd, .slice xB xm xk] 27) = w3
  have hz_3 := Lib.hid (show w3.heap.size = w2.heap.size + 1 from by rw [← hW]; simp)
  have a_3 := Lib.hid (hW ▸ a_2.out.alloc_ _)
  have b_3 := Lib.hid (hW ▸ b_2.out.alloc_ _)
  have z_3 := Lib.hid (hW ▸ z_2.out.alloc_ _)
  have kz_3 := Lib.hid (hW ▸ kz_2.out.alloc_ _)
  have zr_3 : Hid (RowR w3 (.slice (some ⟨w2.heap.size, 0, none⟩) 1 1) 1 (fun _ => ⟨xb, xA, xn, xc, xd, xB, xm, xk⟩) (fun _ => z)) := by rw [← hW]; exact rowR_one (x := ⟨xb, xA, xn, xc, xd, xB, xm, xk⟩) rfl z_2.out
  have HB_3 := Lib.hid (show Below w.heap.size w w3 from hW ▸ halloc HB_2.out)
  clear hW a_2 b_2 z_2 kz_2 HB_2
  refine Calls.mono (rfew (N := 1) zr_3.out (by omega)) ?_
  rintro e wq ⟨⟨b, rfl, hb⟩, hw⟩
  have hw' := hw.symm
  subst hw'
  clear hw
  cases b
  · clear hb
    go_wp2
    go_ret
    exact ⟨rfl, HB_3.out⟩
  have hfz := Lib.hid (hb.1 rfl)
  clear hb
  have A_3 := Lib.hid (a_3.out.few hfa.out (by omega))
  have B_3 := Lib.hid (b_3.out.few hfb.out (by omega))
  have Z_3 := Lib.hid (z_3.out (hfz.out.2 0 (by omega)).1 (hfz.out.2 0 (by omega)).2)
  have hn : n ≤ 12 := hfa.out.1
  have hm : m ≤ 12 := hfb.out.1
  clear a_3 b_3 z_3 zr_3 hfa hfb hfz u0 u1 u2 u3 ul
  have hnm0 : ¬ ((n : Int) = (m : Int)) := by omega
  have hnm1 : ((n : Int) == (m : Int)) = false := by rw [beq_eq_false_iff_ne]; omega
  go_wp2_with fail
  refine Calls.mono (ldot_no (by omega) (by omega) hnm) ?_
  rintro e w4 ⟨v, rfl, h, hb⟩
  obtain ⟨b4, A4, n4, c4, d4, B4, m4, k4, rfl, -, -, -, -, -⟩ := h.form
  have hBw := (show Below w3.heap.size w3 w4 from by first | exact hb | exact bundrew hb)
  have A_4 := Lib.hid (A_3.out.below hBw)
  have B_4 := Lib.hid (B_3.out.below hBw)
  have Z_4 := Lib.hid (Z_3.out.below hBw)
  have kz_4 := Lib.hid (kz_3.out.below hBw)
  have d_4 := Lib.hid (h)
  have HB_4 := Lib.hid (below_trans HB_3.out hBw)
  clear hBw hb A_3 B_3 Z_3 kz_3 HB_3
  clear h
  go_wp2_with fail
  generalize hW : w4.alloc (.cells #[.bool b4, .slice A4 n4 c4, .bool d4, .slice B4 m4 k4] 27) = w5
  have hz_5 := Lib.hid (show w5.heap.size = w4.heap.size + 1 from by rw [← hW]; simp)
  have A_5 := Lib.hid (hW ▸ A_4.out.alloc_ _)
  have B_5 := Lib.hid (hW ▸ B_4.out.alloc_ _)
  have Z_5 := Lib.hid (hW ▸ Z_4.out.alloc_ _)
  have kz_5 := Lib.hid (hW ▸ kz_4.out.alloc_ _)
  have d_5 := Lib.hid (hW ▸ d_4.out.alloc_ _)
  have k1_5 : Hid (Blk w5 w4.heap.size 27 #[.bool b4, .slice A4 n4 c4, .bool d4, .slice B4 m4 k4]) := by rw [← hW]; exact Blk.new _ _ rfl _ _
  have HB_5 := Lib.hid (show Below w.heap.size w w5 from hW ▸ halloc HB_4.out)
  clear hW A_4 B_4 Z_4 kz_4 d_4 HB_4
  refine Calls.mono (rdot_no (by omega) (by omega) hnm) ?_
  rintro e w6 ⟨v, rfl, h, hb⟩
  obtain ⟨b6, A6, n6, c6, d6, B6, m6, k6, rfl, -, -, -, -, -⟩ := h.form
  have hBw := (show Below w5.heap.size w5 w6 from by first | exact hb | exact bundrew hb)
  have A_6 := Lib.hid (A_5.out.below hBw)
  have B_6 := Lib.hid (B_5.out.below hBw)
  have Z_6 := Lib.hid (Z_5.out.below hBw)
  have kz_6 := Lib.hid (kz_5.out.below hBw)
  have d_6 := Lib.hid (d_5.out.below hBw)
  have k1_6 := Lib.hid (k1_5.out.below hBw)
  have e_6 := Lib.hid (h)
  have HB_6 := Lib.hid (below_trans HB_5.out hBw)
  clear hBw hb A_5 B_5 Z_5 kz_5 d_5 k1_5 HB_5
  clear h
  obtain ⟨u0, u1, u2, u3, ul⟩ := kz_6.out.use4
  go_wp2_with fail
  generalize hW : w6.alloc (.cells #[.bool b6, .slice A6 n6 c6, .bool d6, .slice B6 m6 k6] 27) = w7
  have hz_7 := Lib.hid (show w7.heap.size = w6.heap.size + 1 from by rw [← hW]; simp)
  have A_7 := Lib.hid (hW ▸ A_6.out.alloc_ _)
  have B_7 := Lib.hid (hW ▸ B_6.out.alloc_ _)
  have Z_7 := Lib.hid (hW ▸ Z_6.out.alloc_ _)
  have kz_7 := Lib.hid (hW ▸ kz_6.out.alloc_ _)
  have d_7 := Lib.hid (hW ▸ d_6.out.alloc_ _)
  have k1_7 := Lib.hid (hW ▸ k1_6.out.alloc_ _)
  have e_7 := Lib.hid (hW ▸ e_6.out.alloc_ _)
  have k2_7 : Hid (Blk w7 w6.heap.size 27 #[.bool b6, .slice A6 n6 c6, .bool d6, .slice B6 m6 k6]) := by rw [← hW]; exact Blk.new _ _ rfl _ _
  have HB_7 := Lib.hid (show Below w.heap.size w w7 from hW ▸ halloc HB_6.out)
  clear hW A_6 B_6 Z_6 kz_6 d_6 k1_6 e_6 HB_6
  refine Calls.mono (laddTimes_no (by omega) (by omega) hnm) ?_
  rintro e w8 ⟨rfl, hb⟩
  have hBw := (show Below w7.heap.size w7 w8 from by first | exact hb | exact bundrew hb)
  have A_8 := Lib.hid (A_7.out.below hBw)
  have B_8 := Lib.hid (B_7.out.below hBw)
  have Z_8 := Lib.hid (Z_7.out.below hBw)
  have kz_8 := Lib.hid (kz_7.out.below hBw)
  have d_8 := Lib.hid (d_7.out.below hBw)
  have k1_8 := Lib.hid (k1_7.out.below hBw)
  have e_8 := Lib.hid (e_7.out.below hBw)
  have k2_8 := Lib.hid (k2_7.out.below hBw)
  have HB_8 := Lib.hid (below_trans HB_7.out hBw)
  clear hBw hb A_7 B_7 Z_7 kz_7 d_7 k1_7 e_7 k2_7 HB_7
  clear u0 u1 u2 u3 ul
  obtain ⟨u0, u1, u2, u3, ul⟩ := kz_8.out.use4
  go_wp2_with fail
  refine Calls.mono (raddTimes_no (by omega) (by omega) hnm) ?_
  rintro e w9 ⟨rfl, hb⟩
  have hBw := (show Below w8.heap.size w8 w9 from by first | exact hb | exact bundrew hb)
  have A_9 := Lib.hid (A_8.out.below hBw)
  have B_9 := Lib.hid (B_8.out.below hBw)
  have Z_9 := Lib.hid (Z_8.out.below hBw)
  have kz_9 := Lib.hid (kz_8.out.below hBw)
  have d_9 := Lib.hid (d_8.out.below hBw)
  have k1_9 := Lib.hid (k1_8.out.below hBw)
  have e_9 := Lib.hid (e_8.out.below hBw)
  have k2_9 := Lib.hid (k2_8.out.below hBw)
  have HB_9 := Lib.hid (below_trans HB_8.out hBw)
  clear hBw hb A_8 B_8 Z_8 kz_8 d_8 k1_8 e_8 k2_8 HB_8
  clear u0 u1 u2 u3 ul
  obtain ⟨u0, u1, u2, u3, ul⟩ := k1_9.out.use4
  obtain ⟨y0, y1, y2, y3, yl⟩ := k2_9.out.use4
  go_wp2_with fail
  refine Calls.mono (rat_same d_9.out e_9.out bq0 (by omega)) ?_
  rintro e w10 ⟨rfl, hb⟩
  have hBw := (show Below w9.heap.size w9 w10 from by first | exact hb | exact bundrew hb)
  have A_10 := Lib.hid (A_9.out.below hBw)
  have B_10 := Lib.hid (B_9.out.below hBw)
  have Z_10 := Lib.hid (Z_9.out.below hBw)
  have kz_10 := Lib.hid (kz_9.out.below hBw)
  have d_10 := Lib.hid (d_9.out.below hBw)
  have k1_10 := Lib.hid (k1_9.out.below hBw)
  have e_10 := Lib.hid (e_9.out.below hBw)
  have k2_10 := Lib.hid (k2_9.out.below hBw)
  have HB_10 := Lib.hid (below_trans HB_9.out hBw)
  clear hBw hb A_9 B_9 Z_9 kz_9 d_9 k1_9 e_9 k2_9 HB_9
  clear u0 u1 u2 u3 ul y0 y1 y2 y3 yl
  go_wp2_with fail
  refine Calls.mono (rsame (k := 1) (l := 1) (f := fun _ => 0) (g := fun _ => 0) rowT_nil.rowQ rowT_nil.rowQ (fun _ _ => rfl) (by omega)) ?_
  rintro e w11 ⟨rfl, hb⟩
  have hBw := (show Below w10.heap.size w10 w11 from by first | exact hb | exact bundrew hb)
  have A_11 := Lib.hid (A_10.out.below hBw)
  have B_11 := Lib.hid (B_10.out.below hBw)
  have Z_11 := Lib.hid (Z_10.out.below hBw)
  have kz_11 := Lib.hid (kz_10.out.below hBw)
  have d_11 := Lib.hid (d_10.out.below hBw)
  have k1_11 := Lib.hid (k1_10.out.below hBw)
  have e_11 := Lib.hid (e_10.out.below hBw)
  have k2_11 := Lib.hid (k2_10.out.below hBw)
  have HB_11 := Lib.hid (below_trans HB_10.out hBw)
  clear hBw hb A_10 B_10 Z_10 kz_10 d_10 k1_10 e_10 k2_10 HB_10
  go_wp2_with fail
  generalize hW : w11.alloc (.cells #[.slice A n ca, .slice B m cb] 22) = w12
  have hz_12 := Lib.hid (show w12.heap.size = w11.heap.size + 1 from by rw [← hW]; simp)
  have A_12 := Lib.hid (hW ▸ A_11.out.alloc_ _)
  have B_12 := Lib.hid (hW ▸ B_11.out.alloc_ _)
  have Z_12 := Lib.hid (hW ▸ Z_11.out.alloc_ _)
  have kz_12 := Lib.hid (hW ▸ kz_11.out.alloc_ _)
  have d_12 := Lib.hid (hW ▸ d_11.out.alloc_ _)
  have k1_12 := Lib.hid (hW ▸ k1_11.out.alloc_ _)
  have e_12 := Lib.hid (hW ▸ e_11.out.alloc_ _)
  have k2_12 := Lib.hid (hW ▸ k2_11.out.alloc_ _)
  have tb_12 : Hid (TabQ false 1 w12 (.slice (some ⟨w11.heap.size, 0, none⟩) 2 2) 2 (fun i => if i = 0 then n else m) (twoT f h)) := by rw [← hW]; exact tabQ2 rfl A_11.out B_11.out
  have HB_12 := Lib.hid (show Below w.heap.size w w12 from hW ▸ halloc HB_11.out)
  clear hW A_11 B_11 Z_11 kz_11 d_11 k1_11 e_11 k2_11 HB_11
  refine Calls.mono (lrect tb_12.out) ?_
  rintro e wq ⟨⟨b, rfl, hb⟩, hw⟩
  have hw' := hw.symm
  subst hw'
  clear hw
  obtain rfl : b = false := by
    cases b
    · rfl
    · exact absurd (hb.1 rfl 1 (by omega)) (by rw [if_neg (by omega)]; omega)
  clear hb
  go_wp2
  go_ret
  exact ⟨rfl, HB_12.out⟩

theorem lin_rows (A : Option Addr) (ca : Nat) (B : Option Addr) (cb : Nat) (x : RatD) (n m : Nat) (X Y : Nat → RatD) (f h : Nat → Rat) (z : Rat) (w : World) (ha : RowR w (.slice A n ca) n X f) (hb : RowR w (.slice B m cb) m Y h) (hz : RatR w x z) :
    Calls Tryz.prog 3 #[.slice A n ca, .slice B m cb, x.val] w fun e w' => e = .returned (.bool true) ∧ Below w.heap.size w w' := by
  by_cases hnm : n = m
  · exact rows_eq A ca B cb _ _ _ _ _ _ _ _ n m X Y f h z w ha hb hz hnm
  · exact rows_ne A ca B cb _ _ _ _ _ _ _ _ n m X Y f h z w ha hb hz hnm
end Go.Proofs.YtebdmidghidaeaaGreat
