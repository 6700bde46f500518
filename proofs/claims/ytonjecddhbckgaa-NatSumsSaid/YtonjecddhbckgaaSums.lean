/- NatSums: the walk. -/
import Derived.Test.YtonjecddhbckgaaRow
namespace Go.Proofs.Ytonjecddhbckgaa
open Go.RowKit

set_option maxHeartbeats 4000000 in
theorem natSums_in (a : Option Addr) (n c : Nat) (b : Option Addr) (m d : Nat) (e : Option Addr) (q k : Nat) (N M P : Nat) (w : World) (hn : n ≤ 12) (hm : m ≤ 12) (hq : q ≤ 12)
    (ha : Lim 12 w (.slice a n c) N) (hb : Lim 12 w (.slice b m d) M) (he : Lim 12 w (.slice e q k) P) :
    Calls Try.prog 6 #[.slice a n c, .slice b m d, .slice e q k] w fun e w' => e = .returned (.bool true) ∧ Below w.heap.size w w' := by
  have BN := Lib.hid ha.lt
  have BM := Lib.hid hb.lt
  have BP := Lib.hid he.lt
  have La := Lib.hid ha
  have Lb := Lib.hid hb
  have Lc := Lib.hid he
  clear ha hb he
  go_enter Try.func6, Try.ntmps6
  go_wp2_with fail
  refine (awake_any _).mono ?_
  rintro e w1 ⟨rfl, hb⟩
  have hb' : Below w.heap.size w w1 := hb
  have La_1 := Lib.hid (La.out.below hb')
  have Lb_1 := Lib.hid (Lb.out.below hb')
  have Lc_1 := Lib.hid (Lc.out.below hb')
  have HB_1 := Lib.hid hb'
  clear hb hb' La Lb Lc
  go_wp2_with fail
  refine (lim_add La_1.out Lb_1.out (by omega) (by omega)).mono ?_
  rintro e w2 ⟨vx, rfl, hx, hb⟩
  have hb' : Below w1.heap.size w1 w2 := hb
  have La_2 := Lib.hid (La_1.out.below hb')
  have Lb_2 := Lib.hid (Lb_1.out.below hb')
  have Lc_2 := Lib.hid (Lc_1.out.below hb')
  have x_2 := Lib.hid hx
  have HB_2 := Lib.hid (below_trans HB_1.out hb')
  clear hb hb' hx La_1 Lb_1 Lc_1 HB_1
  go_wp2_with fail
  refine (lim_add Lb_2.out La_2.out (by omega) (by omega)).mono ?_
  rintro e w3 ⟨vy, rfl, hy, hb⟩
  have hb' : Below w2.heap.size w2 w3 := hb
  have La_3 := Lib.hid (La_2.out.below hb')
  have Lb_3 := Lib.hid (Lb_2.out.below hb')
  have Lc_3 := Lib.hid (Lc_2.out.below hb')
  have x_3 := Lib.hid (x_2.out.below hb')
  have y_3 := Lib.hid hy
  have HB_3 := Lib.hid (below_trans HB_2.out hb')
  clear hb hb' hy La_2 Lb_2 Lc_2 x_2 HB_2
  go_wp2_with fail
  refine (isNat_same (k := 48) x_3.out (Nat.add_comm M N ▸ y_3.out) (lt_add BN.out BM.out 48 (by omega) (by omega)) (by omega)).mono ?_
  rintro e w4 ⟨rfl, hb⟩
  have hb' : Below w3.heap.size w3 w4 := hb
  have La_4 := Lib.hid (La_3.out.below hb')
  have Lb_4 := Lib.hid (Lb_3.out.below hb')
  have Lc_4 := Lib.hid (Lc_3.out.below hb')
  have HB_4 := Lib.hid (below_trans HB_3.out hb')
  clear hb hb' La_3 Lb_3 Lc_3 x_3 y_3 HB_3
  go_wp2_with fail
  refine (lim_mul La_4.out Lb_4.out (by omega) (by omega)).mono ?_
  rintro e w5 ⟨vx, rfl, hx, hb⟩
  have hb' : Below w4.heap.size w4 w5 := hb
  have La_5 := Lib.hid (La_4.out.below hb')
  have Lb_5 := Lib.hid (Lb_4.out.below hb')
  have Lc_5 := Lib.hid (Lc_4.out.below hb')
  have x_5 := Lib.hid hx
  have HB_5 := Lib.hid (below_trans HB_4.out hb')
  clear hb hb' hx La_4 Lb_4 Lc_4 HB_4
  go_wp2_with fail
  refine (lim_mul Lb_5.out La_5.out (by omega) (by omega)).mono ?_
  rintro e w6 ⟨vy, rfl, hy, hb⟩
  have hb' : Below w5.heap.size w5 w6 := hb
  have La_6 := Lib.hid (La_5.out.below hb')
  have Lb_6 := Lib.hid (Lb_5.out.below hb')
  have Lc_6 := Lib.hid (Lc_5.out.below hb')
  have x_6 := Lib.hid (x_5.out.below hb')
  have y_6 := Lib.hid hy
  have HB_6 := Lib.hid (below_trans HB_5.out hb')
  clear hb hb' hy La_5 Lb_5 Lc_5 x_5 HB_5
  go_wp2_with fail
  refine (isNat_same (k := 48) x_6.out (Nat.mul_comm M N ▸ y_6.out) (lt_mul BN.out BM.out 48 (by omega)) (by omega)).mono ?_
  rintro e w7 ⟨rfl, hb⟩
  have hb' : Below w6.heap.size w6 w7 := hb
  have La_7 := Lib.hid (La_6.out.below hb')
  have Lb_7 := Lib.hid (Lb_6.out.below hb')
  have Lc_7 := Lib.hid (Lc_6.out.below hb')
  have HB_7 := Lib.hid (below_trans HB_6.out hb')
  clear hb hb' La_6 Lb_6 Lc_6 x_6 y_6 HB_6
  go_wp2_with fail
  refine (lim_add La_7.out Lb_7.out (by omega) (by omega)).mono ?_
  rintro e w8 ⟨vx, rfl, hx, hb⟩
  have hb' : Below w7.heap.size w7 w8 := hb
  have La_8 := Lib.hid (La_7.out.below hb')
  have Lb_8 := Lib.hid (Lb_7.out.below hb')
  have Lc_8 := Lib.hid (Lc_7.out.below hb')
  have x_8 := Lib.hid hx
  have HB_8 := Lib.hid (below_trans HB_7.out hb')
  clear hb hb' hx La_7 Lb_7 Lc_7 HB_7
  go_wp2_with fail
  refine (lim_add (x_8.out.lim (lt_add BN.out BM.out 13 (by omega) (by omega))) Lc_8.out (by omega) (by omega)).mono ?_
  rintro e w9 ⟨vy, rfl, hy, hb⟩
  have hb' : Below w8.heap.size w8 w9 := hb
  have La_9 := Lib.hid (La_8.out.below hb')
  have Lb_9 := Lib.hid (Lb_8.out.below hb')
  have Lc_9 := Lib.hid (Lc_8.out.below hb')
  have y_9 := Lib.hid hy
  have HB_9 := Lib.hid (below_trans HB_8.out hb')
  clear hb hb' hy La_8 Lb_8 Lc_8 x_8 HB_8
  go_wp2_with fail
  refine (lim_add Lb_9.out Lc_9.out (by omega) (by omega)).mono ?_
  rintro e w10 ⟨vz, rfl, hz, hb⟩
  have hb' : Below w9.heap.size w9 w10 := hb
  have La_10 := Lib.hid (La_9.out.below hb')
  have Lb_10 := Lib.hid (Lb_9.out.below hb')
  have Lc_10 := Lib.hid (Lc_9.out.below hb')
  have y_10 := Lib.hid (y_9.out.below hb')
  have z_10 := Lib.hid hz
  have HB_10 := Lib.hid (below_trans HB_9.out hb')
  clear hb hb' hz La_9 Lb_9 Lc_9 y_9 HB_9
  go_wp2_with fail
  refine (lim_add La_10.out (z_10.out.lim (lt_add BM.out BP.out 13 (by omega) (by omega))) (by omega) (by omega)).mono ?_
  rintro e w11 ⟨vt, rfl, ht, hb⟩
  have hb' : Below w10.heap.size w10 w11 := hb
  have La_11 := Lib.hid (La_10.out.below hb')
  have Lb_11 := Lib.hid (Lb_10.out.below hb')
  have Lc_11 := Lib.hid (Lc_10.out.below hb')
  have y_11 := Lib.hid (y_10.out.below hb')
  have t_11 := Lib.hid ht
  have HB_11 := Lib.hid (below_trans HB_10.out hb')
  clear hb hb' ht La_10 Lb_10 Lc_10 y_10 z_10 HB_10
  go_wp2_with fail
  refine (isNat_same (k := 48) y_11.out (Nat.add_assoc N M P ▸ t_11.out) (lt_add (lt_add BN.out BM.out 13 (by omega) (by omega)) BP.out 48 (by omega) (by omega)) (by omega)).mono ?_
  rintro e w12 ⟨rfl, hb⟩
  have hb' : Below w11.heap.size w11 w12 := hb
  have La_12 := Lib.hid (La_11.out.below hb')
  have Lb_12 := Lib.hid (Lb_11.out.below hb')
  have Lc_12 := Lib.hid (Lc_11.out.below hb')
  have HB_12 := Lib.hid (below_trans HB_11.out hb')
  clear hb hb' La_11 Lb_11 Lc_11 y_11 t_11 HB_11
  go_wp2_with fail
  refine (lim_mul La_12.out Lb_12.out (by omega) (by omega)).mono ?_
  rintro e w13 ⟨vx, rfl, hx, hb⟩
  have hb' : Below w12.heap.size w12 w13 := hb
  have La_13 := Lib.hid (La_12.out.below hb')
  have Lb_13 := Lib.hid (Lb_12.out.below hb')
  have Lc_13 := Lib.hid (Lc_12.out.below hb')
  have x_13 := Lib.hid hx
  have HB_13 := Lib.hid (below_trans HB_12.out hb')
  clear hb hb' hx La_12 Lb_12 Lc_12 HB_12
  go_wp2_with fail
  refine (lim_mul (x_13.out.lim (lt_mul BN.out BM.out 24 (by omega))) Lc_13.out (by omega) (by omega)).mono ?_
  rintro e w14 ⟨vy, rfl, hy, hb⟩
  have hb' : Below w13.heap.size w13 w14 := hb
  have La_14 := Lib.hid (La_13.out.below hb')
  have Lb_14 := Lib.hid (Lb_13.out.below hb')
  have Lc_14 := Lib.hid (Lc_13.out.below hb')
  have y_14 := Lib.hid hy
  have HB_14 := Lib.hid (below_trans HB_13.out hb')
  clear hb hb' hy La_13 Lb_13 Lc_13 x_13 HB_13
  go_wp2_with fail
  refine (lim_mul Lb_14.out Lc_14.out (by omega) (by omega)).mono ?_
  rintro e w15 ⟨vz, rfl, hz, hb⟩
  have hb' : Below w14.heap.size w14 w15 := hb
  have La_15 := Lib.hid (La_14.out.below hb')
  have Lb_15 := Lib.hid (Lb_14.out.below hb')
  have Lc_15 := Lib.hid (Lc_14.out.below hb')
  have y_15 := Lib.hid (y_14.out.below hb')
  have z_15 := Lib.hid hz
  have HB_15 := Lib.hid (below_trans HB_14.out hb')
  clear hb hb' hz La_14 Lb_14 Lc_14 y_14 HB_14
  go_wp2_with fail
  refine (lim_mul La_15.out (z_15.out.lim (lt_mul BM.out BP.out 24 (by omega))) (by omega) (by omega)).mono ?_
  rintro e w16 ⟨vt, rfl, ht, hb⟩
  have hb' : Below w15.heap.size w15 w16 := hb
  have La_16 := Lib.hid (La_15.out.below hb')
  have Lb_16 := Lib.hid (Lb_15.out.below hb')
  have Lc_16 := Lib.hid (Lc_15.out.below hb')
  have y_16 := Lib.hid (y_15.out.below hb')
  have t_16 := Lib.hid ht
  have HB_16 := Lib.hid (below_trans HB_15.out hb')
  clear hb hb' ht La_15 Lb_15 Lc_15 y_15 z_15 HB_15
  go_wp2_with fail
  refine (isNat_same (k := 48) y_16.out (Nat.mul_assoc N M P ▸ t_16.out) (lt_mul (lt_mul BN.out BM.out 24 (by omega)) BP.out 48 (by omega)) (by omega)).mono ?_
  rintro e w17 ⟨rfl, hb⟩
  have hb' : Below w16.heap.size w16 w17 := hb
  have La_17 := Lib.hid (La_16.out.below hb')
  have Lb_17 := Lib.hid (Lb_16.out.below hb')
  have Lc_17 := Lib.hid (Lc_16.out.below hb')
  have HB_17 := Lib.hid (below_trans HB_16.out hb')
  clear hb hb' La_16 Lb_16 Lc_16 y_16 t_16 HB_16
  go_wp2_with fail
  refine (lim_add Lb_17.out Lc_17.out (by omega) (by omega)).mono ?_
  rintro e w18 ⟨vx, rfl, hx, hb⟩
  have hb' : Below w17.heap.size w17 w18 := hb
  have La_18 := Lib.hid (La_17.out.below hb')
  have Lb_18 := Lib.hid (Lb_17.out.below hb')
  have Lc_18 := Lib.hid (Lc_17.out.below hb')
  have x_18 := Lib.hid hx
  have HB_18 := Lib.hid (below_trans HB_17.out hb')
  clear hb hb' hx La_17 Lb_17 Lc_17 HB_17
  go_wp2_with fail
  refine (lim_mul La_18.out (x_18.out.lim (lt_add BM.out BP.out 13 (by omega) (by omega))) (by omega) (by omega)).mono ?_
  rintro e w19 ⟨vy, rfl, hy, hb⟩
  have hb' : Below w18.heap.size w18 w19 := hb
  have La_19 := Lib.hid (La_18.out.below hb')
  have Lb_19 := Lib.hid (Lb_18.out.below hb')
  have Lc_19 := Lib.hid (Lc_18.out.below hb')
  have y_19 := Lib.hid hy
  have HB_19 := Lib.hid (below_trans HB_18.out hb')
  clear hb hb' hy La_18 Lb_18 Lc_18 x_18 HB_18
  go_wp2_with fail
  refine (lim_mul La_19.out Lb_19.out (by omega) (by omega)).mono ?_
  rintro e w20 ⟨vz, rfl, hz, hb⟩
  have hb' : Below w19.heap.size w19 w20 := hb
  have La_20 := Lib.hid (La_19.out.below hb')
  have Lb_20 := Lib.hid (Lb_19.out.below hb')
  have Lc_20 := Lib.hid (Lc_19.out.below hb')
  have y_20 := Lib.hid (y_19.out.below hb')
  have z_20 := Lib.hid hz
  have HB_20 := Lib.hid (below_trans HB_19.out hb')
  clear hb hb' hz La_19 Lb_19 Lc_19 y_19 HB_19
  go_wp2_with fail
  refine (lim_mul La_20.out Lc_20.out (by omega) (by omega)).mono ?_
  rintro e w21 ⟨vt, rfl, ht, hb⟩
  have hb' : Below w20.heap.size w20 w21 := hb
  have La_21 := Lib.hid (La_20.out.below hb')
  have Lb_21 := Lib.hid (Lb_20.out.below hb')
  have Lc_21 := Lib.hid (Lc_20.out.below hb')
  have y_21 := Lib.hid (y_20.out.below hb')
  have z_21 := Lib.hid (z_20.out.below hb')
  have t_21 := Lib.hid ht
  have HB_21 := Lib.hid (below_trans HB_20.out hb')
  clear hb hb' ht La_20 Lb_20 Lc_20 y_20 z_20 HB_20
  go_wp2_with fail
  refine (lim_add (z_21.out.lim (lt_mul BN.out BM.out 24 (by omega))) (t_21.out.lim (lt_mul BN.out BP.out 24 (by omega))) (by omega) (by omega)).mono ?_
  rintro e w22 ⟨vs, rfl, hs, hb⟩
  have hb' : Below w21.heap.size w21 w22 := hb
  have y_22 := Lib.hid (y_21.out.below hb')
  have s_22 := Lib.hid hs
  have HB_22 := Lib.hid (below_trans HB_21.out hb')
  clear hb hb' hs La_21 Lb_21 Lc_21 y_21 z_21 t_21 HB_21
  go_wp2_with fail
  refine (isNat_same (k := 48) y_22.out (Nat.mul_add N M P ▸ s_22.out) (lt_mul BN.out (lt_add BM.out BP.out 13 (by omega) (by omega)) 48 (by omega)) (by omega)).mono ?_
  rintro e w23 ⟨rfl, hb⟩
  have hb' : Below w22.heap.size w22 w23 := hb
  have HB_23 := Lib.hid (below_trans HB_22.out hb')
  clear hb hb' y_22 s_22 HB_22
  go_wp2
  go_ret
  exact ⟨rfl, HB_23.out⟩

set_option maxHeartbeats 1000000 in
theorem natSums_out (a : Option Addr) (n c : Nat) (b : Option Addr) (m d : Nat) (e : Option Addr) (q k : Nat) (w : World) (hn : n ≤ 9223372036854775807) (hm : m ≤ 9223372036854775807) (hq : q ≤ 9223372036854775807)
    (h : 12 < n ∨ 12 < m ∨ 12 < q) :
    Calls Try.prog 6 #[.slice a n c, .slice b m d, .slice e q k] w fun e w' => e = .returned (.bool true) ∧ Below w.heap.size w w' := by
  by_cases h1 : 12 < n
  · have g1 : (12 : Int) < (n : Int) := by omega
    clear h
    go_enter Try.func6, Try.ntmps6
    go_wp2_with fail
    refine (awake_any _).mono ?_
    rintro e w1 ⟨rfl, hb⟩
    go_wp2
    go_ret
    exact ⟨rfl, hb⟩
  · have g1 : (n : Int) ≤ 12 := by omega
    by_cases h2 : 12 < m
    · have g2 : (12 : Int) < (m : Int) := by omega
      clear h
      go_enter Try.func6, Try.ntmps6
      go_wp2_with fail
      refine (awake_any _).mono ?_
      rintro e w1 ⟨rfl, hb⟩
      go_wp2
      go_ret
      exact ⟨rfl, hb⟩
    · have g2 : (m : Int) ≤ 12 := by omega
      have g3 : (12 : Int) < (q : Int) := by omega
      clear h
      go_enter Try.func6, Try.ntmps6
      go_wp2_with fail
      refine (awake_any _).mono ?_
      rintro e w1 ⟨rfl, hb⟩
      go_wp2
      go_ret
      exact ⟨rfl, hb⟩
end Go.Proofs.Ytonjecddhbckgaa
