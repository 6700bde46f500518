/- NatReckons: the walk, case yes. -/
import Derived.Test.YtonjecddhbckgaaRf
namespace Go.Proofs.Ytonjecddhbckgaa
open Go.RowKit

set_option maxHeartbeats 4000000 in
theorem natReckons_yes (a : Option Addr) (n c : Nat) (b : Option Addr) (m d : Nat) (N M : Nat) (w : World) (hn : n ≤ 40) (hm : m ≤ 40)
    (ha : Lim 40 w (.slice a n c) N) (hb : Lim 40 w (.slice b m d) M) (hle0 : M ≤ N) :
    Calls Try.prog 3 #[.slice a n c, .slice b m d] w fun e w' => e = .returned (.bool true) ∧ Below w.heap.size w w' := by
  have BN := Lib.hid ha.lt
  have BM := Lib.hid hb.lt
  have La := Lib.hid ha
  have Lb := Lib.hid hb
  have hle := Lib.hid hle0
  have g1 : (n : Int) ≤ 40 := by omega
  have g2 : (m : Int) ≤ 40 := by omega
  obtain ⟨r, hr⟩ : ∃ r, cmpN N M = r := ⟨_, rfl⟩
  have HR := Lib.hid hr
  clear ha hb hle0 hr
  go_enter Try.func3, Try.ntmps3
  go_wp2_with fail
  refine (awake_any _).mono ?_
  rintro e w1 ⟨rfl, hb⟩
  have hb' : Below w.heap.size w w1 := hb
  have La_1 := Lib.hid (La.out.below hb')
  have Lb_1 := Lib.hid (Lb.out.below hb')
  have HB_1 := Lib.hid hb'
  clear hb hb' La Lb
  go_wp2_with fail
  refine ((lim_sub La_1.out Lb_1.out (by omega) (by omega)).mono fun e w' h => h.yes hle.out).mono ?_
  rintro e w2 ⟨vd, rfl, hd, hb⟩
  have hb' : Below w1.heap.size w1 w2 := hb
  have La_2 := Lib.hid (La_1.out.below hb')
  have Lb_2 := Lib.hid (Lb_1.out.below hb')
  have d_2 := Lib.hid hd
  have HB_2 := Lib.hid (below_trans HB_1.out hb')
  clear hb hb' hd La_1 Lb_1 HB_1
  go_wp2_with fail
  refine (rSub_yes La_2.out Lb_2.out (by omega) (by omega) hle.out).mono ?_
  rintro e w3 ⟨ve, rfl, he, hb⟩
  have hb' : Below w2.heap.size w2 w3 := hb
  have La_3 := Lib.hid (La_2.out.below hb')
  have Lb_3 := Lib.hid (Lb_2.out.below hb')
  have d_3 := Lib.hid (d_2.out.below hb')
  have e_3 := Lib.hid he
  have HB_3 := Lib.hid (below_trans HB_2.out hb')
  clear hb hb' he La_2 Lb_2 d_2 HB_2
  go_wp2_with fail
  refine (lim_trim La_3.out (by omega)).mono ?_
  rintro e w4 ⟨vx, rfl, hx, hb⟩
  have hb' : Below w3.heap.size w3 w4 := hb
  have La_4 := Lib.hid (La_3.out.below hb')
  have Lb_4 := Lib.hid (Lb_3.out.below hb')
  have d_4 := Lib.hid (d_3.out.below hb')
  have e_4 := Lib.hid (e_3.out.below hb')
  have x_4 := Lib.hid hx
  have HB_4 := Lib.hid (below_trans HB_3.out hb')
  clear hb hb' hx La_3 Lb_3 d_3 e_3 HB_3
  go_wp2_with fail
  refine (lim_rtr La_4.out (by omega)).mono ?_
  rintro e w5 ⟨vy, rfl, hy, hb⟩
  have hb' : Below w4.heap.size w4 w5 := hb
  have La_5 := Lib.hid (La_4.out.below hb')
  have Lb_5 := Lib.hid (Lb_4.out.below hb')
  have d_5 := Lib.hid (d_4.out.below hb')
  have e_5 := Lib.hid (e_4.out.below hb')
  have x_5 := Lib.hid (x_4.out.below hb')
  have y_5 := Lib.hid hy
  have HB_5 := Lib.hid (below_trans HB_4.out hb')
  clear hb hb' hy La_4 Lb_4 d_4 e_4 x_4 HB_4
  go_wp2_with fail
  refine (isNat_same x_5.out y_5.out BN.out (by omega)).mono ?_
  rintro e w6 ⟨rfl, hb⟩
  have hb' : Below w5.heap.size w5 w6 := hb
  have La_6 := Lib.hid (La_5.out.below hb')
  have Lb_6 := Lib.hid (Lb_5.out.below hb')
  have d_6 := Lib.hid (d_5.out.below hb')
  have e_6 := Lib.hid (e_5.out.below hb')
  have HB_6 := Lib.hid (below_trans HB_5.out hb')
  clear hb hb' La_5 Lb_5 d_5 e_5 x_5 y_5 HB_5
  go_wp2_with fail
  refine (lim_cmp_is r HR.out La_6.out Lb_6.out (by omega) (by omega)).mono ?_
  rintro e w7 ⟨rfl, hb⟩
  have hb' : Below w6.heap.size w6 w7 := hb
  have La_7 := Lib.hid (La_6.out.below hb')
  have Lb_7 := Lib.hid (Lb_6.out.below hb')
  have d_7 := Lib.hid (d_6.out.below hb')
  have e_7 := Lib.hid (e_6.out.below hb')
  have HB_7 := Lib.hid (below_trans HB_6.out hb')
  clear hb hb' La_6 Lb_6 d_6 e_6 HB_6
  have DC := rCmp La_7.out Lb_7.out (by omega) (by omega)
  unfold CmpPost at DC
  rw [HR.out] at DC
  have HDC := Lib.hid DC
  clear DC
  go_wp2_with fail
  refine (HDC.out).mono ?_
  rintro e w8 ⟨rfl, hb⟩
  have hb' : Below w7.heap.size w7 w8 := hb
  have La_8 := Lib.hid (La_7.out.below hb')
  have Lb_8 := Lib.hid (Lb_7.out.below hb')
  have d_8 := Lib.hid (d_7.out.below hb')
  have e_8 := Lib.hid (e_7.out.below hb')
  have HB_8 := Lib.hid (below_trans HB_7.out hb')
  clear hb hb' La_7 Lb_7 d_7 e_7 HB_7
  go_wp2_with fail
  refine (lim_add La_8.out Lb_8.out (by omega) (by omega)).mono ?_
  rintro e w9 ⟨vx2, rfl, hx, hb⟩
  have hb' : Below w8.heap.size w8 w9 := hb
  have La_9 := Lib.hid (La_8.out.below hb')
  have Lb_9 := Lib.hid (Lb_8.out.below hb')
  have d_9 := Lib.hid (d_8.out.below hb')
  have e_9 := Lib.hid (e_8.out.below hb')
  have x_9 := Lib.hid hx
  have HB_9 := Lib.hid (below_trans HB_8.out hb')
  clear hb hb' hx La_8 Lb_8 d_8 e_8 HB_8
  go_wp2_with fail
  refine (rAdd La_9.out Lb_9.out (by omega) (by omega)).mono ?_
  rintro e w10 ⟨vy2, rfl, hy, hb⟩
  have hb' : Below w9.heap.size w9 w10 := hb
  have La_10 := Lib.hid (La_9.out.below hb')
  have Lb_10 := Lib.hid (Lb_9.out.below hb')
  have d_10 := Lib.hid (d_9.out.below hb')
  have e_10 := Lib.hid (e_9.out.below hb')
  have x_10 := Lib.hid (x_9.out.below hb')
  have y_10 := Lib.hid hy
  have HB_10 := Lib.hid (below_trans HB_9.out hb')
  clear hb hb' hy La_9 Lb_9 d_9 e_9 x_9 HB_9
  go_wp2_with fail
  refine (isNat_same (k := 80) x_10.out y_10.out (lt_add BN.out BM.out 80 (by omega) (by omega)) (by omega)).mono ?_
  rintro e w11 ⟨rfl, hb⟩
  have hb' : Below w10.heap.size w10 w11 := hb
  have La_11 := Lib.hid (La_10.out.below hb')
  have Lb_11 := Lib.hid (Lb_10.out.below hb')
  have d_11 := Lib.hid (d_10.out.below hb')
  have e_11 := Lib.hid (e_10.out.below hb')
  have HB_11 := Lib.hid (below_trans HB_10.out hb')
  clear hb hb' La_10 Lb_10 d_10 e_10 x_10 y_10 HB_10
  go_wp2_with fail
  refine (isNat_same (k := 80) d_11.out e_11.out (lt_le (Nat.lt_of_le_of_lt (Nat.sub_le _ _) BN.out) (by omega)) (by omega)).mono ?_
  rintro e w12 ⟨rfl, hb⟩
  have hb' : Below w11.heap.size w11 w12 := hb
  have La_12 := Lib.hid (La_11.out.below hb')
  have Lb_12 := Lib.hid (Lb_11.out.below hb')
  have HB_12 := Lib.hid (below_trans HB_11.out hb')
  clear hb hb' La_11 Lb_11 d_11 e_11 HB_11
  go_wp2_with fail
  refine (lim_mul La_12.out Lb_12.out (by omega) (by omega)).mono ?_
  rintro e w13 ⟨vx3, rfl, hx, hb⟩
  have hb' : Below w12.heap.size w12 w13 := hb
  have La_13 := Lib.hid (La_12.out.below hb')
  have Lb_13 := Lib.hid (Lb_12.out.below hb')
  have x_13 := Lib.hid hx
  have HB_13 := Lib.hid (below_trans HB_12.out hb')
  clear hb hb' hx La_12 Lb_12 HB_12
  go_wp2_with fail
  refine (rMul La_13.out Lb_13.out (by omega) (by omega)).mono ?_
  rintro e w14 ⟨vy3, rfl, hy, hb⟩
  have hb' : Below w13.heap.size w13 w14 := hb
  have x_14 := Lib.hid (x_13.out.below hb')
  have y_14 := Lib.hid hy
  have HB_14 := Lib.hid (below_trans HB_13.out hb')
  clear hb hb' hy La_13 Lb_13 x_13 HB_13
  go_wp2_with fail
  refine (isNat_same (k := 80) x_14.out y_14.out (lt_mul BN.out BM.out 80 (by omega)) (by omega)).mono ?_
  rintro e w15 ⟨rfl, hb⟩
  have hb' : Below w14.heap.size w14 w15 := hb
  have HB_15 := Lib.hid (below_trans HB_14.out hb')
  clear hb hb' x_14 y_14 HB_14
  go_wp2
  go_ret
  exact ⟨rfl, HB_15.out⟩
end Go.Proofs.Ytonjecddhbckgaa
