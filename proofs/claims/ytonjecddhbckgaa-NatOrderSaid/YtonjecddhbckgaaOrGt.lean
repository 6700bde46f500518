/- NatOrder: the walk, case gt. -/
import Derived.Test.YtonjecddhbckgaaSf
namespace Go.Proofs.Ytonjecddhbckgaa
open Go.RowKit

set_option maxHeartbeats 4000000 in
theorem natOrder_gt (a : Option Addr) (n c : Nat) (b : Option Addr) (m d : Nat) (N M : Nat) (w : World) (hn : n ≤ 14) (hm : m ≤ 14)
    (ha : Lim 14 w (.slice a n c) N) (hb : Lim 14 w (.slice b m d) M) (hlt0 : M < N) :
    Calls Try.prog 11 #[.slice a n c, .slice b m d] w fun e w' => e = .returned (.bool true) ∧ Below w.heap.size w w' := by
  have BN := Lib.hid ha.lt
  have BM := Lib.hid hb.lt
  have La := Lib.hid ha
  have Lb := Lib.hid hb
  have hlt := Lib.hid hlt0
  clear ha hb hlt0
  have g1 : (n : Int) ≤ 14 := by omega
  have g2 : (m : Int) ≤ 14 := by omega
  go_enter Try.func11, Try.ntmps11
  go_wp2_with fail
  refine (awake_any _).mono ?_
  rintro e w1 ⟨rfl, hb⟩
  have hb' : Below w.heap.size w w1 := hb
  have La_1 := Lib.hid (La.out.below hb')
  have Lb_1 := Lib.hid (Lb.out.below hb')
  have HB_1 := Lib.hid hb'
  clear hb hb' La Lb
  go_wp2_with fail
  refine (lim_cmp_is (1) (cmpN_gt hlt.out) La_1.out Lb_1.out (by omega) (by omega)).mono ?_
  rintro e w2 ⟨rfl, hb⟩
  have hb' : Below w1.heap.size w1 w2 := hb
  have La_2 := Lib.hid (La_1.out.below hb')
  have Lb_2 := Lib.hid (Lb_1.out.below hb')
  have HB_2 := Lib.hid (below_trans HB_1.out hb')
  clear hb hb' La_1 Lb_1 HB_1
  go_wp2_with fail
  refine ((lim_sub La_2.out Lb_2.out (by omega) (by omega)).mono fun e w' h => h.yes (Nat.le_of_lt hlt.out)).mono ?_
  rintro e w3 ⟨vs2, rfl, hs, hb⟩
  have hb' : Below w2.heap.size w2 w3 := hb
  have La_3 := Lib.hid (La_2.out.below hb')
  have Lb_3 := Lib.hid (Lb_2.out.below hb')
  have HB_3 := Lib.hid (below_trans HB_2.out hb')
  clear hb hb' La_2 Lb_2 HB_2
  clear hs
  go_wp2_with fail
  refine ((lim_sub Lb_3.out La_3.out (by omega) (by omega)).mono fun e w' h => h.no hlt.out).mono ?_
  rintro e w4 ⟨vs3, rfl, hs, hb⟩
  have hb' : Below w3.heap.size w3 w4 := hb
  have La_4 := Lib.hid (La_3.out.below hb')
  have Lb_4 := Lib.hid (Lb_3.out.below hb')
  have HB_4 := Lib.hid (below_trans HB_3.out hb')
  clear hb hb' La_3 Lb_3 HB_3
  clear hs
  go_wp2_with fail
  refine (lim_add La_4.out Lb_4.out (by omega) (by omega)).mono ?_
  rintro e w5 ⟨vx, rfl, hx, hb⟩
  have hb' : Below w4.heap.size w4 w5 := hb
  have La_5 := Lib.hid (La_4.out.below hb')
  have Lb_5 := Lib.hid (Lb_4.out.below hb')
  have x_5 := Lib.hid hx
  have HB_5 := Lib.hid (below_trans HB_4.out hb')
  clear hb hb' hx La_4 Lb_4 HB_4
  go_wp2_with fail
  refine (lim_cmp_is (-1) (cmpN_lt hlt.out) Lb_5.out La_5.out (by omega) (by omega)).mono ?_
  rintro e w6 ⟨rfl, hb⟩
  have hb' : Below w5.heap.size w5 w6 := hb
  have La_6 := Lib.hid (La_5.out.below hb')
  have Lb_6 := Lib.hid (Lb_5.out.below hb')
  have x_6 := Lib.hid (x_5.out.below hb')
  have HB_6 := Lib.hid (below_trans HB_5.out hb')
  clear hb hb' La_5 Lb_5 x_5 HB_5
  go_wp2_with fail
  refine (lim_cmp_ge (Nat.le_add_right N M) (x_6.out.lim (lt_add BN.out BM.out 15 (by omega) (by omega))) La_6.out (by omega) (by omega)).mono ?_
  rintro e w7 ⟨r1, rfl, hr1, hb⟩
  have hb' : Below w6.heap.size w6 w7 := hb
  have La_7 := Lib.hid (La_6.out.below hb')
  have Lb_7 := Lib.hid (Lb_6.out.below hb')
  have x_7 := Lib.hid (x_6.out.below hb')
  have HB_7 := Lib.hid (below_trans HB_6.out hb')
  clear hb hb' La_6 Lb_6 x_6 HB_6
  go_wp2_with fail
  refine (lim_cmp_ge (Nat.le_add_left M N) (x_7.out.lim (lt_add BN.out BM.out 15 (by omega) (by omega))) Lb_7.out (by omega) (by omega)).mono ?_
  rintro e w8 ⟨r2, rfl, hr2, hb⟩
  have hb' : Below w7.heap.size w7 w8 := hb
  have La_8 := Lib.hid (La_7.out.below hb')
  have Lb_8 := Lib.hid (Lb_7.out.below hb')
  have HB_8 := Lib.hid (below_trans HB_7.out hb')
  clear hb hb' La_7 Lb_7 x_7 HB_7
  go_wp2_with fail
  refine (lim_trim La_8.out (by omega)).mono ?_
  rintro e w9 ⟨vy, rfl, hy, hb⟩
  have hb' : Below w8.heap.size w8 w9 := hb
  have La_9 := Lib.hid (La_8.out.below hb')
  have Lb_9 := Lib.hid (Lb_8.out.below hb')
  have y_9 := Lib.hid hy
  have HB_9 := Lib.hid (below_trans HB_8.out hb')
  clear hb hb' hy La_8 Lb_8 HB_8
  go_wp2_with fail
  refine (lim_trim Lb_9.out (by omega)).mono ?_
  rintro e w10 ⟨vz, rfl, hz, hb⟩
  have hb' : Below w9.heap.size w9 w10 := hb
  have y_10 := Lib.hid (y_9.out.below hb')
  have z_10 := Lib.hid hz
  have HB_10 := Lib.hid (below_trans HB_9.out hb')
  clear hb hb' hz La_9 Lb_9 y_9 HB_9
  go_wp2_with fail
  refine (isNat_differ y_10.out z_10.out BN.out BM.out (by omega) (Nat.ne_of_gt hlt.out)).mono ?_
  rintro e w11 ⟨rfl, hb⟩
  have hb' : Below w10.heap.size w10 w11 := hb
  have HB_11 := Lib.hid (below_trans HB_10.out hb')
  clear hb hb' y_10 z_10 HB_10
  go_wp2
  go_ret
  exact ⟨rfl, HB_11.out⟩

end Go.Proofs.Ytonjecddhbckgaa
