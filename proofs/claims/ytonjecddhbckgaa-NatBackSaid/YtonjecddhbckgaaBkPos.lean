/- NatBack: the walk, case pos. -/
import Derived.Test.YtonjecddhbckgaaBk0
namespace Go.Proofs.Ytonjecddhbckgaa
open Go.RowKit

set_option maxHeartbeats 4000000 in
theorem natBack_pos (a : Option Addr) (n c : Nat) (b : Option Addr) (m d : Nat) (N M : Nat) (w : World) (hn : n ≤ 12) (hm : m ≤ 12)
    (ha : Lim 12 w (.slice a n c) N) (hb : Lim 12 w (.slice b m d) M) (hM0 : 0 < M) :
    Calls Try.prog 7 #[.slice a n c, .slice b m d] w fun e w' => e = .returned (.bool true) ∧ Below w.heap.size w w' := by
  have BN := Lib.hid ha.lt
  have BM := Lib.hid hb.lt
  have La := Lib.hid ha
  have Lb := Lib.hid hb
  have hle := Lib.hid hM0
  have g1 : (n : Int) ≤ 12 := by omega
  have g2 : (m : Int) ≤ 12 := by omega
  clear ha hb hM0
  go_enter Try.func7, Try.ntmps7
  go_wp2_with fail
  refine (awake_any _).mono ?_
  rintro e w1 ⟨rfl, hb⟩
  have hb' : Below w.heap.size w w1 := hb
  have La_1 := Lib.hid (La.out.below hb')
  have Lb_1 := Lib.hid (Lb.out.below hb')
  have HB_1 := Lib.hid hb'
  clear hb hb' La Lb
  go_wp2_with fail
  refine (lim_add La_1.out Lb_1.out (by omega) (by omega)).mono ?_
  rintro e w2 ⟨vs, rfl, hs, hb⟩
  have hb' : Below w1.heap.size w1 w2 := hb
  have La_2 := Lib.hid (La_1.out.below hb')
  have Lb_2 := Lib.hid (Lb_1.out.below hb')
  have s_2 := Lib.hid hs
  have HB_2 := Lib.hid (below_trans HB_1.out hb')
  clear hb hb' hs La_1 Lb_1 HB_1
  go_wp2_with fail
  refine (back_sub (s_2.out.lim (lt_add BN.out BM.out 24 (by omega) (by omega))) Lb_2.out (by omega) (by omega)).mono ?_
  rintro e w3 ⟨vd, rfl, hd, hb⟩
  have hb' : Below w2.heap.size w2 w3 := hb
  have La_3 := Lib.hid (La_2.out.below hb')
  have Lb_3 := Lib.hid (Lb_2.out.below hb')
  have d_3 := Lib.hid hd
  have HB_3 := Lib.hid (below_trans HB_2.out hb')
  clear hb hb' hd La_2 Lb_2 s_2 HB_2
  go_wp2_with fail
  refine (lim_mul La_3.out Lb_3.out (by omega) (by omega)).mono ?_
  rintro e w4 ⟨vp, rfl, hp, hb⟩
  have hb' : Below w3.heap.size w3 w4 := hb
  have La_4 := Lib.hid (La_3.out.below hb')
  have Lb_4 := Lib.hid (Lb_3.out.below hb')
  have d_4 := Lib.hid (d_3.out.below hb')
  have p_4 := Lib.hid hp
  have HB_4 := Lib.hid (below_trans HB_3.out hb')
  clear hb hb' hp La_3 Lb_3 d_3 HB_3
  go_wp2_with fail
  refine (back_div (p_4.out.lim (lt_mul BN.out BM.out 24 (by omega))) Lb_4.out (by omega) (by omega) hle.out).mono ?_
  rintro e w5 ⟨vq, A, cr, rfl, hq, hb⟩
  have hb' : Below w4.heap.size w4 w5 := hb
  have La_5 := Lib.hid (La_4.out.below hb')
  have Lb_5 := Lib.hid (Lb_4.out.below hb')
  have d_5 := Lib.hid (d_4.out.below hb')
  have q_5 := Lib.hid hq
  have HB_5 := Lib.hid (below_trans HB_4.out hb')
  clear hb hb' hq La_4 Lb_4 d_4 p_4 HB_4
  go_wp2_with fail
  refine (rtr_pos Lb_5.out (by omega) hle.out).mono ?_
  rintro e w6 ⟨A2, n2, c2, rfl, -, hb⟩
  have hb' : Below w5.heap.size w5 w6 := hb
  have La_6 := Lib.hid (La_5.out.below hb')
  have d_6 := Lib.hid (d_5.out.below hb')
  have q_6 := Lib.hid (q_5.out.below hb')
  have HB_6 := Lib.hid (below_trans HB_5.out hb')
  clear hb hb' La_5 Lb_5 d_5 q_5 HB_5
  have hg1 : (((n2 + 1 : Nat) : Int) == 0) = false := by rw [beq_eq_false_iff_ne]; omega
  have hg2 : (((n2 : Int) + 1) == 0) = false := by rw [beq_eq_false_iff_ne]; omega
  go_wp2_with fail
  refine (lim_rtr La_6.out (by omega)).mono ?_
  rintro e w7 ⟨vy, rfl, hy, hb⟩
  have hb' : Below w6.heap.size w6 w7 := hb
  have La_7 := Lib.hid (La_6.out.below hb')
  have d_7 := Lib.hid (d_6.out.below hb')
  have q_7 := Lib.hid (q_6.out.below hb')
  have y_7 := Lib.hid hy
  have HB_7 := Lib.hid (below_trans HB_6.out hb')
  clear hb hb' hy La_6 d_6 q_6 HB_6
  go_wp2_with fail
  refine (isNat_same d_7.out y_7.out BN.out (by omega)).mono ?_
  rintro e w8 ⟨rfl, hb⟩
  have hb' : Below w7.heap.size w7 w8 := hb
  have La_8 := Lib.hid (La_7.out.below hb')
  have q_8 := Lib.hid (q_7.out.below hb')
  have HB_8 := Lib.hid (below_trans HB_7.out hb')
  clear hb hb' La_7 d_7 q_7 y_7 HB_7
  go_wp2_with fail
  refine (lim_rtr La_8.out (by omega)).mono ?_
  rintro e w9 ⟨vz, rfl, hz, hb⟩
  have hb' : Below w8.heap.size w8 w9 := hb
  have q_9 := Lib.hid (q_8.out.below hb')
  have z_9 := Lib.hid hz
  have HB_9 := Lib.hid (below_trans HB_8.out hb')
  clear hb hb' hz La_8 q_8 HB_8
  go_wp2_with fail
  refine (isNat_same q_9.out z_9.out BN.out (by omega)).mono ?_
  rintro e w10 ⟨rfl, hb⟩
  have hb' : Below w9.heap.size w9 w10 := hb
  have HB_10 := Lib.hid (below_trans HB_9.out hb')
  clear hb hb' q_9 z_9 HB_9
  go_wp2
  go_ret
  exact ⟨rfl, HB_10.out⟩
end Go.Proofs.Ytonjecddhbckgaa
