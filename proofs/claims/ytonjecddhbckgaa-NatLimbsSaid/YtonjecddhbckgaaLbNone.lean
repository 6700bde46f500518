/- NatLimbs: the walk, case none. -/
import Derived.Test.YtonjecddhbckgaaLb0
namespace Go.Proofs.Ytonjecddhbckgaa
open Go.RowKit

set_option maxHeartbeats 4000000 in
theorem natLimbs_none (a : Option Addr) (n c : Nat) (N : Nat) (w : World) (hn : n ≤ 12)
    (ha : Lim 12 w (.slice a n c) N) (hM0 : N = 0) :
    Calls Try.prog 10 #[.slice a n c] w fun e w' => e = .returned (.bool true) ∧ Below w.heap.size w w' := by
  subst hM0
  have BN := Lib.hid ha.lt
  have La := Lib.hid ha
  have g1 : (n : Int) ≤ 12 := by omega
  clear ha
  go_enter Try.func10, Try.ntmps10
  go_wp2_with fail
  refine (awake_any _).mono ?_
  rintro e w1 ⟨rfl, hb⟩
  have hb' : Below w.heap.size w w1 := hb
  have La_1 := Lib.hid (La.out.below hb')
  have HB_1 := Lib.hid hb'
  clear hb hb' La
  go_wp2_with fail
  refine (lim_mul (La_1.out.below (below_new _ _)) (lit_two _ _ rfl 0 1 _ _ rfl rfl (by omega) (by omega)) (by omega) (by omega)).mono ?_
  rintro e w2 ⟨vp, rfl, hp, hb⟩
  have hL := (lit_two w1 _ rfl 0 1 _ _ rfl rfl (by omega) (by omega)).below hb
  rw [show 0 + 1 * 4294967296 = 4294967296 from rfl] at hp hL
  have hb' : Below w1.heap.size w1 w2 := (below_new w1 _).trans (hb.mono (by simp; try omega))
  have La_2 := Lib.hid (La_1.out.below hb')
  have p_2 := Lib.hid hp
  have L_2 := Lib.hid hL
  have HB_2 := Lib.hid (below_trans HB_1.out hb')
  clear hb hb' hp hL La_1 HB_1
  go_wp2_with fail
  refine ((lim_div La_2.out L_2.out (by omega) (by omega)).mono fun e w' h => h.yes (by omega)).mono ?_
  rintro e w3 ⟨vq, vr, rfl, hq, hr, hb⟩
  have hb' : Below w2.heap.size w2 w3 := hb
  have La_3 := Lib.hid (La_2.out.below hb')
  have p_3 := Lib.hid (p_2.out.below hb')
  have q_3 := Lib.hid hq
  have r_3 := Lib.hid hr
  have HB_3 := Lib.hid (below_trans HB_2.out hb')
  clear hb hb' hq hr La_2 p_2 L_2 HB_2
  go_wp2_with fail
  refine (rtr_none La_3.out (by omega)).mono ?_
  rintro e w4 ⟨tA, tc, rfl, hb⟩
  have hb' : Below w3.heap.size w3 w4 := hb
  have La_4 := Lib.hid (La_3.out.below hb')
  have p_4 := Lib.hid (p_3.out.below hb')
  have q_4 := Lib.hid (q_3.out.below hb')
  have r_4 := Lib.hid (r_3.out.below hb')
  have HB_4 := Lib.hid (below_trans HB_3.out hb')
  clear hb hb' La_3 p_3 q_3 r_3 HB_3
  go_wp2_with fail
  refine (lim_bytes La_4.out (by omega) len_zero).mono ?_
  rintro e w5 ⟨X, rfl, hb⟩
  have hb' : Below w4.heap.size w4 w5 := hb
  have p_5 := Lib.hid (p_4.out.below hb')
  have q_5 := Lib.hid (q_4.out.below hb')
  have r_5 := Lib.hid (r_4.out.below hb')
  have HB_5 := Lib.hid (below_trans HB_4.out hb')
  clear hb hb' La_4 p_4 q_4 r_4 HB_4
  obtain ⟨A1, c1, rfl⟩ := isNat_none p_5.out (Nat.zero_mul _)
  obtain ⟨A2, c2, rfl⟩ := isNat_none q_5.out (Nat.zero_div _)
  obtain ⟨A3, c3, rfl⟩ := isNat_none r_5.out (Nat.zero_mod _)
  go_wp2
  go_ret
  exact ⟨rfl, HB_5.out⟩
end Go.Proofs.Ytonjecddhbckgaa
