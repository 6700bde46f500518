/- NatLimbs: the walk, case pos. -/
import Derived.Test.YtonjecddhbckgaaLb0
namespace Go.Proofs.Ytonjecddhbckgaa
open Go.RowKit

set_option maxHeartbeats 4000000 in
theorem natLimbs_pos (a : Option Addr) (n c : Nat) (N : Nat) (w : World) (hn : n ≤ 12)
    (ha : Lim 12 w (.slice a n c) N) (hM0 : 0 < N) :
    Calls Try.prog 10 #[.slice a n c] w fun e w' => e = .returned (.bool true) ∧ Below w.heap.size w w' := by
  have BN := Lib.hid ha.lt
  have La := Lib.hid ha
  have hle := Lib.hid hM0
  have g1 : (n : Int) ≤ 12 := by omega
  clear ha hM0
  go_enter Try.func10, Try.ntmps10
  go_wp2_with fail
  refine (awake_any _).mono ?_
  rintro e w1 ⟨rfl, hb⟩
  have hb' : Below w.heap.size w w1 := hb
  have La_1 := Lib.hid (La.out.below hb')
  have HB_1 := Lib.hid hb'
  clear hb hb' La
  go_wp2_with fail
  refine (lim_mul (La_1.out.below (below_new _ _)) (lit_two _ _ rfl 0 1 _ _ rfl rfl (by omega) (by omega)) (by omega) (by omega)).mono ?_
  rintro e w2 ⟨vp, rfl, hp, hb⟩
  have hL := (lit_two w1 _ rfl 0 1 _ _ rfl rfl (by omega) (by omega)).below hb
  rw [show 0 + 1 * 4294967296 = 4294967296 from rfl] at hp hL
  have hb' : Below w1.heap.size w1 w2 := (below_new w1 _).trans (hb.mono (by simp; try omega))
  have La_2 := Lib.hid (La_1.out.below hb')
  have p_2 := Lib.hid hp
  have L_2 := Lib.hid hL
  have HB_2 := Lib.hid (below_trans HB_1.out hb')
  clear hb hb' hp hL La_1 HB_1
  go_wp2_with fail
  refine ((lim_div La_2.out L_2.out (by omega) (by omega)).mono fun e w' h => h.yes (by omega)).mono ?_
  rintro e w3 ⟨vq, vr, rfl, hq, hr, hb⟩
  have hb' : Below w2.heap.size w2 w3 := hb
  have La_3 := Lib.hid (La_2.out.below hb')
  have p_3 := Lib.hid (p_2.out.below hb')
  have q_3 := Lib.hid hq
  have r_3 := Lib.hid hr
  have HB_3 := Lib.hid (below_trans HB_2.out hb')
  clear hb hb' hq hr La_2 p_2 L_2 HB_2
  go_wp2_with fail
  refine (rtr_some La_3.out (by omega) hle.out).mono ?_
  rintro e w4 ⟨td, k, tc, rfl, ht, hb⟩
  have hb' : Below w3.heap.size w3 w4 := hb
  have La_4 := Lib.hid (La_3.out.below hb')
  have p_4 := Lib.hid (p_3.out.below hb')
  have q_4 := Lib.hid (q_3.out.below hb')
  have r_4 := Lib.hid (r_3.out.below hb')
  have t_4 := Lib.hid ht
  have HB_4 := Lib.hid (below_trans HB_3.out hb')
  clear hb hb' ht La_3 p_3 q_3 r_3 HB_3
  go_wp2_with fail
  refine (lim_bytes La_4.out (by omega) t_4.out.len).mono ?_
  rintro e w5 ⟨X, rfl, hb⟩
  have hb' : Below w4.heap.size w4 w5 := hb
  have p_5 := Lib.hid (p_4.out.below hb')
  have q_5 := Lib.hid (q_4.out.below hb')
  have r_5 := Lib.hid (r_4.out.below hb')
  have t_5 := Lib.hid (t_4.out.below hb')
  have HB_5 := Lib.hid (below_trans HB_4.out hb')
  clear hb hb' La_4 p_4 q_4 r_4 t_4 HB_4
  have hg1 : (((k + 1 : Nat) : Int) == 0) = false := by rw [beq_eq_false_iff_ne]; omega
  have hg2 : (((k : Int) + 1) == 0) = false := by rw [beq_eq_false_iff_ne]; omega
  have hk12 : k + 1 ≤ 12 := isNat_short t_5.out BN.out
  obtain ⟨f, f1, f2, f3, f4, f5⟩ := isNat_parts t_5.out
  have H2 := Lib.hid f2
  have H3 := Lib.hid f3
  have H4 := Lib.hid f4
  have H5 := Lib.hid f5
  clear f2 f3 f4 f5
  go_wp2_with (at_builtin; refine wpList_app rfl (.tmp 56) (.tmp 57) 22 rfl .u32 41 Try.underlying22 4 u32_info (by omega) w5.heap.size _ 1 (fun _ => 0) rfl (own_zero w5) (some td) (k + 1) tc f rfl (H2.out.below (below_new _ _)) (fun h => by cases h) (by omega) (by simp) ?_; intro v2 wz hown2 hb2 hsz2)
  have hz := own_app hown2 H3.out H4.out H5.out
  have hb' : Below w5.heap.size w5 wz := (below_new w5 _).trans hb2
  have p_6 := Lib.hid (p_5.out.below hb')
  have q_6 := Lib.hid (q_5.out.below hb')
  have r_6 := Lib.hid (r_5.out.below hb')
  have t_6 := Lib.hid (t_5.out.below hb')
  have z_6 := Lib.hid hz
  have HB_6 := Lib.hid (below_trans HB_5.out hb')
  clear hb' hown2 hb2 hz hsz2 H2 p_5 q_5 r_5 t_5 HB_5
  go_wp2_with fail
  refine (isNat_same (k := 24) p_6.out z_6.out (lt_mul BN.out (show 4294967296 < 4294967296 ^ 2 by decide) 24 (by omega)) (by omega)).mono ?_
  rintro e w7 ⟨rfl, hb⟩
  have hb' : Below wz.heap.size wz w7 := hb
  have q_7 := Lib.hid (q_6.out.below hb')
  have r_7 := Lib.hid (r_6.out.below hb')
  have t_7 := Lib.hid (t_6.out.below hb')
  have HB_7 := Lib.hid (below_trans HB_6.out hb')
  clear hb hb' p_6 q_6 r_6 t_6 z_6 HB_6
  by_cases htc : tc = 1
  · subst htc
    obtain ⟨hk0, hr1⟩ := isNat_rest_one t_7.out (some td) 0
    subst hk0
    have R1 := Lib.hid hr1
    clear hr1
    go_wp2_with fail
    refine (isNat_same (k := 12) q_7.out R1.out (Nat.lt_of_le_of_lt (Nat.div_le_self _ _) BN.out) (by omega)).mono ?_
    rintro e w8 ⟨rfl, hb⟩
    have hb' : Below w7.heap.size w7 w8 := hb
    have r_8 := Lib.hid (r_7.out.below hb')
    have t_8 := Lib.hid (t_7.out.below hb')
    have HB_8 := Lib.hid (below_trans HB_7.out hb')
    clear hb hb' q_7 r_7 t_7 HB_7
    go_wp2_with fail
    refine (lim_rtr (isNat_head t_8.out) (by omega)).mono ?_
    rintro e w9 ⟨vy, rfl, hy, hb⟩
    have hb' : Below w8.heap.size w8 w9 := hb
    have r_9 := Lib.hid (r_8.out.below hb')
    have y_9 := Lib.hid hy
    have HB_9 := Lib.hid (below_trans HB_8.out hb')
    clear hb hb' hy r_8 t_8 HB_8
    go_wp2_with fail
    refine (isNat_same (k := 12) r_9.out y_9.out (Nat.lt_of_le_of_lt (Nat.mod_le _ _) BN.out) (by omega)).mono ?_
    rintro e w10 ⟨rfl, hb⟩
    have hb' : Below w9.heap.size w9 w10 := hb
    have HB_10 := Lib.hid (below_trans HB_9.out hb')
    clear hb hb' r_9 y_9 HB_9
    go_wp2
    go_ret
    exact ⟨rfl, HB_10.out⟩
  · have R1 := Lib.hid (isNat_rest t_7.out)
    go_wp2_with fail
    refine (isNat_same (k := 12) q_7.out R1.out (Nat.lt_of_le_of_lt (Nat.div_le_self _ _) BN.out) (by omega)).mono ?_
    rintro e w8 ⟨rfl, hb⟩
    have hb' : Below w7.heap.size w7 w8 := hb
    have r_8 := Lib.hid (r_7.out.below hb')
    have t_8 := Lib.hid (t_7.out.below hb')
    have HB_8 := Lib.hid (below_trans HB_7.out hb')
    clear hb hb' q_7 r_7 t_7 HB_7
    go_wp2_with fail
    refine (lim_rtr (isNat_head t_8.out) (by omega)).mono ?_
    rintro e w9 ⟨vy, rfl, hy, hb⟩
    have hb' : Below w8.heap.size w8 w9 := hb
    have r_9 := Lib.hid (r_8.out.below hb')
    have y_9 := Lib.hid hy
    have HB_9 := Lib.hid (below_trans HB_8.out hb')
    clear hb hb' hy r_8 t_8 HB_8
    go_wp2_with fail
    refine (isNat_same (k := 12) r_9.out y_9.out (Nat.lt_of_le_of_lt (Nat.mod_le _ _) BN.out) (by omega)).mono ?_
    rintro e w10 ⟨rfl, hb⟩
    have hb' : Below w9.heap.size w9 w10 := hb
    have HB_10 := Lib.hid (below_trans HB_9.out hb')
    clear hb hb' r_9 y_9 HB_9
    go_wp2
    go_ret
    exact ⟨rfl, HB_10.out⟩
end Go.Proofs.Ytonjecddhbckgaa
