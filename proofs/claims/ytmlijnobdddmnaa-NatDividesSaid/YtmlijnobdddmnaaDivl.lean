/- NatDivides: the walk. -/
import Derived.Test.YtmlijnobdddmnaaBkz
namespace Go.Proofs.Ytmlijnobdddmnaa
open Go.RowKit

set_option maxHeartbeats 1000000 in
theorem natDivides_out (a : Option Addr) (n c : Nat) (b : Option Addr) (m d : Nat) (w : World) (hn : n ≤ 9223372036854775807) (hm : m ≤ 9223372036854775807)
    (h : 14 < n ∨ 14 < m) :
    Calls Try.prog 3 #[.slice a n c, .slice b m d] w fun e w' => e = .returned (.bool true) ∧ Below w.heap.size w w' := by
  by_cases h1 : 14 < n
  · have g1 : (14 : Int) < (n : Int) := by omega
    clear h
    go_enter Try.func3, Try.ntmps3
    go_wp2_with fail
    refine (awake_any _).mono ?_
    rintro e w1 ⟨rfl, hb⟩
    go_wp2
    go_ret
    exact ⟨rfl, hb⟩
  · have g1 : (n : Int) ≤ 14 := by omega
    have g2 : (14 : Int) < (m : Int) := by omega
    clear h
    go_enter Try.func3, Try.ntmps3
    go_wp2_with fail
    refine (awake_any _).mono ?_
    rintro e w1 ⟨rfl, hb⟩
    go_wp2
    go_ret
    exact ⟨rfl, hb⟩

set_option maxHeartbeats 4000000 in
theorem natDivides_zero (a : Option Addr) (n c : Nat) (b : Option Addr) (m d : Nat) (N : Nat)  (w : World) (hn : n ≤ 14) (hm : m ≤ 14)
    (ha : Lim 14 w (.slice a n c) N) (hb : Lim 14 w (.slice b m d) 0)  :
    Calls Try.prog 3 #[.slice a n c, .slice b m d] w fun e w' => e = .returned (.bool true) ∧ Below w.heap.size w w' := by
  have BN := Lib.hid ha.lt
  have BM := Lib.hid hb.lt
  have La_0 := Lib.hid ha
  have Lb_0 := Lib.hid hb
  have BQ : Hid (0 < 4294967296 ^ 14) := Nat.pow_pos (by omega)
  have BR : Hid (0 < 4294967296 ^ 14) := BQ
  have BG : Hid (Nat.gcd N 0 < 4294967296 ^ 14) := by show _ < _; rw [Nat.gcd_zero_right]; exact BN.out
  have g1 : (n : Int) ≤ 14 := by omega
  have g2 : (m : Int) ≤ 14 := by omega
  clear ha hb
  go_enter Try.func3, Try.ntmps3
  go_wp2_with fail
  refine Calls.mono (awake_any _) ?_
  rintro e w1 ⟨rfl, hb⟩
  have hb' : Below w.heap.size w w1 := hb
  have La_1 := Lib.hid (La_0.out.below hb')
  have Lb_1 := Lib.hid (Lb_0.out.below hb')
  have HB_1 := Lib.hid hb'
  clear hb hb' La_0 Lb_0
  go_wp2_with fail
  all_goals try (exfalso; omega)
  refine Calls.mono ((lim_div La_1.out Lb_1.out (by omega) (by omega))) ?_
  rintro e w2 ⟨q, r, he, hq, hr, hb⟩
  simp only [Nat.div_zero, ite_true, Nat.lt_irrefl, decide_false] at he hq hr
  subst he
  have hb' : Below w1.heap.size w1 w2 := hb
  have La_2 := Lib.hid (La_1.out.below hb')
  have Lb_2 := Lib.hid (Lb_1.out.below hb')
  have q_2 := Lib.hid (hq)
  have r_2 := Lib.hid (hr)
  have HB_2 := Lib.hid (below_trans HB_1.out hb')
  clear hb hb' La_1 Lb_1 HB_1
  (try clear hq)
  (try clear hr)
  go_wp2_with fail
  refine Calls.mono ((rDiv La_2.out Lb_2.out (by omega) (by omega))) ?_
  rintro e w3 ⟨x, y, he, hx, hy, hb⟩
  simp only [Nat.div_zero, ite_true, Nat.lt_irrefl, decide_false] at he hx hy
  subst he
  have hb' : Below w2.heap.size w2 w3 := hb
  have La_3 := Lib.hid (La_2.out.below hb')
  have Lb_3 := Lib.hid (Lb_2.out.below hb')
  have q_3 := Lib.hid (q_2.out.below hb')
  have r_3 := Lib.hid (r_2.out.below hb')
  have x_3 := Lib.hid (hx)
  have y_3 := Lib.hid (hy)
  have HB_3 := Lib.hid (below_trans HB_2.out hb')
  clear hb hb' La_2 Lb_2 q_2 r_2 HB_2
  (try clear hx)
  (try clear hy)
  go_wp2_with fail
  refine Calls.mono (isNat_same q_3.out x_3.out BQ.out (by omega)) ?_
  rintro e w4 ⟨rfl, hb⟩
  have hb' : Below w3.heap.size w3 w4 := hb
  have La_4 := Lib.hid (La_3.out.below hb')
  have Lb_4 := Lib.hid (Lb_3.out.below hb')
  have q_4 := Lib.hid (q_3.out.below hb')
  have r_4 := Lib.hid (r_3.out.below hb')
  have x_4 := Lib.hid (x_3.out.below hb')
  have y_4 := Lib.hid (y_3.out.below hb')
  have HB_4 := Lib.hid (below_trans HB_3.out hb')
  clear hb hb' La_3 Lb_3 q_3 r_3 x_3 y_3 HB_3
  go_wp2_with fail
  refine Calls.mono (isNat_same r_4.out y_4.out BR.out (by omega)) ?_
  rintro e w5 ⟨rfl, hb⟩
  have hb' : Below w4.heap.size w4 w5 := hb
  have La_5 := Lib.hid (La_4.out.below hb')
  have Lb_5 := Lib.hid (Lb_4.out.below hb')
  have q_5 := Lib.hid (q_4.out.below hb')
  have r_5 := Lib.hid (r_4.out.below hb')
  have HB_5 := Lib.hid (below_trans HB_4.out hb')
  clear hb hb' La_4 Lb_4 q_4 r_4 x_4 y_4 HB_4
  go_wp2_with fail
  refine Calls.mono (lim_gcd La_5.out Lb_5.out (by omega) (by omega)) ?_
  rintro e w6 ⟨vg, rfl, hg, hb⟩
  have hb' : Below w5.heap.size w5 w6 := hb
  have La_6 := Lib.hid (La_5.out.below hb')
  have Lb_6 := Lib.hid (Lb_5.out.below hb')
  have q_6 := Lib.hid (q_5.out.below hb')
  have r_6 := Lib.hid (r_5.out.below hb')
  have g_6 := Lib.hid (hg)
  have HB_6 := Lib.hid (below_trans HB_5.out hb')
  clear hb hb' La_5 Lb_5 q_5 r_5 HB_5
  (try clear hg)
  go_wp2_with fail
  refine Calls.mono (rGcd La_6.out Lb_6.out (by omega) (by omega)) ?_
  rintro e w7 ⟨vh, rfl, hh, hb⟩
  have hb' : Below w6.heap.size w6 w7 := hb
  have La_7 := Lib.hid (La_6.out.below hb')
  have Lb_7 := Lib.hid (Lb_6.out.below hb')
  have q_7 := Lib.hid (q_6.out.below hb')
  have r_7 := Lib.hid (r_6.out.below hb')
  have g_7 := Lib.hid (g_6.out.below hb')
  have h_7 := Lib.hid (hh)
  have HB_7 := Lib.hid (below_trans HB_6.out hb')
  clear hb hb' La_6 Lb_6 q_6 r_6 g_6 HB_6
  (try clear hh)
  go_wp2_with fail
  refine Calls.mono (isNat_same g_7.out h_7.out BG.out (by omega)) ?_
  rintro e w8 ⟨rfl, hb⟩
  have hb' : Below w7.heap.size w7 w8 := hb
  have La_8 := Lib.hid (La_7.out.below hb')
  have Lb_8 := Lib.hid (Lb_7.out.below hb')
  have q_8 := Lib.hid (q_7.out.below hb')
  have r_8 := Lib.hid (r_7.out.below hb')
  have HB_8 := Lib.hid (below_trans HB_7.out hb')
  clear hb hb' La_7 Lb_7 q_7 r_7 g_7 h_7 HB_7
  go_wp2
  go_ret
  exact ⟨rfl, HB_8.out⟩

set_option maxHeartbeats 4000000 in
theorem natDivides_pos (a : Option Addr) (n c : Nat) (b : Option Addr) (m d : Nat) (N M : Nat)  (w : World) (hn : n ≤ 14) (hm : m ≤ 14)
    (ha : Lim 14 w (.slice a n c) N) (hb : Lim 14 w (.slice b m d) M) (hM : 0 < M) :
    Calls Try.prog 3 #[.slice a n c, .slice b m d] w fun e w' => e = .returned (.bool true) ∧ Below w.heap.size w w' := by
  have BN := Lib.hid ha.lt
  have BM := Lib.hid hb.lt
  have La_0 := Lib.hid ha
  have Lb_0 := Lib.hid hb
  have M0 := Lib.hid hM
  have BQ : Hid (N / M < 4294967296 ^ 14) := Nat.lt_of_le_of_lt (Nat.div_le_self _ _) BN.out
  have RM : Hid (N % M < M) := Nat.mod_lt _ hM
  have BR : Hid (N % M < 4294967296 ^ 14) := Nat.lt_trans RM.out BM.out
  have BG : Hid (Nat.gcd N M < 4294967296 ^ 14) := Nat.lt_of_le_of_lt (Nat.gcd_le_right _ hM) BM.out
  have ES : Hid (N / M * M + N % M = N) := Nat.div_add_mod' N M
  have BP : Hid (N / M * M < 4294967296 ^ 14) := Nat.lt_of_le_of_lt (Nat.div_mul_le_self N M) BN.out
  clear hM
  have g1 : (n : Int) ≤ 14 := by omega
  have g2 : (m : Int) ≤ 14 := by omega
  clear ha hb
  go_enter Try.func3, Try.ntmps3
  go_wp2_with fail
  refine Calls.mono (awake_any _) ?_
  rintro e w1 ⟨rfl, hb⟩
  have hb' : Below w.heap.size w w1 := hb
  have La_1 := Lib.hid (La_0.out.below hb')
  have Lb_1 := Lib.hid (Lb_0.out.below hb')
  have HB_1 := Lib.hid hb'
  clear hb hb' La_0 Lb_0
  go_wp2_with fail
  all_goals try (exfalso; omega)
  refine Calls.mono ((lim_div La_1.out Lb_1.out (by omega) (by omega))) ?_
  rintro e w2 ⟨q, r, he, hq, hr, hb⟩
  simp only [if_neg (Nat.ne_of_gt M0.out), decide_eq_true M0.out] at he hq hr
  subst he
  have hb' : Below w1.heap.size w1 w2 := hb
  have La_2 := Lib.hid (La_1.out.below hb')
  have Lb_2 := Lib.hid (Lb_1.out.below hb')
  have q_2 := Lib.hid (hq)
  have r_2 := Lib.hid (hr)
  have HB_2 := Lib.hid (below_trans HB_1.out hb')
  clear hb hb' La_1 Lb_1 HB_1
  (try clear hq)
  (try clear hr)
  go_wp2_with fail
  refine Calls.mono ((rDiv La_2.out Lb_2.out (by omega) (by omega))) ?_
  rintro e w3 ⟨x, y, he, hx, hy, hb⟩
  simp only [if_neg (Nat.ne_of_gt M0.out), decide_eq_true M0.out] at he hx hy
  subst he
  have hb' : Below w2.heap.size w2 w3 := hb
  have La_3 := Lib.hid (La_2.out.below hb')
  have Lb_3 := Lib.hid (Lb_2.out.below hb')
  have q_3 := Lib.hid (q_2.out.below hb')
  have r_3 := Lib.hid (r_2.out.below hb')
  have x_3 := Lib.hid (hx)
  have y_3 := Lib.hid (hy)
  have HB_3 := Lib.hid (below_trans HB_2.out hb')
  clear hb hb' La_2 Lb_2 q_2 r_2 HB_2
  (try clear hx)
  (try clear hy)
  go_wp2_with fail
  refine Calls.mono (isNat_same q_3.out x_3.out BQ.out (by omega)) ?_
  rintro e w4 ⟨rfl, hb⟩
  have hb' : Below w3.heap.size w3 w4 := hb
  have La_4 := Lib.hid (La_3.out.below hb')
  have Lb_4 := Lib.hid (Lb_3.out.below hb')
  have q_4 := Lib.hid (q_3.out.below hb')
  have r_4 := Lib.hid (r_3.out.below hb')
  have x_4 := Lib.hid (x_3.out.below hb')
  have y_4 := Lib.hid (y_3.out.below hb')
  have HB_4 := Lib.hid (below_trans HB_3.out hb')
  clear hb hb' La_3 Lb_3 q_3 r_3 x_3 y_3 HB_3
  go_wp2_with fail
  refine Calls.mono (isNat_same r_4.out y_4.out BR.out (by omega)) ?_
  rintro e w5 ⟨rfl, hb⟩
  have hb' : Below w4.heap.size w4 w5 := hb
  have La_5 := Lib.hid (La_4.out.below hb')
  have Lb_5 := Lib.hid (Lb_4.out.below hb')
  have q_5 := Lib.hid (q_4.out.below hb')
  have r_5 := Lib.hid (r_4.out.below hb')
  have HB_5 := Lib.hid (below_trans HB_4.out hb')
  clear hb hb' La_4 Lb_4 q_4 r_4 x_4 y_4 HB_4
  go_wp2_with fail
  refine Calls.mono (lim_gcd La_5.out Lb_5.out (by omega) (by omega)) ?_
  rintro e w6 ⟨vg, rfl, hg, hb⟩
  have hb' : Below w5.heap.size w5 w6 := hb
  have La_6 := Lib.hid (La_5.out.below hb')
  have Lb_6 := Lib.hid (Lb_5.out.below hb')
  have q_6 := Lib.hid (q_5.out.below hb')
  have r_6 := Lib.hid (r_5.out.below hb')
  have g_6 := Lib.hid (hg)
  have HB_6 := Lib.hid (below_trans HB_5.out hb')
  clear hb hb' La_5 Lb_5 q_5 r_5 HB_5
  (try clear hg)
  go_wp2_with fail
  refine Calls.mono (rGcd La_6.out Lb_6.out (by omega) (by omega)) ?_
  rintro e w7 ⟨vh, rfl, hh, hb⟩
  have hb' : Below w6.heap.size w6 w7 := hb
  have La_7 := Lib.hid (La_6.out.below hb')
  have Lb_7 := Lib.hid (Lb_6.out.below hb')
  have q_7 := Lib.hid (q_6.out.below hb')
  have r_7 := Lib.hid (r_6.out.below hb')
  have g_7 := Lib.hid (g_6.out.below hb')
  have h_7 := Lib.hid (hh)
  have HB_7 := Lib.hid (below_trans HB_6.out hb')
  clear hb hb' La_6 Lb_6 q_6 r_6 g_6 HB_6
  (try clear hh)
  go_wp2_with fail
  refine Calls.mono (isNat_same g_7.out h_7.out BG.out (by omega)) ?_
  rintro e w8 ⟨rfl, hb⟩
  have hb' : Below w7.heap.size w7 w8 := hb
  have La_8 := Lib.hid (La_7.out.below hb')
  have Lb_8 := Lib.hid (Lb_7.out.below hb')
  have q_8 := Lib.hid (q_7.out.below hb')
  have r_8 := Lib.hid (r_7.out.below hb')
  have HB_8 := Lib.hid (below_trans HB_7.out hb')
  clear hb hb' La_7 Lb_7 q_7 r_7 g_7 h_7 HB_7
  go_wp2_with fail
  refine Calls.mono (lim_mul (q_8.out.lim BQ.out) Lb_8.out (by omega) (by omega)) ?_
  rintro e w9 ⟨vp, rfl, hp, hb⟩
  have hb' : Below w8.heap.size w8 w9 := hb
  have La_9 := Lib.hid (La_8.out.below hb')
  have Lb_9 := Lib.hid (Lb_8.out.below hb')
  have q_9 := Lib.hid (q_8.out.below hb')
  have r_9 := Lib.hid (r_8.out.below hb')
  have p_9 := Lib.hid (hp)
  have HB_9 := Lib.hid (below_trans HB_8.out hb')
  clear hb hb' La_8 Lb_8 q_8 r_8 HB_8
  (try clear hp)
  go_wp2_with fail
  refine Calls.mono (lim_add (p_9.out.lim BP.out) (r_9.out.lim BR.out) (by omega) (by omega)) ?_
  rintro e w10 ⟨vs, rfl, hs, hb⟩
  rw [ES.out] at hs
  have hb' : Below w9.heap.size w9 w10 := hb
  have La_10 := Lib.hid (La_9.out.below hb')
  have Lb_10 := Lib.hid (Lb_9.out.below hb')
  have q_10 := Lib.hid (q_9.out.below hb')
  have r_10 := Lib.hid (r_9.out.below hb')
  have p_10 := Lib.hid (p_9.out.below hb')
  have s_10 := Lib.hid (hs)
  have HB_10 := Lib.hid (below_trans HB_9.out hb')
  clear hb hb' La_9 Lb_9 q_9 r_9 p_9 HB_9
  (try clear hs)
  go_wp2_with fail
  refine Calls.mono (lim_rtr La_10.out (by omega)) ?_
  rintro e w11 ⟨vt, rfl, ht, hb⟩
  have hb' : Below w10.heap.size w10 w11 := hb
  have La_11 := Lib.hid (La_10.out.below hb')
  have Lb_11 := Lib.hid (Lb_10.out.below hb')
  have q_11 := Lib.hid (q_10.out.below hb')
  have r_11 := Lib.hid (r_10.out.below hb')
  have p_11 := Lib.hid (p_10.out.below hb')
  have s_11 := Lib.hid (s_10.out.below hb')
  have t_11 := Lib.hid (ht)
  have HB_11 := Lib.hid (below_trans HB_10.out hb')
  clear hb hb' La_10 Lb_10 q_10 r_10 p_10 s_10 HB_10
  (try clear ht)
  go_wp2_with fail
  refine Calls.mono (isNat_same s_11.out t_11.out BN.out (by omega)) ?_
  rintro e w12 ⟨rfl, hb⟩
  have hb' : Below w11.heap.size w11 w12 := hb
  have La_12 := Lib.hid (La_11.out.below hb')
  have Lb_12 := Lib.hid (Lb_11.out.below hb')
  have q_12 := Lib.hid (q_11.out.below hb')
  have r_12 := Lib.hid (r_11.out.below hb')
  have p_12 := Lib.hid (p_11.out.below hb')
  have s_12 := Lib.hid (s_11.out.below hb')
  have t_12 := Lib.hid (t_11.out.below hb')
  have HB_12 := Lib.hid (below_trans HB_11.out hb')
  clear hb hb' La_11 Lb_11 q_11 r_11 p_11 s_11 t_11 HB_11
  go_wp2_with fail
  refine Calls.mono (lim_cmp_is (-1) (cmpN_lt RM.out) (r_12.out.lim BR.out) Lb_12.out (by omega) (by omega)) ?_
  rintro e w13 ⟨rfl, hb⟩
  have hb' : Below w12.heap.size w12 w13 := hb
  have La_13 := Lib.hid (La_12.out.below hb')
  have Lb_13 := Lib.hid (Lb_12.out.below hb')
  have q_13 := Lib.hid (q_12.out.below hb')
  have r_13 := Lib.hid (r_12.out.below hb')
  have p_13 := Lib.hid (p_12.out.below hb')
  have s_13 := Lib.hid (s_12.out.below hb')
  have t_13 := Lib.hid (t_12.out.below hb')
  have HB_13 := Lib.hid (below_trans HB_12.out hb')
  clear hb hb' La_12 Lb_12 q_12 r_12 p_12 s_12 t_12 HB_12
  go_wp2
  go_ret
  exact ⟨rfl, HB_13.out⟩

theorem natDivides_in (a : Option Addr) (n c : Nat) (b : Option Addr) (m d : Nat) (N M : Nat) (w : World) (hn : n ≤ 14) (hm : m ≤ 14)
    (ha : Lim 14 w (.slice a n c) N) (hb : Lim 14 w (.slice b m d) M) :
    Calls Try.prog 3 #[.slice a n c, .slice b m d] w fun e w' => e = .returned (.bool true) ∧ Below w.heap.size w w' := by
  rcases Nat.eq_zero_or_pos M with h | h
  · subst h
    exact natDivides_zero a n c b m d N w hn hm ha hb
  · exact natDivides_pos a n c b m d N M w hn hm ha hb h
end Go.Proofs.Ytmlijnobdddmnaa
