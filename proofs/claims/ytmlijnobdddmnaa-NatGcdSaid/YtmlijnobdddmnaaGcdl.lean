/- NatGcd: the walk. -/
import Derived.Test.YtmlijnobdddmnaaBkz
namespace Go.Proofs.Ytmlijnobdddmnaa
open Go.RowKit

set_option maxHeartbeats 1000000 in
theorem natGcd_out (a : Option Addr) (n c : Nat) (b : Option Addr) (m d : Nat) (w : World) (hn : n ≤ 9223372036854775807) (hm : m ≤ 9223372036854775807)
    (h : 6 < n ∨ 6 < m) :
    Calls Try.prog 4 #[.slice a n c, .slice b m d] w fun e w' => e = .returned (.bool true) ∧ Below w.heap.size w w' := by
  by_cases h1 : 6 < n
  · have g1 : (6 : Int) < (n : Int) := by omega
    clear h
    go_enter Try.func4, Try.ntmps4
    go_wp2_with fail
    refine (awake_any _).mono ?_
    rintro e w1 ⟨rfl, hb⟩
    go_wp2
    go_ret
    exact ⟨rfl, hb⟩
  · have g1 : (n : Int) ≤ 6 := by omega
    have g2 : (6 : Int) < (m : Int) := by omega
    clear h
    go_enter Try.func4, Try.ntmps4
    go_wp2_with fail
    refine (awake_any _).mono ?_
    rintro e w1 ⟨rfl, hb⟩
    go_wp2
    go_ret
    exact ⟨rfl, hb⟩

set_option maxHeartbeats 4000000 in
theorem natGcd_none (a : Option Addr) (n c : Nat) (b : Option Addr) (m d : Nat)   (w : World) (hn : n ≤ 6) (hm : m ≤ 6)
    (ha : Lim 6 w (.slice a n c) 0) (hb : Lim 6 w (.slice b m d) 0)  :
    Calls Try.prog 4 #[.slice a n c, .slice b m d] w fun e w' => e = .returned (.bool true) ∧ Below w.heap.size w w' := by
  have BN := Lib.hid ha.lt
  have BM := Lib.hid hb.lt
  have La_0 := Lib.hid ha
  have Lb_0 := Lib.hid hb
  have g1 : (n : Int) ≤ 6 := by omega
  have g2 : (m : Int) ≤ 6 := by omega
  clear ha hb
  go_enter Try.func4, Try.ntmps4
  go_wp2_with fail
  refine Calls.mono (awake_any _) ?_
  rintro e w1 ⟨rfl, hb⟩
  have hb' : Below w.heap.size w w1 := hb
  have La_1 := Lib.hid (La_0.out.below hb')
  have Lb_1 := Lib.hid (Lb_0.out.below hb')
  have HB_1 := Lib.hid hb'
  clear hb hb' La_0 Lb_0
  go_wp2_with fail
  all_goals try (exfalso; omega)
  refine Calls.mono (lim_gcd La_1.out Lb_1.out (by omega) (by omega)) ?_
  rintro e w2 ⟨vg, rfl, hg, hb⟩
  obtain ⟨Ag, cg, rfl⟩ := isNat_none hg rfl
  clear hg
  have hb' : Below w1.heap.size w1 w2 := hb
  have La_2 := Lib.hid (La_1.out.below hb')
  have Lb_2 := Lib.hid (Lb_1.out.below hb')
  have HB_2 := Lib.hid (below_trans HB_1.out hb')
  clear hb hb' La_1 Lb_1 HB_1
  go_wp2_with fail
  refine Calls.mono (rtr_none La_2.out (by omega)) ?_
  rintro e w3 ⟨A1, c1, rfl, hb⟩
  have hb' : Below w2.heap.size w2 w3 := hb
  have La_3 := Lib.hid (La_2.out.below hb')
  have Lb_3 := Lib.hid (Lb_2.out.below hb')
  have HB_3 := Lib.hid (below_trans HB_2.out hb')
  clear hb hb' La_2 Lb_2 HB_2
  go_wp2_with fail
  refine Calls.mono (rtr_none Lb_3.out (by omega)) ?_
  rintro e w4 ⟨A2, c2, rfl, hb⟩
  have hb' : Below w3.heap.size w3 w4 := hb
  have La_4 := Lib.hid (La_3.out.below hb')
  have Lb_4 := Lib.hid (Lb_3.out.below hb')
  have HB_4 := Lib.hid (below_trans HB_3.out hb')
  clear hb hb' La_3 Lb_3 HB_3
  go_wp2
  go_ret
  exact ⟨rfl, HB_4.out⟩

set_option maxHeartbeats 4000000 in
theorem natGcd_some (a : Option Addr) (n c : Nat) (b : Option Addr) (m d : Nat) (N M X Y D : Nat)  (w : World) (hn : n ≤ 6) (hm : m ≤ 6)
    (ha : Lim 6 w (.slice a n c) N) (hb : Lim 6 w (.slice b m d) M) (hN : N = X * D) (hM : M = Y * D) (hD : 0 < D) (hg : Nat.gcd X Y = 1) :
    Calls Try.prog 4 #[.slice a n c, .slice b m d] w fun e w' => e = .returned (.bool true) ∧ Below w.heap.size w w' := by
  have BN := Lib.hid ha.lt
  have BM := Lib.hid hb.lt
  have La_0 := Lib.hid ha
  have Lb_0 := Lib.hid hb
  have HN := Lib.hid hN
  have HM := Lib.hid hM
  have E1 : Hid (Nat.gcd N M = D) := by
    show _ = _
    rw [hN, hM, Nat.gcd_mul_right, hg, Nat.one_mul]
  have E2 := Lib.hid hg
  have D0 := Lib.hid hD
  have BX : Hid (X < 4294967296 ^ 6) := Nat.lt_of_le_of_lt (Nat.le_mul_of_pos_right X hD) (by rw [← hN]; exact BN.out)
  have BY : Hid (Y < 4294967296 ^ 6) := Nat.lt_of_le_of_lt (Nat.le_mul_of_pos_right Y hD) (by rw [← hM]; exact BM.out)
  have BD : Hid (D < 4294967296 ^ 6) := by
    show _ < _
    rcases Nat.eq_zero_or_pos X with h0 | h0
    · subst h0
      rw [Nat.gcd_zero_left] at hg
      subst hg
      have := BM.out
      rw [hM, Nat.one_mul] at this
      exact this
    · exact Nat.lt_of_le_of_lt (Nat.le_mul_of_pos_left D h0) (by rw [← hN]; exact BN.out)
  clear hD hg hN hM
  have g1 : (n : Int) ≤ 6 := by omega
  have g2 : (m : Int) ≤ 6 := by omega
  clear ha hb
  go_enter Try.func4, Try.ntmps4
  go_wp2_with fail
  refine Calls.mono (awake_any _) ?_
  rintro e w1 ⟨rfl, hb⟩
  have hb' : Below w.heap.size w w1 := hb
  have La_1 := Lib.hid (La_0.out.below hb')
  have Lb_1 := Lib.hid (Lb_0.out.below hb')
  have HB_1 := Lib.hid hb'
  clear hb hb' La_0 Lb_0
  go_wp2_with fail
  all_goals try (exfalso; omega)
  refine Calls.mono (lim_gcd La_1.out Lb_1.out (by omega) (by omega)) ?_
  rintro e w2 ⟨vg, rfl, hg, hb⟩
  rw [E1.out] at hg
  obtain ⟨Ag, ng, cg, rfl, hg⟩ := isNat_pos hg D0.out
  have hb' : Below w1.heap.size w1 w2 := hb
  have La_2 := Lib.hid (La_1.out.below hb')
  have Lb_2 := Lib.hid (Lb_1.out.below hb')
  have g_2 := Lib.hid (hg)
  have HB_2 := Lib.hid (below_trans HB_1.out hb')
  clear hb hb' La_1 Lb_1 HB_1
  (try clear hg)
  go_wp2_with fail
  refine Calls.mono (back_div (k := 6) (N := X) (M := D) (by rw [← HN.out]; exact La_2.out) (g_2.out.lim BD.out) (by omega) (by omega) D0.out) ?_
  rintro e w3 ⟨vx, A1, c1, rfl, hx, hb⟩
  have hb' : Below w2.heap.size w2 w3 := hb
  have La_3 := Lib.hid (La_2.out.below hb')
  have Lb_3 := Lib.hid (Lb_2.out.below hb')
  have g_3 := Lib.hid (g_2.out.below hb')
  have x_3 := Lib.hid (hx)
  have HB_3 := Lib.hid (below_trans HB_2.out hb')
  clear hb hb' La_2 Lb_2 g_2 HB_2
  (try clear hx)
  go_wp2_with fail
  refine Calls.mono (back_div (k := 6) (N := Y) (M := D) (by rw [← HM.out]; exact Lb_3.out) (g_3.out.lim BD.out) (by omega) (by omega) D0.out) ?_
  rintro e w4 ⟨vy, A2, c2, rfl, hy, hb⟩
  have hb' : Below w3.heap.size w3 w4 := hb
  have La_4 := Lib.hid (La_3.out.below hb')
  have Lb_4 := Lib.hid (Lb_3.out.below hb')
  have g_4 := Lib.hid (g_3.out.below hb')
  have x_4 := Lib.hid (x_3.out.below hb')
  have y_4 := Lib.hid (hy)
  have HB_4 := Lib.hid (below_trans HB_3.out hb')
  clear hb hb' La_3 Lb_3 g_3 x_3 HB_3
  (try clear hy)
  go_wp2_with fail
  refine Calls.mono (lim_gcd (x_4.out.lim BX.out) (y_4.out.lim BY.out) (by omega) (by omega)) ?_
  rintro e w5 ⟨vh, rfl, hh, hb⟩
  rw [E2.out] at hh
  have hb' : Below w4.heap.size w4 w5 := hb
  have La_5 := Lib.hid (La_4.out.below hb')
  have Lb_5 := Lib.hid (Lb_4.out.below hb')
  have g_5 := Lib.hid (g_4.out.below hb')
  have h_5 := Lib.hid (hh)
  have HB_5 := Lib.hid (below_trans HB_4.out hb')
  clear hb hb' La_4 Lb_4 g_4 x_4 y_4 HB_4
  (try clear hh)
  have HL := Lib.hid (nlit_one w5 w5.heap.size rfl 1 1 rfl (by omega) (by omega))
  go_wp2_with fail
  refine Calls.mono (isNat_same (k := 6) (h_5.out.below (below_new _ _)) HL.out (by decide) (by omega)) ?_
  rintro e w6 ⟨rfl, hb⟩
  have hb' : Below w5.heap.size w5 w6 := (below_new _ _).trans (hb.mono (by simp))
  have La_6 := Lib.hid (La_5.out.below hb')
  have Lb_6 := Lib.hid (Lb_5.out.below hb')
  have g_6 := Lib.hid (g_5.out.below hb')
  have HB_6 := Lib.hid (below_trans HB_5.out hb')
  clear hb hb' La_5 Lb_5 g_5 h_5 HB_5 HL
  go_wp2_with fail
  refine Calls.mono (lim_gcd Lb_6.out La_6.out (by omega) (by omega)) ?_
  rintro e w7 ⟨vk, rfl, hk, hb⟩
  rw [Nat.gcd_comm, E1.out] at hk
  have hb' : Below w6.heap.size w6 w7 := hb
  have La_7 := Lib.hid (La_6.out.below hb')
  have Lb_7 := Lib.hid (Lb_6.out.below hb')
  have g_7 := Lib.hid (g_6.out.below hb')
  have k_7 := Lib.hid (hk)
  have HB_7 := Lib.hid (below_trans HB_6.out hb')
  clear hb hb' La_6 Lb_6 g_6 HB_6
  (try clear hk)
  go_wp2_with fail
  refine Calls.mono (isNat_same k_7.out g_7.out BD.out (by omega)) ?_
  rintro e w8 ⟨rfl, hb⟩
  have hb' : Below w7.heap.size w7 w8 := hb
  have La_8 := Lib.hid (La_7.out.below hb')
  have Lb_8 := Lib.hid (Lb_7.out.below hb')
  have g_8 := Lib.hid (g_7.out.below hb')
  have k_8 := Lib.hid (k_7.out.below hb')
  have HB_8 := Lib.hid (below_trans HB_7.out hb')
  clear hb hb' La_7 Lb_7 g_7 k_7 HB_7
  go_wp2
  go_ret
  exact ⟨rfl, HB_8.out⟩

theorem natGcd_in (a : Option Addr) (n c : Nat) (b : Option Addr) (m d : Nat) (N M : Nat) (w : World) (hn : n ≤ 6) (hm : m ≤ 6)
    (ha : Lim 6 w (.slice a n c) N) (hb : Lim 6 w (.slice b m d) M) :
    Calls Try.prog 4 #[.slice a n c, .slice b m d] w fun e w' => e = .returned (.bool true) ∧ Below w.heap.size w w' := by
  rcases Nat.eq_zero_or_pos (Nat.gcd N M) with h | h
  · obtain ⟨rfl, rfl⟩ := Nat.gcd_eq_zero_iff.1 h
    exact natGcd_none a n c b m d w hn hm ha hb
  · obtain ⟨X, hX⟩ := Nat.gcd_dvd_left N M
    obtain ⟨Y, hY⟩ := Nat.gcd_dvd_right N M
    have hg : Nat.gcd X Y = 1 := by
      have e : Nat.gcd N M * Nat.gcd X Y = Nat.gcd N M * 1 := by
        rw [← Nat.gcd_mul_left, ← hX, ← hY, Nat.mul_one]
      exact Nat.eq_of_mul_eq_mul_left h e
    generalize Nat.gcd N M = D at *
    rw [Nat.mul_comm] at hX hY
    exact natGcd_some a n c b m d N M X Y D w hn hm ha hb hX hY h hg
end Go.Proofs.Ytmlijnobdddmnaa
