/- NatWrites: the walk. -/
import Derived.Test.YthndfmpnfgbioaaNw
import Derived.Test.YthndfmpnfgbioaaNatBb
namespace Go.Proofs.Ythndfmpnfgbioaa
open Go.RowKit

set_option maxHeartbeats 4000000 in
theorem natWrites_in (a : Option Addr) (n c : Nat) (s : ByteArray) (B : Option Addr) (m d : Nat) (N : Nat) (f : Nat → Nat) (w : World) (hn : n ≤ 20) (hs : s.size ≤ 300) (hm : m ≤ 17000)
    (ha : Lim 20 w (.slice a n c) N) (hb : Byt w (.slice B m d) m f) :
    Calls Try.prog 4 #[.slice a n c, .string s, .slice B m d] w fun e w' => e = .returned (.bool true) ∧ Below w.heap.size w w' := by
  have BN := Lib.hid ha.lt
  have BS := Lib.hid (numV_lt s)
  have BR := Lib.hid (readN_lt (f := f) (n := m) (by obtain ⟨_, _, _, _, _, h⟩ := hb; exact h))
  have BM := Lib.hid (readM_le f m)
  have La := Lib.hid ha
  have Lb := Lib.hid hb
  have g1 : (n : Int) ≤ 20 := by omega
  have g2 : (s.size : Int) ≤ 300 := by omega
  have g3 : (m : Int) ≤ 17000 := by omega
  clear ha hb
  go_enter Try.func4, Try.ntmps4
  go_wp2_with fail
  refine (awake_any _).mono ?_
  rintro e w1 ⟨rfl, hb⟩
  have hb' : Below w.heap.size w w1 := hb
  have La_1 := Lib.hid (La.out.below hb')
  have Lb_1 := Lib.hid (Lb.out.below hb')
  have HB_1 := Lib.hid hb'
  clear hb hb' La Lb
  go_wp2_with fail
  refine (lim_text La_1.out (by omega)).mono ?_
  rintro e w2 ⟨rfl, hb⟩
  have hb' : Below w1.heap.size w1 w2 := hb
  have La_2 := Lib.hid (La_1.out.below hb')
  have Lb_2 := Lib.hid (Lb_1.out.below hb')
  have HB_2 := Lib.hid (below_trans HB_1.out hb')
  clear hb hb' La_1 Lb_1 HB_1
  go_wp2_with fail
  refine (str_parse s _ (by omega)).mono ?_
  rintro e w3 ⟨vp, rfl, hp, hb⟩
  have hb' : Below w2.heap.size w2 w3 := hb
  have La_3 := Lib.hid (La_2.out.below hb')
  have Lb_3 := Lib.hid (Lb_2.out.below hb')
  have p_3 := Lib.hid hp
  have HB_3 := Lib.hid (below_trans HB_2.out hb')
  clear hb hb' hp La_2 Lb_2 HB_2
  go_wp2_with fail
  refine (str_rparse s _ (by omega)).mono ?_
  rintro e w4 ⟨vq, rfl, hq, hb⟩
  have hb' : Below w3.heap.size w3 w4 := hb
  have La_4 := Lib.hid (La_3.out.below hb')
  have Lb_4 := Lib.hid (Lb_3.out.below hb')
  have p_4 := Lib.hid (p_3.out.below hb')
  have q_4 := Lib.hid hq
  have HB_4 := Lib.hid (below_trans HB_3.out hb')
  clear hb hb' hq La_3 Lb_3 p_3 HB_3
  go_wp2_with fail
  refine (lim_wbytes La_4.out (by omega)).mono ?_
  rintro e w5 ⟨vx, px, rfl, hx, hb⟩
  have hb' : Below w4.heap.size w4 w5 := hb
  have La_5 := Lib.hid (La_4.out.below hb')
  have Lb_5 := Lib.hid (Lb_4.out.below hb')
  have p_5 := Lib.hid (p_4.out.below hb')
  have q_5 := Lib.hid (q_4.out.below hb')
  have x_5 := Lib.hid hx
  have HB_5 := Lib.hid (below_trans HB_4.out hb')
  clear hb hb' hx La_4 Lb_4 p_4 q_4 HB_4
  go_wp2_with fail
  refine (byt_read Lb_5.out (by omega)).mono ?_
  rintro e w6 ⟨vn, vr, rfl, hn1, hr1, hb⟩
  have hb' : Below w5.heap.size w5 w6 := hb
  have La_6 := Lib.hid (La_5.out.below hb')
  have Lb_6 := Lib.hid (Lb_5.out.below hb')
  have p_6 := Lib.hid (p_5.out.below hb')
  have q_6 := Lib.hid (q_5.out.below hb')
  have x_6 := Lib.hid (x_5.out.below hb')
  have n1_6 := Lib.hid hn1
  have r1_6 := Lib.hid hr1
  have HB_6 := Lib.hid (below_trans HB_5.out hb')
  clear hb hb' hn1 hr1 La_5 Lb_5 p_5 q_5 x_5 HB_5
  go_wp2_with fail
  refine (byt_rread Lb_6.out (by omega)).mono ?_
  rintro e w7 ⟨vm, vl, rfl, hm1, hl1, hb⟩
  have hb' : Below w6.heap.size w6 w7 := hb
  have La_7 := Lib.hid (La_6.out.below hb')
  have p_7 := Lib.hid (p_6.out.below hb')
  have q_7 := Lib.hid (q_6.out.below hb')
  have x_7 := Lib.hid (x_6.out.below hb')
  have n1_7 := Lib.hid (n1_6.out.below hb')
  have r1_7 := Lib.hid (r1_6.out.below hb')
  have m1_7 := Lib.hid hm1
  have l1_7 := Lib.hid hl1
  have HB_7 := Lib.hid (below_trans HB_6.out hb')
  clear hb hb' hm1 hl1 La_6 Lb_6 p_6 q_6 x_6 n1_6 r1_6 HB_6
  go_wp2_with fail
  refine (rtext_any La_7.out (by omega)).mono ?_
  rintro e w8 ⟨rfl, hb⟩
  have hb' : Below w7.heap.size w7 w8 := hb
  have La_8 := Lib.hid (La_7.out.below hb')
  have p_8 := Lib.hid (p_7.out.below hb')
  have q_8 := Lib.hid (q_7.out.below hb')
  have x_8 := Lib.hid (x_7.out.below hb')
  have n1_8 := Lib.hid (n1_7.out.below hb')
  have r1_8 := Lib.hid (r1_7.out.below hb')
  have m1_8 := Lib.hid (m1_7.out.below hb')
  have l1_8 := Lib.hid (l1_7.out.below hb')
  have HB_8 := Lib.hid (below_trans HB_7.out hb')
  clear hb hb' La_7 p_7 q_7 x_7 n1_7 r1_7 m1_7 l1_7 HB_7
  go_wp2_with fail
  refine (isNat_same (k := s.size) p_8.out q_8.out BS.out (by omega)).mono ?_
  rintro e w9 ⟨rfl, hb⟩
  have hb' : Below w8.heap.size w8 w9 := hb
  have La_9 := Lib.hid (La_8.out.below hb')
  have x_9 := Lib.hid (x_8.out.below hb')
  have n1_9 := Lib.hid (n1_8.out.below hb')
  have r1_9 := Lib.hid (r1_8.out.below hb')
  have m1_9 := Lib.hid (m1_8.out.below hb')
  have l1_9 := Lib.hid (l1_8.out.below hb')
  have HB_9 := Lib.hid (below_trans HB_8.out hb')
  clear hb hb' La_8 p_8 q_8 x_8 n1_8 r1_8 m1_8 l1_8 HB_8
  go_wp2_with fail
  refine (lim_wrbytes La_9.out (by omega)).mono ?_
  rintro e w10 ⟨vy, py, rfl, hy, hb⟩
  have hb' : Below w9.heap.size w9 w10 := hb
  have La_10 := Lib.hid (La_9.out.below hb')
  have x_10 := Lib.hid (x_9.out.below hb')
  have n1_10 := Lib.hid (n1_9.out.below hb')
  have r1_10 := Lib.hid (r1_9.out.below hb')
  have m1_10 := Lib.hid (m1_9.out.below hb')
  have l1_10 := Lib.hid (l1_9.out.below hb')
  have y_10 := Lib.hid hy
  have HB_10 := Lib.hid (below_trans HB_9.out hb')
  clear hb hb' hy La_9 x_9 n1_9 r1_9 m1_9 l1_9 HB_9
  go_wp2_with fail
  refine (bytes_rows x_10.out y_10.out).mono ?_
  rintro e w11 ⟨rfl, hb⟩
  have hb' : Below w10.heap.size w10 w11 := hb
  have La_11 := Lib.hid (La_10.out.below hb')
  have x_11 := Lib.hid (x_10.out.below hb')
  have n1_11 := Lib.hid (n1_10.out.below hb')
  have r1_11 := Lib.hid (r1_10.out.below hb')
  have m1_11 := Lib.hid (m1_10.out.below hb')
  have l1_11 := Lib.hid (l1_10.out.below hb')
  have HB_11 := Lib.hid (below_trans HB_10.out hb')
  clear hb hb' La_10 x_10 n1_10 r1_10 m1_10 l1_10 y_10 HB_10
  go_wp2_with fail
  refine (isNat_same (k := m) n1_11.out m1_11.out BR.out (by omega)).mono ?_
  rintro e w12 ⟨rfl, hb⟩
  have hb' : Below w11.heap.size w11 w12 := hb
  have La_12 := Lib.hid (La_11.out.below hb')
  have x_12 := Lib.hid (x_11.out.below hb')
  have r1_12 := Lib.hid (r1_11.out.below hb')
  have l1_12 := Lib.hid (l1_11.out.below hb')
  have HB_12 := Lib.hid (below_trans HB_11.out hb')
  clear hb hb' La_11 x_11 n1_11 r1_11 m1_11 l1_11 HB_11
  go_wp2_with fail
  refine (byt_rows r1_12.out l1_12.out (by have := BM.out; omega) (fun _ _ => rfl)).mono ?_
  rintro e w13 ⟨rfl, hb⟩
  have hb' : Below w12.heap.size w12 w13 := hb
  have La_13 := Lib.hid (La_12.out.below hb')
  have x_13 := Lib.hid (x_12.out.below hb')
  have HB_13 := Lib.hid (below_trans HB_12.out hb')
  clear hb hb' La_12 x_12 r1_12 l1_12 HB_12
  go_wp2_with fail
  refine (text_parse (k := 20) _ BN.out (by omega)).mono ?_
  rintro e w14 ⟨vb, rfl, hbk, hb⟩
  have hb' : Below w13.heap.size w13 w14 := hb
  have La_14 := Lib.hid (La_13.out.below hb')
  have x_14 := Lib.hid (x_13.out.below hb')
  have bk_14 := Lib.hid hbk
  have HB_14 := Lib.hid (below_trans HB_13.out hb')
  clear hb hb' hbk La_13 x_13 HB_13
  go_wp2_with fail
  refine (bytes_read x_14.out).mono ?_
  rintro e w15 ⟨va, vz, rfl, hag, hz, hb⟩
  obtain ⟨zA, zc, rfl, _⟩ := hz.form
  clear hz
  have hb' : Below w14.heap.size w14 w15 := hb
  have La_15 := Lib.hid (La_14.out.below hb')
  have bk_15 := Lib.hid (bk_14.out.below hb')
  have ag_15 := Lib.hid hag
  have HB_15 := Lib.hid (below_trans HB_14.out hb')
  clear hb hb' hag La_14 x_14 bk_14 HB_14
  go_wp2_with fail
  refine (lim_rtr La_15.out (by omega)).mono ?_
  rintro e w16 ⟨vt, rfl, ht, hb⟩
  have hb' : Below w15.heap.size w15 w16 := hb
  have bk_16 := Lib.hid (bk_15.out.below hb')
  have ag_16 := Lib.hid (ag_15.out.below hb')
  have t_16 := Lib.hid ht
  have HB_16 := Lib.hid (below_trans HB_15.out hb')
  clear hb hb' ht La_15 bk_15 ag_15 HB_15
  go_wp2_with fail
  refine (isNat_same (k := 20) bk_16.out t_16.out BN.out (by omega)).mono ?_
  rintro e w17 ⟨rfl, hb⟩
  have hb' : Below w16.heap.size w16 w17 := hb
  have bk_17 := Lib.hid (bk_16.out.below hb')
  have ag_17 := Lib.hid (ag_16.out.below hb')
  have HB_17 := Lib.hid (below_trans HB_16.out hb')
  clear hb hb' bk_16 ag_16 t_16 HB_16
  go_wp2_with fail
  refine (isNat_same (k := 20) ag_17.out bk_17.out BN.out (by omega)).mono ?_
  rintro e w18 ⟨rfl, hb⟩
  have hb' : Below w17.heap.size w17 w18 := hb
  have HB_18 := Lib.hid (below_trans HB_17.out hb')
  clear hb hb' bk_17 ag_17 HB_17
  go_wp2
  go_ret
  exact ⟨rfl, HB_18.out⟩

set_option maxHeartbeats 1000000 in
theorem natWrites_out (a : Option Addr) (n c : Nat) (s : ByteArray) (B : Option Addr) (m d : Nat) (w : World) (h1 : n ≤ 9223372036854775807) (h2 : s.size ≤ 9223372036854775807) (h3 : m ≤ 9223372036854775807) (h : 20 < n ∨ 300 < s.size ∨ 17000 < m) :
    Calls Try.prog 4 #[.slice a n c, .string s, .slice B m d] w fun e w' => e = .returned (.bool true) ∧ Below w.heap.size w w' := by
  have H : Hid (decide ((20 : Int) < (n : Int)) = true ∨ (decide ((20 : Int) < (n : Int)) = false ∧ decide ((300 : Int) < (s.size : Int)) = true) ∨ (decide ((20 : Int) < (n : Int)) = false ∧ decide ((300 : Int) < (s.size : Int)) = false ∧ decide ((17000 : Int) < (m : Int)) = true)) := by
    by_cases x : 20 < n
    · exact .inl (decide_eq_true (by omega))
    by_cases y : 300 < s.size
    · exact .inr (.inl ⟨decide_eq_false (by omega), decide_eq_true (by omega)⟩)
    exact .inr (.inr ⟨decide_eq_false (by omega), decide_eq_false (by omega), decide_eq_true (by omega)⟩)
  clear h
  rcases H.out with g1 | ⟨g1, g2⟩ | ⟨g1, g2, g3⟩
  all_goals
    clear H
    go_enter Try.func4, Try.ntmps4
    go_wp2_with fail
    refine (awake_any _).mono ?_
    rintro e w1 ⟨rfl, hb⟩
    go_wp2
    go_ret
    exact ⟨rfl, hb⟩
end Go.Proofs.Ythndfmpnfgbioaa
