/- RatioWrites: the walk. -/
import Derived.Test.YtglcififcldchaaGreatDoorPRrk
import Derived.Test.YtglcififcldchaaGreatDoorPRcf
import Derived.Test.YtglcififcldchaaGreatDoorPRcd
namespace Go.Proofs.YtglcififcldchaaGreatDoor
open Go.RowKit
attribute [local go_sem ↓] Go.wp_at_zero Go.wp_at_succ
set_option linter.unusedVariables false

theorem qRM_le (f : Nat → Nat) (n : Nat) : qRM f n ≤ n := by
  unfold qRM
  split
  · exact Nat.le_trans (intRM_le _ _) (intRM_le f n)
  · omega

set_option maxRecDepth 100000 in
set_option maxHeartbeats 2000000 in
theorem writes_no (b00 : Bool) (a00 : Option Addr) (n00 c00 : Nat) (e00 : Bool) (g00 : Option Addr) (m00 k00 : Nat) (s : ByteArray) (B : Option Addr) (bm bd : Nat) (w : World) (h0 : (decide (n00 ≤ 4) && decide (m00 ≤ 4)) = false) :
    Calls Tryz.prog 5 #[(.agg #[.bool b00, .slice a00 n00 c00, .bool e00, .slice g00 m00 k00]), .string s, .slice B bm bd] w fun e w' => e = .returned (.bool true) ∧ Below w.heap.size w w' := by
  have F0 := Lib.hid h0
  clear h0
  go_enter Tryz.func5, Tryz.ntmps5
  go_wp2_with fail
  refine Calls.mono (awake3 _) ?_
  rintro e w1 ⟨rfl, hb⟩
  have hB := bun (hb)
  have Ka_1 := Lib.hid (show Blk w1 (w.heap.size) 26 #[.bool b00, .slice a00 n00 c00, .bool e00, .slice g00 m00 k00] from (Blk.new _ _ (by simp) _ _).below hb)
  have HB_1 := Lib.hid (hB)
  have hs_1 : w.heap.size ≤ w1.heap.size := HB_1.out.size
  have hz_1 : w.heap.size + 1 ≤ w1.heap.size := (by have h := hb.size; (try simp at h); omega)
  clear hB hb 
  obtain ⟨p10, p11, p12, p13, l1⟩ := Ka_1.out.use4
  go_wp2_with fail
  refine Calls.mono (few_is _ _ _ _ _ _ _ _ _ false F0.out) ?_
  rintro e w2 ⟨rfl, hb⟩
  have hB := hb
  have Ka_2 := Lib.hid (Ka_1.out.below hB)
  have HB_2 := Lib.hid (below_trans HB_1.out hB)
  have hs_2 : w.heap.size ≤ w2.heap.size := HB_2.out.size
  have hz_2 : w1.heap.size + 0 ≤ w2.heap.size := (by have h := hb.size; (try simp at h); omega)
  clear hB hb Ka_1 HB_1 p10 p11 p12 p13 l1
  go_wp2
  go_ret
  exact ⟨rfl, HB_2.out⟩

set_option maxRecDepth 100000 in
set_option maxHeartbeats 2000000 in
theorem writes_out1 (b00 : Bool) (a00 : Option Addr) (n00 c00 : Nat) (e00 : Bool) (g00 : Option Addr) (m00 k00 : Nat) (s : ByteArray) (B : Option Addr) (bm bd : Nat) (w : World) (h0 : (decide (n00 ≤ 4) && decide (m00 ≤ 4)) = true) (h1 : (200 : Int) < (s.size : Int)) :
    Calls Tryz.prog 5 #[(.agg #[.bool b00, .slice a00 n00 c00, .bool e00, .slice g00 m00 k00]), .string s, .slice B bm bd] w fun e w' => e = .returned (.bool true) ∧ Below w.heap.size w w' := by
  have F0 := Lib.hid h0
  clear h0
  go_enter Tryz.func5, Tryz.ntmps5
  go_wp2_with fail
  refine Calls.mono (awake3 _) ?_
  rintro e w1 ⟨rfl, hb⟩
  have hB := bun (hb)
  have Ka_1 := Lib.hid (show Blk w1 (w.heap.size) 26 #[.bool b00, .slice a00 n00 c00, .bool e00, .slice g00 m00 k00] from (Blk.new _ _ (by simp) _ _).below hb)
  have HB_1 := Lib.hid (hB)
  have hs_1 : w.heap.size ≤ w1.heap.size := HB_1.out.size
  have hz_1 : w.heap.size + 1 ≤ w1.heap.size := (by have h := hb.size; (try simp at h); omega)
  clear hB hb 
  obtain ⟨p10, p11, p12, p13, l1⟩ := Ka_1.out.use4
  go_wp2_with fail
  refine Calls.mono (few_is _ _ _ _ _ _ _ _ _ true F0.out) ?_
  rintro e w2 ⟨rfl, hb⟩
  have hB := hb
  have Ka_2 := Lib.hid (Ka_1.out.below hB)
  have HB_2 := Lib.hid (below_trans HB_1.out hB)
  have hs_2 : w.heap.size ≤ w2.heap.size := HB_2.out.size
  have hz_2 : w1.heap.size + 0 ≤ w2.heap.size := (by have h := hb.size; (try simp at h); omega)
  clear hB hb Ka_1 HB_1 p10 p11 p12 p13 l1
  go_wp2
  go_ret
  exact ⟨rfl, HB_2.out⟩

set_option maxRecDepth 100000 in
set_option maxHeartbeats 2000000 in
theorem writes_out2 (b00 : Bool) (a00 : Option Addr) (n00 c00 : Nat) (e00 : Bool) (g00 : Option Addr) (m00 k00 : Nat) (s : ByteArray) (B : Option Addr) (bm bd : Nat) (w : World) (h0 : (decide (n00 ≤ 4) && decide (m00 ≤ 4)) = true) (h1 : (s.size : Int) ≤ 200) (h2 : (1000 : Int) < (bm : Int)) :
    Calls Tryz.prog 5 #[(.agg #[.bool b00, .slice a00 n00 c00, .bool e00, .slice g00 m00 k00]), .string s, .slice B bm bd] w fun e w' => e = .returned (.bool true) ∧ Below w.heap.size w w' := by
  have F0 := Lib.hid h0
  clear h0
  go_enter Tryz.func5, Tryz.ntmps5
  go_wp2_with fail
  refine Calls.mono (awake3 _) ?_
  rintro e w1 ⟨rfl, hb⟩
  have hB := bun (hb)
  have Ka_1 := Lib.hid (show Blk w1 (w.heap.size) 26 #[.bool b00, .slice a00 n00 c00, .bool e00, .slice g00 m00 k00] from (Blk.new _ _ (by simp) _ _).below hb)
  have HB_1 := Lib.hid (hB)
  have hs_1 : w.heap.size ≤ w1.heap.size := HB_1.out.size
  have hz_1 : w.heap.size + 1 ≤ w1.heap.size := (by have h := hb.size; (try simp at h); omega)
  clear hB hb 
  obtain ⟨p10, p11, p12, p13, l1⟩ := Ka_1.out.use4
  go_wp2_with fail
  refine Calls.mono (few_is _ _ _ _ _ _ _ _ _ true F0.out) ?_
  rintro e w2 ⟨rfl, hb⟩
  have hB := hb
  have Ka_2 := Lib.hid (Ka_1.out.below hB)
  have HB_2 := Lib.hid (below_trans HB_1.out hB)
  have hs_2 : w.heap.size ≤ w2.heap.size := HB_2.out.size
  have hz_2 : w1.heap.size + 0 ≤ w2.heap.size := (by have h := hb.size; (try simp at h); omega)
  clear hB hb Ka_1 HB_1 p10 p11 p12 p13 l1
  go_wp2
  go_ret
  exact ⟨rfl, HB_2.out⟩

set_option maxRecDepth 100000 in
set_option maxHeartbeats 16000000 in
theorem writes_in (b00 : Bool) (a00 : Option Addr) (n00 c00 : Nat) (e00 : Bool) (g00 : Option Addr) (m00 k00 : Nat) (s : ByteArray) (B : Option Addr) (bm bd : Nat) (w : World) (f : Nat → Nat) (X Y : Int) (hx : LimR 4 w (.agg #[.bool b00, .slice a00 n00 c00, .bool e00, .slice g00 m00 k00]) X Y) (h0 : (decide (n00 ≤ 4) && decide (m00 ≤ 4)) = true) (hs : s.size ≤ 200) (hm : bm ≤ 1000) (hb : Byt w (.slice B bm bd) bm f) :
    Calls Tryz.prog 5 #[(.agg #[.bool b00, .slice a00 n00 c00, .bool e00, .slice g00 m00 k00]), .string s, .slice B bm bd] w fun e w' => e = .returned (.bool true) ∧ Below w.heap.size w w' := by
  have F0 := Lib.hid h0
  obtain ⟨x, hq⟩ : ∃ q, q = ratOf X Y := ⟨_, rfl⟩
  have BX := Lib.hid ((lq hq hx).bq (by omega))
  have HQ := Lib.hid hq
  have g2 : (s.size : Int) ≤ 200 := by omega
  have g3 : (bm : Int) ≤ 1000 := by omega
  have g4 : decide ((200 : Int) < (s.size : Int)) = false := decide_eq_false (by omega)
  have g5 : decide ((1000 : Int) < (bm : Int)) = false := decide_eq_false (by omega)
  have g6 : ¬ ((200 : Int) < (s.size : Int)) := by omega
  have g7 : ¬ ((1000 : Int) < (bm : Int)) := by omega
  have HM : Hid (bm ≤ 100000) := by show _ ≤ _; omega
  have BR : Hid (BQ 1000 (qRV f bm)) := bq_qRV (by obtain ⟨_, _, _, _, _, h⟩ := hb; exact h) hm
  have BM : Hid (qRM f bm ≤ 1000000) := by have := qRM_le f bm; show _ ≤ _; omega
  have RI := fun W (h : Byt W (.slice B bm bd) bm f) => q_read h (Nat.le_trans HM.out (by omega))
  have RR := fun W (h : Byt W (.slice B bm bd) bm f) => rq_read h HM.out
  obtain ⟨zq, zok, K, hk1, hk2, hbz, pp, rp⟩ := parse_both s hs
  have BZ := Lib.hid hbz
  have HK : Hid (K ≤ 100000) := by show _ ≤ _; omega
  have PP := Lib.hid pp
  have RP := Lib.hid rp
  have PT := fun W => Lib.hid (parse_text BX.out W)
  have QT := fun (W : World) (v : Value) (h : LimQ 4 W v x) => q_text h (by omega) (by omega)
  have RT := fun (W : World) (v : Value) (h : LimQ 4 W v x) => r_text h (by omega) (by omega)
  generalize qRV f bm = y at *
  generalize qOk f bm = yok at *
  generalize qRM f bm = M at *
  generalize qRG f = G at *
  generalize textQ x = tx at *
  have HRI := Lib.hid RI
  have HRR := Lib.hid RR
  have HPT := Lib.hid PT
  have HQT := Lib.hid QT
  have HRT := Lib.hid RT
  have x_0 := Lib.hid hx
  have by_0 := Lib.hid hb
  clear h0 hq hx hb hs hm RI RR PT QT RT hbz pp rp hk1 hk2
  go_enter Tryz.func5, Tryz.ntmps5
  go_wp2_with fail
  refine Calls.mono (awake3 _) ?_
  rintro e w1 ⟨rfl, hb⟩
  have hB := bun (hb)
  have x_1 := Lib.hid (x_0.out.below hB)
  have by_1 := Lib.hid (by_0.out.below hB)
  have Ka_1 := Lib.hid (show Blk w1 (w.heap.size) 26 #[.bool b00, .slice a00 n00 c00, .bool e00, .slice g00 m00 k00] from (Blk.new _ _ (by simp) _ _).below hb)
  have HB_1 := Lib.hid (hB)
  have hs_1 : w.heap.size ≤ w1.heap.size := HB_1.out.size
  have hz_1 : w.heap.size + 1 ≤ w1.heap.size := (by have h := hb.size; (try simp at h); omega)
  clear hB hb x_0 by_0
  obtain ⟨p10, p11, p12, p13, l1⟩ := Ka_1.out.use4
  go_wp2_with fail
  refine Calls.mono (few_is _ _ _ _ _ _ _ _ _ true F0.out) ?_
  rintro e w2 ⟨rfl, hb⟩
  have hB := hb
  have x_2 := Lib.hid (x_1.out.below hB)
  have by_2 := Lib.hid (by_1.out.below hB)
  have Ka_2 := Lib.hid (Ka_1.out.below hB)
  have HB_2 := Lib.hid (below_trans HB_1.out hB)
  have hs_2 : w.heap.size ≤ w2.heap.size := HB_2.out.size
  have hz_2 : w1.heap.size + 0 ≤ w2.heap.size := (by have h := hb.size; (try simp at h); omega)
  clear hB hb x_1 by_1 Ka_1 HB_1 p10 p11 p12 p13 l1
  go_wp2_with fail
  refine Calls.mono (PP.out _) ?_
  rintro e w3 ⟨v, rfl, h, hb⟩
  have hk := h
  obtain ⟨b3, A3, n3, c3, d3, B3, m3, k3, rfl, -, -, -, -, -⟩ := h.form
  clear h
  have hB := hb
  have x_3 := Lib.hid (x_2.out.below hB)
  have by_3 := Lib.hid (by_2.out.below hB)
  have Ka_3 := Lib.hid (Ka_2.out.below hB)
  have p_3 := Lib.hid (hk)
  have HB_3 := Lib.hid (below_trans HB_2.out hB)
  have hs_3 : w.heap.size ≤ w3.heap.size := HB_3.out.size
  have hz_3 : w2.heap.size + 0 ≤ w3.heap.size := (by have h := hb.size; (try simp at h); omega)
  clear hB hb x_2 by_2 Ka_2 HB_2
  go_wp2_with fail
  refine Calls.mono (RP.out _) ?_
  rintro e w4 ⟨v, rfl, h, hb⟩
  have hk := h
  obtain ⟨b4, A4, n4, c4, d4, B4, m4, k4, rfl, -, -, -, -, -⟩ := h.form
  clear h
  have hB := bun (hb)
  have x_4 := Lib.hid (x_3.out.below hB)
  have by_4 := Lib.hid (by_3.out.below hB)
  have p_4 := Lib.hid (p_3.out.below hB)
  have Ka_4 := Lib.hid (Ka_3.out.below hB)
  have Kp_4 := Lib.hid (show Blk w4 (w3.heap.size) 26 #[.bool b3, .slice A3 n3 c3, .bool d3, .slice B3 m3 k3] from (Blk.new _ _ (by simp) _ _).below hb)
  have q_4 := Lib.hid (hk)
  have HB_4 := Lib.hid (below_trans HB_3.out hB)
  have hs_4 : w.heap.size ≤ w4.heap.size := HB_4.out.size
  have hz_4 : w3.heap.size + 1 ≤ w4.heap.size := (by have h := hb.size; (try simp at h); omega)
  clear hB hb x_3 by_3 p_3 Ka_3 HB_3
  go_wp2_with fail
  refine Calls.mono (HRI.out _ (by_4.out.alloc_ _)) ?_
  rintro e w5 ⟨v, u5, rfl, h, hy5, hb⟩
  have hk := h
  obtain ⟨b5, A5, n5, c5, d5, B5, m5, k5, rfl, -, -, -, -, -⟩ := h.form
  clear h
  have hB := bun (hb)
  have x_5 := Lib.hid (x_4.out.below hB)
  have by_5 := Lib.hid (by_4.out.below hB)
  have p_5 := Lib.hid (p_4.out.below hB)
  have q_5 := Lib.hid (q_4.out.below hB)
  have Ka_5 := Lib.hid (Ka_4.out.below hB)
  have Kp_5 := Lib.hid (Kp_4.out.below hB)
  have Kq_5 := Lib.hid (show Blk w5 (w4.heap.size) 26 #[.bool b4, .slice A4 n4 c4, .bool d4, .slice B4 m4 k4] from (Blk.new _ _ (by simp) _ _).below hb)
  have n_5 := Lib.hid (hk)
  have rest_5 := Lib.hid (hy5)
  have HB_5 := Lib.hid (below_trans HB_4.out hB)
  have hs_5 : w.heap.size ≤ w5.heap.size := HB_5.out.size
  have hz_5 : w4.heap.size + 1 ≤ w5.heap.size := (by have h := hb.size; (try simp at h); omega)
  clear hB hb x_4 by_4 p_4 q_4 Ka_4 Kp_4 HB_4
  go_wp2_with fail
  refine Calls.mono (HRR.out _ (by_5.out.alloc_ _)) ?_
  rintro e w6 ⟨v, u6, rfl, h, hy6, hb⟩
  have hk := h
  obtain ⟨b6, A6, n6, c6, d6, B6, m6, k6, rfl, -, -, -, -, -⟩ := h.form
  clear h
  have hB := bun (hb)
  have x_6 := Lib.hid (x_5.out.below hB)
  have by_6 := Lib.hid (by_5.out.below hB)
  have p_6 := Lib.hid (p_5.out.below hB)
  have q_6 := Lib.hid (q_5.out.below hB)
  have n_6 := Lib.hid (n_5.out.below hB)
  have rest_6 := Lib.hid (rest_5.out.below hB)
  have Ka_6 := Lib.hid (Ka_5.out.below hB)
  have Kp_6 := Lib.hid (Kp_5.out.below hB)
  have Kq_6 := Lib.hid (Kq_5.out.below hB)
  have Kn_6 := Lib.hid (show Blk w6 (w5.heap.size) 26 #[.bool b5, .slice A5 n5 c5, .bool d5, .slice B5 m5 k5] from (Blk.new _ _ (by simp) _ _).below hb)
  have m_6 := Lib.hid (hk)
  have left_6 := Lib.hid (hy6)
  have HB_6 := Lib.hid (below_trans HB_5.out hB)
  have hs_6 : w.heap.size ≤ w6.heap.size := HB_6.out.size
  have hz_6 : w5.heap.size + 1 ≤ w6.heap.size := (by have h := hb.size; (try simp at h); omega)
  clear hB hb x_5 by_5 p_5 q_5 n_5 rest_5 Ka_5 Kp_5 Kq_5 HB_5
  obtain ⟨p20, p21, p22, p23, l2⟩ := Ka_6.out.use4
  go_wp2_with fail
  refine Calls.mono (q_bytes (lq HQ.out (x_6.out.alloc_ _)) (by omega) (by omega)) ?_
  rintro e w7 ⟨v7, z7, rfl, hy7, hb⟩
  have hB := bun (hb)
  have x_7 := Lib.hid (x_6.out.below hB)
  have p_7 := Lib.hid (p_6.out.below hB)
  have q_7 := Lib.hid (q_6.out.below hB)
  have n_7 := Lib.hid (n_6.out.below hB)
  have rest_7 := Lib.hid (rest_6.out.below hB)
  have m_7 := Lib.hid (m_6.out.below hB)
  have left_7 := Lib.hid (left_6.out.below hB)
  have Ka_7 := Lib.hid (Ka_6.out.below hB)
  have Kp_7 := Lib.hid (Kp_6.out.below hB)
  have Kq_7 := Lib.hid (Kq_6.out.below hB)
  have Kn_7 := Lib.hid (Kn_6.out.below hB)
  have Km_7 := Lib.hid (show Blk w7 (w6.heap.size) 26 #[.bool b6, .slice A6 n6 c6, .bool d6, .slice B6 m6 k6] from (Blk.new _ _ (by simp) _ _).below hb)
  have xb_7 := Lib.hid (hy7)
  have HB_7 := Lib.hid (below_trans HB_6.out hB)
  have hs_7 : w.heap.size ≤ w7.heap.size := HB_7.out.size
  have hz_7 : w6.heap.size + 1 ≤ w7.heap.size := (by have h := hb.size; (try simp at h); omega)
  clear hB hb x_6 by_6 p_6 q_6 n_6 rest_6 m_6 left_6 Ka_6 Kp_6 Kq_6 Kn_6 HB_6 p20 p21 p22 p23 l2
  go_wp2
  generalize hW : w7 = w8
  have x_8 := Lib.hid (hW ▸ x_7.out)
  have p_8 := Lib.hid (hW ▸ p_7.out)
  have q_8 := Lib.hid (hW ▸ q_7.out)
  have n_8 := Lib.hid (hW ▸ n_7.out)
  have rest_8 := Lib.hid (hW ▸ rest_7.out)
  have m_8 := Lib.hid (hW ▸ m_7.out)
  have left_8 := Lib.hid (hW ▸ left_7.out)
  have xb_8 := Lib.hid (hW ▸ xb_7.out)
  have Ka_8 := Lib.hid (show Blk w8 (w.heap.size) 26 #[.bool b00, .slice a00 n00 c00, .bool e00, .slice g00 m00 k00] from by rw [← hW]; exact Ka_7.out)
  have Kp_8 := Lib.hid (show Blk w8 (w3.heap.size) 26 #[.bool b3, .slice A3 n3 c3, .bool d3, .slice B3 m3 k3] from by rw [← hW]; exact Kp_7.out)
  have Kq_8 := Lib.hid (show Blk w8 (w4.heap.size) 26 #[.bool b4, .slice A4 n4 c4, .bool d4, .slice B4 m4 k4] from by rw [← hW]; exact Kq_7.out)
  have Kn_8 := Lib.hid (show Blk w8 (w5.heap.size) 26 #[.bool b5, .slice A5 n5 c5, .bool d5, .slice B5 m5 k5] from by rw [← hW]; exact Kn_7.out)
  have Km_8 := Lib.hid (show Blk w8 (w6.heap.size) 26 #[.bool b6, .slice A6 n6 c6, .bool d6, .slice B6 m6 k6] from by rw [← hW]; exact Km_7.out)
  have HB_8 := Lib.hid (show Below w.heap.size w w8 from by rw [← hW]; exact HB_7.out)
  have hs_8 : w.heap.size ≤ w8.heap.size := HB_8.out.size
  have hz_8 : w7.heap.size + 0 ≤ w8.heap.size := by rw [← hW]; simp
  clear hW x_7 p_7 q_7 n_7 rest_7 m_7 left_7 xb_7 Ka_7 Kp_7 Kq_7 Kn_7 Km_7 HB_7
  obtain ⟨p30, p31, p32, p33, l3⟩ := Ka_8.out.use4
  obtain ⟨p40, p41, p42, p43, l4⟩ := Kp_8.out.use4
  obtain ⟨p50, p51, p52, p53, l5⟩ := Kq_8.out.use4
  obtain ⟨p60, p61, p62, p63, l6⟩ := Kn_8.out.use4
  obtain ⟨p70, p71, p72, p73, l7⟩ := Km_8.out.use4
  have tok0 : True := trivial
  have tok1 : True := trivial
  have tok2 : True := trivial
  have tok3 : True := trivial
  have tok4 : True := trivial
  have tok5 : True := trivial
  have tok6 : True := trivial
  go_region_held3 (fun w' => w'.cell? ⟨w.heap.size, 0, none⟩ = some (.bool b00) ∧ w'.cell? ⟨w.heap.size, 1, none⟩ = some (.slice a00 n00 c00) ∧ w'.cell? ⟨w.heap.size, 2, none⟩ = some (.bool e00) ∧ w'.cell? ⟨w.heap.size, 3, none⟩ = some (.slice g00 m00 k00) ∧ w'.cell? ⟨w3.heap.size, 0, none⟩ = some (.bool b3) ∧ w'.cell? ⟨w3.heap.size, 1, none⟩ = some (.slice A3 n3 c3) ∧ w'.cell? ⟨w3.heap.size, 2, none⟩ = some (.bool d3) ∧ w'.cell? ⟨w3.heap.size, 3, none⟩ = some (.slice B3 m3 k3) ∧ w'.cell? ⟨w4.heap.size, 0, none⟩ = some (.bool b4) ∧ w'.cell? ⟨w4.heap.size, 1, none⟩ = some (.slice A4 n4 c4) ∧ w'.cell? ⟨w4.heap.size, 2, none⟩ = some (.bool d4) ∧ w'.cell? ⟨w4.heap.size, 3, none⟩ = some (.slice B4 m4 k4) ∧ w'.cell? ⟨w5.heap.size, 0, none⟩ = some (.bool b5) ∧ w'.cell? ⟨w5.heap.size, 1, none⟩ = some (.slice A5 n5 c5) ∧ w'.cell? ⟨w5.heap.size, 2, none⟩ = some (.bool d5) ∧ w'.cell? ⟨w5.heap.size, 3, none⟩ = some (.slice B5 m5 k5) ∧ w'.cell? ⟨w6.heap.size, 0, none⟩ = some (.bool b6) ∧ w'.cell? ⟨w6.heap.size, 1, none⟩ = some (.slice A6 n6 c6) ∧ w'.cell? ⟨w6.heap.size, 2, none⟩ = some (.bool d6) ∧ w'.cell? ⟨w6.heap.size, 3, none⟩ = some (.slice B6 m6 k6)) (first | (refine ⟨?_, ?_, ?_, ?_, ?_, ?_, ?_, ?_, ?_, ?_, ?_, ?_, ?_, ?_, ?_, ?_, ?_, ?_, ?_, ?_⟩ <;> (first | with_reducible assumption | ((with_reducible refine Eq.trans (cell_drew _ _) ?_); with_reducible assumption) | ((rw [cell_far4 _ _ _ _ _ _ _ _ (by omega)]); with_reducible assumption) | ((repeat rw [cell_far2 _ _ _ _ _ _ (by omega)]); with_reducible assumption) | go_keep)) | trivial | go_keep)
    (first
      | (go_at_call 44; have _t := tok0; clear _t tok0; ((with_reducible refine Calls.mono (HQT.out _ _ (lq HQ.out (by first | exact x_8.out | exact x_8.out.drew_ | exact x_8.out.alloc_ _ | exact (x_8.out.alloc_ _).drew_))) ?_)); rintro e w9 ⟨rfl, hb⟩; have hB := (show Below w8.heap.size w8 w9 from by first | exact hb | exact bundrew hb | exact bun hb | exact bundrew (bun hb) | exact bun (bundrew hb)); have x_9 := Lib.hid (x_8.out.below hB); have p_9 := Lib.hid (p_8.out.below hB); have q_9 := Lib.hid (q_8.out.below hB); have n_9 := Lib.hid (n_8.out.below hB); have rest_9 := Lib.hid (rest_8.out.below hB); have m_9 := Lib.hid (m_8.out.below hB); have left_9 := Lib.hid (left_8.out.below hB); have xb_9 := Lib.hid (xb_8.out.below hB); have Ka_9 := Lib.hid (Ka_8.out.below hB); have Kp_9 := Lib.hid (Kp_8.out.below hB); have Kq_9 := Lib.hid (Kq_8.out.below hB); have Kn_9 := Lib.hid (Kn_8.out.below hB); have Km_9 := Lib.hid (Km_8.out.below hB); have HB_9 := Lib.hid (below_trans HB_8.out hB); have hs_9 : w.heap.size ≤ w9.heap.size := HB_9.out.size; have hz_9 : w8.heap.size + 0 ≤ w9.heap.size := (by have h := hb.size; (try simp at h); omega); clear hB hb x_8 p_8 q_8 n_8 rest_8 m_8 left_8 xb_8 Ka_8 Kp_8 Kq_8 Kn_8 Km_8 HB_8 p30 p31 p32 p33 l3 p40 p41 p42 p43 l4 p50 p51 p52 p53 l5 p60 p61 p62 p63 l6 p70 p71 p72 p73 l7; obtain ⟨p80, p81, p82, p83, l8⟩ := Ka_9.out.use4; obtain ⟨p90, p91, p92, p93, l9⟩ := Kp_9.out.use4; obtain ⟨p100, p101, p102, p103, l10⟩ := Kq_9.out.use4; obtain ⟨p110, p111, p112, p113, l11⟩ := Kn_9.out.use4; obtain ⟨p120, p121, p122, p123, l12⟩ := Km_9.out.use4)
      | (go_at_call 45; have _t := tok1; clear _t tok1; ((with_reducible refine Calls.mono (HRT.out _ _ (lq HQ.out (by first | exact x_9.out | exact x_9.out.drew_ | exact x_9.out.alloc_ _ | exact (x_9.out.alloc_ _).drew_))) ?_)); rintro e w10 ⟨rfl, hb⟩; have hB := (show Below w9.heap.size w9 w10 from by first | exact hb | exact bundrew hb | exact bun hb | exact bundrew (bun hb) | exact bun (bundrew hb)); have x_10 := Lib.hid (x_9.out.below hB); have p_10 := Lib.hid (p_9.out.below hB); have q_10 := Lib.hid (q_9.out.below hB); have n_10 := Lib.hid (n_9.out.below hB); have rest_10 := Lib.hid (rest_9.out.below hB); have m_10 := Lib.hid (m_9.out.below hB); have left_10 := Lib.hid (left_9.out.below hB); have xb_10 := Lib.hid (xb_9.out.below hB); have Ka_10 := Lib.hid (Ka_9.out.below hB); have Kp_10 := Lib.hid (Kp_9.out.below hB); have Kq_10 := Lib.hid (Kq_9.out.below hB); have Kn_10 := Lib.hid (Kn_9.out.below hB); have Km_10 := Lib.hid (Km_9.out.below hB); have HB_10 := Lib.hid (below_trans HB_9.out hB); have hs_10 : w.heap.size ≤ w10.heap.size := HB_10.out.size; have hz_10 : w9.heap.size + 0 ≤ w10.heap.size := (by have h := hb.size; (try simp at h); omega); clear hB hb x_9 p_9 q_9 n_9 rest_9 m_9 left_9 xb_9 Ka_9 Kp_9 Kq_9 Kn_9 Km_9 HB_9 p80 p81 p82 p83 l8 p90 p91 p92 p93 l9 p100 p101 p102 p103 l10 p110 p111 p112 p113 l11 p120 p121 p122 p123 l12; obtain ⟨p130, p131, p132, p133, l13⟩ := Ka_10.out.use4; obtain ⟨p140, p141, p142, p143, l14⟩ := Kp_10.out.use4; obtain ⟨p150, p151, p152, p153, l15⟩ := Kq_10.out.use4; obtain ⟨p160, p161, p162, p163, l16⟩ := Kn_10.out.use4; obtain ⟨p170, p171, p172, p173, l17⟩ := Km_10.out.use4)
      | (go_at_call 18; have _t := tok2; clear _t tok2; ((with_reducible refine Calls.mono (rat_same (by first | exact p_10.out | exact p_10.out.drew_ | exact p_10.out.alloc_ _ | exact (p_10.out.alloc_ _).drew_) (by first | exact q_10.out | exact q_10.out.drew_ | exact q_10.out.alloc_ _ | exact (q_10.out.alloc_ _).drew_) BZ.out HK.out) ?_)); rintro e w11 ⟨rfl, hb⟩; have hB := (show Below w10.heap.size w10 w11 from by first | exact hb | exact bundrew hb | exact bun hb | exact bundrew (bun hb) | exact bun (bundrew hb)); have x_11 := Lib.hid (x_10.out.below hB); have n_11 := Lib.hid (n_10.out.below hB); have rest_11 := Lib.hid (rest_10.out.below hB); have m_11 := Lib.hid (m_10.out.below hB); have left_11 := Lib.hid (left_10.out.below hB); have xb_11 := Lib.hid (xb_10.out.below hB); have Ka_11 := Lib.hid (Ka_10.out.below hB); have Kp_11 := Lib.hid (Kp_10.out.below hB); have Kq_11 := Lib.hid (Kq_10.out.below hB); have Kn_11 := Lib.hid (Kn_10.out.below hB); have Km_11 := Lib.hid (Km_10.out.below hB); have HB_11 := Lib.hid (below_trans HB_10.out hB); have hs_11 : w.heap.size ≤ w11.heap.size := HB_11.out.size; have hz_11 : w10.heap.size + 0 ≤ w11.heap.size := (by have h := hb.size; (try simp at h); omega); clear hB hb x_10 p_10 q_10 n_10 rest_10 m_10 left_10 xb_10 Ka_10 Kp_10 Kq_10 Kn_10 Km_10 HB_10 p130 p131 p132 p133 l13 p140 p141 p142 p143 l14 p150 p151 p152 p153 l15 p160 p161 p162 p163 l16 p170 p171 p172 p173 l17; obtain ⟨p180, p181, p182, p183, l18⟩ := Ka_11.out.use4; obtain ⟨p190, p191, p192, p193, l19⟩ := Kp_11.out.use4; obtain ⟨p200, p201, p202, p203, l20⟩ := Kq_11.out.use4; obtain ⟨p210, p211, p212, p213, l21⟩ := Kn_11.out.use4; obtain ⟨p220, p221, p222, p223, l22⟩ := Km_11.out.use4)
      | (go_at_call 47; have _t := tok3; clear _t tok3; ((with_reducible refine Calls.mono (r_bytes (lq HQ.out (by first | exact x_11.out | exact x_11.out.drew_ | exact x_11.out.alloc_ _ | exact (x_11.out.alloc_ _).drew_)) (by omega) (by omega)) ?_)); rintro e w12 ⟨v12, z12, rfl, hy12, hb⟩; have hB := (show Below w11.heap.size w11 w12 from by first | exact hb | exact bundrew hb | exact bun hb | exact bundrew (bun hb) | exact bun (bundrew hb)); have x_12 := Lib.hid (x_11.out.below hB); have n_12 := Lib.hid (n_11.out.below hB); have rest_12 := Lib.hid (rest_11.out.below hB); have m_12 := Lib.hid (m_11.out.below hB); have left_12 := Lib.hid (left_11.out.below hB); have xb_12 := Lib.hid (xb_11.out.below hB); have Ka_12 := Lib.hid (Ka_11.out.below hB); have Kp_12 := Lib.hid (Kp_11.out.below hB); have Kq_12 := Lib.hid (Kq_11.out.below hB); have Kn_12 := Lib.hid (Kn_11.out.below hB); have Km_12 := Lib.hid (Km_11.out.below hB); have xr_12 := Lib.hid (hy12); have HB_12 := Lib.hid (below_trans HB_11.out hB); have hs_12 : w.heap.size ≤ w12.heap.size := HB_12.out.size; have hz_12 : w11.heap.size + 0 ≤ w12.heap.size := (by have h := hb.size; (try simp at h); omega); clear hB hb x_11 n_11 rest_11 m_11 left_11 xb_11 Ka_11 Kp_11 Kq_11 Kn_11 Km_11 HB_11 p180 p181 p182 p183 l18 p190 p191 p192 p193 l19 p200 p201 p202 p203 l20 p210 p211 p212 p213 l21 p220 p221 p222 p223 l22; obtain ⟨p230, p231, p232, p233, l23⟩ := Ka_12.out.use4; obtain ⟨p240, p241, p242, p243, l24⟩ := Kp_12.out.use4; obtain ⟨p250, p251, p252, p253, l25⟩ := Kq_12.out.use4; obtain ⟨p260, p261, p262, p263, l26⟩ := Kn_12.out.use4; obtain ⟨p270, p271, p272, p273, l27⟩ := Km_12.out.use4)
      | (go_at_call 46; have _t := tok4; clear _t tok4; ((with_reducible refine Calls.mono (isqb_rows (by first | exact xb_12.out | exact xb_12.out.drew_ | exact xb_12.out.alloc_ _ | exact (xb_12.out.alloc_ _).drew_) (by first | exact xr_12.out | exact xr_12.out.drew_ | exact xr_12.out.alloc_ _ | exact (xr_12.out.alloc_ _).drew_)) ?_)); rintro e w13 ⟨rfl, hb⟩; have hB := (show Below w12.heap.size w12 w13 from by first | exact hb | exact bundrew hb | exact bun hb | exact bundrew (bun hb) | exact bun (bundrew hb)); have x_13 := Lib.hid (x_12.out.below hB); have n_13 := Lib.hid (n_12.out.below hB); have rest_13 := Lib.hid (rest_12.out.below hB); have m_13 := Lib.hid (m_12.out.below hB); have left_13 := Lib.hid (left_12.out.below hB); have xb_13 := Lib.hid (xb_12.out.below hB); have Ka_13 := Lib.hid (Ka_12.out.below hB); have Kp_13 := Lib.hid (Kp_12.out.below hB); have Kq_13 := Lib.hid (Kq_12.out.below hB); have Kn_13 := Lib.hid (Kn_12.out.below hB); have Km_13 := Lib.hid (Km_12.out.below hB); have HB_13 := Lib.hid (below_trans HB_12.out hB); have hs_13 : w.heap.size ≤ w13.heap.size := HB_13.out.size; have hz_13 : w12.heap.size + 0 ≤ w13.heap.size := (by have h := hb.size; (try simp at h); omega); clear hB hb x_12 n_12 rest_12 m_12 left_12 xb_12 xr_12 Ka_12 Kp_12 Kq_12 Kn_12 Km_12 HB_12 p230 p231 p232 p233 l23 p240 p241 p242 p243 l24 p250 p251 p252 p253 l25 p260 p261 p262 p263 l26 p270 p271 p272 p273 l27; obtain ⟨p280, p281, p282, p283, l28⟩ := Ka_13.out.use4; obtain ⟨p290, p291, p292, p293, l29⟩ := Kp_13.out.use4; obtain ⟨p300, p301, p302, p303, l30⟩ := Kq_13.out.use4; obtain ⟨p310, p311, p312, p313, l31⟩ := Kn_13.out.use4; obtain ⟨p320, p321, p322, p323, l32⟩ := Km_13.out.use4)
      | (go_at_call 18; have _t := tok5; clear _t tok5; ((with_reducible refine Calls.mono (rat_same (by first | exact n_13.out | exact n_13.out.drew_ | exact n_13.out.alloc_ _ | exact (n_13.out.alloc_ _).drew_) (by first | exact m_13.out | exact m_13.out.drew_ | exact m_13.out.alloc_ _ | exact (m_13.out.alloc_ _).drew_) BR.out (by omega)) ?_)); rintro e w14 ⟨rfl, hb⟩; have hB := (show Below w13.heap.size w13 w14 from by first | exact hb | exact bundrew hb | exact bun hb | exact bundrew (bun hb) | exact bun (bundrew hb)); have x_14 := Lib.hid (x_13.out.below hB); have rest_14 := Lib.hid (rest_13.out.below hB); have left_14 := Lib.hid (left_13.out.below hB); have xb_14 := Lib.hid (xb_13.out.below hB); have Ka_14 := Lib.hid (Ka_13.out.below hB); have Kp_14 := Lib.hid (Kp_13.out.below hB); have Kq_14 := Lib.hid (Kq_13.out.below hB); have Kn_14 := Lib.hid (Kn_13.out.below hB); have Km_14 := Lib.hid (Km_13.out.below hB); have HB_14 := Lib.hid (below_trans HB_13.out hB); have hs_14 : w.heap.size ≤ w14.heap.size := HB_14.out.size; have hz_14 : w13.heap.size + 0 ≤ w14.heap.size := (by have h := hb.size; (try simp at h); omega); clear hB hb x_13 n_13 rest_13 m_13 left_13 xb_13 Ka_13 Kp_13 Kq_13 Kn_13 Km_13 HB_13 p280 p281 p282 p283 l28 p290 p291 p292 p293 l29 p300 p301 p302 p303 l30 p310 p311 p312 p313 l31 p320 p321 p322 p323 l32; obtain ⟨p330, p331, p332, p333, l33⟩ := Ka_14.out.use4; obtain ⟨p340, p341, p342, p343, l34⟩ := Kp_14.out.use4; obtain ⟨p350, p351, p352, p353, l35⟩ := Kq_14.out.use4; obtain ⟨p360, p361, p362, p363, l36⟩ := Kn_14.out.use4; obtain ⟨p370, p371, p372, p373, l37⟩ := Km_14.out.use4)
      | (go_at_call 46; have _t := tok6; clear _t tok6; ((with_reducible refine Calls.mono (byt_rows (n := M) (f := G) (g := G) (by first | exact rest_14.out | exact rest_14.out.drew_ | exact rest_14.out.alloc_ _ | exact (rest_14.out.alloc_ _).drew_) (by first | exact left_14.out | exact left_14.out.drew_ | exact left_14.out.alloc_ _ | exact (left_14.out.alloc_ _).drew_) BM.out (fun _ _ => rfl)) ?_)); rintro e w15 ⟨rfl, hb⟩; have hB := (show Below w14.heap.size w14 w15 from by first | exact hb | exact bundrew hb | exact bun hb | exact bundrew (bun hb) | exact bun (bundrew hb)); have x_15 := Lib.hid (x_14.out.below hB); have xb_15 := Lib.hid (xb_14.out.below hB); have Ka_15 := Lib.hid (Ka_14.out.below hB); have Kp_15 := Lib.hid (Kp_14.out.below hB); have Kq_15 := Lib.hid (Kq_14.out.below hB); have Kn_15 := Lib.hid (Kn_14.out.below hB); have Km_15 := Lib.hid (Km_14.out.below hB); have HB_15 := Lib.hid (below_trans HB_14.out hB); have hs_15 : w.heap.size ≤ w15.heap.size := HB_15.out.size; have hz_15 : w14.heap.size + 0 ≤ w15.heap.size := (by have h := hb.size; (try simp at h); omega); clear hB hb x_14 rest_14 left_14 xb_14 Ka_14 Kp_14 Kq_14 Kn_14 Km_14 HB_14 p330 p331 p332 p333 l33 p340 p341 p342 p343 l34 p350 p351 p352 p353 l35 p360 p361 p362 p363 l36 p370 p371 p372 p373 l37; obtain ⟨p380, p381, p382, p383, l38⟩ := Ka_15.out.use4; obtain ⟨p390, p391, p392, p393, l39⟩ := Kp_15.out.use4; obtain ⟨p400, p401, p402, p403, l40⟩ := Kq_15.out.use4; obtain ⟨p410, p411, p412, p413, l41⟩ := Kn_15.out.use4; obtain ⟨p420, p421, p422, p423, l42⟩ := Km_15.out.use4))
  go_wp2_with fail
  refine Calls.mono (HQT.out _ _ (lq HQ.out x_15.out)) ?_
  rintro e w16 ⟨rfl, hb⟩
  have hB := hb
  have x_16 := Lib.hid (x_15.out.below hB)
  have xb_16 := Lib.hid (xb_15.out.below hB)
  have Ka_16 := Lib.hid (Ka_15.out.below hB)
  have Kp_16 := Lib.hid (Kp_15.out.below hB)
  have Kq_16 := Lib.hid (Kq_15.out.below hB)
  have Kn_16 := Lib.hid (Kn_15.out.below hB)
  have Km_16 := Lib.hid (Km_15.out.below hB)
  have HB_16 := Lib.hid (below_trans HB_15.out hB)
  have hs_16 : w.heap.size ≤ w16.heap.size := HB_16.out.size
  have hz_16 : w15.heap.size + 0 ≤ w16.heap.size := (by have h := hb.size; (try simp at h); omega)
  clear hB hb x_15 xb_15 Ka_15 Kp_15 Kq_15 Kn_15 Km_15 HB_15 p380 p381 p382 p383 l38 p390 p391 p392 p393 l39 p400 p401 p402 p403 l40 p410 p411 p412 p413 l41 p420 p421 p422 p423 l42
  go_wp2_with fail
  refine Calls.mono ((HPT.out _).out) ?_
  rintro e w17 ⟨v, rfl, h, hb⟩
  have hk := h
  obtain ⟨b17, A17, n17, c17, d17, B17, m17, k17, rfl, -, -, -, -, -⟩ := h.form
  clear h
  have hB := hb
  have x_17 := Lib.hid (x_16.out.below hB)
  have xb_17 := Lib.hid (xb_16.out.below hB)
  have Ka_17 := Lib.hid (Ka_16.out.below hB)
  have Kp_17 := Lib.hid (Kp_16.out.below hB)
  have Kq_17 := Lib.hid (Kq_16.out.below hB)
  have Kn_17 := Lib.hid (Kn_16.out.below hB)
  have Km_17 := Lib.hid (Km_16.out.below hB)
  have bk_17 := Lib.hid (hk)
  have HB_17 := Lib.hid (below_trans HB_16.out hB)
  have hs_17 : w.heap.size ≤ w17.heap.size := HB_17.out.size
  have hz_17 : w16.heap.size + 0 ≤ w17.heap.size := (by have h := hb.size; (try simp at h); omega)
  clear hB hb x_16 xb_16 Ka_16 Kp_16 Kq_16 Kn_16 Km_16 HB_16
  go_wp2_with fail
  refine Calls.mono (isqb_read (xb_17.out.alloc_ _)) ?_
  rintro e w18 ⟨v, u18, rfl, h, hy18, hb⟩
  have hk := h
  obtain ⟨b18, A18, n18, c18, d18, B18, m18, k18, rfl, -, -, -, -, -⟩ := h.form
  clear h
  obtain ⟨uA, uc, rfl, -⟩ := hy18.form
  clear hy18
  have hB := bun (hb)
  have x_18 := Lib.hid (x_17.out.below hB)
  have bk_18 := Lib.hid (bk_17.out.below hB)
  have Ka_18 := Lib.hid (Ka_17.out.below hB)
  have Kp_18 := Lib.hid (Kp_17.out.below hB)
  have Kq_18 := Lib.hid (Kq_17.out.below hB)
  have Kn_18 := Lib.hid (Kn_17.out.below hB)
  have Km_18 := Lib.hid (Km_17.out.below hB)
  have Kbk_18 := Lib.hid (show Blk w18 (w17.heap.size) 26 #[.bool b17, .slice A17 n17 c17, .bool d17, .slice B17 m17 k17] from (Blk.new _ _ (by simp) _ _).below hb)
  have ag_18 := Lib.hid (hk)
  have HB_18 := Lib.hid (below_trans HB_17.out hB)
  have hs_18 : w.heap.size ≤ w18.heap.size := HB_18.out.size
  have hz_18 : w17.heap.size + 1 ≤ w18.heap.size := (by have h := hb.size; (try simp at h); omega)
  clear hB hb x_17 xb_17 bk_17 Ka_17 Kp_17 Kq_17 Kn_17 Km_17 HB_17
  go_wp2
  generalize hW : (w18.alloc (.cells #[.bool b18, .slice A18 n18 c18, .bool d18, .slice B18 m18 k18] 26)) = w19
  have x_19 := Lib.hid (hW ▸ (x_18.out.alloc_ _))
  have bk_19 := Lib.hid (hW ▸ (bk_18.out.alloc_ _))
  have ag_19 := Lib.hid (hW ▸ (ag_18.out.alloc_ _))
  have Ka_19 := Lib.hid (show Blk w19 (w.heap.size) 26 #[.bool b00, .slice a00 n00 c00, .bool e00, .slice g00 m00 k00] from by rw [← hW]; exact (Ka_18.out.alloc_ _))
  have Kp_19 := Lib.hid (show Blk w19 (w3.heap.size) 26 #[.bool b3, .slice A3 n3 c3, .bool d3, .slice B3 m3 k3] from by rw [← hW]; exact (Kp_18.out.alloc_ _))
  have Kq_19 := Lib.hid (show Blk w19 (w4.heap.size) 26 #[.bool b4, .slice A4 n4 c4, .bool d4, .slice B4 m4 k4] from by rw [← hW]; exact (Kq_18.out.alloc_ _))
  have Kn_19 := Lib.hid (show Blk w19 (w5.heap.size) 26 #[.bool b5, .slice A5 n5 c5, .bool d5, .slice B5 m5 k5] from by rw [← hW]; exact (Kn_18.out.alloc_ _))
  have Km_19 := Lib.hid (show Blk w19 (w6.heap.size) 26 #[.bool b6, .slice A6 n6 c6, .bool d6, .slice B6 m6 k6] from by rw [← hW]; exact (Km_18.out.alloc_ _))
  have Kbk_19 := Lib.hid (show Blk w19 (w17.heap.size) 26 #[.bool b17, .slice A17 n17 c17, .bool d17, .slice B17 m17 k17] from by rw [← hW]; exact (Kbk_18.out.alloc_ _))
  have Kag_19 := Lib.hid (show Blk w19 (w18.heap.size) 26 #[.bool b18, .slice A18 n18 c18, .bool d18, .slice B18 m18 k18] from by rw [← hW]; exact Blk.new _ _ (by simp) _ _)
  have HB_19 := Lib.hid (show Below w.heap.size w w19 from by rw [← hW]; exact halloc (HB_18.out))
  have hs_19 : w.heap.size ≤ w19.heap.size := HB_19.out.size
  have hz_19 : w18.heap.size + 1 ≤ w19.heap.size := by rw [← hW]; simp
  clear hW x_18 bk_18 ag_18 Ka_18 Kp_18 Kq_18 Kn_18 Km_18 Kbk_18 HB_18
  obtain ⟨p430, p431, p432, p433, l43⟩ := Ka_19.out.use4
  obtain ⟨p440, p441, p442, p443, l44⟩ := Kbk_19.out.use4
  obtain ⟨p450, p451, p452, p453, l45⟩ := Kag_19.out.use4
  have tok0 : True := trivial
  have tok1 : True := trivial
  have tok2 : True := trivial
  go_region_held3 (fun w' => w'.cell? ⟨w.heap.size, 0, none⟩ = some (.bool b00) ∧ w'.cell? ⟨w.heap.size, 1, none⟩ = some (.slice a00 n00 c00) ∧ w'.cell? ⟨w.heap.size, 2, none⟩ = some (.bool e00) ∧ w'.cell? ⟨w.heap.size, 3, none⟩ = some (.slice g00 m00 k00) ∧ w'.cell? ⟨w17.heap.size, 0, none⟩ = some (.bool b17) ∧ w'.cell? ⟨w17.heap.size, 1, none⟩ = some (.slice A17 n17 c17) ∧ w'.cell? ⟨w17.heap.size, 2, none⟩ = some (.bool d17) ∧ w'.cell? ⟨w17.heap.size, 3, none⟩ = some (.slice B17 m17 k17) ∧ w'.cell? ⟨w18.heap.size, 0, none⟩ = some (.bool b18) ∧ w'.cell? ⟨w18.heap.size, 1, none⟩ = some (.slice A18 n18 c18) ∧ w'.cell? ⟨w18.heap.size, 2, none⟩ = some (.bool d18) ∧ w'.cell? ⟨w18.heap.size, 3, none⟩ = some (.slice B18 m18 k18)) (first | (refine ⟨?_, ?_, ?_, ?_, ?_, ?_, ?_, ?_, ?_, ?_, ?_, ?_⟩ <;> (first | with_reducible assumption | ((with_reducible refine Eq.trans (cell_drew _ _) ?_); with_reducible assumption) | ((rw [cell_far4 _ _ _ _ _ _ _ _ (by omega)]); with_reducible assumption) | ((repeat rw [cell_far2 _ _ _ _ _ _ (by omega)]); with_reducible assumption) | go_keep)) | trivial | go_keep)
    (first
      | (go_at_call 20; have _t := tok0; clear _t tok0; ((with_reducible refine Calls.mono (r_plain (lq HQ.out (by first | exact x_19.out | exact x_19.out.drew_ | exact x_19.out.alloc_ _ | exact (x_19.out.alloc_ _).drew_)) (by omega)) ?_)); rintro e w20 ⟨v20, rfl, hy20, hb⟩; have hB := (show Below w19.heap.size w19 w20 from by first | exact hb | exact bundrew hb | exact bun hb | exact bundrew (bun hb) | exact bun (bundrew hb)); have x_20 := Lib.hid (x_19.out.below hB); have bk_20 := Lib.hid (bk_19.out.below hB); have ag_20 := Lib.hid (ag_19.out.below hB); have Ka_20 := Lib.hid (Ka_19.out.below hB); have Kp_20 := Lib.hid (Kp_19.out.below hB); have Kq_20 := Lib.hid (Kq_19.out.below hB); have Kn_20 := Lib.hid (Kn_19.out.below hB); have Km_20 := Lib.hid (Km_19.out.below hB); have Kbk_20 := Lib.hid (Kbk_19.out.below hB); have Kag_20 := Lib.hid (Kag_19.out.below hB); have rp_20 := Lib.hid (hy20); have HB_20 := Lib.hid (below_trans HB_19.out hB); have hs_20 : w.heap.size ≤ w20.heap.size := HB_20.out.size; have hz_20 : w19.heap.size + 0 ≤ w20.heap.size := (by have h := hb.size; (try simp at h); omega); clear hB hb x_19 bk_19 ag_19 Ka_19 Kp_19 Kq_19 Kn_19 Km_19 Kbk_19 Kag_19 HB_19 p430 p431 p432 p433 l43 p440 p441 p442 p443 l44 p450 p451 p452 p453 l45; obtain ⟨p460, p461, p462, p463, l46⟩ := Ka_20.out.use4; obtain ⟨p470, p471, p472, p473, l47⟩ := Kbk_20.out.use4; obtain ⟨p480, p481, p482, p483, l48⟩ := Kag_20.out.use4)
      | (go_at_call 18; have _t := tok1; clear _t tok1; ((with_reducible refine Calls.mono (rat_same (by first | exact bk_20.out | exact bk_20.out.drew_ | exact bk_20.out.alloc_ _ | exact (bk_20.out.alloc_ _).drew_) (by first | exact rp_20.out | exact rp_20.out.drew_ | exact rp_20.out.alloc_ _ | exact (rp_20.out.alloc_ _).drew_) BX.out (by omega)) ?_)); rintro e w21 ⟨rfl, hb⟩; have hB := (show Below w20.heap.size w20 w21 from by first | exact hb | exact bundrew hb | exact bun hb | exact bundrew (bun hb) | exact bun (bundrew hb)); have x_21 := Lib.hid (x_20.out.below hB); have bk_21 := Lib.hid (bk_20.out.below hB); have ag_21 := Lib.hid (ag_20.out.below hB); have Ka_21 := Lib.hid (Ka_20.out.below hB); have Kp_21 := Lib.hid (Kp_20.out.below hB); have Kq_21 := Lib.hid (Kq_20.out.below hB); have Kn_21 := Lib.hid (Kn_20.out.below hB); have Km_21 := Lib.hid (Km_20.out.below hB); have Kbk_21 := Lib.hid (Kbk_20.out.below hB); have Kag_21 := Lib.hid (Kag_20.out.below hB); have HB_21 := Lib.hid (below_trans HB_20.out hB); have hs_21 : w.heap.size ≤ w21.heap.size := HB_21.out.size; have hz_21 : w20.heap.size + 0 ≤ w21.heap.size := (by have h := hb.size; (try simp at h); omega); clear hB hb x_20 bk_20 ag_20 rp_20 Ka_20 Kp_20 Kq_20 Kn_20 Km_20 Kbk_20 Kag_20 HB_20 p460 p461 p462 p463 l46 p470 p471 p472 p473 l47 p480 p481 p482 p483 l48; obtain ⟨p490, p491, p492, p493, l49⟩ := Ka_21.out.use4; obtain ⟨p500, p501, p502, p503, l50⟩ := Kbk_21.out.use4; obtain ⟨p510, p511, p512, p513, l51⟩ := Kag_21.out.use4)
      | (go_at_call 18; have _t := tok2; clear _t tok2; ((with_reducible refine Calls.mono (rat_same (by first | exact ag_21.out | exact ag_21.out.drew_ | exact ag_21.out.alloc_ _ | exact (ag_21.out.alloc_ _).drew_) (by first | exact bk_21.out | exact bk_21.out.drew_ | exact bk_21.out.alloc_ _ | exact (bk_21.out.alloc_ _).drew_) BX.out (by omega)) ?_)); rintro e w22 ⟨rfl, hb⟩; have hB := (show Below w21.heap.size w21 w22 from by first | exact hb | exact bundrew hb | exact bun hb | exact bundrew (bun hb) | exact bun (bundrew hb)); have x_22 := Lib.hid (x_21.out.below hB); have bk_22 := Lib.hid (bk_21.out.below hB); have ag_22 := Lib.hid (ag_21.out.below hB); have Ka_22 := Lib.hid (Ka_21.out.below hB); have Kp_22 := Lib.hid (Kp_21.out.below hB); have Kq_22 := Lib.hid (Kq_21.out.below hB); have Kn_22 := Lib.hid (Kn_21.out.below hB); have Km_22 := Lib.hid (Km_21.out.below hB); have Kbk_22 := Lib.hid (Kbk_21.out.below hB); have Kag_22 := Lib.hid (Kag_21.out.below hB); have HB_22 := Lib.hid (below_trans HB_21.out hB); have hs_22 : w.heap.size ≤ w22.heap.size := HB_22.out.size; have hz_22 : w21.heap.size + 0 ≤ w22.heap.size := (by have h := hb.size; (try simp at h); omega); clear hB hb x_21 bk_21 ag_21 Ka_21 Kp_21 Kq_21 Kn_21 Km_21 Kbk_21 Kag_21 HB_21 p490 p491 p492 p493 l49 p500 p501 p502 p503 l50 p510 p511 p512 p513 l51; obtain ⟨p520, p521, p522, p523, l52⟩ := Ka_22.out.use4; obtain ⟨p530, p531, p532, p533, l53⟩ := Kbk_22.out.use4; obtain ⟨p540, p541, p542, p543, l54⟩ := Kag_22.out.use4))
  go_wp2
  go_ret
  exact ⟨by simp, HB_22.out⟩

theorem writes_any (b00 : Bool) (a00 : Option Addr) (n00 c00 : Nat) (e00 : Bool) (g00 : Option Addr) (m00 k00 : Nat) (s : ByteArray) (B : Option Addr) (bm bd : Nat) (w : World) (f : Nat → Nat) (hs : s.size ≤ 9223372036854775807) (hm : bm ≤ 9223372036854775807) (hb : Byt w (.slice B bm bd) bm f) (w0 : n00 ≤ 4 → m00 ≤ 4 → ∃ q, LimQ 4 w ((.agg #[.bool b00, .slice a00 n00 c00, .bool e00, .slice g00 m00 k00])) q) :
    Calls Tryz.prog 5 #[(.agg #[.bool b00, .slice a00 n00 c00, .bool e00, .slice g00 m00 k00]), .string s, .slice B bm bd] w fun e w' => e = .returned (.bool true) ∧ Below w.heap.size w w' := by
  cases h0 : (decide (n00 ≤ 4) && decide (m00 ≤ 4))
  · exact writes_no b00 a00 n00 c00 e00 g00 m00 k00 s B bm bd w h0
  · by_cases h1 : s.size ≤ 200
    · by_cases h2 : bm ≤ 1000
      · have e0 := h0
        rw [Bool.and_eq_true, decide_eq_true_eq, decide_eq_true_eq] at e0
        obtain ⟨q, X, Y, hx, -⟩ := w0 e0.1 e0.2
        exact writes_in b00 a00 n00 c00 e00 g00 m00 k00 s B bm bd w f X Y hx h0 h1 h2 hb
      · exact writes_out2 b00 a00 n00 c00 e00 g00 m00 k00 s B bm bd w h0 (by omega) (by omega)
    · exact writes_out1 b00 a00 n00 c00 e00 g00 m00 k00 s B bm bd w h0 (by omega)
end Go.Proofs.YtglcififcldchaaGreatDoor
