/- RatioReckons: the walk. -/
import Derived.Test.YtglcififcldchaaGreatDoorRs
namespace Go.Proofs.YtglcififcldchaaGreatDoor
open Go.RowKit
attribute [local go_sem ↓] Go.wp_at_zero Go.wp_at_succ
set_option linter.unusedVariables false

theorem lq {k : Nat} {w : World} {v : Value} {X Y : Int} {q : Rat} (hq : q = ratOf X Y) (h : LimR k w v X Y) : LimQ k w v q := ⟨X, Y, h, hq⟩
theorem lr_may {k : Nat} {w : World} {v : Value} {X Y : Int} {m : Bool} (hm : decide (0 < Y) = m) (h : LimR k w v X Y) (hk : k ≤ 1000000) : Calls Tryz.prog 16 #[v] w fun e w' => e = .returned (.bool m) ∧ Below w.heap.size w w' := by
  subst hm
  obtain ⟨b, A, n, c, b', A', n', c', rfl, -, h2⟩ := h.form
  by_cases hY : 0 < Y
  · rw [decide_eq_true hY]; exact may_true b A n c b' A' n' c' w k Y h2 hk hY
  · rw [decide_eq_false hY]; exact may_false b A n c b' A' n' c' w k Y h2 hk (by omega)
theorem rlr_may {k : Nat} {w : World} {v : Value} {X Y : Int} {m : Bool} (hm : decide (0 < Y) = m) (h : LimR k w v X Y) (hk : k ≤ 1000000) : Calls Tryz.prog 17 #[v] w fun e w' => e = .returned (.bool m) ∧ Below w.heap.size w w' := by
  subst hm
  obtain ⟨b, A, n, c, b', A', n', c', rfl, -, h2⟩ := h.form
  rcases Int.lt_trichotomy Y 0 with hY | hY | hY
  · rw [decide_eq_false (by omega)]; exact rmay_n b A n c b' A' n' c' w k Y h2 hk hY
  · rw [decide_eq_false (by omega)]; exact rmay_z b A n c b' A' n' c' w k Y h2 hk hY
  · rw [decide_eq_true hY]; exact rmay_t b A n c b' A' n' c' w k Y h2 hk hY
theorem few_is (b : Bool) (A : Option Addr) (n c : Nat) (b' : Bool) (A' : Option Addr) (n' c' : Nat) (w : World) (r : Bool) (hr : (decide (n ≤ 4) && decide (n' ≤ 4)) = r) : Calls Tryz.prog 13 #[.agg #[.bool b, .slice A n c, .bool b', .slice A' n' c']] w fun e w' => e = .returned (.bool r) ∧ Below w.heap.size w w' := by
  subst hr; exact few3_any b A n c b' A' n' c' w
theorem rqcmp_is {k l : Nat} {w : World} {v v' : Value} {x y : Rat} {r : Int} (hr : cmpQ x y = r) (hx : LimQ k w v x) (hy : LimQ l w v' y) (hk : k ≤ 20000) (hl : l ≤ 20000) (h1 : 1 ≤ k) (h1' : 1 ≤ l) : Calls Tryz.prog 22 #[v, v'] w fun e w' => e = .returned (.int .i64 r) ∧ Below w.heap.size w w' := by
  subst hr; exact rcmp_q hx hy hk hl h1 h1'
theorem qdiv_is {k l : Nat} {w : World} {v v' : Value} {x y : Rat} {d : Bool} (hd : decide (y ≠ 0) = d) (hx : LimQ k w v x) (hy : LimQ l w v' y) (hk : k ≤ 10000) (hl : l ≤ 10000) (h1 : 1 ≤ k) (h1' : 1 ≤ l) : Calls Tryz.prog 14 #[v, v'] w fun e w' => ∃ v, e = .returned (.tuple #[v, .bool d]) ∧ IsRat w' v (x / y) ∧ Below w.heap.size w w' := by
  subst hd; exact q_div hx hy (by omega) (by omega) h1 h1'
theorem rqdiv_is {k l : Nat} {w : World} {v v' : Value} {x y : Rat} {d : Bool} (hd : decide (y ≠ 0) = d) (hx : LimQ k w v x) (hy : LimQ l w v' y) (hk : k ≤ 10000) (hl : l ≤ 10000) (h1 : 1 ≤ k) (h1' : 1 ≤ l) : Calls Tryz.prog 15 #[v, v'] w fun e w' => ∃ v, e = .returned (.tuple #[v, .bool d]) ∧ IsRat w' v (x / y) ∧ Below w.heap.size w w' := by
  subst hd; exact rdiv_q hx hy hk hl h1 h1'
theorem bq_add {k l : Nat} {x y : Rat} (hx : BQ k x) (hy : BQ l y) : BQ (k + l + 1) (x + y) := by
  obtain ⟨h1, h2, h3, h4⟩ := xy_bd hx hy
  rw [← cross_add]
  exact divInt_bq h4 (i_add h1 h2 (k + l + 1) (by omega) (by omega)) h3 (Nat.le_refl _) (Nat.le_refl _)
theorem bq_sub {k l : Nat} {x y : Rat} (hx : BQ k x) (hy : BQ l y) : BQ (k + l + 1) (x - y) := by
  obtain ⟨h1, h2, h3, h4⟩ := xy_bd hx hy
  rw [← cross_sub]
  exact divInt_bq h4 (i_sub h1 h2 (k + l + 1) (by omega) (by omega)) h3 (Nat.le_refl _) (Nat.le_refl _)
theorem bq_mul {k l : Nat} {x y : Rat} (hx : BQ k x) (hy : BQ l y) : BQ (k + l + 1) (x * y) := by
  obtain ⟨h1, h2, h3, h4⟩ := xy_bd hx hy
  rw [← cross_mul]
  exact divInt_bq h4 (i_mul hx.1 hy.1 (k + l + 1) (by omega)) h3 (Nat.le_refl _) (Nat.le_refl _)
theorem bq_inv {k : Nat} {x : Rat} (h1 : 1 ≤ k) (hx : BQ k x) : BQ k x⁻¹ := by
  by_cases h0 : x.num = 0
  · have : x = 0 := Rat.num_eq_zero.1 h0
    subst this
    rw [Rat.inv_zero]; exact hx
  · have h2 := den_pos' x
    rcases Int.lt_or_gt_of_ne h0 with h | h
    · have e : x⁻¹ = Rat.divInt (-(x.den : Int)) (-x.num) := by
        conv => lhs; rw [← Rat.num_divInt_den x, Rat.inv_divInt]
        rw [Rat.neg_divInt_neg]
      rw [e]
      exact divInt_bq (by omega) (show (-(x.den : Int)).natAbs < 4294967296 ^ k by rw [Int.natAbs_neg]; exact hx.2) (show (-x.num).natAbs < 4294967296 ^ k by rw [Int.natAbs_neg]; exact hx.1) (Nat.le_refl _) (Nat.le_refl _)
    · have e : x⁻¹ = Rat.divInt (x.den : Int) x.num := by
        conv => lhs; rw [← Rat.num_divInt_den x, Rat.inv_divInt]
      rw [e]
      exact divInt_bq h (show ((x.den : Int)).natAbs < 4294967296 ^ k from hx.2) hx.1 (Nat.le_refl _) (Nat.le_refl _)
theorem bq_div {k l : Nat} {x y : Rat} (h1 : 1 ≤ l) (hx : BQ k x) (hy : BQ l y) : BQ (k + l + 1) (x / y) := by
  rw [Rat.div_def]; exact bq_mul hx (bq_inv h1 hy)

set_option maxRecDepth 100000 in
set_option maxHeartbeats 2000000 in
theorem reckons_no0 (b00 : Bool) (a00 : Option Addr) (n00 c00 : Nat) (e00 : Bool) (g00 : Option Addr) (m00 k00 : Nat) (b01 : Bool) (a01 : Option Addr) (n01 c01 : Nat) (e01 : Bool) (g01 : Option Addr) (m01 k01 : Nat) (w : World) (h0 : (decide (n00 ≤ 4) && decide (m00 ≤ 4)) = false) :
    Calls Tryz.prog 3 #[(.agg #[.bool b00, .slice a00 n00 c00, .bool e00, .slice g00 m00 k00]), (.agg #[.bool b01, .slice a01 n01 c01, .bool e01, .slice g01 m01 k01])] w fun e w' => e = .returned (.bool true) ∧ Below w.heap.size w w' := by
  have F0 := Lib.hid h0
  clear h0
  go_enter Tryz.func3, Tryz.ntmps3
  go_wp2_with fail
  refine Calls.mono (awake3 _) ?_
  rintro e w1 ⟨rfl, hb⟩
  have hB := bun (bun (hb))
  have Ka_1 := Lib.hid (show Blk w1 (w.heap.size) 26 #[.bool b00, .slice a00 n00 c00, .bool e00, .slice g00 m00 k00] from ((Blk.new _ _ (by simp) _ _).alloc_ _).below hb)
  have Kb_1 := Lib.hid (show Blk w1 (w.heap.size + 1) 26 #[.bool b01, .slice a01 n01 c01, .bool e01, .slice g01 m01 k01] from (Blk.new _ _ (by simp) _ _).below hb)
  have HB_1 := Lib.hid (hB)
  have hs_1 : w.heap.size ≤ w1.heap.size := HB_1.out.size
  have hz_1 : w.heap.size + 2 ≤ w1.heap.size := (by have h := hb.size; (try simp at h); omega)
  clear hB hb 
  obtain ⟨p10, p11, p12, p13, l1⟩ := Ka_1.out.use4
  go_wp2_with fail
  refine Calls.mono (few_is _ _ _ _ _ _ _ _ _ false F0.out) ?_
  rintro e w2 ⟨rfl, hb⟩
  have hB := hb
  have Ka_2 := Lib.hid (Ka_1.out.below hB)
  have Kb_2 := Lib.hid (Kb_1.out.below hB)
  have HB_2 := Lib.hid (below_trans HB_1.out hB)
  have hs_2 : w.heap.size ≤ w2.heap.size := HB_2.out.size
  have hz_2 : w1.heap.size + 0 ≤ w2.heap.size := (by have h := hb.size; (try simp at h); omega)
  clear hB hb Ka_1 Kb_1 HB_1 p10 p11 p12 p13 l1
  obtain ⟨p20, p21, p22, p23, l2⟩ := Kb_2.out.use4
  go_wp2
  go_ret
  exact ⟨rfl, HB_2.out⟩

set_option maxRecDepth 100000 in
set_option maxHeartbeats 2000000 in
theorem reckons_no1 (b00 : Bool) (a00 : Option Addr) (n00 c00 : Nat) (e00 : Bool) (g00 : Option Addr) (m00 k00 : Nat) (b01 : Bool) (a01 : Option Addr) (n01 c01 : Nat) (e01 : Bool) (g01 : Option Addr) (m01 k01 : Nat) (w : World) (h0 : (decide (n00 ≤ 4) && decide (m00 ≤ 4)) = true) (h1 : (decide (n01 ≤ 4) && decide (m01 ≤ 4)) = false) :
    Calls Tryz.prog 3 #[(.agg #[.bool b00, .slice a00 n00 c00, .bool e00, .slice g00 m00 k00]), (.agg #[.bool b01, .slice a01 n01 c01, .bool e01, .slice g01 m01 k01])] w fun e w' => e = .returned (.bool true) ∧ Below w.heap.size w w' := by
  have F0 := Lib.hid h0
  have F1 := Lib.hid h1
  clear h1
  clear h0
  go_enter Tryz.func3, Tryz.ntmps3
  go_wp2_with fail
  refine Calls.mono (awake3 _) ?_
  rintro e w1 ⟨rfl, hb⟩
  have hB := bun (bun (hb))
  have Ka_1 := Lib.hid (show Blk w1 (w.heap.size) 26 #[.bool b00, .slice a00 n00 c00, .bool e00, .slice g00 m00 k00] from ((Blk.new _ _ (by simp) _ _).alloc_ _).below hb)
  have Kb_1 := Lib.hid (show Blk w1 (w.heap.size + 1) 26 #[.bool b01, .slice a01 n01 c01, .bool e01, .slice g01 m01 k01] from (Blk.new _ _ (by simp) _ _).below hb)
  have HB_1 := Lib.hid (hB)
  have hs_1 : w.heap.size ≤ w1.heap.size := HB_1.out.size
  have hz_1 : w.heap.size + 2 ≤ w1.heap.size := (by have h := hb.size; (try simp at h); omega)
  clear hB hb 
  obtain ⟨p10, p11, p12, p13, l1⟩ := Ka_1.out.use4
  go_wp2_with fail
  refine Calls.mono (few_is _ _ _ _ _ _ _ _ _ true F0.out) ?_
  rintro e w2 ⟨rfl, hb⟩
  have hB := hb
  have Ka_2 := Lib.hid (Ka_1.out.below hB)
  have Kb_2 := Lib.hid (Kb_1.out.below hB)
  have HB_2 := Lib.hid (below_trans HB_1.out hB)
  have hs_2 : w.heap.size ≤ w2.heap.size := HB_2.out.size
  have hz_2 : w1.heap.size + 0 ≤ w2.heap.size := (by have h := hb.size; (try simp at h); omega)
  clear hB hb Ka_1 Kb_1 HB_1 p10 p11 p12 p13 l1
  obtain ⟨p20, p21, p22, p23, l2⟩ := Kb_2.out.use4
  go_wp2_with fail
  refine Calls.mono (few_is _ _ _ _ _ _ _ _ _ false F1.out) ?_
  rintro e w3 ⟨rfl, hb⟩
  have hB := hb
  have Ka_3 := Lib.hid (Ka_2.out.below hB)
  have Kb_3 := Lib.hid (Kb_2.out.below hB)
  have HB_3 := Lib.hid (below_trans HB_2.out hB)
  have hs_3 : w.heap.size ≤ w3.heap.size := HB_3.out.size
  have hz_3 : w2.heap.size + 0 ≤ w3.heap.size := (by have h := hb.size; (try simp at h); omega)
  clear hB hb Ka_2 Kb_2 HB_2 p20 p21 p22 p23 l2
  go_wp2
  go_ret
  exact ⟨rfl, HB_3.out⟩

set_option maxRecDepth 100000 in
set_option maxHeartbeats 16000000 in
theorem reckons_yes (b00 : Bool) (a00 : Option Addr) (n00 c00 : Nat) (e00 : Bool) (g00 : Option Addr) (m00 k00 : Nat) (b01 : Bool) (a01 : Option Addr) (n01 c01 : Nat) (e01 : Bool) (g01 : Option Addr) (m01 k01 : Nat) (w : World) (X Y X' Y' : Int) (hx : LimR 4 w (.agg #[.bool b00, .slice a00 n00 c00, .bool e00, .slice g00 m00 k00]) X Y) (hy : LimR 4 w (.agg #[.bool b01, .slice a01 n01 c01, .bool e01, .slice g01 m01 k01]) X' Y') (h0 : (decide (n00 ≤ 4) && decide (m00 ≤ 4)) = true) (h1 : (decide (n01 ≤ 4) && decide (m01 ≤ 4)) = true) :
    Calls Tryz.prog 3 #[(.agg #[.bool b00, .slice a00 n00 c00, .bool e00, .slice g00 m00 k00]), (.agg #[.bool b01, .slice a01 n01 c01, .bool e01, .slice g01 m01 k01])] w fun e w' => e = .returned (.bool true) ∧ Below w.heap.size w w' := by
  have F0 := Lib.hid h0
  have F1 := Lib.hid h1
  obtain ⟨x, hq⟩ : ∃ q, q = ratOf X Y := ⟨_, rfl⟩
  obtain ⟨y, hp⟩ : ∃ q, q = ratOf X' Y' := ⟨_, rfl⟩
  have BX := Lib.hid ((lq hq hx).bq (by omega))
  have BY := Lib.hid ((lq hp hy).bq (by omega))
  have BA := Lib.hid (bq_add BX.out BY.out)
  have BS := Lib.hid (bq_sub BX.out BY.out)
  have BM := Lib.hid (bq_mul BX.out BY.out)
  have BD := Lib.hid (bq_div (by omega) BX.out BY.out)
  obtain ⟨mm, hm⟩ : ∃ m, decide (0 < Y) = m := ⟨_, rfl⟩
  obtain ⟨ss, hs⟩ : ∃ s, cmpQ x y = s := ⟨_, rfl⟩
  obtain ⟨dd, hd⟩ : ∃ d, decide (y ≠ 0) = d := ⟨_, rfl⟩
  have HQ := Lib.hid hq
  have HP := Lib.hid hp
  have HM := Lib.hid hm
  have HS := Lib.hid hs
  have HD := Lib.hid hd
  have x_0 := Lib.hid hx
  have y_0 := Lib.hid hy
  clear h0 h1 hq hp hm hs hd hx hy
  go_enter Tryz.func3, Tryz.ntmps3
  go_wp2_with fail
  refine Calls.mono (awake3 _) ?_
  rintro e w1 ⟨rfl, hb⟩
  have hB := bun (bun (hb))
  have x_1 := Lib.hid (x_0.out.below hB)
  have y_1 := Lib.hid (y_0.out.below hB)
  have Ka_1 := Lib.hid (show Blk w1 (w.heap.size) 26 #[.bool b00, .slice a00 n00 c00, .bool e00, .slice g00 m00 k00] from ((Blk.new _ _ (by simp) _ _).alloc_ _).below hb)
  have Kb_1 := Lib.hid (show Blk w1 (w.heap.size + 1) 26 #[.bool b01, .slice a01 n01 c01, .bool e01, .slice g01 m01 k01] from (Blk.new _ _ (by simp) _ _).below hb)
  have HB_1 := Lib.hid (hB)
  have hs_1 : w.heap.size ≤ w1.heap.size := HB_1.out.size
  have hz_1 : w.heap.size + 2 ≤ w1.heap.size := (by have h := hb.size; (try simp at h); omega)
  clear hB hb x_0 y_0
  obtain ⟨p10, p11, p12, p13, l1⟩ := Ka_1.out.use4
  go_wp2_with fail
  refine Calls.mono (few_is _ _ _ _ _ _ _ _ _ true F0.out) ?_
  rintro e w2 ⟨rfl, hb⟩
  have hB := hb
  have x_2 := Lib.hid (x_1.out.below hB)
  have y_2 := Lib.hid (y_1.out.below hB)
  have Ka_2 := Lib.hid (Ka_1.out.below hB)
  have Kb_2 := Lib.hid (Kb_1.out.below hB)
  have HB_2 := Lib.hid (below_trans HB_1.out hB)
  have hs_2 : w.heap.size ≤ w2.heap.size := HB_2.out.size
  have hz_2 : w1.heap.size + 0 ≤ w2.heap.size := (by have h := hb.size; (try simp at h); omega)
  clear hB hb x_1 y_1 Ka_1 Kb_1 HB_1 p10 p11 p12 p13 l1
  obtain ⟨p20, p21, p22, p23, l2⟩ := Kb_2.out.use4
  go_wp2_with fail
  refine Calls.mono (few_is _ _ _ _ _ _ _ _ _ true F1.out) ?_
  rintro e w3 ⟨rfl, hb⟩
  have hB := hb
  have x_3 := Lib.hid (x_2.out.below hB)
  have y_3 := Lib.hid (y_2.out.below hB)
  have Ka_3 := Lib.hid (Ka_2.out.below hB)
  have Kb_3 := Lib.hid (Kb_2.out.below hB)
  have HB_3 := Lib.hid (below_trans HB_2.out hB)
  have hs_3 : w.heap.size ≤ w3.heap.size := HB_3.out.size
  have hz_3 : w2.heap.size + 0 ≤ w3.heap.size := (by have h := hb.size; (try simp at h); omega)
  clear hB hb x_2 y_2 Ka_2 Kb_2 HB_2 p20 p21 p22 p23 l2
  obtain ⟨p30, p31, p32, p33, l3⟩ := Ka_3.out.use4
  obtain ⟨p40, p41, p42, p43, l4⟩ := Kb_3.out.use4
  go_wp2_with fail
  refine Calls.mono (qdiv_is HD.out (lq HQ.out x_3.out) (lq HP.out y_3.out) (by omega) (by omega) (by omega) (by omega)) ?_
  rintro e w4 ⟨v, rfl, h, hb⟩
  have hk := h
  obtain ⟨b4, A4, n4, c4, d4, B4, m4, k4, rfl, -, -, -, -, -⟩ := h.form
  clear h
  have hB := hb
  have x_4 := Lib.hid (x_3.out.below hB)
  have y_4 := Lib.hid (y_3.out.below hB)
  have Ka_4 := Lib.hid (Ka_3.out.below hB)
  have Kb_4 := Lib.hid (Kb_3.out.below hB)
  have dq_4 := Lib.hid (hk)
  have HB_4 := Lib.hid (below_trans HB_3.out hB)
  have hs_4 : w.heap.size ≤ w4.heap.size := HB_4.out.size
  have hz_4 : w3.heap.size + 0 ≤ w4.heap.size := (by have h := hb.size; (try simp at h); omega)
  clear hB hb x_3 y_3 Ka_3 Kb_3 HB_3 p30 p31 p32 p33 l3 p40 p41 p42 p43 l4
  obtain ⟨p50, p51, p52, p53, l5⟩ := Ka_4.out.use4
  obtain ⟨p60, p61, p62, p63, l6⟩ := Kb_4.out.use4
  go_wp2_with fail
  refine Calls.mono (rqdiv_is HD.out (lq HQ.out (x_4.out.alloc_ _)) (lq HP.out (y_4.out.alloc_ _)) (by omega) (by omega) (by omega) (by omega)) ?_
  rintro e w5 ⟨v, rfl, h, hb⟩
  have hk := h
  obtain ⟨b5, A5, n5, c5, d5, B5, m5, k5, rfl, -, -, -, -, -⟩ := h.form
  clear h
  have hB := bun (hb)
  have x_5 := Lib.hid (x_4.out.below hB)
  have y_5 := Lib.hid (y_4.out.below hB)
  have dq_5 := Lib.hid (dq_4.out.below hB)
  have Ka_5 := Lib.hid (Ka_4.out.below hB)
  have Kb_5 := Lib.hid (Kb_4.out.below hB)
  have Kq_5 := Lib.hid (show Blk w5 (w4.heap.size) 26 #[.bool b4, .slice A4 n4 c4, .bool d4, .slice B4 m4 k4] from (Blk.new _ _ (by simp) _ _).below hb)
  have dp_5 := Lib.hid (hk)
  have HB_5 := Lib.hid (below_trans HB_4.out hB)
  have hs_5 : w.heap.size ≤ w5.heap.size := HB_5.out.size
  have hz_5 : w4.heap.size + 1 ≤ w5.heap.size := (by have h := hb.size; (try simp at h); omega)
  clear hB hb x_4 y_4 dq_4 Ka_4 Kb_4 HB_4 p50 p51 p52 p53 l5 p60 p61 p62 p63 l6
  go_wp2
  generalize hW : (w5.alloc (.cells #[.bool b5, .slice A5 n5 c5, .bool d5, .slice B5 m5 k5] 26)) = w6
  have x_6 := Lib.hid (hW ▸ (x_5.out.alloc_ _))
  have y_6 := Lib.hid (hW ▸ (y_5.out.alloc_ _))
  have dq_6 := Lib.hid (hW ▸ (dq_5.out.alloc_ _))
  have dp_6 := Lib.hid (hW ▸ (dp_5.out.alloc_ _))
  have Ka_6 := Lib.hid (show Blk w6 (w.heap.size) 26 #[.bool b00, .slice a00 n00 c00, .bool e00, .slice g00 m00 k00] from by rw [← hW]; exact (Ka_5.out.alloc_ _))
  have Kb_6 := Lib.hid (show Blk w6 (w.heap.size + 1) 26 #[.bool b01, .slice a01 n01 c01, .bool e01, .slice g01 m01 k01] from by rw [← hW]; exact (Kb_5.out.alloc_ _))
  have Kq_6 := Lib.hid (show Blk w6 (w4.heap.size) 26 #[.bool b4, .slice A4 n4 c4, .bool d4, .slice B4 m4 k4] from by rw [← hW]; exact (Kq_5.out.alloc_ _))
  have Kp_6 := Lib.hid (show Blk w6 (w5.heap.size) 26 #[.bool b5, .slice A5 n5 c5, .bool d5, .slice B5 m5 k5] from by rw [← hW]; exact Blk.new _ _ (by simp) _ _)
  have HB_6 := Lib.hid (show Below w.heap.size w w6 from by rw [← hW]; exact halloc (HB_5.out))
  have hs_6 : w.heap.size ≤ w6.heap.size := HB_6.out.size
  have hz_6 : w5.heap.size + 1 ≤ w6.heap.size := by rw [← hW]; simp
  clear hW x_5 y_5 dq_5 dp_5 Ka_5 Kb_5 Kq_5 HB_5
  obtain ⟨p70, p71, p72, p73, l7⟩ := Ka_6.out.use4
  obtain ⟨p80, p81, p82, p83, l8⟩ := Kb_6.out.use4
  obtain ⟨p90, p91, p92, p93, l9⟩ := Kq_6.out.use4
  obtain ⟨p100, p101, p102, p103, l10⟩ := Kp_6.out.use4
  have tok0 : True := trivial
  have tok1 : True := trivial
  have tok2 : True := trivial
  have tok3 : True := trivial
  have tok4 : True := trivial
  have tok5 : True := trivial
  have tok6 : True := trivial
  have tok7 : True := trivial
  have tok8 : True := trivial
  have tok9 : True := trivial
  have tok10 : True := trivial
  have tok11 : True := trivial
  have tok12 : True := trivial
  have tok13 : True := trivial
  have tok14 : True := trivial
  have tok15 : True := trivial
  have tok16 : True := trivial
  go_region_held3 (fun w' => w'.cell? ⟨w.heap.size, 0, none⟩ = some (.bool b00) ∧ w'.cell? ⟨w.heap.size, 1, none⟩ = some (.slice a00 n00 c00) ∧ w'.cell? ⟨w.heap.size, 2, none⟩ = some (.bool e00) ∧ w'.cell? ⟨w.heap.size, 3, none⟩ = some (.slice g00 m00 k00) ∧ w'.cell? ⟨w.heap.size + 1, 0, none⟩ = some (.bool b01) ∧ w'.cell? ⟨w.heap.size + 1, 1, none⟩ = some (.slice a01 n01 c01) ∧ w'.cell? ⟨w.heap.size + 1, 2, none⟩ = some (.bool e01) ∧ w'.cell? ⟨w.heap.size + 1, 3, none⟩ = some (.slice g01 m01 k01) ∧ w'.cell? ⟨w4.heap.size, 0, none⟩ = some (.bool b4) ∧ w'.cell? ⟨w4.heap.size, 1, none⟩ = some (.slice A4 n4 c4) ∧ w'.cell? ⟨w4.heap.size, 2, none⟩ = some (.bool d4) ∧ w'.cell? ⟨w4.heap.size, 3, none⟩ = some (.slice B4 m4 k4) ∧ w'.cell? ⟨w5.heap.size, 0, none⟩ = some (.bool b5) ∧ w'.cell? ⟨w5.heap.size, 1, none⟩ = some (.slice A5 n5 c5) ∧ w'.cell? ⟨w5.heap.size, 2, none⟩ = some (.bool d5) ∧ w'.cell? ⟨w5.heap.size, 3, none⟩ = some (.slice B5 m5 k5)) (first | (refine ⟨?_, ?_, ?_, ?_, ?_, ?_, ?_, ?_, ?_, ?_, ?_, ?_, ?_, ?_, ?_, ?_⟩ <;> (first | with_reducible assumption | ((with_reducible refine Eq.trans (cell_drew _ _) ?_); with_reducible assumption) | ((rw [cell_far4 _ _ _ _ _ _ _ _ (by omega)]); with_reducible assumption) | ((repeat rw [cell_far2 _ _ _ _ _ _ (by omega)]); with_reducible assumption) | go_keep)) | trivial | go_keep)
    (first
      | (go_at_call 16; have _t := tok0; clear _t tok0; ((with_reducible refine Calls.mono (lr_may HM.out (by first | exact x_6.out | exact x_6.out.drew_ | exact x_6.out.alloc_ _ | exact (x_6.out.alloc_ _).drew_) (by omega)) ?_)); rintro e w7 ⟨rfl, hb⟩; have hB := (show Below w6.heap.size w6 w7 from by first | exact hb | exact bundrew hb | exact bun hb | exact bundrew (bun hb) | exact bun (bundrew hb)); have x_7 := Lib.hid (x_6.out.below hB); have y_7 := Lib.hid (y_6.out.below hB); have dq_7 := Lib.hid (dq_6.out.below hB); have dp_7 := Lib.hid (dp_6.out.below hB); have Ka_7 := Lib.hid (Ka_6.out.below hB); have Kb_7 := Lib.hid (Kb_6.out.below hB); have Kq_7 := Lib.hid (Kq_6.out.below hB); have Kp_7 := Lib.hid (Kp_6.out.below hB); have HB_7 := Lib.hid (below_trans HB_6.out hB); have hs_7 : w.heap.size ≤ w7.heap.size := HB_7.out.size; have hz_7 : w6.heap.size + 0 ≤ w7.heap.size := (by have h := hb.size; (try simp at h); omega); clear hB hb x_6 y_6 dq_6 dp_6 Ka_6 Kb_6 Kq_6 Kp_6 HB_6 p70 p71 p72 p73 l7 p80 p81 p82 p83 l8 p90 p91 p92 p93 l9 p100 p101 p102 p103 l10; obtain ⟨p110, p111, p112, p113, l11⟩ := Ka_7.out.use4; obtain ⟨p120, p121, p122, p123, l12⟩ := Kb_7.out.use4; obtain ⟨p130, p131, p132, p133, l13⟩ := Kq_7.out.use4; obtain ⟨p140, p141, p142, p143, l14⟩ := Kp_7.out.use4)
      | (go_at_call 17; have _t := tok1; clear _t tok1; ((with_reducible refine Calls.mono (rlr_may HM.out (by first | exact x_7.out | exact x_7.out.drew_ | exact x_7.out.alloc_ _ | exact (x_7.out.alloc_ _).drew_) (by omega)) ?_)); rintro e w8 ⟨rfl, hb⟩; have hB := (show Below w7.heap.size w7 w8 from by first | exact hb | exact bundrew hb | exact bun hb | exact bundrew (bun hb) | exact bun (bundrew hb)); have x_8 := Lib.hid (x_7.out.below hB); have y_8 := Lib.hid (y_7.out.below hB); have dq_8 := Lib.hid (dq_7.out.below hB); have dp_8 := Lib.hid (dp_7.out.below hB); have Ka_8 := Lib.hid (Ka_7.out.below hB); have Kb_8 := Lib.hid (Kb_7.out.below hB); have Kq_8 := Lib.hid (Kq_7.out.below hB); have Kp_8 := Lib.hid (Kp_7.out.below hB); have HB_8 := Lib.hid (below_trans HB_7.out hB); have hs_8 : w.heap.size ≤ w8.heap.size := HB_8.out.size; have hz_8 : w7.heap.size + 0 ≤ w8.heap.size := (by have h := hb.size; (try simp at h); omega); clear hB hb x_7 y_7 dq_7 dp_7 Ka_7 Kb_7 Kq_7 Kp_7 HB_7 p110 p111 p112 p113 l11 p120 p121 p122 p123 l12 p130 p131 p132 p133 l13 p140 p141 p142 p143 l14; obtain ⟨p150, p151, p152, p153, l15⟩ := Ka_8.out.use4; obtain ⟨p160, p161, p162, p163, l16⟩ := Kb_8.out.use4; obtain ⟨p170, p171, p172, p173, l17⟩ := Kq_8.out.use4; obtain ⟨p180, p181, p182, p183, l18⟩ := Kp_8.out.use4)
      | (go_at_call 19; have _t := tok2; clear _t tok2; ((with_reducible refine Calls.mono (q_plain (lq HQ.out (by first | exact x_8.out | exact x_8.out.drew_ | exact x_8.out.alloc_ _ | exact (x_8.out.alloc_ _).drew_)) (by omega) (by omega)) ?_)); rintro e w9 ⟨v, rfl, h, hb⟩; have hk := h; obtain ⟨b9, A9, n9, c9, d9, B9, m9, k9, rfl, -, -, -, -, -⟩ := h.form; clear h; have hB := (show Below w8.heap.size w8 w9 from by first | exact hb | exact bundrew hb | exact bun hb | exact bundrew (bun hb) | exact bun (bundrew hb)); have x_9 := Lib.hid (x_8.out.below hB); have y_9 := Lib.hid (y_8.out.below hB); have dq_9 := Lib.hid (dq_8.out.below hB); have dp_9 := Lib.hid (dp_8.out.below hB); have Ka_9 := Lib.hid (Ka_8.out.below hB); have Kb_9 := Lib.hid (Kb_8.out.below hB); have Kq_9 := Lib.hid (Kq_8.out.below hB); have Kp_9 := Lib.hid (Kp_8.out.below hB); have u_9 := Lib.hid (hk); have HB_9 := Lib.hid (below_trans HB_8.out hB); have hs_9 : w.heap.size ≤ w9.heap.size := HB_9.out.size; have hz_9 : w8.heap.size + 0 ≤ w9.heap.size := (by have h := hb.size; (try simp at h); omega); clear hB hb x_8 y_8 dq_8 dp_8 Ka_8 Kb_8 Kq_8 Kp_8 HB_8 p150 p151 p152 p153 l15 p160 p161 p162 p163 l16 p170 p171 p172 p173 l17 p180 p181 p182 p183 l18; obtain ⟨p190, p191, p192, p193, l19⟩ := Ka_9.out.use4; obtain ⟨p200, p201, p202, p203, l20⟩ := Kb_9.out.use4; obtain ⟨p210, p211, p212, p213, l21⟩ := Kq_9.out.use4; obtain ⟨p220, p221, p222, p223, l22⟩ := Kp_9.out.use4)
      | (go_at_call 20; have _t := tok3; clear _t tok3; ((with_reducible refine Calls.mono (r_plain (lq HQ.out (by first | exact x_9.out | exact x_9.out.drew_ | exact x_9.out.alloc_ _ | exact (x_9.out.alloc_ _).drew_)) (by omega)) ?_)); rintro e w10 ⟨v, rfl, h, hb⟩; have hk := h; obtain ⟨b10, A10, n10, c10, d10, B10, m10, k10, rfl, -, -, -, -, -⟩ := h.form; clear h; have hB := (show Below w9.heap.size w9 w10 from by first | exact hb | exact bundrew hb | exact bun hb | exact bundrew (bun hb) | exact bun (bundrew hb)); have x_10 := Lib.hid (x_9.out.below hB); have y_10 := Lib.hid (y_9.out.below hB); have dq_10 := Lib.hid (dq_9.out.below hB); have dp_10 := Lib.hid (dp_9.out.below hB); have u_10 := Lib.hid (u_9.out.below hB); have Ka_10 := Lib.hid (Ka_9.out.below hB); have Kb_10 := Lib.hid (Kb_9.out.below hB); have Kq_10 := Lib.hid (Kq_9.out.below hB); have Kp_10 := Lib.hid (Kp_9.out.below hB); have v_10 := Lib.hid (hk); have HB_10 := Lib.hid (below_trans HB_9.out hB); have hs_10 : w.heap.size ≤ w10.heap.size := HB_10.out.size; have hz_10 : w9.heap.size + 0 ≤ w10.heap.size := (by have h := hb.size; (try simp at h); omega); clear hB hb x_9 y_9 dq_9 dp_9 u_9 Ka_9 Kb_9 Kq_9 Kp_9 HB_9 p190 p191 p192 p193 l19 p200 p201 p202 p203 l20 p210 p211 p212 p213 l21 p220 p221 p222 p223 l22; obtain ⟨p230, p231, p232, p233, l23⟩ := Ka_10.out.use4; obtain ⟨p240, p241, p242, p243, l24⟩ := Kb_10.out.use4; obtain ⟨p250, p251, p252, p253, l25⟩ := Kq_10.out.use4; obtain ⟨p260, p261, p262, p263, l26⟩ := Kp_10.out.use4)
      | (go_at_call 18; have _t := tok4; clear _t tok4; ((with_reducible refine Calls.mono (rat_same (by first | exact u_10.out | exact u_10.out.drew_ | exact u_10.out.alloc_ _ | exact (u_10.out.alloc_ _).drew_) (by first | exact v_10.out | exact v_10.out.drew_ | exact v_10.out.alloc_ _ | exact (v_10.out.alloc_ _).drew_) BX.out (by omega)) ?_)); rintro e w11 ⟨rfl, hb⟩; have hB := (show Below w10.heap.size w10 w11 from by first | exact hb | exact bundrew hb | exact bun hb | exact bundrew (bun hb) | exact bun (bundrew hb)); have x_11 := Lib.hid (x_10.out.below hB); have y_11 := Lib.hid (y_10.out.below hB); have dq_11 := Lib.hid (dq_10.out.below hB); have dp_11 := Lib.hid (dp_10.out.below hB); have Ka_11 := Lib.hid (Ka_10.out.below hB); have Kb_11 := Lib.hid (Kb_10.out.below hB); have Kq_11 := Lib.hid (Kq_10.out.below hB); have Kp_11 := Lib.hid (Kp_10.out.below hB); have HB_11 := Lib.hid (below_trans HB_10.out hB); have hs_11 : w.heap.size ≤ w11.heap.size := HB_11.out.size; have hz_11 : w10.heap.size + 0 ≤ w11.heap.size := (by have h := hb.size; (try simp at h); omega); clear hB hb x_10 y_10 dq_10 dp_10 u_10 v_10 Ka_10 Kb_10 Kq_10 Kp_10 HB_10 p230 p231 p232 p233 l23 p240 p241 p242 p243 l24 p250 p251 p252 p253 l25 p260 p261 p262 p263 l26; obtain ⟨p270, p271, p272, p273, l27⟩ := Ka_11.out.use4; obtain ⟨p280, p281, p282, p283, l28⟩ := Kb_11.out.use4; obtain ⟨p290, p291, p292, p293, l29⟩ := Kq_11.out.use4; obtain ⟨p300, p301, p302, p303, l30⟩ := Kp_11.out.use4)
      | (go_at_call 21; have _t := tok5; clear _t tok5; ((with_reducible refine Calls.mono (qcmp_is HS.out (lq HQ.out (by first | exact x_11.out | exact x_11.out.drew_ | exact x_11.out.alloc_ _ | exact (x_11.out.alloc_ _).drew_)) (lq HP.out (by first | exact y_11.out | exact y_11.out.drew_ | exact y_11.out.alloc_ _ | exact (y_11.out.alloc_ _).drew_)) (by omega) (by omega) (by omega) (by omega)) ?_)); rintro e w12 ⟨rfl, hb⟩; have hB := (show Below w11.heap.size w11 w12 from by first | exact hb | exact bundrew hb | exact bun hb | exact bundrew (bun hb) | exact bun (bundrew hb)); have x_12 := Lib.hid (x_11.out.below hB); have y_12 := Lib.hid (y_11.out.below hB); have dq_12 := Lib.hid (dq_11.out.below hB); have dp_12 := Lib.hid (dp_11.out.below hB); have Ka_12 := Lib.hid (Ka_11.out.below hB); have Kb_12 := Lib.hid (Kb_11.out.below hB); have Kq_12 := Lib.hid (Kq_11.out.below hB); have Kp_12 := Lib.hid (Kp_11.out.below hB); have HB_12 := Lib.hid (below_trans HB_11.out hB); have hs_12 : w.heap.size ≤ w12.heap.size := HB_12.out.size; have hz_12 : w11.heap.size + 0 ≤ w12.heap.size := (by have h := hb.size; (try simp at h); omega); clear hB hb x_11 y_11 dq_11 dp_11 Ka_11 Kb_11 Kq_11 Kp_11 HB_11 p270 p271 p272 p273 l27 p280 p281 p282 p283 l28 p290 p291 p292 p293 l29 p300 p301 p302 p303 l30; obtain ⟨p310, p311, p312, p313, l31⟩ := Ka_12.out.use4; obtain ⟨p320, p321, p322, p323, l32⟩ := Kb_12.out.use4; obtain ⟨p330, p331, p332, p333, l33⟩ := Kq_12.out.use4; obtain ⟨p340, p341, p342, p343, l34⟩ := Kp_12.out.use4)
      | (go_at_call 22; have _t := tok6; clear _t tok6; ((with_reducible refine Calls.mono (rqcmp_is HS.out (lq HQ.out (by first | exact x_12.out | exact x_12.out.drew_ | exact x_12.out.alloc_ _ | exact (x_12.out.alloc_ _).drew_)) (lq HP.out (by first | exact y_12.out | exact y_12.out.drew_ | exact y_12.out.alloc_ _ | exact (y_12.out.alloc_ _).drew_)) (by omega) (by omega) (by omega) (by omega)) ?_)); rintro e w13 ⟨rfl, hb⟩; have hB := (show Below w12.heap.size w12 w13 from by first | exact hb | exact bundrew hb | exact bun hb | exact bundrew (bun hb) | exact bun (bundrew hb)); have x_13 := Lib.hid (x_12.out.below hB); have y_13 := Lib.hid (y_12.out.below hB); have dq_13 := Lib.hid (dq_12.out.below hB); have dp_13 := Lib.hid (dp_12.out.below hB); have Ka_13 := Lib.hid (Ka_12.out.below hB); have Kb_13 := Lib.hid (Kb_12.out.below hB); have Kq_13 := Lib.hid (Kq_12.out.below hB); have Kp_13 := Lib.hid (Kp_12.out.below hB); have HB_13 := Lib.hid (below_trans HB_12.out hB); have hs_13 : w.heap.size ≤ w13.heap.size := HB_13.out.size; have hz_13 : w12.heap.size + 0 ≤ w13.heap.size := (by have h := hb.size; (try simp at h); omega); clear hB hb x_12 y_12 dq_12 dp_12 Ka_12 Kb_12 Kq_12 Kp_12 HB_12 p310 p311 p312 p313 l31 p320 p321 p322 p323 l32 p330 p331 p332 p333 l33 p340 p341 p342 p343 l34; obtain ⟨p350, p351, p352, p353, l35⟩ := Ka_13.out.use4; obtain ⟨p360, p361, p362, p363, l36⟩ := Kb_13.out.use4; obtain ⟨p370, p371, p372, p373, l37⟩ := Kq_13.out.use4; obtain ⟨p380, p381, p382, p383, l38⟩ := Kp_13.out.use4)
      | (go_at_call 23; have _t := tok7; clear _t tok7; ((with_reducible refine Calls.mono (q_add (lq HQ.out (by first | exact x_13.out | exact x_13.out.drew_ | exact x_13.out.alloc_ _ | exact (x_13.out.alloc_ _).drew_)) (lq HP.out (by first | exact y_13.out | exact y_13.out.drew_ | exact y_13.out.alloc_ _ | exact (y_13.out.alloc_ _).drew_)) (by omega) (by omega) (by omega) (by omega)) ?_)); rintro e w14 ⟨v, rfl, h, hb⟩; have hk := h; obtain ⟨b14, A14, n14, c14, d14, B14, m14, k14, rfl, -, -, -, -, -⟩ := h.form; clear h; have hB := (show Below w13.heap.size w13 w14 from by first | exact hb | exact bundrew hb | exact bun hb | exact bundrew (bun hb) | exact bun (bundrew hb)); have x_14 := Lib.hid (x_13.out.below hB); have y_14 := Lib.hid (y_13.out.below hB); have dq_14 := Lib.hid (dq_13.out.below hB); have dp_14 := Lib.hid (dp_13.out.below hB); have Ka_14 := Lib.hid (Ka_13.out.below hB); have Kb_14 := Lib.hid (Kb_13.out.below hB); have Kq_14 := Lib.hid (Kq_13.out.below hB); have Kp_14 := Lib.hid (Kp_13.out.below hB); have u_14 := Lib.hid (hk); have HB_14 := Lib.hid (below_trans HB_13.out hB); have hs_14 : w.heap.size ≤ w14.heap.size := HB_14.out.size; have hz_14 : w13.heap.size + 0 ≤ w14.heap.size := (by have h := hb.size; (try simp at h); omega); clear hB hb x_13 y_13 dq_13 dp_13 Ka_13 Kb_13 Kq_13 Kp_13 HB_13 p350 p351 p352 p353 l35 p360 p361 p362 p363 l36 p370 p371 p372 p373 l37 p380 p381 p382 p383 l38; obtain ⟨p390, p391, p392, p393, l39⟩ := Ka_14.out.use4; obtain ⟨p400, p401, p402, p403, l40⟩ := Kb_14.out.use4; obtain ⟨p410, p411, p412, p413, l41⟩ := Kq_14.out.use4; obtain ⟨p420, p421, p422, p423, l42⟩ := Kp_14.out.use4)
      | (go_at_call 24; have _t := tok8; clear _t tok8; ((with_reducible refine Calls.mono (radd_q (lq HQ.out (by first | exact x_14.out | exact x_14.out.drew_ | exact x_14.out.alloc_ _ | exact (x_14.out.alloc_ _).drew_)) (lq HP.out (by first | exact y_14.out | exact y_14.out.drew_ | exact y_14.out.alloc_ _ | exact (y_14.out.alloc_ _).drew_)) (by omega) (by omega) (by omega) (by omega)) ?_)); rintro e w15 ⟨v, rfl, h, hb⟩; have hk := h; obtain ⟨b15, A15, n15, c15, d15, B15, m15, k15, rfl, -, -, -, -, -⟩ := h.form; clear h; have hB := (show Below w14.heap.size w14 w15 from by first | exact hb | exact bundrew hb | exact bun hb | exact bundrew (bun hb) | exact bun (bundrew hb)); have x_15 := Lib.hid (x_14.out.below hB); have y_15 := Lib.hid (y_14.out.below hB); have dq_15 := Lib.hid (dq_14.out.below hB); have dp_15 := Lib.hid (dp_14.out.below hB); have u_15 := Lib.hid (u_14.out.below hB); have Ka_15 := Lib.hid (Ka_14.out.below hB); have Kb_15 := Lib.hid (Kb_14.out.below hB); have Kq_15 := Lib.hid (Kq_14.out.below hB); have Kp_15 := Lib.hid (Kp_14.out.below hB); have v_15 := Lib.hid (hk); have HB_15 := Lib.hid (below_trans HB_14.out hB); have hs_15 : w.heap.size ≤ w15.heap.size := HB_15.out.size; have hz_15 : w14.heap.size + 0 ≤ w15.heap.size := (by have h := hb.size; (try simp at h); omega); clear hB hb x_14 y_14 dq_14 dp_14 u_14 Ka_14 Kb_14 Kq_14 Kp_14 HB_14 p390 p391 p392 p393 l39 p400 p401 p402 p403 l40 p410 p411 p412 p413 l41 p420 p421 p422 p423 l42; obtain ⟨p430, p431, p432, p433, l43⟩ := Ka_15.out.use4; obtain ⟨p440, p441, p442, p443, l44⟩ := Kb_15.out.use4; obtain ⟨p450, p451, p452, p453, l45⟩ := Kq_15.out.use4; obtain ⟨p460, p461, p462, p463, l46⟩ := Kp_15.out.use4)
      | (go_at_call 18; have _t := tok9; clear _t tok9; ((with_reducible refine Calls.mono (rat_same (by first | exact u_15.out | exact u_15.out.drew_ | exact u_15.out.alloc_ _ | exact (u_15.out.alloc_ _).drew_) (by first | exact v_15.out | exact v_15.out.drew_ | exact v_15.out.alloc_ _ | exact (v_15.out.alloc_ _).drew_) BA.out (by omega)) ?_)); rintro e w16 ⟨rfl, hb⟩; have hB := (show Below w15.heap.size w15 w16 from by first | exact hb | exact bundrew hb | exact bun hb | exact bundrew (bun hb) | exact bun (bundrew hb)); have x_16 := Lib.hid (x_15.out.below hB); have y_16 := Lib.hid (y_15.out.below hB); have dq_16 := Lib.hid (dq_15.out.below hB); have dp_16 := Lib.hid (dp_15.out.below hB); have Ka_16 := Lib.hid (Ka_15.out.below hB); have Kb_16 := Lib.hid (Kb_15.out.below hB); have Kq_16 := Lib.hid (Kq_15.out.below hB); have Kp_16 := Lib.hid (Kp_15.out.below hB); have HB_16 := Lib.hid (below_trans HB_15.out hB); have hs_16 : w.heap.size ≤ w16.heap.size := HB_16.out.size; have hz_16 : w15.heap.size + 0 ≤ w16.heap.size := (by have h := hb.size; (try simp at h); omega); clear hB hb x_15 y_15 dq_15 dp_15 u_15 v_15 Ka_15 Kb_15 Kq_15 Kp_15 HB_15 p430 p431 p432 p433 l43 p440 p441 p442 p443 l44 p450 p451 p452 p453 l45 p460 p461 p462 p463 l46; obtain ⟨p470, p471, p472, p473, l47⟩ := Ka_16.out.use4; obtain ⟨p480, p481, p482, p483, l48⟩ := Kb_16.out.use4; obtain ⟨p490, p491, p492, p493, l49⟩ := Kq_16.out.use4; obtain ⟨p500, p501, p502, p503, l50⟩ := Kp_16.out.use4)
      | (go_at_call 25; have _t := tok10; clear _t tok10; ((with_reducible refine Calls.mono (q_sub (lq HQ.out (by first | exact x_16.out | exact x_16.out.drew_ | exact x_16.out.alloc_ _ | exact (x_16.out.alloc_ _).drew_)) (lq HP.out (by first | exact y_16.out | exact y_16.out.drew_ | exact y_16.out.alloc_ _ | exact (y_16.out.alloc_ _).drew_)) (by omega) (by omega) (by omega) (by omega)) ?_)); rintro e w17 ⟨v, rfl, h, hb⟩; have hk := h; obtain ⟨b17, A17, n17, c17, d17, B17, m17, k17, rfl, -, -, -, -, -⟩ := h.form; clear h; have hB := (show Below w16.heap.size w16 w17 from by first | exact hb | exact bundrew hb | exact bun hb | exact bundrew (bun hb) | exact bun (bundrew hb)); have x_17 := Lib.hid (x_16.out.below hB); have y_17 := Lib.hid (y_16.out.below hB); have dq_17 := Lib.hid (dq_16.out.below hB); have dp_17 := Lib.hid (dp_16.out.below hB); have Ka_17 := Lib.hid (Ka_16.out.below hB); have Kb_17 := Lib.hid (Kb_16.out.below hB); have Kq_17 := Lib.hid (Kq_16.out.below hB); have Kp_17 := Lib.hid (Kp_16.out.below hB); have u_17 := Lib.hid (hk); have HB_17 := Lib.hid (below_trans HB_16.out hB); have hs_17 : w.heap.size ≤ w17.heap.size := HB_17.out.size; have hz_17 : w16.heap.size + 0 ≤ w17.heap.size := (by have h := hb.size; (try simp at h); omega); clear hB hb x_16 y_16 dq_16 dp_16 Ka_16 Kb_16 Kq_16 Kp_16 HB_16 p470 p471 p472 p473 l47 p480 p481 p482 p483 l48 p490 p491 p492 p493 l49 p500 p501 p502 p503 l50; obtain ⟨p510, p511, p512, p513, l51⟩ := Ka_17.out.use4; obtain ⟨p520, p521, p522, p523, l52⟩ := Kb_17.out.use4; obtain ⟨p530, p531, p532, p533, l53⟩ := Kq_17.out.use4; obtain ⟨p540, p541, p542, p543, l54⟩ := Kp_17.out.use4)
      | (go_at_call 26; have _t := tok11; clear _t tok11; ((with_reducible refine Calls.mono (rsub_q (lq HQ.out (by first | exact x_17.out | exact x_17.out.drew_ | exact x_17.out.alloc_ _ | exact (x_17.out.alloc_ _).drew_)) (lq HP.out (by first | exact y_17.out | exact y_17.out.drew_ | exact y_17.out.alloc_ _ | exact (y_17.out.alloc_ _).drew_)) (by omega) (by omega) (by omega) (by omega)) ?_)); rintro e w18 ⟨v, rfl, h, hb⟩; have hk := h; obtain ⟨b18, A18, n18, c18, d18, B18, m18, k18, rfl, -, -, -, -, -⟩ := h.form; clear h; have hB := (show Below w17.heap.size w17 w18 from by first | exact hb | exact bundrew hb | exact bun hb | exact bundrew (bun hb) | exact bun (bundrew hb)); have x_18 := Lib.hid (x_17.out.below hB); have y_18 := Lib.hid (y_17.out.below hB); have dq_18 := Lib.hid (dq_17.out.below hB); have dp_18 := Lib.hid (dp_17.out.below hB); have u_18 := Lib.hid (u_17.out.below hB); have Ka_18 := Lib.hid (Ka_17.out.below hB); have Kb_18 := Lib.hid (Kb_17.out.below hB); have Kq_18 := Lib.hid (Kq_17.out.below hB); have Kp_18 := Lib.hid (Kp_17.out.below hB); have v_18 := Lib.hid (hk); have HB_18 := Lib.hid (below_trans HB_17.out hB); have hs_18 : w.heap.size ≤ w18.heap.size := HB_18.out.size; have hz_18 : w17.heap.size + 0 ≤ w18.heap.size := (by have h := hb.size; (try simp at h); omega); clear hB hb x_17 y_17 dq_17 dp_17 u_17 Ka_17 Kb_17 Kq_17 Kp_17 HB_17 p510 p511 p512 p513 l51 p520 p521 p522 p523 l52 p530 p531 p532 p533 l53 p540 p541 p542 p543 l54; obtain ⟨p550, p551, p552, p553, l55⟩ := Ka_18.out.use4; obtain ⟨p560, p561, p562, p563, l56⟩ := Kb_18.out.use4; obtain ⟨p570, p571, p572, p573, l57⟩ := Kq_18.out.use4; obtain ⟨p580, p581, p582, p583, l58⟩ := Kp_18.out.use4)
      | (go_at_call 18; have _t := tok12; clear _t tok12; ((with_reducible refine Calls.mono (rat_same (by first | exact u_18.out | exact u_18.out.drew_ | exact u_18.out.alloc_ _ | exact (u_18.out.alloc_ _).drew_) (by first | exact v_18.out | exact v_18.out.drew_ | exact v_18.out.alloc_ _ | exact (v_18.out.alloc_ _).drew_) BS.out (by omega)) ?_)); rintro e w19 ⟨rfl, hb⟩; have hB := (show Below w18.heap.size w18 w19 from by first | exact hb | exact bundrew hb | exact bun hb | exact bundrew (bun hb) | exact bun (bundrew hb)); have x_19 := Lib.hid (x_18.out.below hB); have y_19 := Lib.hid (y_18.out.below hB); have dq_19 := Lib.hid (dq_18.out.below hB); have dp_19 := Lib.hid (dp_18.out.below hB); have Ka_19 := Lib.hid (Ka_18.out.below hB); have Kb_19 := Lib.hid (Kb_18.out.below hB); have Kq_19 := Lib.hid (Kq_18.out.below hB); have Kp_19 := Lib.hid (Kp_18.out.below hB); have HB_19 := Lib.hid (below_trans HB_18.out hB); have hs_19 : w.heap.size ≤ w19.heap.size := HB_19.out.size; have hz_19 : w18.heap.size + 0 ≤ w19.heap.size := (by have h := hb.size; (try simp at h); omega); clear hB hb x_18 y_18 dq_18 dp_18 u_18 v_18 Ka_18 Kb_18 Kq_18 Kp_18 HB_18 p550 p551 p552 p553 l55 p560 p561 p562 p563 l56 p570 p571 p572 p573 l57 p580 p581 p582 p583 l58; obtain ⟨p590, p591, p592, p593, l59⟩ := Ka_19.out.use4; obtain ⟨p600, p601, p602, p603, l60⟩ := Kb_19.out.use4; obtain ⟨p610, p611, p612, p613, l61⟩ := Kq_19.out.use4; obtain ⟨p620, p621, p622, p623, l62⟩ := Kp_19.out.use4)
      | (go_at_call 27; have _t := tok13; clear _t tok13; ((with_reducible refine Calls.mono (q_mul (lq HQ.out (by first | exact x_19.out | exact x_19.out.drew_ | exact x_19.out.alloc_ _ | exact (x_19.out.alloc_ _).drew_)) (lq HP.out (by first | exact y_19.out | exact y_19.out.drew_ | exact y_19.out.alloc_ _ | exact (y_19.out.alloc_ _).drew_)) (by omega) (by omega) (by omega) (by omega)) ?_)); rintro e w20 ⟨v, rfl, h, hb⟩; have hk := h; obtain ⟨b20, A20, n20, c20, d20, B20, m20, k20, rfl, -, -, -, -, -⟩ := h.form; clear h; have hB := (show Below w19.heap.size w19 w20 from by first | exact hb | exact bundrew hb | exact bun hb | exact bundrew (bun hb) | exact bun (bundrew hb)); have x_20 := Lib.hid (x_19.out.below hB); have y_20 := Lib.hid (y_19.out.below hB); have dq_20 := Lib.hid (dq_19.out.below hB); have dp_20 := Lib.hid (dp_19.out.below hB); have Ka_20 := Lib.hid (Ka_19.out.below hB); have Kb_20 := Lib.hid (Kb_19.out.below hB); have Kq_20 := Lib.hid (Kq_19.out.below hB); have Kp_20 := Lib.hid (Kp_19.out.below hB); have u_20 := Lib.hid (hk); have HB_20 := Lib.hid (below_trans HB_19.out hB); have hs_20 : w.heap.size ≤ w20.heap.size := HB_20.out.size; have hz_20 : w19.heap.size + 0 ≤ w20.heap.size := (by have h := hb.size; (try simp at h); omega); clear hB hb x_19 y_19 dq_19 dp_19 Ka_19 Kb_19 Kq_19 Kp_19 HB_19 p590 p591 p592 p593 l59 p600 p601 p602 p603 l60 p610 p611 p612 p613 l61 p620 p621 p622 p623 l62; obtain ⟨p630, p631, p632, p633, l63⟩ := Ka_20.out.use4; obtain ⟨p640, p641, p642, p643, l64⟩ := Kb_20.out.use4; obtain ⟨p650, p651, p652, p653, l65⟩ := Kq_20.out.use4; obtain ⟨p660, p661, p662, p663, l66⟩ := Kp_20.out.use4)
      | (go_at_call 28; have _t := tok14; clear _t tok14; ((with_reducible refine Calls.mono (rmul_q (lq HQ.out (by first | exact x_20.out | exact x_20.out.drew_ | exact x_20.out.alloc_ _ | exact (x_20.out.alloc_ _).drew_)) (lq HP.out (by first | exact y_20.out | exact y_20.out.drew_ | exact y_20.out.alloc_ _ | exact (y_20.out.alloc_ _).drew_)) (by omega) (by omega) (by omega) (by omega)) ?_)); rintro e w21 ⟨v, rfl, h, hb⟩; have hk := h; obtain ⟨b21, A21, n21, c21, d21, B21, m21, k21, rfl, -, -, -, -, -⟩ := h.form; clear h; have hB := (show Below w20.heap.size w20 w21 from by first | exact hb | exact bundrew hb | exact bun hb | exact bundrew (bun hb) | exact bun (bundrew hb)); have x_21 := Lib.hid (x_20.out.below hB); have y_21 := Lib.hid (y_20.out.below hB); have dq_21 := Lib.hid (dq_20.out.below hB); have dp_21 := Lib.hid (dp_20.out.below hB); have u_21 := Lib.hid (u_20.out.below hB); have Ka_21 := Lib.hid (Ka_20.out.below hB); have Kb_21 := Lib.hid (Kb_20.out.below hB); have Kq_21 := Lib.hid (Kq_20.out.below hB); have Kp_21 := Lib.hid (Kp_20.out.below hB); have v_21 := Lib.hid (hk); have HB_21 := Lib.hid (below_trans HB_20.out hB); have hs_21 : w.heap.size ≤ w21.heap.size := HB_21.out.size; have hz_21 : w20.heap.size + 0 ≤ w21.heap.size := (by have h := hb.size; (try simp at h); omega); clear hB hb x_20 y_20 dq_20 dp_20 u_20 Ka_20 Kb_20 Kq_20 Kp_20 HB_20 p630 p631 p632 p633 l63 p640 p641 p642 p643 l64 p650 p651 p652 p653 l65 p660 p661 p662 p663 l66; obtain ⟨p670, p671, p672, p673, l67⟩ := Ka_21.out.use4; obtain ⟨p680, p681, p682, p683, l68⟩ := Kb_21.out.use4; obtain ⟨p690, p691, p692, p693, l69⟩ := Kq_21.out.use4; obtain ⟨p700, p701, p702, p703, l70⟩ := Kp_21.out.use4)
      | (go_at_call 18; have _t := tok15; clear _t tok15; ((with_reducible refine Calls.mono (rat_same (by first | exact u_21.out | exact u_21.out.drew_ | exact u_21.out.alloc_ _ | exact (u_21.out.alloc_ _).drew_) (by first | exact v_21.out | exact v_21.out.drew_ | exact v_21.out.alloc_ _ | exact (v_21.out.alloc_ _).drew_) BM.out (by omega)) ?_)); rintro e w22 ⟨rfl, hb⟩; have hB := (show Below w21.heap.size w21 w22 from by first | exact hb | exact bundrew hb | exact bun hb | exact bundrew (bun hb) | exact bun (bundrew hb)); have x_22 := Lib.hid (x_21.out.below hB); have y_22 := Lib.hid (y_21.out.below hB); have dq_22 := Lib.hid (dq_21.out.below hB); have dp_22 := Lib.hid (dp_21.out.below hB); have Ka_22 := Lib.hid (Ka_21.out.below hB); have Kb_22 := Lib.hid (Kb_21.out.below hB); have Kq_22 := Lib.hid (Kq_21.out.below hB); have Kp_22 := Lib.hid (Kp_21.out.below hB); have HB_22 := Lib.hid (below_trans HB_21.out hB); have hs_22 : w.heap.size ≤ w22.heap.size := HB_22.out.size; have hz_22 : w21.heap.size + 0 ≤ w22.heap.size := (by have h := hb.size; (try simp at h); omega); clear hB hb x_21 y_21 dq_21 dp_21 u_21 v_21 Ka_21 Kb_21 Kq_21 Kp_21 HB_21 p670 p671 p672 p673 l67 p680 p681 p682 p683 l68 p690 p691 p692 p693 l69 p700 p701 p702 p703 l70; obtain ⟨p710, p711, p712, p713, l71⟩ := Ka_22.out.use4; obtain ⟨p720, p721, p722, p723, l72⟩ := Kb_22.out.use4; obtain ⟨p730, p731, p732, p733, l73⟩ := Kq_22.out.use4; obtain ⟨p740, p741, p742, p743, l74⟩ := Kp_22.out.use4)
      | (go_at_call 18; have _t := tok16; clear _t tok16; ((with_reducible refine Calls.mono (rat_same (by first | exact dq_22.out | exact dq_22.out.drew_ | exact dq_22.out.alloc_ _ | exact (dq_22.out.alloc_ _).drew_) (by first | exact dp_22.out | exact dp_22.out.drew_ | exact dp_22.out.alloc_ _ | exact (dp_22.out.alloc_ _).drew_) BD.out (by omega)) ?_)); rintro e w23 ⟨rfl, hb⟩; have hB := (show Below w22.heap.size w22 w23 from by first | exact hb | exact bundrew hb | exact bun hb | exact bundrew (bun hb) | exact bun (bundrew hb)); have x_23 := Lib.hid (x_22.out.below hB); have y_23 := Lib.hid (y_22.out.below hB); have dq_23 := Lib.hid (dq_22.out.below hB); have dp_23 := Lib.hid (dp_22.out.below hB); have Ka_23 := Lib.hid (Ka_22.out.below hB); have Kb_23 := Lib.hid (Kb_22.out.below hB); have Kq_23 := Lib.hid (Kq_22.out.below hB); have Kp_23 := Lib.hid (Kp_22.out.below hB); have HB_23 := Lib.hid (below_trans HB_22.out hB); have hs_23 : w.heap.size ≤ w23.heap.size := HB_23.out.size; have hz_23 : w22.heap.size + 0 ≤ w23.heap.size := (by have h := hb.size; (try simp at h); omega); clear hB hb x_22 y_22 dq_22 dp_22 Ka_22 Kb_22 Kq_22 Kp_22 HB_22 p710 p711 p712 p713 l71 p720 p721 p722 p723 l72 p730 p731 p732 p733 l73 p740 p741 p742 p743 l74; obtain ⟨p750, p751, p752, p753, l75⟩ := Ka_23.out.use4; obtain ⟨p760, p761, p762, p763, l76⟩ := Kb_23.out.use4; obtain ⟨p770, p771, p772, p773, l77⟩ := Kq_23.out.use4; obtain ⟨p780, p781, p782, p783, l78⟩ := Kp_23.out.use4))
  go_wp2
  go_ret
  exact ⟨by simp, HB_23.out⟩

theorem reckons_any (b00 : Bool) (a00 : Option Addr) (n00 c00 : Nat) (e00 : Bool) (g00 : Option Addr) (m00 k00 : Nat) (b01 : Bool) (a01 : Option Addr) (n01 c01 : Nat) (e01 : Bool) (g01 : Option Addr) (m01 k01 : Nat) (w : World) (w0 : n00 ≤ 4 → m00 ≤ 4 → ∃ q, LimQ 4 w ((.agg #[.bool b00, .slice a00 n00 c00, .bool e00, .slice g00 m00 k00])) q) (w1 : n01 ≤ 4 → m01 ≤ 4 → ∃ q, LimQ 4 w ((.agg #[.bool b01, .slice a01 n01 c01, .bool e01, .slice g01 m01 k01])) q) :
    Calls Tryz.prog 3 #[(.agg #[.bool b00, .slice a00 n00 c00, .bool e00, .slice g00 m00 k00]), (.agg #[.bool b01, .slice a01 n01 c01, .bool e01, .slice g01 m01 k01])] w fun e w' => e = .returned (.bool true) ∧ Below w.heap.size w w' := by
  cases h0 : (decide (n00 ≤ 4) && decide (m00 ≤ 4))
  · exact reckons_no0 b00 a00 n00 c00 e00 g00 m00 k00 b01 a01 n01 c01 e01 g01 m01 k01 w h0
  · cases h1 : (decide (n01 ≤ 4) && decide (m01 ≤ 4))
    · exact reckons_no1 b00 a00 n00 c00 e00 g00 m00 k00 b01 a01 n01 c01 e01 g01 m01 k01 w h0 h1
    · have e0 := h0
      have e1 := h1
      rw [Bool.and_eq_true, decide_eq_true_eq, decide_eq_true_eq] at e0 e1
      obtain ⟨q, X, Y, hx, -⟩ := w0 e0.1 e0.2
      obtain ⟨p, X', Y', hy, -⟩ := w1 e1.1 e1.2
      exact reckons_yes b00 a00 n00 c00 e00 g00 m00 k00 b01 a01 n01 c01 e01 g01 m01 k01 w X Y X' Y' hx hy h0 h1
end Go.Proofs.YtglcififcldchaaGreatDoor
