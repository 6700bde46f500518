/- RatioField: the walk. -/
import Derived.Test.YtmlijnobdddmnaaGreatDoorRrk
namespace Go.Proofs.YtmlijnobdddmnaaGreatDoor
open Go.RowKit
attribute [local go_sem ↓] Go.wp_at_zero Go.wp_at_succ
set_option linter.unusedVariables false

theorem irq {k : Nat} {w : World} {v : Value} {q : Rat} (hb : BQ k q) (h : IsRat w v q) : LimQ k w v q := h.limQ hb
theorem qmul_is {k l : Nat} {w : World} {v v' : Value} {x y z : Rat} (hz : x * y = z) (hx : LimQ k w v x) (hy : LimQ l w v' y) (hk : k ≤ 40000) (hl : l ≤ 40000) (h1 : 1 ≤ k) (h1' : 1 ≤ l) : Calls Tryz.prog 27 #[v, v'] w fun e w' => RatPost w w' e z := by
  subst hz; exact q_mul hx hy hk hl h1 h1'
theorem of_one (w : World) : Calls Tryz.prog 29 #[.int .i64 1, .int .i64 1] w fun e w' => RatOfPost w w' e 1 true := by
  have := of_q 1 1 w (by omega) (by omega) (by omega) (by omega)
  rw [show Rat.divInt 1 1 = 1 from by decide, show decide ((1 : Int) ≠ 0) = true from rfl] at this
  exact this

set_option maxRecDepth 100000 in
set_option maxHeartbeats 2000000 in
theorem field_no0 (b00 : Bool) (a00 : Option Addr) (n00 c00 : Nat) (e00 : Bool) (g00 : Option Addr) (m00 k00 : Nat) (b01 : Bool) (a01 : Option Addr) (n01 c01 : Nat) (e01 : Bool) (g01 : Option Addr) (m01 k01 : Nat) (b02 : Bool) (a02 : Option Addr) (n02 c02 : Nat) (e02 : Bool) (g02 : Option Addr) (m02 k02 : Nat) (w : World) (h0 : (decide (n00 ≤ 4) && decide (m00 ≤ 4)) = false) :
    Calls Tryz.prog 6 #[(.agg #[.bool b00, .slice a00 n00 c00, .bool e00, .slice g00 m00 k00]), (.agg #[.bool b01, .slice a01 n01 c01, .bool e01, .slice g01 m01 k01]), (.agg #[.bool b02, .slice a02 n02 c02, .bool e02, .slice g02 m02 k02])] w fun e w' => e = .returned (.bool true) ∧ Below w.heap.size w w' := by
  have F0 := Lib.hid h0
  clear h0
  go_enter Tryz.func6, Tryz.ntmps6
  go_wp2_with fail
  refine Calls.mono (awake3 _) ?_
  rintro e w1 ⟨rfl, hb⟩
  have hB := bun (bun (bun (hb)))
  have Ka_1 := Lib.hid (show Blk w1 (w.heap.size) 26 #[.bool b00, .slice a00 n00 c00, .bool e00, .slice g00 m00 k00] from (((Blk.new _ _ (by simp) _ _).alloc_ _).alloc_ _).below hb)
  have Kb_1 := Lib.hid (show Blk w1 (w.heap.size + 1) 26 #[.bool b01, .slice a01 n01 c01, .bool e01, .slice g01 m01 k01] from ((Blk.new _ _ (by simp) _ _).alloc_ _).below hb)
  have Kc_1 := Lib.hid (show Blk w1 (w.heap.size + 1 + 1) 26 #[.bool b02, .slice a02 n02 c02, .bool e02, .slice g02 m02 k02] from (Blk.new _ _ (by simp) _ _).below hb)
  have HB_1 := Lib.hid (hB)
  have hs_1 : w.heap.size ≤ w1.heap.size := HB_1.out.size
  have hz_1 : w.heap.size + 3 ≤ w1.heap.size := (by have h := hb.size; (try simp at h); omega)
  clear hB hb 
  obtain ⟨p10, p11, p12, p13, l1⟩ := Ka_1.out.use4
  go_wp2_with fail
  refine Calls.mono (few_is _ _ _ _ _ _ _ _ _ false F0.out) ?_
  rintro e w2 ⟨rfl, hb⟩
  have hB := hb
  have Ka_2 := Lib.hid (Ka_1.out.below hB)
  have Kb_2 := Lib.hid (Kb_1.out.below hB)
  have Kc_2 := Lib.hid (Kc_1.out.below hB)
  have HB_2 := Lib.hid (below_trans HB_1.out hB)
  have hs_2 : w.heap.size ≤ w2.heap.size := HB_2.out.size
  have hz_2 : w1.heap.size + 0 ≤ w2.heap.size := (by have h := hb.size; (try simp at h); omega)
  clear hB hb Ka_1 Kb_1 Kc_1 HB_1 p10 p11 p12 p13 l1
  go_wp2
  go_ret
  exact ⟨rfl, HB_2.out⟩

set_option maxRecDepth 100000 in
set_option maxHeartbeats 2000000 in
theorem field_no1 (b00 : Bool) (a00 : Option Addr) (n00 c00 : Nat) (e00 : Bool) (g00 : Option Addr) (m00 k00 : Nat) (b01 : Bool) (a01 : Option Addr) (n01 c01 : Nat) (e01 : Bool) (g01 : Option Addr) (m01 k01 : Nat) (b02 : Bool) (a02 : Option Addr) (n02 c02 : Nat) (e02 : Bool) (g02 : Option Addr) (m02 k02 : Nat) (w : World) (h0 : (decide (n00 ≤ 4) && decide (m00 ≤ 4)) = true) (h1 : (decide (n01 ≤ 4) && decide (m01 ≤ 4)) = false) :
    Calls Tryz.prog 6 #[(.agg #[.bool b00, .slice a00 n00 c00, .bool e00, .slice g00 m00 k00]), (.agg #[.bool b01, .slice a01 n01 c01, .bool e01, .slice g01 m01 k01]), (.agg #[.bool b02, .slice a02 n02 c02, .bool e02, .slice g02 m02 k02])] w fun e w' => e = .returned (.bool true) ∧ Below w.heap.size w w' := by
  have F0 := Lib.hid h0
  clear h0
  have F1 := Lib.hid h1
  clear h1
  go_enter Tryz.func6, Tryz.ntmps6
  go_wp2_with fail
  refine Calls.mono (awake3 _) ?_
  rintro e w1 ⟨rfl, hb⟩
  have hB := bun (bun (bun (hb)))
  have Ka_1 := Lib.hid (show Blk w1 (w.heap.size) 26 #[.bool b00, .slice a00 n00 c00, .bool e00, .slice g00 m00 k00] from (((Blk.new _ _ (by simp) _ _).alloc_ _).alloc_ _).below hb)
  have Kb_1 := Lib.hid (show Blk w1 (w.heap.size + 1) 26 #[.bool b01, .slice a01 n01 c01, .bool e01, .slice g01 m01 k01] from ((Blk.new _ _ (by simp) _ _).alloc_ _).below hb)
  have Kc_1 := Lib.hid (show Blk w1 (w.heap.size + 1 + 1) 26 #[.bool b02, .slice a02 n02 c02, .bool e02, .slice g02 m02 k02] from (Blk.new _ _ (by simp) _ _).below hb)
  have HB_1 := Lib.hid (hB)
  have hs_1 : w.heap.size ≤ w1.heap.size := HB_1.out.size
  have hz_1 : w.heap.size + 3 ≤ w1.heap.size := (by have h := hb.size; (try simp at h); omega)
  clear hB hb 
  obtain ⟨p10, p11, p12, p13, l1⟩ := Ka_1.out.use4
  go_wp2_with fail
  refine Calls.mono (few_is _ _ _ _ _ _ _ _ _ true F0.out) ?_
  rintro e w2 ⟨rfl, hb⟩
  have hB := hb
  have Ka_2 := Lib.hid (Ka_1.out.below hB)
  have Kb_2 := Lib.hid (Kb_1.out.below hB)
  have Kc_2 := Lib.hid (Kc_1.out.below hB)
  have HB_2 := Lib.hid (below_trans HB_1.out hB)
  have hs_2 : w.heap.size ≤ w2.heap.size := HB_2.out.size
  have hz_2 : w1.heap.size + 0 ≤ w2.heap.size := (by have h := hb.size; (try simp at h); omega)
  clear hB hb Ka_1 Kb_1 Kc_1 HB_1 p10 p11 p12 p13 l1
  obtain ⟨p20, p21, p22, p23, l2⟩ := Kb_2.out.use4
  go_wp2_with fail
  refine Calls.mono (few_is _ _ _ _ _ _ _ _ _ false F1.out) ?_
  rintro e w3 ⟨rfl, hb⟩
  have hB := hb
  have Ka_3 := Lib.hid (Ka_2.out.below hB)
  have Kb_3 := Lib.hid (Kb_2.out.below hB)
  have Kc_3 := Lib.hid (Kc_2.out.below hB)
  have HB_3 := Lib.hid (below_trans HB_2.out hB)
  have hs_3 : w.heap.size ≤ w3.heap.size := HB_3.out.size
  have hz_3 : w2.heap.size + 0 ≤ w3.heap.size := (by have h := hb.size; (try simp at h); omega)
  clear hB hb Ka_2 Kb_2 Kc_2 HB_2 p20 p21 p22 p23 l2
  go_wp2
  go_ret
  exact ⟨rfl, HB_3.out⟩

set_option maxRecDepth 100000 in
set_option maxHeartbeats 2000000 in
theorem field_no2 (b00 : Bool) (a00 : Option Addr) (n00 c00 : Nat) (e00 : Bool) (g00 : Option Addr) (m00 k00 : Nat) (b01 : Bool) (a01 : Option Addr) (n01 c01 : Nat) (e01 : Bool) (g01 : Option Addr) (m01 k01 : Nat) (b02 : Bool) (a02 : Option Addr) (n02 c02 : Nat) (e02 : Bool) (g02 : Option Addr) (m02 k02 : Nat) (w : World) (h0 : (decide (n00 ≤ 4) && decide (m00 ≤ 4)) = true) (h1 : (decide (n01 ≤ 4) && decide (m01 ≤ 4)) = true) (h2 : (decide (n02 ≤ 4) && decide (m02 ≤ 4)) = false) :
    Calls Tryz.prog 6 #[(.agg #[.bool b00, .slice a00 n00 c00, .bool e00, .slice g00 m00 k00]), (.agg #[.bool b01, .slice a01 n01 c01, .bool e01, .slice g01 m01 k01]), (.agg #[.bool b02, .slice a02 n02 c02, .bool e02, .slice g02 m02 k02])] w fun e w' => e = .returned (.bool true) ∧ Below w.heap.size w w' := by
  have F0 := Lib.hid h0
  clear h0
  have F1 := Lib.hid h1
  clear h1
  have F2 := Lib.hid h2
  clear h2
  go_enter Tryz.func6, Tryz.ntmps6
  go_wp2_with fail
  refine Calls.mono (awake3 _) ?_
  rintro e w1 ⟨rfl, hb⟩
  have hB := bun (bun (bun (hb)))
  have Ka_1 := Lib.hid (show Blk w1 (w.heap.size) 26 #[.bool b00, .slice a00 n00 c00, .bool e00, .slice g00 m00 k00] from (((Blk.new _ _ (by simp) _ _).alloc_ _).alloc_ _).below hb)
  have Kb_1 := Lib.hid (show Blk w1 (w.heap.size + 1) 26 #[.bool b01, .slice a01 n01 c01, .bool e01, .slice g01 m01 k01] from ((Blk.new _ _ (by simp) _ _).alloc_ _).below hb)
  have Kc_1 := Lib.hid (show Blk w1 (w.heap.size + 1 + 1) 26 #[.bool b02, .slice a02 n02 c02, .bool e02, .slice g02 m02 k02] from (Blk.new _ _ (by simp) _ _).below hb)
  have HB_1 := Lib.hid (hB)
  have hs_1 : w.heap.size ≤ w1.heap.size := HB_1.out.size
  have hz_1 : w.heap.size + 3 ≤ w1.heap.size := (by have h := hb.size; (try simp at h); omega)
  clear hB hb 
  obtain ⟨p10, p11, p12, p13, l1⟩ := Ka_1.out.use4
  go_wp2_with fail
  refine Calls.mono (few_is _ _ _ _ _ _ _ _ _ true F0.out) ?_
  rintro e w2 ⟨rfl, hb⟩
  have hB := hb
  have Ka_2 := Lib.hid (Ka_1.out.below hB)
  have Kb_2 := Lib.hid (Kb_1.out.below hB)
  have Kc_2 := Lib.hid (Kc_1.out.below hB)
  have HB_2 := Lib.hid (below_trans HB_1.out hB)
  have hs_2 : w.heap.size ≤ w2.heap.size := HB_2.out.size
  have hz_2 : w1.heap.size + 0 ≤ w2.heap.size := (by have h := hb.size; (try simp at h); omega)
  clear hB hb Ka_1 Kb_1 Kc_1 HB_1 p10 p11 p12 p13 l1
  obtain ⟨p20, p21, p22, p23, l2⟩ := Kb_2.out.use4
  go_wp2_with fail
  refine Calls.mono (few_is _ _ _ _ _ _ _ _ _ true F1.out) ?_
  rintro e w3 ⟨rfl, hb⟩
  have hB := hb
  have Ka_3 := Lib.hid (Ka_2.out.below hB)
  have Kb_3 := Lib.hid (Kb_2.out.below hB)
  have Kc_3 := Lib.hid (Kc_2.out.below hB)
  have HB_3 := Lib.hid (below_trans HB_2.out hB)
  have hs_3 : w.heap.size ≤ w3.heap.size := HB_3.out.size
  have hz_3 : w2.heap.size + 0 ≤ w3.heap.size := (by have h := hb.size; (try simp at h); omega)
  clear hB hb Ka_2 Kb_2 Kc_2 HB_2 p20 p21 p22 p23 l2
  obtain ⟨p30, p31, p32, p33, l3⟩ := Kc_3.out.use4
  go_wp2_with fail
  refine Calls.mono (few_is _ _ _ _ _ _ _ _ _ false F2.out) ?_
  rintro e w4 ⟨rfl, hb⟩
  have hB := hb
  have Ka_4 := Lib.hid (Ka_3.out.below hB)
  have Kb_4 := Lib.hid (Kb_3.out.below hB)
  have Kc_4 := Lib.hid (Kc_3.out.below hB)
  have HB_4 := Lib.hid (below_trans HB_3.out hB)
  have hs_4 : w.heap.size ≤ w4.heap.size := HB_4.out.size
  have hz_4 : w3.heap.size + 0 ≤ w4.heap.size := (by have h := hb.size; (try simp at h); omega)
  clear hB hb Ka_3 Kb_3 Kc_3 HB_3 p30 p31 p32 p33 l3
  go_wp2
  go_ret
  exact ⟨rfl, HB_4.out⟩

set_option maxRecDepth 100000 in
set_option maxHeartbeats 16000000 in
theorem field_yes1 (b00 : Bool) (a00 : Option Addr) (n00 c00 : Nat) (e00 : Bool) (g00 : Option Addr) (m00 k00 : Nat) (b01 : Bool) (a01 : Option Addr) (n01 c01 : Nat) (e01 : Bool) (g01 : Option Addr) (m01 k01 : Nat) (b02 : Bool) (a02 : Option Addr) (n02 c02 : Nat) (e02 : Bool) (g02 : Option Addr) (m02 k02 : Nat) (w : World) (X Y X' Y' X'' Y'' : Int) (hx : LimR 4 w (.agg #[.bool b00, .slice a00 n00 c00, .bool e00, .slice g00 m00 k00]) X Y) (hy : LimR 4 w (.agg #[.bool b01, .slice a01 n01 c01, .bool e01, .slice g01 m01 k01]) X' Y') (hz : LimR 4 w (.agg #[.bool b02, .slice a02 n02 c02, .bool e02, .slice g02 m02 k02]) X'' Y'') (h0 : (decide (n00 ≤ 4) && decide (m00 ≤ 4)) = true) (h1 : (decide (n01 ≤ 4) && decide (m01 ≤ 4)) = true) (h2 : (decide (n02 ≤ 4) && decide (m02 ≤ 4)) = true) (hd : decide (ratOf X Y ≠ 0) = true) :
    Calls Tryz.prog 6 #[(.agg #[.bool b00, .slice a00 n00 c00, .bool e00, .slice g00 m00 k00]), (.agg #[.bool b01, .slice a01 n01 c01, .bool e01, .slice g01 m01 k01]), (.agg #[.bool b02, .slice a02 n02 c02, .bool e02, .slice g02 m02 k02])] w fun e w' => e = .returned (.bool true) ∧ Below w.heap.size w w' := by
  have F0 := Lib.hid h0
  have F1 := Lib.hid h1
  have F2 := Lib.hid h2
  obtain ⟨x, hq⟩ : ∃ q, q = ratOf X Y := ⟨_, rfl⟩
  obtain ⟨y, hp⟩ : ∃ q, q = ratOf X' Y' := ⟨_, rfl⟩
  obtain ⟨z, hr⟩ : ∃ q, q = ratOf X'' Y'' := ⟨_, rfl⟩
  rw [← hq] at hd
  have BX := Lib.hid ((lq hq hx).bq (by omega))
  have BY := Lib.hid ((lq hp hy).bq (by omega))
  have BZ := Lib.hid ((lq hr hz).bq (by omega))
  have BO : Hid (BQ 1 (1 : Rat)) := bq_chk (by decide)
  obtain ⟨s, es⟩ : ∃ s, x + y = s := ⟨_, rfl⟩
  obtain ⟨u, eu⟩ : ∃ s, y + z = s := ⟨_, rfl⟩
  obtain ⟨m, em⟩ : ∃ s, x * y = s := ⟨_, rfl⟩
  obtain ⟨n, en⟩ : ∃ s, y * z = s := ⟨_, rfl⟩
  obtain ⟨o, eo⟩ : ∃ s, x * z = s := ⟨_, rfl⟩
  obtain ⟨t, et⟩ : ∃ t, s + z = t := ⟨_, rfl⟩
  obtain ⟨p, ep⟩ : ∃ t, m * z = t := ⟨_, rfl⟩
  obtain ⟨d, ed⟩ : ∃ t, x * u = t := ⟨_, rfl⟩
  obtain ⟨i, ei⟩ : ∃ i, 1 / x = i := ⟨_, rfl⟩
  have Es := Lib.hid es
  have Es' : Hid (y + x = s) := by show _ = _; rw [← es]; grind
  have Eu := Lib.hid eu
  have Em := Lib.hid em
  have Em' : Hid (y * x = m) := by show _ = _; rw [← em]; grind
  have En := Lib.hid en
  have Eo := Lib.hid eo
  have Et := Lib.hid et
  have Et' : Hid (x + u = t) := by show _ = _; rw [← et, ← es, ← eu]; grind
  have Ep := Lib.hid ep
  have Ep' : Hid (x * n = p) := by show _ = _; rw [← ep, ← em, ← en]; grind
  have Ed := Lib.hid ed
  have Ed' : Hid (m + o = d) := by show _ = _; rw [← ed, ← em, ← eo, ← eu]; grind
  have Bs := Lib.hid (es ▸ bq_add BX.out BY.out)
  have Bu := Lib.hid (eu ▸ bq_add BY.out BZ.out)
  have Bm := Lib.hid (em ▸ bq_mul BX.out BY.out)
  have Bn := Lib.hid (en ▸ bq_mul BY.out BZ.out)
  have Bo := Lib.hid (eo ▸ bq_mul BX.out BZ.out)
  have Bt := Lib.hid (et ▸ bq_add Bs.out BZ.out)
  have Bp := Lib.hid (ep ▸ bq_mul Bm.out BZ.out)
  have Bd := Lib.hid (ed ▸ bq_mul BX.out Bu.out)
  have hx0 : x ≠ 0 := of_decide_eq_true hd
  have Bi := Lib.hid (ei ▸ bq_div (by omega) BO.out BX.out)
  have Ei : Hid (x * i = 1) := by
    show _ = _
    rw [← ei, Rat.div_def, Rat.one_mul]
    exact Rat.mul_inv_cancel _ hx0
  clear hx0
  have HI := Lib.hid ei
  have HQ := Lib.hid hq
  have HP := Lib.hid hp
  have HR := Lib.hid hr
  have HD := Lib.hid hd
  have x_0 := Lib.hid hx
  have y_0 := Lib.hid hy
  have z_0 := Lib.hid hz
  clear h0 h1 h2 hq hp hr hd hx hy hz es eu em en eo et ep ed ei
  go_enter Tryz.func6, Tryz.ntmps6
  go_wp2_with fail
  refine Calls.mono (awake3 _) ?_
  rintro e w1 ⟨rfl, hb⟩
  have hB := bun (bun (bun (hb)))
  have x_1 := Lib.hid (x_0.out.below hB)
  have y_1 := Lib.hid (y_0.out.below hB)
  have z_1 := Lib.hid (z_0.out.below hB)
  have Ka_1 := Lib.hid (show Blk w1 (w.heap.size) 26 #[.bool b00, .slice a00 n00 c00, .bool e00, .slice g00 m00 k00] from (((Blk.new _ _ (by simp) _ _).alloc_ _).alloc_ _).below hb)
  have Kb_1 := Lib.hid (show Blk w1 (w.heap.size + 1) 26 #[.bool b01, .slice a01 n01 c01, .bool e01, .slice g01 m01 k01] from ((Blk.new _ _ (by simp) _ _).alloc_ _).below hb)
  have Kc_1 := Lib.hid (show Blk w1 (w.heap.size + 1 + 1) 26 #[.bool b02, .slice a02 n02 c02, .bool e02, .slice g02 m02 k02] from (Blk.new _ _ (by simp) _ _).below hb)
  have HB_1 := Lib.hid (hB)
  have hs_1 : w.heap.size ≤ w1.heap.size := HB_1.out.size
  have hz_1 : w.heap.size + 3 ≤ w1.heap.size := (by have h := hb.size; (try simp at h); omega)
  clear hB hb x_0 y_0 z_0
  obtain ⟨p10, p11, p12, p13, l1⟩ := Ka_1.out.use4
  go_wp2_with fail
  refine Calls.mono (few_is _ _ _ _ _ _ _ _ _ true F0.out) ?_
  rintro e w2 ⟨rfl, hb⟩
  have hB := hb
  have x_2 := Lib.hid (x_1.out.below hB)
  have y_2 := Lib.hid (y_1.out.below hB)
  have z_2 := Lib.hid (z_1.out.below hB)
  have Ka_2 := Lib.hid (Ka_1.out.below hB)
  have Kb_2 := Lib.hid (Kb_1.out.below hB)
  have Kc_2 := Lib.hid (Kc_1.out.below hB)
  have HB_2 := Lib.hid (below_trans HB_1.out hB)
  have hs_2 : w.heap.size ≤ w2.heap.size := HB_2.out.size
  have hz_2 : w1.heap.size + 0 ≤ w2.heap.size := (by have h := hb.size; (try simp at h); omega)
  clear hB hb x_1 y_1 z_1 Ka_1 Kb_1 Kc_1 HB_1 p10 p11 p12 p13 l1
  obtain ⟨p20, p21, p22, p23, l2⟩ := Kb_2.out.use4
  go_wp2_with fail
  refine Calls.mono (few_is _ _ _ _ _ _ _ _ _ true F1.out) ?_
  rintro e w3 ⟨rfl, hb⟩
  have hB := hb
  have x_3 := Lib.hid (x_2.out.below hB)
  have y_3 := Lib.hid (y_2.out.below hB)
  have z_3 := Lib.hid (z_2.out.below hB)
  have Ka_3 := Lib.hid (Ka_2.out.below hB)
  have Kb_3 := Lib.hid (Kb_2.out.below hB)
  have Kc_3 := Lib.hid (Kc_2.out.below hB)
  have HB_3 := Lib.hid (below_trans HB_2.out hB)
  have hs_3 : w.heap.size ≤ w3.heap.size := HB_3.out.size
  have hz_3 : w2.heap.size + 0 ≤ w3.heap.size := (by have h := hb.size; (try simp at h); omega)
  clear hB hb x_2 y_2 z_2 Ka_2 Kb_2 Kc_2 HB_2 p20 p21 p22 p23 l2
  obtain ⟨p30, p31, p32, p33, l3⟩ := Kc_3.out.use4
  go_wp2_with fail
  refine Calls.mono (few_is _ _ _ _ _ _ _ _ _ true F2.out) ?_
  rintro e w4 ⟨rfl, hb⟩
  have hB := hb
  have x_4 := Lib.hid (x_3.out.below hB)
  have y_4 := Lib.hid (y_3.out.below hB)
  have z_4 := Lib.hid (z_3.out.below hB)
  have Ka_4 := Lib.hid (Ka_3.out.below hB)
  have Kb_4 := Lib.hid (Kb_3.out.below hB)
  have Kc_4 := Lib.hid (Kc_3.out.below hB)
  have HB_4 := Lib.hid (below_trans HB_3.out hB)
  have hs_4 : w.heap.size ≤ w4.heap.size := HB_4.out.size
  have hz_4 : w3.heap.size + 0 ≤ w4.heap.size := (by have h := hb.size; (try simp at h); omega)
  clear hB hb x_3 y_3 z_3 Ka_3 Kb_3 Kc_3 HB_3 p30 p31 p32 p33 l3
  go_wp2_with fail
  refine Calls.mono (of_one _) ?_
  rintro e w5 ⟨v, rfl, h, hb⟩
  have hk := h
  obtain ⟨b5, A5, n5, c5, d5, B5, m5, k5, rfl, -, -, -, -, -⟩ := h.form
  clear h
  have hB := hb
  have x_5 := Lib.hid (x_4.out.below hB)
  have y_5 := Lib.hid (y_4.out.below hB)
  have z_5 := Lib.hid (z_4.out.below hB)
  have Ka_5 := Lib.hid (Ka_4.out.below hB)
  have Kb_5 := Lib.hid (Kb_4.out.below hB)
  have Kc_5 := Lib.hid (Kc_4.out.below hB)
  have one_5 := Lib.hid (hk)
  have HB_5 := Lib.hid (below_trans HB_4.out hB)
  have hs_5 : w.heap.size ≤ w5.heap.size := HB_5.out.size
  have hz_5 : w4.heap.size + 0 ≤ w5.heap.size := (by have h := hb.size; (try simp at h); omega)
  clear hB hb x_4 y_4 z_4 Ka_4 Kb_4 Kc_4 HB_4
  obtain ⟨p40, p41, p42, p43, l4⟩ := Ka_5.out.use4
  go_wp2_with fail
  refine Calls.mono (qdiv_is HD.out (irq BO.out (one_5.out.alloc_ _)) (lq HQ.out (x_5.out.alloc_ _)) (by omega) (by omega) (by omega) (by omega)) ?_
  rintro e w6 ⟨v, rfl, h, hb⟩
  rw [HI.out] at h
  have hk := h
  obtain ⟨b6, A6, n6, c6, d6, B6, m6, k6, rfl, -, -, -, -, -⟩ := h.form
  clear h
  have hB := bun (hb)
  have x_6 := Lib.hid (x_5.out.below hB)
  have y_6 := Lib.hid (y_5.out.below hB)
  have z_6 := Lib.hid (z_5.out.below hB)
  have one_6 := Lib.hid (one_5.out.below hB)
  have Ka_6 := Lib.hid (Ka_5.out.below hB)
  have Kb_6 := Lib.hid (Kb_5.out.below hB)
  have Kc_6 := Lib.hid (Kc_5.out.below hB)
  have Ko_6 := Lib.hid (show Blk w6 (w5.heap.size) 26 #[.bool b5, .slice A5 n5 c5, .bool d5, .slice B5 m5 k5] from (Blk.new _ _ (by simp) _ _).below hb)
  have inv_6 := Lib.hid (hk)
  have HB_6 := Lib.hid (below_trans HB_5.out hB)
  have hs_6 : w.heap.size ≤ w6.heap.size := HB_6.out.size
  have hz_6 : w5.heap.size + 1 ≤ w6.heap.size := (by have h := hb.size; (try simp at h); omega)
  clear hB hb x_5 y_5 z_5 one_5 Ka_5 Kb_5 Kc_5 HB_5 p40 p41 p42 p43 l4
  go_wp2
  generalize hW : (w6.alloc (.cells #[.bool b6, .slice A6 n6 c6, .bool d6, .slice B6 m6 k6] 26)) = w7
  have x_7 := Lib.hid (hW ▸ (x_6.out.alloc_ _))
  have y_7 := Lib.hid (hW ▸ (y_6.out.alloc_ _))
  have z_7 := Lib.hid (hW ▸ (z_6.out.alloc_ _))
  have one_7 := Lib.hid (hW ▸ (one_6.out.alloc_ _))
  have inv_7 := Lib.hid (hW ▸ (inv_6.out.alloc_ _))
  have Ka_7 := Lib.hid (show Blk w7 (w.heap.size) 26 #[.bool b00, .slice a00 n00 c00, .bool e00, .slice g00 m00 k00] from by rw [← hW]; exact (Ka_6.out.alloc_ _))
  have Kb_7 := Lib.hid (show Blk w7 (w.heap.size + 1) 26 #[.bool b01, .slice a01 n01 c01, .bool e01, .slice g01 m01 k01] from by rw [← hW]; exact (Kb_6.out.alloc_ _))
  have Kc_7 := Lib.hid (show Blk w7 (w.heap.size + 1 + 1) 26 #[.bool b02, .slice a02 n02 c02, .bool e02, .slice g02 m02 k02] from by rw [← hW]; exact (Kc_6.out.alloc_ _))
  have Ko_7 := Lib.hid (show Blk w7 (w5.heap.size) 26 #[.bool b5, .slice A5 n5 c5, .bool d5, .slice B5 m5 k5] from by rw [← hW]; exact (Ko_6.out.alloc_ _))
  have Ki_7 := Lib.hid (show Blk w7 (w6.heap.size) 26 #[.bool b6, .slice A6 n6 c6, .bool d6, .slice B6 m6 k6] from by rw [← hW]; exact Blk.new _ _ (by simp) _ _)
  have HB_7 := Lib.hid (show Below w.heap.size w w7 from by rw [← hW]; exact halloc (HB_6.out))
  have hs_7 : w.heap.size ≤ w7.heap.size := HB_7.out.size
  have hz_7 : w6.heap.size + 1 ≤ w7.heap.size := by rw [← hW]; simp
  clear hW x_6 y_6 z_6 one_6 inv_6 Ka_6 Kb_6 Kc_6 Ko_6 HB_6
  obtain ⟨p50, p51, p52, p53, l5⟩ := Ka_7.out.use4
  obtain ⟨p60, p61, p62, p63, l6⟩ := Ki_7.out.use4
  obtain ⟨p70, p71, p72, p73, l7⟩ := Ko_7.out.use4
  have tok0 : True := trivial
  have tok1 : True := trivial
  go_region_held3 (fun w' => w'.cell? ⟨w.heap.size, 0, none⟩ = some (.bool b00) ∧ w'.cell? ⟨w.heap.size, 1, none⟩ = some (.slice a00 n00 c00) ∧ w'.cell? ⟨w.heap.size, 2, none⟩ = some (.bool e00) ∧ w'.cell? ⟨w.heap.size, 3, none⟩ = some (.slice g00 m00 k00) ∧ w'.cell? ⟨w6.heap.size, 0, none⟩ = some (.bool b6) ∧ w'.cell? ⟨w6.heap.size, 1, none⟩ = some (.slice A6 n6 c6) ∧ w'.cell? ⟨w6.heap.size, 2, none⟩ = some (.bool d6) ∧ w'.cell? ⟨w6.heap.size, 3, none⟩ = some (.slice B6 m6 k6) ∧ w'.cell? ⟨w5.heap.size, 0, none⟩ = some (.bool b5) ∧ w'.cell? ⟨w5.heap.size, 1, none⟩ = some (.slice A5 n5 c5) ∧ w'.cell? ⟨w5.heap.size, 2, none⟩ = some (.bool d5) ∧ w'.cell? ⟨w5.heap.size, 3, none⟩ = some (.slice B5 m5 k5)) (first | (refine ⟨?_, ?_, ?_, ?_, ?_, ?_, ?_, ?_, ?_, ?_, ?_, ?_⟩ <;> (first | with_reducible assumption | ((with_reducible refine Eq.trans (cell_drew _ _) ?_); with_reducible assumption) | ((rw [cell_far4 _ _ _ _ _ _ _ _ (by omega)]); with_reducible assumption) | ((repeat rw [cell_far2 _ _ _ _ _ _ (by omega)]); with_reducible assumption) | go_keep)) | trivial | go_keep)
    (first
      | (go_at_call 27; have _t := tok0; clear _t tok0; ((with_reducible refine Calls.mono (qmul_is Ei.out (lq HQ.out (by first | exact x_7.out | exact x_7.out.drew_ | exact x_7.out.alloc_ _ | exact (x_7.out.alloc_ _).drew_)) (irq Bi.out (by first | exact inv_7.out | exact inv_7.out.drew_ | exact inv_7.out.alloc_ _ | exact (inv_7.out.alloc_ _).drew_)) (by omega) (by omega) (by omega) (by omega)) ?_)); rintro e w8 ⟨v, rfl, h, hb⟩; have hk := h; obtain ⟨b8, A8, n8, c8, d8, B8, m8, k8, rfl, -, -, -, -, -⟩ := h.form; clear h; have hB := (show Below w7.heap.size w7 w8 from by first | exact hb | exact bundrew hb | exact bun hb | exact bundrew (bun hb) | exact bun (bundrew hb)); have x_8 := Lib.hid (x_7.out.below hB); have y_8 := Lib.hid (y_7.out.below hB); have z_8 := Lib.hid (z_7.out.below hB); have one_8 := Lib.hid (one_7.out.below hB); have inv_8 := Lib.hid (inv_7.out.below hB); have Ka_8 := Lib.hid (Ka_7.out.below hB); have Kb_8 := Lib.hid (Kb_7.out.below hB); have Kc_8 := Lib.hid (Kc_7.out.below hB); have Ko_8 := Lib.hid (Ko_7.out.below hB); have Ki_8 := Lib.hid (Ki_7.out.below hB); have u_8 := Lib.hid (hk); have HB_8 := Lib.hid (below_trans HB_7.out hB); have hs_8 : w.heap.size ≤ w8.heap.size := HB_8.out.size; have hz_8 : w7.heap.size + 0 ≤ w8.heap.size := (by have h := hb.size; (try simp at h); omega); clear hB hb x_7 y_7 z_7 one_7 inv_7 Ka_7 Kb_7 Kc_7 Ko_7 Ki_7 HB_7 p50 p51 p52 p53 l5 p60 p61 p62 p63 l6 p70 p71 p72 p73 l7; obtain ⟨p80, p81, p82, p83, l8⟩ := Ka_8.out.use4; obtain ⟨p90, p91, p92, p93, l9⟩ := Ki_8.out.use4; obtain ⟨p100, p101, p102, p103, l10⟩ := Ko_8.out.use4)
      | (go_at_call 18; have _t := tok1; clear _t tok1; ((with_reducible refine Calls.mono (rat_same (by first | exact u_8.out | exact u_8.out.drew_ | exact u_8.out.alloc_ _ | exact (u_8.out.alloc_ _).drew_) (by first | exact one_8.out | exact one_8.out.drew_ | exact one_8.out.alloc_ _ | exact (one_8.out.alloc_ _).drew_) BO.out (by omega)) ?_)); rintro e w9 ⟨rfl, hb⟩; have hB := (show Below w8.heap.size w8 w9 from by first | exact hb | exact bundrew hb | exact bun hb | exact bundrew (bun hb) | exact bun (bundrew hb)); have x_9 := Lib.hid (x_8.out.below hB); have y_9 := Lib.hid (y_8.out.below hB); have z_9 := Lib.hid (z_8.out.below hB); have Ka_9 := Lib.hid (Ka_8.out.below hB); have Kb_9 := Lib.hid (Kb_8.out.below hB); have Kc_9 := Lib.hid (Kc_8.out.below hB); have Ko_9 := Lib.hid (Ko_8.out.below hB); have Ki_9 := Lib.hid (Ki_8.out.below hB); have HB_9 := Lib.hid (below_trans HB_8.out hB); have hs_9 : w.heap.size ≤ w9.heap.size := HB_9.out.size; have hz_9 : w8.heap.size + 0 ≤ w9.heap.size := (by have h := hb.size; (try simp at h); omega); clear hB hb x_8 y_8 z_8 one_8 inv_8 u_8 Ka_8 Kb_8 Kc_8 Ko_8 Ki_8 HB_8 p80 p81 p82 p83 l8 p90 p91 p92 p93 l9 p100 p101 p102 p103 l10; obtain ⟨p110, p111, p112, p113, l11⟩ := Ka_9.out.use4; obtain ⟨p120, p121, p122, p123, l12⟩ := Ki_9.out.use4; obtain ⟨p130, p131, p132, p133, l13⟩ := Ko_9.out.use4))
  go_wp2
  obtain ⟨p140, p141, p142, p143, l14⟩ := Ka_9.out.use4
  obtain ⟨p150, p151, p152, p153, l15⟩ := Kb_9.out.use4
  obtain ⟨p160, p161, p162, p163, l16⟩ := Kc_9.out.use4
  have tok0 : True := trivial
  have tok1 : True := trivial
  have tok2 : True := trivial
  have tok3 : True := trivial
  have tok4 : True := trivial
  have tok5 : True := trivial
  have tok6 : True := trivial
  have tok7 : True := trivial
  have tok8 : True := trivial
  have tok9 : True := trivial
  have tok10 : True := trivial
  have tok11 : True := trivial
  have tok12 : True := trivial
  have tok13 : True := trivial
  have tok14 : True := trivial
  have tok15 : True := trivial
  have tok16 : True := trivial
  have tok17 : True := trivial
  have tok18 : True := trivial
  have tok19 : True := trivial
  have tok20 : True := trivial
  have tok21 : True := trivial
  go_region_held3 (fun w' => w'.cell? ⟨w.heap.size, 0, none⟩ = some (.bool b00) ∧ w'.cell? ⟨w.heap.size, 1, none⟩ = some (.slice a00 n00 c00) ∧ w'.cell? ⟨w.heap.size, 2, none⟩ = some (.bool e00) ∧ w'.cell? ⟨w.heap.size, 3, none⟩ = some (.slice g00 m00 k00) ∧ w'.cell? ⟨w.heap.size + 1, 0, none⟩ = some (.bool b01) ∧ w'.cell? ⟨w.heap.size + 1, 1, none⟩ = some (.slice a01 n01 c01) ∧ w'.cell? ⟨w.heap.size + 1, 2, none⟩ = some (.bool e01) ∧ w'.cell? ⟨w.heap.size + 1, 3, none⟩ = some (.slice g01 m01 k01) ∧ w'.cell? ⟨w.heap.size + 1 + 1, 0, none⟩ = some (.bool b02) ∧ w'.cell? ⟨w.heap.size + 1 + 1, 1, none⟩ = some (.slice a02 n02 c02) ∧ w'.cell? ⟨w.heap.size + 1 + 1, 2, none⟩ = some (.bool e02) ∧ w'.cell? ⟨w.heap.size + 1 + 1, 3, none⟩ = some (.slice g02 m02 k02)) (first | (refine ⟨?_, ?_, ?_, ?_, ?_, ?_, ?_, ?_, ?_, ?_, ?_, ?_⟩ <;> (first | with_reducible assumption | ((with_reducible refine Eq.trans (cell_drew _ _) ?_); with_reducible assumption) | ((rw [cell_far4 _ _ _ _ _ _ _ _ (by omega)]); with_reducible assumption) | ((repeat rw [cell_far2 _ _ _ _ _ _ (by omega)]); with_reducible assumption) | go_keep)) | trivial | go_keep)
    (first
      | (go_at_call 23; have _t := tok0; clear _t tok0; ((with_reducible refine Calls.mono (qadd_is Es.out (lq HQ.out (by first | exact x_9.out | exact x_9.out.drew_ | exact x_9.out.alloc_ _ | exact (x_9.out.alloc_ _).drew_)) (lq HP.out (by first | exact y_9.out | exact y_9.out.drew_ | exact y_9.out.alloc_ _ | exact (y_9.out.alloc_ _).drew_)) (by omega) (by omega) (by omega) (by omega)) ?_)); rintro e w10 ⟨v, rfl, h, hb⟩; have hk := h; obtain ⟨b10, A10, n10, c10, d10, B10, m10, k10, rfl, -, -, -, -, -⟩ := h.form; clear h; have hB := (show Below w9.heap.size w9 w10 from by first | exact hb | exact bundrew hb | exact bun hb | exact bundrew (bun hb) | exact bun (bundrew hb)); have x_10 := Lib.hid (x_9.out.below hB); have y_10 := Lib.hid (y_9.out.below hB); have z_10 := Lib.hid (z_9.out.below hB); have Ka_10 := Lib.hid (Ka_9.out.below hB); have Kb_10 := Lib.hid (Kb_9.out.below hB); have Kc_10 := Lib.hid (Kc_9.out.below hB); have Ko_10 := Lib.hid (Ko_9.out.below hB); have Ki_10 := Lib.hid (Ki_9.out.below hB); have u_10 := Lib.hid (hk); have HB_10 := Lib.hid (below_trans HB_9.out hB); have hs_10 : w.heap.size ≤ w10.heap.size := HB_10.out.size; have hz_10 : w9.heap.size + 0 ≤ w10.heap.size := (by have h := hb.size; (try simp at h); omega); clear hB hb x_9 y_9 z_9 Ka_9 Kb_9 Kc_9 Ko_9 Ki_9 HB_9 p110 p111 p112 p113 l11 p120 p121 p122 p123 l12 p130 p131 p132 p133 l13 p140 p141 p142 p143 l14 p150 p151 p152 p153 l15 p160 p161 p162 p163 l16; obtain ⟨p170, p171, p172, p173, l17⟩ := Ka_10.out.use4; obtain ⟨p180, p181, p182, p183, l18⟩ := Kb_10.out.use4; obtain ⟨p190, p191, p192, p193, l19⟩ := Kc_10.out.use4)
      | (go_at_call 23; have _t := tok1; clear _t tok1; ((with_reducible refine Calls.mono (qadd_is Es'.out (lq HP.out (by first | exact y_10.out | exact y_10.out.drew_ | exact y_10.out.alloc_ _ | exact (y_10.out.alloc_ _).drew_)) (lq HQ.out (by first | exact x_10.out | exact x_10.out.drew_ | exact x_10.out.alloc_ _ | exact (x_10.out.alloc_ _).drew_)) (by omega) (by omega) (by omega) (by omega)) ?_)); rintro e w11 ⟨v, rfl, h, hb⟩; have hk := h; obtain ⟨b11, A11, n11, c11, d11, B11, m11, k11, rfl, -, -, -, -, -⟩ := h.form; clear h; have hB := (show Below w10.heap.size w10 w11 from by first | exact hb | exact bundrew hb | exact bun hb | exact bundrew (bun hb) | exact bun (bundrew hb)); have x_11 := Lib.hid (x_10.out.below hB); have y_11 := Lib.hid (y_10.out.below hB); have z_11 := Lib.hid (z_10.out.below hB); have u_11 := Lib.hid (u_10.out.below hB); have Ka_11 := Lib.hid (Ka_10.out.below hB); have Kb_11 := Lib.hid (Kb_10.out.below hB); have Kc_11 := Lib.hid (Kc_10.out.below hB); have Ko_11 := Lib.hid (Ko_10.out.below hB); have Ki_11 := Lib.hid (Ki_10.out.below hB); have v_11 := Lib.hid (hk); have HB_11 := Lib.hid (below_trans HB_10.out hB); have hs_11 : w.heap.size ≤ w11.heap.size := HB_11.out.size; have hz_11 : w10.heap.size + 0 ≤ w11.heap.size := (by have h := hb.size; (try simp at h); omega); clear hB hb x_10 y_10 z_10 u_10 Ka_10 Kb_10 Kc_10 Ko_10 Ki_10 HB_10 p170 p171 p172 p173 l17 p180 p181 p182 p183 l18 p190 p191 p192 p193 l19; obtain ⟨p200, p201, p202, p203, l20⟩ := Ka_11.out.use4; obtain ⟨p210, p211, p212, p213, l21⟩ := Kb_11.out.use4; obtain ⟨p220, p221, p222, p223, l22⟩ := Kc_11.out.use4)
      | (go_at_call 18; have _t := tok2; clear _t tok2; ((with_reducible refine Calls.mono (rat_same (by first | exact u_11.out | exact u_11.out.drew_ | exact u_11.out.alloc_ _ | exact (u_11.out.alloc_ _).drew_) (by first | exact v_11.out | exact v_11.out.drew_ | exact v_11.out.alloc_ _ | exact (v_11.out.alloc_ _).drew_) Bs.out (by omega)) ?_)); rintro e w12 ⟨rfl, hb⟩; have hB := (show Below w11.heap.size w11 w12 from by first | exact hb | exact bundrew hb | exact bun hb | exact bundrew (bun hb) | exact bun (bundrew hb)); have x_12 := Lib.hid (x_11.out.below hB); have y_12 := Lib.hid (y_11.out.below hB); have z_12 := Lib.hid (z_11.out.below hB); have Ka_12 := Lib.hid (Ka_11.out.below hB); have Kb_12 := Lib.hid (Kb_11.out.below hB); have Kc_12 := Lib.hid (Kc_11.out.below hB); have Ko_12 := Lib.hid (Ko_11.out.below hB); have Ki_12 := Lib.hid (Ki_11.out.below hB); have HB_12 := Lib.hid (below_trans HB_11.out hB); have hs_12 : w.heap.size ≤ w12.heap.size := HB_12.out.size; have hz_12 : w11.heap.size + 0 ≤ w12.heap.size := (by have h := hb.size; (try simp at h); omega); clear hB hb x_11 y_11 z_11 u_11 v_11 Ka_11 Kb_11 Kc_11 Ko_11 Ki_11 HB_11 p200 p201 p202 p203 l20 p210 p211 p212 p213 l21 p220 p221 p222 p223 l22; obtain ⟨p230, p231, p232, p233, l23⟩ := Ka_12.out.use4; obtain ⟨p240, p241, p242, p243, l24⟩ := Kb_12.out.use4; obtain ⟨p250, p251, p252, p253, l25⟩ := Kc_12.out.use4)
      | (go_at_call 27; have _t := tok3; clear _t tok3; ((with_reducible refine Calls.mono (qmul_is Em.out (lq HQ.out (by first | exact x_12.out | exact x_12.out.drew_ | exact x_12.out.alloc_ _ | exact (x_12.out.alloc_ _).drew_)) (lq HP.out (by first | exact y_12.out | exact y_12.out.drew_ | exact y_12.out.alloc_ _ | exact (y_12.out.alloc_ _).drew_)) (by omega) (by omega) (by omega) (by omega)) ?_)); rintro e w13 ⟨v, rfl, h, hb⟩; have hk := h; obtain ⟨b13, A13, n13, c13, d13, B13, m13, k13, rfl, -, -, -, -, -⟩ := h.form; clear h; have hB := (show Below w12.heap.size w12 w13 from by first | exact hb | exact bundrew hb | exact bun hb | exact bundrew (bun hb) | exact bun (bundrew hb)); have x_13 := Lib.hid (x_12.out.below hB); have y_13 := Lib.hid (y_12.out.below hB); have z_13 := Lib.hid (z_12.out.below hB); have Ka_13 := Lib.hid (Ka_12.out.below hB); have Kb_13 := Lib.hid (Kb_12.out.below hB); have Kc_13 := Lib.hid (Kc_12.out.below hB); have Ko_13 := Lib.hid (Ko_12.out.below hB); have Ki_13 := Lib.hid (Ki_12.out.below hB); have u_13 := Lib.hid (hk); have HB_13 := Lib.hid (below_trans HB_12.out hB); have hs_13 : w.heap.size ≤ w13.heap.size := HB_13.out.size; have hz_13 : w12.heap.size + 0 ≤ w13.heap.size := (by have h := hb.size; (try simp at h); omega); clear hB hb x_12 y_12 z_12 Ka_12 Kb_12 Kc_12 Ko_12 Ki_12 HB_12 p230 p231 p232 p233 l23 p240 p241 p242 p243 l24 p250 p251 p252 p253 l25; obtain ⟨p260, p261, p262, p263, l26⟩ := Ka_13.out.use4; obtain ⟨p270, p271, p272, p273, l27⟩ := Kb_13.out.use4; obtain ⟨p280, p281, p282, p283, l28⟩ := Kc_13.out.use4)
      | (go_at_call 27; have _t := tok4; clear _t tok4; ((with_reducible refine Calls.mono (qmul_is Em'.out (lq HP.out (by first | exact y_13.out | exact y_13.out.drew_ | exact y_13.out.alloc_ _ | exact (y_13.out.alloc_ _).drew_)) (lq HQ.out (by first | exact x_13.out | exact x_13.out.drew_ | exact x_13.out.alloc_ _ | exact (x_13.out.alloc_ _).drew_)) (by omega) (by omega) (by omega) (by omega)) ?_)); rintro e w14 ⟨v, rfl, h, hb⟩; have hk := h; obtain ⟨b14, A14, n14, c14, d14, B14, m14, k14, rfl, -, -, -, -, -⟩ := h.form; clear h; have hB := (show Below w13.heap.size w13 w14 from by first | exact hb | exact bundrew hb | exact bun hb | exact bundrew (bun hb) | exact bun (bundrew hb)); have x_14 := Lib.hid (x_13.out.below hB); have y_14 := Lib.hid (y_13.out.below hB); have z_14 := Lib.hid (z_13.out.below hB); have u_14 := Lib.hid (u_13.out.below hB); have Ka_14 := Lib.hid (Ka_13.out.below hB); have Kb_14 := Lib.hid (Kb_13.out.below hB); have Kc_14 := Lib.hid (Kc_13.out.below hB); have Ko_14 := Lib.hid (Ko_13.out.below hB); have Ki_14 := Lib.hid (Ki_13.out.below hB); have v_14 := Lib.hid (hk); have HB_14 := Lib.hid (below_trans HB_13.out hB); have hs_14 : w.heap.size ≤ w14.heap.size := HB_14.out.size; have hz_14 : w13.heap.size + 0 ≤ w14.heap.size := (by have h := hb.size; (try simp at h); omega); clear hB hb x_13 y_13 z_13 u_13 Ka_13 Kb_13 Kc_13 Ko_13 Ki_13 HB_13 p260 p261 p262 p263 l26 p270 p271 p272 p273 l27 p280 p281 p282 p283 l28; obtain ⟨p290, p291, p292, p293, l29⟩ := Ka_14.out.use4; obtain ⟨p300, p301, p302, p303, l30⟩ := Kb_14.out.use4; obtain ⟨p310, p311, p312, p313, l31⟩ := Kc_14.out.use4)
      | (go_at_call 18; have _t := tok5; clear _t tok5; ((with_reducible refine Calls.mono (rat_same (by first | exact u_14.out | exact u_14.out.drew_ | exact u_14.out.alloc_ _ | exact (u_14.out.alloc_ _).drew_) (by first | exact v_14.out | exact v_14.out.drew_ | exact v_14.out.alloc_ _ | exact (v_14.out.alloc_ _).drew_) Bm.out (by omega)) ?_)); rintro e w15 ⟨rfl, hb⟩; have hB := (show Below w14.heap.size w14 w15 from by first | exact hb | exact bundrew hb | exact bun hb | exact bundrew (bun hb) | exact bun (bundrew hb)); have x_15 := Lib.hid (x_14.out.below hB); have y_15 := Lib.hid (y_14.out.below hB); have z_15 := Lib.hid (z_14.out.below hB); have Ka_15 := Lib.hid (Ka_14.out.below hB); have Kb_15 := Lib.hid (Kb_14.out.below hB); have Kc_15 := Lib.hid (Kc_14.out.below hB); have Ko_15 := Lib.hid (Ko_14.out.below hB); have Ki_15 := Lib.hid (Ki_14.out.below hB); have HB_15 := Lib.hid (below_trans HB_14.out hB); have hs_15 : w.heap.size ≤ w15.heap.size := HB_15.out.size; have hz_15 : w14.heap.size + 0 ≤ w15.heap.size := (by have h := hb.size; (try simp at h); omega); clear hB hb x_14 y_14 z_14 u_14 v_14 Ka_14 Kb_14 Kc_14 Ko_14 Ki_14 HB_14 p290 p291 p292 p293 l29 p300 p301 p302 p303 l30 p310 p311 p312 p313 l31; obtain ⟨p320, p321, p322, p323, l32⟩ := Ka_15.out.use4; obtain ⟨p330, p331, p332, p333, l33⟩ := Kb_15.out.use4; obtain ⟨p340, p341, p342, p343, l34⟩ := Kc_15.out.use4)
      | (go_at_call 23; have _t := tok6; clear _t tok6; ((with_reducible refine Calls.mono (qadd_is Es.out (lq HQ.out (by first | exact x_15.out | exact x_15.out.drew_ | exact x_15.out.alloc_ _ | exact (x_15.out.alloc_ _).drew_)) (lq HP.out (by first | exact y_15.out | exact y_15.out.drew_ | exact y_15.out.alloc_ _ | exact (y_15.out.alloc_ _).drew_)) (by omega) (by omega) (by omega) (by omega)) ?_)); rintro e w16 ⟨v, rfl, h, hb⟩; have hk := h; obtain ⟨b16, A16, n16, c16, d16, B16, m16, k16, rfl, -, -, -, -, -⟩ := h.form; clear h; have hB := (show Below w15.heap.size w15 w16 from by first | exact hb | exact bundrew hb | exact bun hb | exact bundrew (bun hb) | exact bun (bundrew hb)); have x_16 := Lib.hid (x_15.out.below hB); have y_16 := Lib.hid (y_15.out.below hB); have z_16 := Lib.hid (z_15.out.below hB); have Ka_16 := Lib.hid (Ka_15.out.below hB); have Kb_16 := Lib.hid (Kb_15.out.below hB); have Kc_16 := Lib.hid (Kc_15.out.below hB); have Ko_16 := Lib.hid (Ko_15.out.below hB); have Ki_16 := Lib.hid (Ki_15.out.below hB); have u_16 := Lib.hid (hk); have HB_16 := Lib.hid (below_trans HB_15.out hB); have hs_16 : w.heap.size ≤ w16.heap.size := HB_16.out.size; have hz_16 : w15.heap.size + 0 ≤ w16.heap.size := (by have h := hb.size; (try simp at h); omega); clear hB hb x_15 y_15 z_15 Ka_15 Kb_15 Kc_15 Ko_15 Ki_15 HB_15 p320 p321 p322 p323 l32 p330 p331 p332 p333 l33 p340 p341 p342 p343 l34; obtain ⟨p350, p351, p352, p353, l35⟩ := Ka_16.out.use4; obtain ⟨p360, p361, p362, p363, l36⟩ := Kb_16.out.use4; obtain ⟨p370, p371, p372, p373, l37⟩ := Kc_16.out.use4)
      | (go_at_call 23; have _t := tok7; clear _t tok7; ((with_reducible refine Calls.mono (qadd_is Et.out (irq Bs.out (by first | exact u_16.out | exact u_16.out.drew_ | exact u_16.out.alloc_ _ | exact (u_16.out.alloc_ _).drew_)) (lq HR.out (by first | exact z_16.out | exact z_16.out.drew_ | exact z_16.out.alloc_ _ | exact (z_16.out.alloc_ _).drew_)) (by omega) (by omega) (by omega) (by omega)) ?_)); rintro e w17 ⟨v, rfl, h, hb⟩; have hk := h; obtain ⟨b17, A17, n17, c17, d17, B17, m17, k17, rfl, -, -, -, -, -⟩ := h.form; clear h; have hB := (show Below w16.heap.size w16 w17 from by first | exact hb | exact bundrew hb | exact bun hb | exact bundrew (bun hb) | exact bun (bundrew hb)); have x_17 := Lib.hid (x_16.out.below hB); have y_17 := Lib.hid (y_16.out.below hB); have z_17 := Lib.hid (z_16.out.below hB); have Ka_17 := Lib.hid (Ka_16.out.below hB); have Kb_17 := Lib.hid (Kb_16.out.below hB); have Kc_17 := Lib.hid (Kc_16.out.below hB); have Ko_17 := Lib.hid (Ko_16.out.below hB); have Ki_17 := Lib.hid (Ki_16.out.below hB); have v_17 := Lib.hid (hk); have HB_17 := Lib.hid (below_trans HB_16.out hB); have hs_17 : w.heap.size ≤ w17.heap.size := HB_17.out.size; have hz_17 : w16.heap.size + 0 ≤ w17.heap.size := (by have h := hb.size; (try simp at h); omega); clear hB hb x_16 y_16 z_16 u_16 Ka_16 Kb_16 Kc_16 Ko_16 Ki_16 HB_16 p350 p351 p352 p353 l35 p360 p361 p362 p363 l36 p370 p371 p372 p373 l37; obtain ⟨p380, p381, p382, p383, l38⟩ := Ka_17.out.use4; obtain ⟨p390, p391, p392, p393, l39⟩ := Kb_17.out.use4; obtain ⟨p400, p401, p402, p403, l40⟩ := Kc_17.out.use4)
      | (go_at_call 23; have _t := tok8; clear _t tok8; ((with_reducible refine Calls.mono (qadd_is Eu.out (lq HP.out (by first | exact y_17.out | exact y_17.out.drew_ | exact y_17.out.alloc_ _ | exact (y_17.out.alloc_ _).drew_)) (lq HR.out (by first | exact z_17.out | exact z_17.out.drew_ | exact z_17.out.alloc_ _ | exact (z_17.out.alloc_ _).drew_)) (by omega) (by omega) (by omega) (by omega)) ?_)); rintro e w18 ⟨v, rfl, h, hb⟩; have hk := h; obtain ⟨b18, A18, n18, c18, d18, B18, m18, k18, rfl, -, -, -, -, -⟩ := h.form; clear h; have hB := (show Below w17.heap.size w17 w18 from by first | exact hb | exact bundrew hb | exact bun hb | exact bundrew (bun hb) | exact bun (bundrew hb)); have x_18 := Lib.hid (x_17.out.below hB); have y_18 := Lib.hid (y_17.out.below hB); have z_18 := Lib.hid (z_17.out.below hB); have v_18 := Lib.hid (v_17.out.below hB); have Ka_18 := Lib.hid (Ka_17.out.below hB); have Kb_18 := Lib.hid (Kb_17.out.below hB); have Kc_18 := Lib.hid (Kc_17.out.below hB); have Ko_18 := Lib.hid (Ko_17.out.below hB); have Ki_18 := Lib.hid (Ki_17.out.below hB); have u2_18 := Lib.hid (hk); have HB_18 := Lib.hid (below_trans HB_17.out hB); have hs_18 : w.heap.size ≤ w18.heap.size := HB_18.out.size; have hz_18 : w17.heap.size + 0 ≤ w18.heap.size := (by have h := hb.size; (try simp at h); omega); clear hB hb x_17 y_17 z_17 v_17 Ka_17 Kb_17 Kc_17 Ko_17 Ki_17 HB_17 p380 p381 p382 p383 l38 p390 p391 p392 p393 l39 p400 p401 p402 p403 l40; obtain ⟨p410, p411, p412, p413, l41⟩ := Ka_18.out.use4; obtain ⟨p420, p421, p422, p423, l42⟩ := Kb_18.out.use4; obtain ⟨p430, p431, p432, p433, l43⟩ := Kc_18.out.use4)
      | (go_at_call 23; have _t := tok9; clear _t tok9; ((with_reducible refine Calls.mono (qadd_is Et'.out (lq HQ.out (by first | exact x_18.out | exact x_18.out.drew_ | exact x_18.out.alloc_ _ | exact (x_18.out.alloc_ _).drew_)) (irq Bu.out (by first | exact u2_18.out | exact u2_18.out.drew_ | exact u2_18.out.alloc_ _ | exact (u2_18.out.alloc_ _).drew_)) (by omega) (by omega) (by omega) (by omega)) ?_)); rintro e w19 ⟨v, rfl, h, hb⟩; have hk := h; obtain ⟨b19, A19, n19, c19, d19, B19, m19, k19, rfl, -, -, -, -, -⟩ := h.form; clear h; have hB := (show Below w18.heap.size w18 w19 from by first | exact hb | exact bundrew hb | exact bun hb | exact bundrew (bun hb) | exact bun (bundrew hb)); have x_19 := Lib.hid (x_18.out.below hB); have y_19 := Lib.hid (y_18.out.below hB); have z_19 := Lib.hid (z_18.out.below hB); have v_19 := Lib.hid (v_18.out.below hB); have Ka_19 := Lib.hid (Ka_18.out.below hB); have Kb_19 := Lib.hid (Kb_18.out.below hB); have Kc_19 := Lib.hid (Kc_18.out.below hB); have Ko_19 := Lib.hid (Ko_18.out.below hB); have Ki_19 := Lib.hid (Ki_18.out.below hB); have v2_19 := Lib.hid (hk); have HB_19 := Lib.hid (below_trans HB_18.out hB); have hs_19 : w.heap.size ≤ w19.heap.size := HB_19.out.size; have hz_19 : w18.heap.size + 0 ≤ w19.heap.size := (by have h := hb.size; (try simp at h); omega); clear hB hb x_18 y_18 z_18 v_18 u2_18 Ka_18 Kb_18 Kc_18 Ko_18 Ki_18 HB_18 p410 p411 p412 p413 l41 p420 p421 p422 p423 l42 p430 p431 p432 p433 l43; obtain ⟨p440, p441, p442, p443, l44⟩ := Ka_19.out.use4; obtain ⟨p450, p451, p452, p453, l45⟩ := Kb_19.out.use4; obtain ⟨p460, p461, p462, p463, l46⟩ := Kc_19.out.use4)
      | (go_at_call 18; have _t := tok10; clear _t tok10; ((with_reducible refine Calls.mono (rat_same (by first | exact v_19.out | exact v_19.out.drew_ | exact v_19.out.alloc_ _ | exact (v_19.out.alloc_ _).drew_) (by first | exact v2_19.out | exact v2_19.out.drew_ | exact v2_19.out.alloc_ _ | exact (v2_19.out.alloc_ _).drew_) Bt.out (by omega)) ?_)); rintro e w20 ⟨rfl, hb⟩; have hB := (show Below w19.heap.size w19 w20 from by first | exact hb | exact bundrew hb | exact bun hb | exact bundrew (bun hb) | exact bun (bundrew hb)); have x_20 := Lib.hid (x_19.out.below hB); have y_20 := Lib.hid (y_19.out.below hB); have z_20 := Lib.hid (z_19.out.below hB); have Ka_20 := Lib.hid (Ka_19.out.below hB); have Kb_20 := Lib.hid (Kb_19.out.below hB); have Kc_20 := Lib.hid (Kc_19.out.below hB); have Ko_20 := Lib.hid (Ko_19.out.below hB); have Ki_20 := Lib.hid (Ki_19.out.below hB); have HB_20 := Lib.hid (below_trans HB_19.out hB); have hs_20 : w.heap.size ≤ w20.heap.size := HB_20.out.size; have hz_20 : w19.heap.size + 0 ≤ w20.heap.size := (by have h := hb.size; (try simp at h); omega); clear hB hb x_19 y_19 z_19 v_19 v2_19 Ka_19 Kb_19 Kc_19 Ko_19 Ki_19 HB_19 p440 p441 p442 p443 l44 p450 p451 p452 p453 l45 p460 p461 p462 p463 l46; obtain ⟨p470, p471, p472, p473, l47⟩ := Ka_20.out.use4; obtain ⟨p480, p481, p482, p483, l48⟩ := Kb_20.out.use4; obtain ⟨p490, p491, p492, p493, l49⟩ := Kc_20.out.use4)
      | (go_at_call 27; have _t := tok11; clear _t tok11; ((with_reducible refine Calls.mono (qmul_is Em.out (lq HQ.out (by first | exact x_20.out | exact x_20.out.drew_ | exact x_20.out.alloc_ _ | exact (x_20.out.alloc_ _).drew_)) (lq HP.out (by first | exact y_20.out | exact y_20.out.drew_ | exact y_20.out.alloc_ _ | exact (y_20.out.alloc_ _).drew_)) (by omega) (by omega) (by omega) (by omega)) ?_)); rintro e w21 ⟨v, rfl, h, hb⟩; have hk := h; obtain ⟨b21, A21, n21, c21, d21, B21, m21, k21, rfl, -, -, -, -, -⟩ := h.form; clear h; have hB := (show Below w20.heap.size w20 w21 from by first | exact hb | exact bundrew hb | exact bun hb | exact bundrew (bun hb) | exact bun (bundrew hb)); have x_21 := Lib.hid (x_20.out.below hB); have y_21 := Lib.hid (y_20.out.below hB); have z_21 := Lib.hid (z_20.out.below hB); have Ka_21 := Lib.hid (Ka_20.out.below hB); have Kb_21 := Lib.hid (Kb_20.out.below hB); have Kc_21 := Lib.hid (Kc_20.out.below hB); have Ko_21 := Lib.hid (Ko_20.out.below hB); have Ki_21 := Lib.hid (Ki_20.out.below hB); have u_21 := Lib.hid (hk); have HB_21 := Lib.hid (below_trans HB_20.out hB); have hs_21 : w.heap.size ≤ w21.heap.size := HB_21.out.size; have hz_21 : w20.heap.size + 0 ≤ w21.heap.size := (by have h := hb.size; (try simp at h); omega); clear hB hb x_20 y_20 z_20 Ka_20 Kb_20 Kc_20 Ko_20 Ki_20 HB_20 p470 p471 p472 p473 l47 p480 p481 p482 p483 l48 p490 p491 p492 p493 l49; obtain ⟨p500, p501, p502, p503, l50⟩ := Ka_21.out.use4; obtain ⟨p510, p511, p512, p513, l51⟩ := Kb_21.out.use4; obtain ⟨p520, p521, p522, p523, l52⟩ := Kc_21.out.use4)
      | (go_at_call 27; have _t := tok12; clear _t tok12; ((with_reducible refine Calls.mono (qmul_is Ep.out (irq Bm.out (by first | exact u_21.out | exact u_21.out.drew_ | exact u_21.out.alloc_ _ | exact (u_21.out.alloc_ _).drew_)) (lq HR.out (by first | exact z_21.out | exact z_21.out.drew_ | exact z_21.out.alloc_ _ | exact (z_21.out.alloc_ _).drew_)) (by omega) (by omega) (by omega) (by omega)) ?_)); rintro e w22 ⟨v, rfl, h, hb⟩; have hk := h; obtain ⟨b22, A22, n22, c22, d22, B22, m22, k22, rfl, -, -, -, -, -⟩ := h.form; clear h; have hB := (show Below w21.heap.size w21 w22 from by first | exact hb | exact bundrew hb | exact bun hb | exact bundrew (bun hb) | exact bun (bundrew hb)); have x_22 := Lib.hid (x_21.out.below hB); have y_22 := Lib.hid (y_21.out.below hB); have z_22 := Lib.hid (z_21.out.below hB); have Ka_22 := Lib.hid (Ka_21.out.below hB); have Kb_22 := Lib.hid (Kb_21.out.below hB); have Kc_22 := Lib.hid (Kc_21.out.below hB); have Ko_22 := Lib.hid (Ko_21.out.below hB); have Ki_22 := Lib.hid (Ki_21.out.below hB); have v_22 := Lib.hid (hk); have HB_22 := Lib.hid (below_trans HB_21.out hB); have hs_22 : w.heap.size ≤ w22.heap.size := HB_22.out.size; have hz_22 : w21.heap.size + 0 ≤ w22.heap.size := (by have h := hb.size; (try simp at h); omega); clear hB hb x_21 y_21 z_21 u_21 Ka_21 Kb_21 Kc_21 Ko_21 Ki_21 HB_21 p500 p501 p502 p503 l50 p510 p511 p512 p513 l51 p520 p521 p522 p523 l52; obtain ⟨p530, p531, p532, p533, l53⟩ := Ka_22.out.use4; obtain ⟨p540, p541, p542, p543, l54⟩ := Kb_22.out.use4; obtain ⟨p550, p551, p552, p553, l55⟩ := Kc_22.out.use4)
      | (go_at_call 27; have _t := tok13; clear _t tok13; ((with_reducible refine Calls.mono (qmul_is En.out (lq HP.out (by first | exact y_22.out | exact y_22.out.drew_ | exact y_22.out.alloc_ _ | exact (y_22.out.alloc_ _).drew_)) (lq HR.out (by first | exact z_22.out | exact z_22.out.drew_ | exact z_22.out.alloc_ _ | exact (z_22.out.alloc_ _).drew_)) (by omega) (by omega) (by omega) (by omega)) ?_)); rintro e w23 ⟨v, rfl, h, hb⟩; have hk := h; obtain ⟨b23, A23, n23, c23, d23, B23, m23, k23, rfl, -, -, -, -, -⟩ := h.form; clear h; have hB := (show Below w22.heap.size w22 w23 from by first | exact hb | exact bundrew hb | exact bun hb | exact bundrew (bun hb) | exact bun (bundrew hb)); have x_23 := Lib.hid (x_22.out.below hB); have y_23 := Lib.hid (y_22.out.below hB); have z_23 := Lib.hid (z_22.out.below hB); have v_23 := Lib.hid (v_22.out.below hB); have Ka_23 := Lib.hid (Ka_22.out.below hB); have Kb_23 := Lib.hid (Kb_22.out.below hB); have Kc_23 := Lib.hid (Kc_22.out.below hB); have Ko_23 := Lib.hid (Ko_22.out.below hB); have Ki_23 := Lib.hid (Ki_22.out.below hB); have u2_23 := Lib.hid (hk); have HB_23 := Lib.hid (below_trans HB_22.out hB); have hs_23 : w.heap.size ≤ w23.heap.size := HB_23.out.size; have hz_23 : w22.heap.size + 0 ≤ w23.heap.size := (by have h := hb.size; (try simp at h); omega); clear hB hb x_22 y_22 z_22 v_22 Ka_22 Kb_22 Kc_22 Ko_22 Ki_22 HB_22 p530 p531 p532 p533 l53 p540 p541 p542 p543 l54 p550 p551 p552 p553 l55; obtain ⟨p560, p561, p562, p563, l56⟩ := Ka_23.out.use4; obtain ⟨p570, p571, p572, p573, l57⟩ := Kb_23.out.use4; obtain ⟨p580, p581, p582, p583, l58⟩ := Kc_23.out.use4)
      | (go_at_call 27; have _t := tok14; clear _t tok14; ((with_reducible refine Calls.mono (qmul_is Ep'.out (lq HQ.out (by first | exact x_23.out | exact x_23.out.drew_ | exact x_23.out.alloc_ _ | exact (x_23.out.alloc_ _).drew_)) (irq Bn.out (by first | exact u2_23.out | exact u2_23.out.drew_ | exact u2_23.out.alloc_ _ | exact (u2_23.out.alloc_ _).drew_)) (by omega) (by omega) (by omega) (by omega)) ?_)); rintro e w24 ⟨v, rfl, h, hb⟩; have hk := h; obtain ⟨b24, A24, n24, c24, d24, B24, m24, k24, rfl, -, -, -, -, -⟩ := h.form; clear h; have hB := (show Below w23.heap.size w23 w24 from by first | exact hb | exact bundrew hb | exact bun hb | exact bundrew (bun hb) | exact bun (bundrew hb)); have x_24 := Lib.hid (x_23.out.below hB); have y_24 := Lib.hid (y_23.out.below hB); have z_24 := Lib.hid (z_23.out.below hB); have v_24 := Lib.hid (v_23.out.below hB); have Ka_24 := Lib.hid (Ka_23.out.below hB); have Kb_24 := Lib.hid (Kb_23.out.below hB); have Kc_24 := Lib.hid (Kc_23.out.below hB); have Ko_24 := Lib.hid (Ko_23.out.below hB); have Ki_24 := Lib.hid (Ki_23.out.below hB); have v2_24 := Lib.hid (hk); have HB_24 := Lib.hid (below_trans HB_23.out hB); have hs_24 : w.heap.size ≤ w24.heap.size := HB_24.out.size; have hz_24 : w23.heap.size + 0 ≤ w24.heap.size := (by have h := hb.size; (try simp at h); omega); clear hB hb x_23 y_23 z_23 v_23 u2_23 Ka_23 Kb_23 Kc_23 Ko_23 Ki_23 HB_23 p560 p561 p562 p563 l56 p570 p571 p572 p573 l57 p580 p581 p582 p583 l58; obtain ⟨p590, p591, p592, p593, l59⟩ := Ka_24.out.use4; obtain ⟨p600, p601, p602, p603, l60⟩ := Kb_24.out.use4; obtain ⟨p610, p611, p612, p613, l61⟩ := Kc_24.out.use4)
      | (go_at_call 18; have _t := tok15; clear _t tok15; ((with_reducible refine Calls.mono (rat_same (by first | exact v_24.out | exact v_24.out.drew_ | exact v_24.out.alloc_ _ | exact (v_24.out.alloc_ _).drew_) (by first | exact v2_24.out | exact v2_24.out.drew_ | exact v2_24.out.alloc_ _ | exact (v2_24.out.alloc_ _).drew_) Bp.out (by omega)) ?_)); rintro e w25 ⟨rfl, hb⟩; have hB := (show Below w24.heap.size w24 w25 from by first | exact hb | exact bundrew hb | exact bun hb | exact bundrew (bun hb) | exact bun (bundrew hb)); have x_25 := Lib.hid (x_24.out.below hB); have y_25 := Lib.hid (y_24.out.below hB); have z_25 := Lib.hid (z_24.out.below hB); have Ka_25 := Lib.hid (Ka_24.out.below hB); have Kb_25 := Lib.hid (Kb_24.out.below hB); have Kc_25 := Lib.hid (Kc_24.out.below hB); have Ko_25 := Lib.hid (Ko_24.out.below hB); have Ki_25 := Lib.hid (Ki_24.out.below hB); have HB_25 := Lib.hid (below_trans HB_24.out hB); have hs_25 : w.heap.size ≤ w25.heap.size := HB_25.out.size; have hz_25 : w24.heap.size + 0 ≤ w25.heap.size := (by have h := hb.size; (try simp at h); omega); clear hB hb x_24 y_24 z_24 v_24 v2_24 Ka_24 Kb_24 Kc_24 Ko_24 Ki_24 HB_24 p590 p591 p592 p593 l59 p600 p601 p602 p603 l60 p610 p611 p612 p613 l61; obtain ⟨p620, p621, p622, p623, l62⟩ := Ka_25.out.use4; obtain ⟨p630, p631, p632, p633, l63⟩ := Kb_25.out.use4; obtain ⟨p640, p641, p642, p643, l64⟩ := Kc_25.out.use4)
      | (go_at_call 23; have _t := tok16; clear _t tok16; ((with_reducible refine Calls.mono (qadd_is Eu.out (lq HP.out (by first | exact y_25.out | exact y_25.out.drew_ | exact y_25.out.alloc_ _ | exact (y_25.out.alloc_ _).drew_)) (lq HR.out (by first | exact z_25.out | exact z_25.out.drew_ | exact z_25.out.alloc_ _ | exact (z_25.out.alloc_ _).drew_)) (by omega) (by omega) (by omega) (by omega)) ?_)); rintro e w26 ⟨v, rfl, h, hb⟩; have hk := h; obtain ⟨b26, A26, n26, c26, d26, B26, m26, k26, rfl, -, -, -, -, -⟩ := h.form; clear h; have hB := (show Below w25.heap.size w25 w26 from by first | exact hb | exact bundrew hb | exact bun hb | exact bundrew (bun hb) | exact bun (bundrew hb)); have x_26 := Lib.hid (x_25.out.below hB); have y_26 := Lib.hid (y_25.out.below hB); have z_26 := Lib.hid (z_25.out.below hB); have Ka_26 := Lib.hid (Ka_25.out.below hB); have Kb_26 := Lib.hid (Kb_25.out.below hB); have Kc_26 := Lib.hid (Kc_25.out.below hB); have Ko_26 := Lib.hid (Ko_25.out.below hB); have Ki_26 := Lib.hid (Ki_25.out.below hB); have u_26 := Lib.hid (hk); have HB_26 := Lib.hid (below_trans HB_25.out hB); have hs_26 : w.heap.size ≤ w26.heap.size := HB_26.out.size; have hz_26 : w25.heap.size + 0 ≤ w26.heap.size := (by have h := hb.size; (try simp at h); omega); clear hB hb x_25 y_25 z_25 Ka_25 Kb_25 Kc_25 Ko_25 Ki_25 HB_25 p620 p621 p622 p623 l62 p630 p631 p632 p633 l63 p640 p641 p642 p643 l64; obtain ⟨p650, p651, p652, p653, l65⟩ := Ka_26.out.use4; obtain ⟨p660, p661, p662, p663, l66⟩ := Kb_26.out.use4; obtain ⟨p670, p671, p672, p673, l67⟩ := Kc_26.out.use4)
      | (go_at_call 27; have _t := tok17; clear _t tok17; ((with_reducible refine Calls.mono (qmul_is Ed.out (lq HQ.out (by first | exact x_26.out | exact x_26.out.drew_ | exact x_26.out.alloc_ _ | exact (x_26.out.alloc_ _).drew_)) (irq Bu.out (by first | exact u_26.out | exact u_26.out.drew_ | exact u_26.out.alloc_ _ | exact (u_26.out.alloc_ _).drew_)) (by omega) (by omega) (by omega) (by omega)) ?_)); rintro e w27 ⟨v, rfl, h, hb⟩; have hk := h; obtain ⟨b27, A27, n27, c27, d27, B27, m27, k27, rfl, -, -, -, -, -⟩ := h.form; clear h; have hB := (show Below w26.heap.size w26 w27 from by first | exact hb | exact bundrew hb | exact bun hb | exact bundrew (bun hb) | exact bun (bundrew hb)); have x_27 := Lib.hid (x_26.out.below hB); have y_27 := Lib.hid (y_26.out.below hB); have z_27 := Lib.hid (z_26.out.below hB); have Ka_27 := Lib.hid (Ka_26.out.below hB); have Kb_27 := Lib.hid (Kb_26.out.below hB); have Kc_27 := Lib.hid (Kc_26.out.below hB); have Ko_27 := Lib.hid (Ko_26.out.below hB); have Ki_27 := Lib.hid (Ki_26.out.below hB); have v_27 := Lib.hid (hk); have HB_27 := Lib.hid (below_trans HB_26.out hB); have hs_27 : w.heap.size ≤ w27.heap.size := HB_27.out.size; have hz_27 : w26.heap.size + 0 ≤ w27.heap.size := (by have h := hb.size; (try simp at h); omega); clear hB hb x_26 y_26 z_26 u_26 Ka_26 Kb_26 Kc_26 Ko_26 Ki_26 HB_26 p650 p651 p652 p653 l65 p660 p661 p662 p663 l66 p670 p671 p672 p673 l67; obtain ⟨p680, p681, p682, p683, l68⟩ := Ka_27.out.use4; obtain ⟨p690, p691, p692, p693, l69⟩ := Kb_27.out.use4; obtain ⟨p700, p701, p702, p703, l70⟩ := Kc_27.out.use4)
      | (go_at_call 27; have _t := tok18; clear _t tok18; ((with_reducible refine Calls.mono (qmul_is Em.out (lq HQ.out (by first | exact x_27.out | exact x_27.out.drew_ | exact x_27.out.alloc_ _ | exact (x_27.out.alloc_ _).drew_)) (lq HP.out (by first | exact y_27.out | exact y_27.out.drew_ | exact y_27.out.alloc_ _ | exact (y_27.out.alloc_ _).drew_)) (by omega) (by omega) (by omega) (by omega)) ?_)); rintro e w28 ⟨v, rfl, h, hb⟩; have hk := h; obtain ⟨b28, A28, n28, c28, d28, B28, m28, k28, rfl, -, -, -, -, -⟩ := h.form; clear h; have hB := (show Below w27.heap.size w27 w28 from by first | exact hb | exact bundrew hb | exact bun hb | exact bundrew (bun hb) | exact bun (bundrew hb)); have x_28 := Lib.hid (x_27.out.below hB); have y_28 := Lib.hid (y_27.out.below hB); have z_28 := Lib.hid (z_27.out.below hB); have v_28 := Lib.hid (v_27.out.below hB); have Ka_28 := Lib.hid (Ka_27.out.below hB); have Kb_28 := Lib.hid (Kb_27.out.below hB); have Kc_28 := Lib.hid (Kc_27.out.below hB); have Ko_28 := Lib.hid (Ko_27.out.below hB); have Ki_28 := Lib.hid (Ki_27.out.below hB); have u2_28 := Lib.hid (hk); have HB_28 := Lib.hid (below_trans HB_27.out hB); have hs_28 : w.heap.size ≤ w28.heap.size := HB_28.out.size; have hz_28 : w27.heap.size + 0 ≤ w28.heap.size := (by have h := hb.size; (try simp at h); omega); clear hB hb x_27 y_27 z_27 v_27 Ka_27 Kb_27 Kc_27 Ko_27 Ki_27 HB_27 p680 p681 p682 p683 l68 p690 p691 p692 p693 l69 p700 p701 p702 p703 l70; obtain ⟨p710, p711, p712, p713, l71⟩ := Ka_28.out.use4; obtain ⟨p720, p721, p722, p723, l72⟩ := Kb_28.out.use4; obtain ⟨p730, p731, p732, p733, l73⟩ := Kc_28.out.use4)
      | (go_at_call 27; have _t := tok19; clear _t tok19; ((with_reducible refine Calls.mono (qmul_is Eo.out (lq HQ.out (by first | exact x_28.out | exact x_28.out.drew_ | exact x_28.out.alloc_ _ | exact (x_28.out.alloc_ _).drew_)) (lq HR.out (by first | exact z_28.out | exact z_28.out.drew_ | exact z_28.out.alloc_ _ | exact (z_28.out.alloc_ _).drew_)) (by omega) (by omega) (by omega) (by omega)) ?_)); rintro e w29 ⟨v, rfl, h, hb⟩; have hk := h; obtain ⟨b29, A29, n29, c29, d29, B29, m29, k29, rfl, -, -, -, -, -⟩ := h.form; clear h; have hB := (show Below w28.heap.size w28 w29 from by first | exact hb | exact bundrew hb | exact bun hb | exact bundrew (bun hb) | exact bun (bundrew hb)); have x_29 := Lib.hid (x_28.out.below hB); have y_29 := Lib.hid (y_28.out.below hB); have z_29 := Lib.hid (z_28.out.below hB); have v_29 := Lib.hid (v_28.out.below hB); have u2_29 := Lib.hid (u2_28.out.below hB); have Ka_29 := Lib.hid (Ka_28.out.below hB); have Kb_29 := Lib.hid (Kb_28.out.below hB); have Kc_29 := Lib.hid (Kc_28.out.below hB); have Ko_29 := Lib.hid (Ko_28.out.below hB); have Ki_29 := Lib.hid (Ki_28.out.below hB); have u3_29 := Lib.hid (hk); have HB_29 := Lib.hid (below_trans HB_28.out hB); have hs_29 : w.heap.size ≤ w29.heap.size := HB_29.out.size; have hz_29 : w28.heap.size + 0 ≤ w29.heap.size := (by have h := hb.size; (try simp at h); omega); clear hB hb x_28 y_28 z_28 v_28 u2_28 Ka_28 Kb_28 Kc_28 Ko_28 Ki_28 HB_28 p710 p711 p712 p713 l71 p720 p721 p722 p723 l72 p730 p731 p732 p733 l73; obtain ⟨p740, p741, p742, p743, l74⟩ := Ka_29.out.use4; obtain ⟨p750, p751, p752, p753, l75⟩ := Kb_29.out.use4; obtain ⟨p760, p761, p762, p763, l76⟩ := Kc_29.out.use4)
      | (go_at_call 23; have _t := tok20; clear _t tok20; ((with_reducible refine Calls.mono (qadd_is Ed'.out (irq Bm.out (by first | exact u2_29.out | exact u2_29.out.drew_ | exact u2_29.out.alloc_ _ | exact (u2_29.out.alloc_ _).drew_)) (irq Bo.out (by first | exact u3_29.out | exact u3_29.out.drew_ | exact u3_29.out.alloc_ _ | exact (u3_29.out.alloc_ _).drew_)) (by omega) (by omega) (by omega) (by omega)) ?_)); rintro e w30 ⟨v, rfl, h, hb⟩; have hk := h; obtain ⟨b30, A30, n30, c30, d30, B30, m30, k30, rfl, -, -, -, -, -⟩ := h.form; clear h; have hB := (show Below w29.heap.size w29 w30 from by first | exact hb | exact bundrew hb | exact bun hb | exact bundrew (bun hb) | exact bun (bundrew hb)); have x_30 := Lib.hid (x_29.out.below hB); have y_30 := Lib.hid (y_29.out.below hB); have z_30 := Lib.hid (z_29.out.below hB); have v_30 := Lib.hid (v_29.out.below hB); have Ka_30 := Lib.hid (Ka_29.out.below hB); have Kb_30 := Lib.hid (Kb_29.out.below hB); have Kc_30 := Lib.hid (Kc_29.out.below hB); have Ko_30 := Lib.hid (Ko_29.out.below hB); have Ki_30 := Lib.hid (Ki_29.out.below hB); have v2_30 := Lib.hid (hk); have HB_30 := Lib.hid (below_trans HB_29.out hB); have hs_30 : w.heap.size ≤ w30.heap.size := HB_30.out.size; have hz_30 : w29.heap.size + 0 ≤ w30.heap.size := (by have h := hb.size; (try simp at h); omega); clear hB hb x_29 y_29 z_29 v_29 u2_29 u3_29 Ka_29 Kb_29 Kc_29 Ko_29 Ki_29 HB_29 p740 p741 p742 p743 l74 p750 p751 p752 p753 l75 p760 p761 p762 p763 l76; obtain ⟨p770, p771, p772, p773, l77⟩ := Ka_30.out.use4; obtain ⟨p780, p781, p782, p783, l78⟩ := Kb_30.out.use4; obtain ⟨p790, p791, p792, p793, l79⟩ := Kc_30.out.use4)
      | (go_at_call 18; have _t := tok21; clear _t tok21; ((with_reducible refine Calls.mono (rat_same (by first | exact v_30.out | exact v_30.out.drew_ | exact v_30.out.alloc_ _ | exact (v_30.out.alloc_ _).drew_) (by first | exact v2_30.out | exact v2_30.out.drew_ | exact v2_30.out.alloc_ _ | exact (v2_30.out.alloc_ _).drew_) Bd.out (by omega)) ?_)); rintro e w31 ⟨rfl, hb⟩; have hB := (show Below w30.heap.size w30 w31 from by first | exact hb | exact bundrew hb | exact bun hb | exact bundrew (bun hb) | exact bun (bundrew hb)); have x_31 := Lib.hid (x_30.out.below hB); have y_31 := Lib.hid (y_30.out.below hB); have z_31 := Lib.hid (z_30.out.below hB); have Ka_31 := Lib.hid (Ka_30.out.below hB); have Kb_31 := Lib.hid (Kb_30.out.below hB); have Kc_31 := Lib.hid (Kc_30.out.below hB); have Ko_31 := Lib.hid (Ko_30.out.below hB); have Ki_31 := Lib.hid (Ki_30.out.below hB); have HB_31 := Lib.hid (below_trans HB_30.out hB); have hs_31 : w.heap.size ≤ w31.heap.size := HB_31.out.size; have hz_31 : w30.heap.size + 0 ≤ w31.heap.size := (by have h := hb.size; (try simp at h); omega); clear hB hb x_30 y_30 z_30 v_30 v2_30 Ka_30 Kb_30 Kc_30 Ko_30 Ki_30 HB_30 p770 p771 p772 p773 l77 p780 p781 p782 p783 l78 p790 p791 p792 p793 l79; obtain ⟨p800, p801, p802, p803, l80⟩ := Ka_31.out.use4; obtain ⟨p810, p811, p812, p813, l81⟩ := Kb_31.out.use4; obtain ⟨p820, p821, p822, p823, l82⟩ := Kc_31.out.use4))
  go_wp2
  go_ret
  exact ⟨by simp, HB_31.out⟩

set_option maxRecDepth 100000 in
set_option maxHeartbeats 16000000 in
theorem field_yes0 (b00 : Bool) (a00 : Option Addr) (n00 c00 : Nat) (e00 : Bool) (g00 : Option Addr) (m00 k00 : Nat) (b01 : Bool) (a01 : Option Addr) (n01 c01 : Nat) (e01 : Bool) (g01 : Option Addr) (m01 k01 : Nat) (b02 : Bool) (a02 : Option Addr) (n02 c02 : Nat) (e02 : Bool) (g02 : Option Addr) (m02 k02 : Nat) (w : World) (X Y X' Y' X'' Y'' : Int) (hx : LimR 4 w (.agg #[.bool b00, .slice a00 n00 c00, .bool e00, .slice g00 m00 k00]) X Y) (hy : LimR 4 w (.agg #[.bool b01, .slice a01 n01 c01, .bool e01, .slice g01 m01 k01]) X' Y') (hz : LimR 4 w (.agg #[.bool b02, .slice a02 n02 c02, .bool e02, .slice g02 m02 k02]) X'' Y'') (h0 : (decide (n00 ≤ 4) && decide (m00 ≤ 4)) = true) (h1 : (decide (n01 ≤ 4) && decide (m01 ≤ 4)) = true) (h2 : (decide (n02 ≤ 4) && decide (m02 ≤ 4)) = true) (hd : decide (ratOf X Y ≠ 0) = false) :
    Calls Tryz.prog 6 #[(.agg #[.bool b00, .slice a00 n00 c00, .bool e00, .slice g00 m00 k00]), (.agg #[.bool b01, .slice a01 n01 c01, .bool e01, .slice g01 m01 k01]), (.agg #[.bool b02, .slice a02 n02 c02, .bool e02, .slice g02 m02 k02])] w fun e w' => e = .returned (.bool true) ∧ Below w.heap.size w w' := by
  have F0 := Lib.hid h0
  have F1 := Lib.hid h1
  have F2 := Lib.hid h2
  obtain ⟨x, hq⟩ : ∃ q, q = ratOf X Y := ⟨_, rfl⟩
  obtain ⟨y, hp⟩ : ∃ q, q = ratOf X' Y' := ⟨_, rfl⟩
  obtain ⟨z, hr⟩ : ∃ q, q = ratOf X'' Y'' := ⟨_, rfl⟩
  rw [← hq] at hd
  have BX := Lib.hid ((lq hq hx).bq (by omega))
  have BY := Lib.hid ((lq hp hy).bq (by omega))
  have BZ := Lib.hid ((lq hr hz).bq (by omega))
  have BO : Hid (BQ 1 (1 : Rat)) := bq_chk (by decide)
  obtain ⟨s, es⟩ : ∃ s, x + y = s := ⟨_, rfl⟩
  obtain ⟨u, eu⟩ : ∃ s, y + z = s := ⟨_, rfl⟩
  obtain ⟨m, em⟩ : ∃ s, x * y = s := ⟨_, rfl⟩
  obtain ⟨n, en⟩ : ∃ s, y * z = s := ⟨_, rfl⟩
  obtain ⟨o, eo⟩ : ∃ s, x * z = s := ⟨_, rfl⟩
  obtain ⟨t, et⟩ : ∃ t, s + z = t := ⟨_, rfl⟩
  obtain ⟨p, ep⟩ : ∃ t, m * z = t := ⟨_, rfl⟩
  obtain ⟨d, ed⟩ : ∃ t, x * u = t := ⟨_, rfl⟩
  obtain ⟨i, ei⟩ : ∃ i, 1 / x = i := ⟨_, rfl⟩
  have Es := Lib.hid es
  have Es' : Hid (y + x = s) := by show _ = _; rw [← es]; grind
  have Eu := Lib.hid eu
  have Em := Lib.hid em
  have Em' : Hid (y * x = m) := by show _ = _; rw [← em]; grind
  have En := Lib.hid en
  have Eo := Lib.hid eo
  have Et := Lib.hid et
  have Et' : Hid (x + u = t) := by show _ = _; rw [← et, ← es, ← eu]; grind
  have Ep := Lib.hid ep
  have Ep' : Hid (x * n = p) := by show _ = _; rw [← ep, ← em, ← en]; grind
  have Ed := Lib.hid ed
  have Ed' : Hid (m + o = d) := by show _ = _; rw [← ed, ← em, ← eo, ← eu]; grind
  have Bs := Lib.hid (es ▸ bq_add BX.out BY.out)
  have Bu := Lib.hid (eu ▸ bq_add BY.out BZ.out)
  have Bm := Lib.hid (em ▸ bq_mul BX.out BY.out)
  have Bn := Lib.hid (en ▸ bq_mul BY.out BZ.out)
  have Bo := Lib.hid (eo ▸ bq_mul BX.out BZ.out)
  have Bt := Lib.hid (et ▸ bq_add Bs.out BZ.out)
  have Bp := Lib.hid (ep ▸ bq_mul Bm.out BZ.out)
  have Bd := Lib.hid (ed ▸ bq_mul BX.out Bu.out)
  have HI := Lib.hid ei
  have HQ := Lib.hid hq
  have HP := Lib.hid hp
  have HR := Lib.hid hr
  have HD := Lib.hid hd
  have x_0 := Lib.hid hx
  have y_0 := Lib.hid hy
  have z_0 := Lib.hid hz
  clear h0 h1 h2 hq hp hr hd hx hy hz es eu em en eo et ep ed ei
  go_enter Tryz.func6, Tryz.ntmps6
  go_wp2_with fail
  refine Calls.mono (awake3 _) ?_
  rintro e w1 ⟨rfl, hb⟩
  have hB := bun (bun (bun (hb)))
  have x_1 := Lib.hid (x_0.out.below hB)
  have y_1 := Lib.hid (y_0.out.below hB)
  have z_1 := Lib.hid (z_0.out.below hB)
  have Ka_1 := Lib.hid (show Blk w1 (w.heap.size) 26 #[.bool b00, .slice a00 n00 c00, .bool e00, .slice g00 m00 k00] from (((Blk.new _ _ (by simp) _ _).alloc_ _).alloc_ _).below hb)
  have Kb_1 := Lib.hid (show Blk w1 (w.heap.size + 1) 26 #[.bool b01, .slice a01 n01 c01, .bool e01, .slice g01 m01 k01] from ((Blk.new _ _ (by simp) _ _).alloc_ _).below hb)
  have Kc_1 := Lib.hid (show Blk w1 (w.heap.size + 1 + 1) 26 #[.bool b02, .slice a02 n02 c02, .bool e02, .slice g02 m02 k02] from (Blk.new _ _ (by simp) _ _).below hb)
  have HB_1 := Lib.hid (hB)
  have hs_1 : w.heap.size ≤ w1.heap.size := HB_1.out.size
  have hz_1 : w.heap.size + 3 ≤ w1.heap.size := (by have h := hb.size; (try simp at h); omega)
  clear hB hb x_0 y_0 z_0
  obtain ⟨p10, p11, p12, p13, l1⟩ := Ka_1.out.use4
  go_wp2_with fail
  refine Calls.mono (few_is _ _ _ _ _ _ _ _ _ true F0.out) ?_
  rintro e w2 ⟨rfl, hb⟩
  have hB := hb
  have x_2 := Lib.hid (x_1.out.below hB)
  have y_2 := Lib.hid (y_1.out.below hB)
  have z_2 := Lib.hid (z_1.out.below hB)
  have Ka_2 := Lib.hid (Ka_1.out.below hB)
  have Kb_2 := Lib.hid (Kb_1.out.below hB)
  have Kc_2 := Lib.hid (Kc_1.out.below hB)
  have HB_2 := Lib.hid (below_trans HB_1.out hB)
  have hs_2 : w.heap.size ≤ w2.heap.size := HB_2.out.size
  have hz_2 : w1.heap.size + 0 ≤ w2.heap.size := (by have h := hb.size; (try simp at h); omega)
  clear hB hb x_1 y_1 z_1 Ka_1 Kb_1 Kc_1 HB_1 p10 p11 p12 p13 l1
  obtain ⟨p20, p21, p22, p23, l2⟩ := Kb_2.out.use4
  go_wp2_with fail
  refine Calls.mono (few_is _ _ _ _ _ _ _ _ _ true F1.out) ?_
  rintro e w3 ⟨rfl, hb⟩
  have hB := hb
  have x_3 := Lib.hid (x_2.out.below hB)
  have y_3 := Lib.hid (y_2.out.below hB)
  have z_3 := Lib.hid (z_2.out.below hB)
  have Ka_3 := Lib.hid (Ka_2.out.below hB)
  have Kb_3 := Lib.hid (Kb_2.out.below hB)
  have Kc_3 := Lib.hid (Kc_2.out.below hB)
  have HB_3 := Lib.hid (below_trans HB_2.out hB)
  have hs_3 : w.heap.size ≤ w3.heap.size := HB_3.out.size
  have hz_3 : w2.heap.size + 0 ≤ w3.heap.size := (by have h := hb.size; (try simp at h); omega)
  clear hB hb x_2 y_2 z_2 Ka_2 Kb_2 Kc_2 HB_2 p20 p21 p22 p23 l2
  obtain ⟨p30, p31, p32, p33, l3⟩ := Kc_3.out.use4
  go_wp2_with fail
  refine Calls.mono (few_is _ _ _ _ _ _ _ _ _ true F2.out) ?_
  rintro e w4 ⟨rfl, hb⟩
  have hB := hb
  have x_4 := Lib.hid (x_3.out.below hB)
  have y_4 := Lib.hid (y_3.out.below hB)
  have z_4 := Lib.hid (z_3.out.below hB)
  have Ka_4 := Lib.hid (Ka_3.out.below hB)
  have Kb_4 := Lib.hid (Kb_3.out.below hB)
  have Kc_4 := Lib.hid (Kc_3.out.below hB)
  have HB_4 := Lib.hid (below_trans HB_3.out hB)
  have hs_4 : w.heap.size ≤ w4.heap.size := HB_4.out.size
  have hz_4 : w3.heap.size + 0 ≤ w4.heap.size := (by have h := hb.size; (try simp at h); omega)
  clear hB hb x_3 y_3 z_3 Ka_3 Kb_3 Kc_3 HB_3 p30 p31 p32 p33 l3
  go_wp2_with fail
  refine Calls.mono (of_one _) ?_
  rintro e w5 ⟨v, rfl, h, hb⟩
  have hk := h
  obtain ⟨b5, A5, n5, c5, d5, B5, m5, k5, rfl, -, -, -, -, -⟩ := h.form
  clear h
  have hB := hb
  have x_5 := Lib.hid (x_4.out.below hB)
  have y_5 := Lib.hid (y_4.out.below hB)
  have z_5 := Lib.hid (z_4.out.below hB)
  have Ka_5 := Lib.hid (Ka_4.out.below hB)
  have Kb_5 := Lib.hid (Kb_4.out.below hB)
  have Kc_5 := Lib.hid (Kc_4.out.below hB)
  have one_5 := Lib.hid (hk)
  have HB_5 := Lib.hid (below_trans HB_4.out hB)
  have hs_5 : w.heap.size ≤ w5.heap.size := HB_5.out.size
  have hz_5 : w4.heap.size + 0 ≤ w5.heap.size := (by have h := hb.size; (try simp at h); omega)
  clear hB hb x_4 y_4 z_4 Ka_4 Kb_4 Kc_4 HB_4
  obtain ⟨p40, p41, p42, p43, l4⟩ := Ka_5.out.use4
  go_wp2_with fail
  refine Calls.mono (qdiv_is HD.out (irq BO.out (one_5.out.alloc_ _)) (lq HQ.out (x_5.out.alloc_ _)) (by omega) (by omega) (by omega) (by omega)) ?_
  rintro e w6 ⟨v, rfl, h, hb⟩
  rw [HI.out] at h
  have hk := h
  obtain ⟨b6, A6, n6, c6, d6, B6, m6, k6, rfl, -, -, -, -, -⟩ := h.form
  clear h
  have hB := bun (hb)
  have x_6 := Lib.hid (x_5.out.below hB)
  have y_6 := Lib.hid (y_5.out.below hB)
  have z_6 := Lib.hid (z_5.out.below hB)
  have one_6 := Lib.hid (one_5.out.below hB)
  have Ka_6 := Lib.hid (Ka_5.out.below hB)
  have Kb_6 := Lib.hid (Kb_5.out.below hB)
  have Kc_6 := Lib.hid (Kc_5.out.below hB)
  have Ko_6 := Lib.hid (show Blk w6 (w5.heap.size) 26 #[.bool b5, .slice A5 n5 c5, .bool d5, .slice B5 m5 k5] from (Blk.new _ _ (by simp) _ _).below hb)
  have inv_6 := Lib.hid (hk)
  have HB_6 := Lib.hid (below_trans HB_5.out hB)
  have hs_6 : w.heap.size ≤ w6.heap.size := HB_6.out.size
  have hz_6 : w5.heap.size + 1 ≤ w6.heap.size := (by have h := hb.size; (try simp at h); omega)
  clear hB hb x_5 y_5 z_5 one_5 Ka_5 Kb_5 Kc_5 HB_5 p40 p41 p42 p43 l4
  go_wp2
  generalize hW : (w6.alloc (.cells #[.bool b6, .slice A6 n6 c6, .bool d6, .slice B6 m6 k6] 26)) = w7
  have x_7 := Lib.hid (hW ▸ (x_6.out.alloc_ _))
  have y_7 := Lib.hid (hW ▸ (y_6.out.alloc_ _))
  have z_7 := Lib.hid (hW ▸ (z_6.out.alloc_ _))
  have one_7 := Lib.hid (hW ▸ (one_6.out.alloc_ _))
  have inv_7 := Lib.hid (hW ▸ (inv_6.out.alloc_ _))
  have Ka_7 := Lib.hid (show Blk w7 (w.heap.size) 26 #[.bool b00, .slice a00 n00 c00, .bool e00, .slice g00 m00 k00] from by rw [← hW]; exact (Ka_6.out.alloc_ _))
  have Kb_7 := Lib.hid (show Blk w7 (w.heap.size + 1) 26 #[.bool b01, .slice a01 n01 c01, .bool e01, .slice g01 m01 k01] from by rw [← hW]; exact (Kb_6.out.alloc_ _))
  have Kc_7 := Lib.hid (show Blk w7 (w.heap.size + 1 + 1) 26 #[.bool b02, .slice a02 n02 c02, .bool e02, .slice g02 m02 k02] from by rw [← hW]; exact (Kc_6.out.alloc_ _))
  have Ko_7 := Lib.hid (show Blk w7 (w5.heap.size) 26 #[.bool b5, .slice A5 n5 c5, .bool d5, .slice B5 m5 k5] from by rw [← hW]; exact (Ko_6.out.alloc_ _))
  have Ki_7 := Lib.hid (show Blk w7 (w6.heap.size) 26 #[.bool b6, .slice A6 n6 c6, .bool d6, .slice B6 m6 k6] from by rw [← hW]; exact Blk.new _ _ (by simp) _ _)
  have HB_7 := Lib.hid (show Below w.heap.size w w7 from by rw [← hW]; exact halloc (HB_6.out))
  have hs_7 : w.heap.size ≤ w7.heap.size := HB_7.out.size
  have hz_7 : w6.heap.size + 1 ≤ w7.heap.size := by rw [← hW]; simp
  clear hW x_6 y_6 z_6 one_6 inv_6 Ka_6 Kb_6 Kc_6 Ko_6 HB_6
  go_region
  go_wp2
  generalize hW : w7.drew = w8
  have x_8 := Lib.hid (hW ▸ x_7.out.drew_)
  have y_8 := Lib.hid (hW ▸ y_7.out.drew_)
  have z_8 := Lib.hid (hW ▸ z_7.out.drew_)
  have one_8 := Lib.hid (hW ▸ one_7.out.drew_)
  have inv_8 := Lib.hid (hW ▸ inv_7.out.drew_)
  have Ka_8 := Lib.hid (show Blk w8 (w.heap.size) 26 #[.bool b00, .slice a00 n00 c00, .bool e00, .slice g00 m00 k00] from by rw [← hW]; exact Ka_7.out.drew_)
  have Kb_8 := Lib.hid (show Blk w8 (w.heap.size + 1) 26 #[.bool b01, .slice a01 n01 c01, .bool e01, .slice g01 m01 k01] from by rw [← hW]; exact Kb_7.out.drew_)
  have Kc_8 := Lib.hid (show Blk w8 (w.heap.size + 1 + 1) 26 #[.bool b02, .slice a02 n02 c02, .bool e02, .slice g02 m02 k02] from by rw [← hW]; exact Kc_7.out.drew_)
  have Ko_8 := Lib.hid (show Blk w8 (w5.heap.size) 26 #[.bool b5, .slice A5 n5 c5, .bool d5, .slice B5 m5 k5] from by rw [← hW]; exact Ko_7.out.drew_)
  have Ki_8 := Lib.hid (show Blk w8 (w6.heap.size) 26 #[.bool b6, .slice A6 n6 c6, .bool d6, .slice B6 m6 k6] from by rw [← hW]; exact Ki_7.out.drew_)
  have HB_8 := Lib.hid (show Below w.heap.size w w8 from by rw [← hW]; exact HB_7.out.drew)
  have hs_8 : w.heap.size ≤ w8.heap.size := HB_8.out.size
  have hz_8 : w7.heap.size ≤ w8.heap.size := by rw [← hW]; simp
  clear hW x_7 y_7 z_7 one_7 inv_7 Ka_7 Kb_7 Kc_7 Ko_7 Ki_7 HB_7
  obtain ⟨p50, p51, p52, p53, l5⟩ := Ka_8.out.use4
  obtain ⟨p60, p61, p62, p63, l6⟩ := Kb_8.out.use4
  obtain ⟨p70, p71, p72, p73, l7⟩ := Kc_8.out.use4
  have tok0 : True := trivial
  have tok1 : True := trivial
  have tok2 : True := trivial
  have tok3 : True := trivial
  have tok4 : True := trivial
  have tok5 : True := trivial
  have tok6 : True := trivial
  have tok7 : True := trivial
  have tok8 : True := trivial
  have tok9 : True := trivial
  have tok10 : True := trivial
  have tok11 : True := trivial
  have tok12 : True := trivial
  have tok13 : True := trivial
  have tok14 : True := trivial
  have tok15 : True := trivial
  have tok16 : True := trivial
  have tok17 : True := trivial
  have tok18 : True := trivial
  have tok19 : True := trivial
  have tok20 : True := trivial
  have tok21 : True := trivial
  go_region_held3 (fun w' => w'.cell? ⟨w.heap.size, 0, none⟩ = some (.bool b00) ∧ w'.cell? ⟨w.heap.size, 1, none⟩ = some (.slice a00 n00 c00) ∧ w'.cell? ⟨w.heap.size, 2, none⟩ = some (.bool e00) ∧ w'.cell? ⟨w.heap.size, 3, none⟩ = some (.slice g00 m00 k00) ∧ w'.cell? ⟨w.heap.size + 1, 0, none⟩ = some (.bool b01) ∧ w'.cell? ⟨w.heap.size + 1, 1, none⟩ = some (.slice a01 n01 c01) ∧ w'.cell? ⟨w.heap.size + 1, 2, none⟩ = some (.bool e01) ∧ w'.cell? ⟨w.heap.size + 1, 3, none⟩ = some (.slice g01 m01 k01) ∧ w'.cell? ⟨w.heap.size + 1 + 1, 0, none⟩ = some (.bool b02) ∧ w'.cell? ⟨w.heap.size + 1 + 1, 1, none⟩ = some (.slice a02 n02 c02) ∧ w'.cell? ⟨w.heap.size + 1 + 1, 2, none⟩ = some (.bool e02) ∧ w'.cell? ⟨w.heap.size + 1 + 1, 3, none⟩ = some (.slice g02 m02 k02)) (first | (refine ⟨?_, ?_, ?_, ?_, ?_, ?_, ?_, ?_, ?_, ?_, ?_, ?_⟩ <;> (first | with_reducible assumption | ((with_reducible refine Eq.trans (cell_drew _ _) ?_); with_reducible assumption) | ((rw [cell_far4 _ _ _ _ _ _ _ _ (by omega)]); with_reducible assumption) | ((repeat rw [cell_far2 _ _ _ _ _ _ (by omega)]); with_reducible assumption) | go_keep)) | trivial | go_keep)
    (first
      | (go_at_call 23; have _t := tok0; clear _t tok0; ((with_reducible refine Calls.mono (qadd_is Es.out (lq HQ.out (by first | exact x_8.out | exact x_8.out.drew_ | exact x_8.out.alloc_ _ | exact (x_8.out.alloc_ _).drew_)) (lq HP.out (by first | exact y_8.out | exact y_8.out.drew_ | exact y_8.out.alloc_ _ | exact (y_8.out.alloc_ _).drew_)) (by omega) (by omega) (by omega) (by omega)) ?_)); rintro e w9 ⟨v, rfl, h, hb⟩; have hk := h; obtain ⟨b9, A9, n9, c9, d9, B9, m9, k9, rfl, -, -, -, -, -⟩ := h.form; clear h; have hB := (show Below w8.heap.size w8 w9 from by first | exact hb | exact bundrew hb | exact bun hb | exact bundrew (bun hb) | exact bun (bundrew hb)); have x_9 := Lib.hid (x_8.out.below hB); have y_9 := Lib.hid (y_8.out.below hB); have z_9 := Lib.hid (z_8.out.below hB); have one_9 := Lib.hid (one_8.out.below hB); have inv_9 := Lib.hid (inv_8.out.below hB); have Ka_9 := Lib.hid (Ka_8.out.below hB); have Kb_9 := Lib.hid (Kb_8.out.below hB); have Kc_9 := Lib.hid (Kc_8.out.below hB); have Ko_9 := Lib.hid (Ko_8.out.below hB); have Ki_9 := Lib.hid (Ki_8.out.below hB); have u_9 := Lib.hid (hk); have HB_9 := Lib.hid (below_trans HB_8.out hB); have hs_9 : w.heap.size ≤ w9.heap.size := HB_9.out.size; have hz_9 : w8.heap.size + 0 ≤ w9.heap.size := (by have h := hb.size; (try simp at h); omega); clear hB hb x_8 y_8 z_8 one_8 inv_8 Ka_8 Kb_8 Kc_8 Ko_8 Ki_8 HB_8 p50 p51 p52 p53 l5 p60 p61 p62 p63 l6 p70 p71 p72 p73 l7; obtain ⟨p80, p81, p82, p83, l8⟩ := Ka_9.out.use4; obtain ⟨p90, p91, p92, p93, l9⟩ := Kb_9.out.use4; obtain ⟨p100, p101, p102, p103, l10⟩ := Kc_9.out.use4)
      | (go_at_call 23; have _t := tok1; clear _t tok1; ((with_reducible refine Calls.mono (qadd_is Es'.out (lq HP.out (by first | exact y_9.out | exact y_9.out.drew_ | exact y_9.out.alloc_ _ | exact (y_9.out.alloc_ _).drew_)) (lq HQ.out (by first | exact x_9.out | exact x_9.out.drew_ | exact x_9.out.alloc_ _ | exact (x_9.out.alloc_ _).drew_)) (by omega) (by omega) (by omega) (by omega)) ?_)); rintro e w10 ⟨v, rfl, h, hb⟩; have hk := h; obtain ⟨b10, A10, n10, c10, d10, B10, m10, k10, rfl, -, -, -, -, -⟩ := h.form; clear h; have hB := (show Below w9.heap.size w9 w10 from by first | exact hb | exact bundrew hb | exact bun hb | exact bundrew (bun hb) | exact bun (bundrew hb)); have x_10 := Lib.hid (x_9.out.below hB); have y_10 := Lib.hid (y_9.out.below hB); have z_10 := Lib.hid (z_9.out.below hB); have one_10 := Lib.hid (one_9.out.below hB); have inv_10 := Lib.hid (inv_9.out.below hB); have u_10 := Lib.hid (u_9.out.below hB); have Ka_10 := Lib.hid (Ka_9.out.below hB); have Kb_10 := Lib.hid (Kb_9.out.below hB); have Kc_10 := Lib.hid (Kc_9.out.below hB); have Ko_10 := Lib.hid (Ko_9.out.below hB); have Ki_10 := Lib.hid (Ki_9.out.below hB); have v_10 := Lib.hid (hk); have HB_10 := Lib.hid (below_trans HB_9.out hB); have hs_10 : w.heap.size ≤ w10.heap.size := HB_10.out.size; have hz_10 : w9.heap.size + 0 ≤ w10.heap.size := (by have h := hb.size; (try simp at h); omega); clear hB hb x_9 y_9 z_9 one_9 inv_9 u_9 Ka_9 Kb_9 Kc_9 Ko_9 Ki_9 HB_9 p80 p81 p82 p83 l8 p90 p91 p92 p93 l9 p100 p101 p102 p103 l10; obtain ⟨p110, p111, p112, p113, l11⟩ := Ka_10.out.use4; obtain ⟨p120, p121, p122, p123, l12⟩ := Kb_10.out.use4; obtain ⟨p130, p131, p132, p133, l13⟩ := Kc_10.out.use4)
      | (go_at_call 18; have _t := tok2; clear _t tok2; ((with_reducible refine Calls.mono (rat_same (by first | exact u_10.out | exact u_10.out.drew_ | exact u_10.out.alloc_ _ | exact (u_10.out.alloc_ _).drew_) (by first | exact v_10.out | exact v_10.out.drew_ | exact v_10.out.alloc_ _ | exact (v_10.out.alloc_ _).drew_) Bs.out (by omega)) ?_)); rintro e w11 ⟨rfl, hb⟩; have hB := (show Below w10.heap.size w10 w11 from by first | exact hb | exact bundrew hb | exact bun hb | exact bundrew (bun hb) | exact bun (bundrew hb)); have x_11 := Lib.hid (x_10.out.below hB); have y_11 := Lib.hid (y_10.out.below hB); have z_11 := Lib.hid (z_10.out.below hB); have one_11 := Lib.hid (one_10.out.below hB); have inv_11 := Lib.hid (inv_10.out.below hB); have Ka_11 := Lib.hid (Ka_10.out.below hB); have Kb_11 := Lib.hid (Kb_10.out.below hB); have Kc_11 := Lib.hid (Kc_10.out.below hB); have Ko_11 := Lib.hid (Ko_10.out.below hB); have Ki_11 := Lib.hid (Ki_10.out.below hB); have HB_11 := Lib.hid (below_trans HB_10.out hB); have hs_11 : w.heap.size ≤ w11.heap.size := HB_11.out.size; have hz_11 : w10.heap.size + 0 ≤ w11.heap.size := (by have h := hb.size; (try simp at h); omega); clear hB hb x_10 y_10 z_10 one_10 inv_10 u_10 v_10 Ka_10 Kb_10 Kc_10 Ko_10 Ki_10 HB_10 p110 p111 p112 p113 l11 p120 p121 p122 p123 l12 p130 p131 p132 p133 l13; obtain ⟨p140, p141, p142, p143, l14⟩ := Ka_11.out.use4; obtain ⟨p150, p151, p152, p153, l15⟩ := Kb_11.out.use4; obtain ⟨p160, p161, p162, p163, l16⟩ := Kc_11.out.use4)
      | (go_at_call 27; have _t := tok3; clear _t tok3; ((with_reducible refine Calls.mono (qmul_is Em.out (lq HQ.out (by first | exact x_11.out | exact x_11.out.drew_ | exact x_11.out.alloc_ _ | exact (x_11.out.alloc_ _).drew_)) (lq HP.out (by first | exact y_11.out | exact y_11.out.drew_ | exact y_11.out.alloc_ _ | exact (y_11.out.alloc_ _).drew_)) (by omega) (by omega) (by omega) (by omega)) ?_)); rintro e w12 ⟨v, rfl, h, hb⟩; have hk := h; obtain ⟨b12, A12, n12, c12, d12, B12, m12, k12, rfl, -, -, -, -, -⟩ := h.form; clear h; have hB := (show Below w11.heap.size w11 w12 from by first | exact hb | exact bundrew hb | exact bun hb | exact bundrew (bun hb) | exact bun (bundrew hb)); have x_12 := Lib.hid (x_11.out.below hB); have y_12 := Lib.hid (y_11.out.below hB); have z_12 := Lib.hid (z_11.out.below hB); have one_12 := Lib.hid (one_11.out.below hB); have inv_12 := Lib.hid (inv_11.out.below hB); have Ka_12 := Lib.hid (Ka_11.out.below hB); have Kb_12 := Lib.hid (Kb_11.out.below hB); have Kc_12 := Lib.hid (Kc_11.out.below hB); have Ko_12 := Lib.hid (Ko_11.out.below hB); have Ki_12 := Lib.hid (Ki_11.out.below hB); have u_12 := Lib.hid (hk); have HB_12 := Lib.hid (below_trans HB_11.out hB); have hs_12 : w.heap.size ≤ w12.heap.size := HB_12.out.size; have hz_12 : w11.heap.size + 0 ≤ w12.heap.size := (by have h := hb.size; (try simp at h); omega); clear hB hb x_11 y_11 z_11 one_11 inv_11 Ka_11 Kb_11 Kc_11 Ko_11 Ki_11 HB_11 p140 p141 p142 p143 l14 p150 p151 p152 p153 l15 p160 p161 p162 p163 l16; obtain ⟨p170, p171, p172, p173, l17⟩ := Ka_12.out.use4; obtain ⟨p180, p181, p182, p183, l18⟩ := Kb_12.out.use4; obtain ⟨p190, p191, p192, p193, l19⟩ := Kc_12.out.use4)
      | (go_at_call 27; have _t := tok4; clear _t tok4; ((with_reducible refine Calls.mono (qmul_is Em'.out (lq HP.out (by first | exact y_12.out | exact y_12.out.drew_ | exact y_12.out.alloc_ _ | exact (y_12.out.alloc_ _).drew_)) (lq HQ.out (by first | exact x_12.out | exact x_12.out.drew_ | exact x_12.out.alloc_ _ | exact (x_12.out.alloc_ _).drew_)) (by omega) (by omega) (by omega) (by omega)) ?_)); rintro e w13 ⟨v, rfl, h, hb⟩; have hk := h; obtain ⟨b13, A13, n13, c13, d13, B13, m13, k13, rfl, -, -, -, -, -⟩ := h.form; clear h; have hB := (show Below w12.heap.size w12 w13 from by first | exact hb | exact bundrew hb | exact bun hb | exact bundrew (bun hb) | exact bun (bundrew hb)); have x_13 := Lib.hid (x_12.out.below hB); have y_13 := Lib.hid (y_12.out.below hB); have z_13 := Lib.hid (z_12.out.below hB); have one_13 := Lib.hid (one_12.out.below hB); have inv_13 := Lib.hid (inv_12.out.below hB); have u_13 := Lib.hid (u_12.out.below hB); have Ka_13 := Lib.hid (Ka_12.out.below hB); have Kb_13 := Lib.hid (Kb_12.out.below hB); have Kc_13 := Lib.hid (Kc_12.out.below hB); have Ko_13 := Lib.hid (Ko_12.out.below hB); have Ki_13 := Lib.hid (Ki_12.out.below hB); have v_13 := Lib.hid (hk); have HB_13 := Lib.hid (below_trans HB_12.out hB); have hs_13 : w.heap.size ≤ w13.heap.size := HB_13.out.size; have hz_13 : w12.heap.size + 0 ≤ w13.heap.size := (by have h := hb.size; (try simp at h); omega); clear hB hb x_12 y_12 z_12 one_12 inv_12 u_12 Ka_12 Kb_12 Kc_12 Ko_12 Ki_12 HB_12 p170 p171 p172 p173 l17 p180 p181 p182 p183 l18 p190 p191 p192 p193 l19; obtain ⟨p200, p201, p202, p203, l20⟩ := Ka_13.out.use4; obtain ⟨p210, p211, p212, p213, l21⟩ := Kb_13.out.use4; obtain ⟨p220, p221, p222, p223, l22⟩ := Kc_13.out.use4)
      | (go_at_call 18; have _t := tok5; clear _t tok5; ((with_reducible refine Calls.mono (rat_same (by first | exact u_13.out | exact u_13.out.drew_ | exact u_13.out.alloc_ _ | exact (u_13.out.alloc_ _).drew_) (by first | exact v_13.out | exact v_13.out.drew_ | exact v_13.out.alloc_ _ | exact (v_13.out.alloc_ _).drew_) Bm.out (by omega)) ?_)); rintro e w14 ⟨rfl, hb⟩; have hB := (show Below w13.heap.size w13 w14 from by first | exact hb | exact bundrew hb | exact bun hb | exact bundrew (bun hb) | exact bun (bundrew hb)); have x_14 := Lib.hid (x_13.out.below hB); have y_14 := Lib.hid (y_13.out.below hB); have z_14 := Lib.hid (z_13.out.below hB); have one_14 := Lib.hid (one_13.out.below hB); have inv_14 := Lib.hid (inv_13.out.below hB); have Ka_14 := Lib.hid (Ka_13.out.below hB); have Kb_14 := Lib.hid (Kb_13.out.below hB); have Kc_14 := Lib.hid (Kc_13.out.below hB); have Ko_14 := Lib.hid (Ko_13.out.below hB); have Ki_14 := Lib.hid (Ki_13.out.below hB); have HB_14 := Lib.hid (below_trans HB_13.out hB); have hs_14 : w.heap.size ≤ w14.heap.size := HB_14.out.size; have hz_14 : w13.heap.size + 0 ≤ w14.heap.size := (by have h := hb.size; (try simp at h); omega); clear hB hb x_13 y_13 z_13 one_13 inv_13 u_13 v_13 Ka_13 Kb_13 Kc_13 Ko_13 Ki_13 HB_13 p200 p201 p202 p203 l20 p210 p211 p212 p213 l21 p220 p221 p222 p223 l22; obtain ⟨p230, p231, p232, p233, l23⟩ := Ka_14.out.use4; obtain ⟨p240, p241, p242, p243, l24⟩ := Kb_14.out.use4; obtain ⟨p250, p251, p252, p253, l25⟩ := Kc_14.out.use4)
      | (go_at_call 23; have _t := tok6; clear _t tok6; ((with_reducible refine Calls.mono (qadd_is Es.out (lq HQ.out (by first | exact x_14.out | exact x_14.out.drew_ | exact x_14.out.alloc_ _ | exact (x_14.out.alloc_ _).drew_)) (lq HP.out (by first | exact y_14.out | exact y_14.out.drew_ | exact y_14.out.alloc_ _ | exact (y_14.out.alloc_ _).drew_)) (by omega) (by omega) (by omega) (by omega)) ?_)); rintro e w15 ⟨v, rfl, h, hb⟩; have hk := h; obtain ⟨b15, A15, n15, c15, d15, B15, m15, k15, rfl, -, -, -, -, -⟩ := h.form; clear h; have hB := (show Below w14.heap.size w14 w15 from by first | exact hb | exact bundrew hb | exact bun hb | exact bundrew (bun hb) | exact bun (bundrew hb)); have x_15 := Lib.hid (x_14.out.below hB); have y_15 := Lib.hid (y_14.out.below hB); have z_15 := Lib.hid (z_14.out.below hB); have one_15 := Lib.hid (one_14.out.below hB); have inv_15 := Lib.hid (inv_14.out.below hB); have Ka_15 := Lib.hid (Ka_14.out.below hB); have Kb_15 := Lib.hid (Kb_14.out.below hB); have Kc_15 := Lib.hid (Kc_14.out.below hB); have Ko_15 := Lib.hid (Ko_14.out.below hB); have Ki_15 := Lib.hid (Ki_14.out.below hB); have u_15 := Lib.hid (hk); have HB_15 := Lib.hid (below_trans HB_14.out hB); have hs_15 : w.heap.size ≤ w15.heap.size := HB_15.out.size; have hz_15 : w14.heap.size + 0 ≤ w15.heap.size := (by have h := hb.size; (try simp at h); omega); clear hB hb x_14 y_14 z_14 one_14 inv_14 Ka_14 Kb_14 Kc_14 Ko_14 Ki_14 HB_14 p230 p231 p232 p233 l23 p240 p241 p242 p243 l24 p250 p251 p252 p253 l25; obtain ⟨p260, p261, p262, p263, l26⟩ := Ka_15.out.use4; obtain ⟨p270, p271, p272, p273, l27⟩ := Kb_15.out.use4; obtain ⟨p280, p281, p282, p283, l28⟩ := Kc_15.out.use4)
      | (go_at_call 23; have _t := tok7; clear _t tok7; ((with_reducible refine Calls.mono (qadd_is Et.out (irq Bs.out (by first | exact u_15.out | exact u_15.out.drew_ | exact u_15.out.alloc_ _ | exact (u_15.out.alloc_ _).drew_)) (lq HR.out (by first | exact z_15.out | exact z_15.out.drew_ | exact z_15.out.alloc_ _ | exact (z_15.out.alloc_ _).drew_)) (by omega) (by omega) (by omega) (by omega)) ?_)); rintro e w16 ⟨v, rfl, h, hb⟩; have hk := h; obtain ⟨b16, A16, n16, c16, d16, B16, m16, k16, rfl, -, -, -, -, -⟩ := h.form; clear h; have hB := (show Below w15.heap.size w15 w16 from by first | exact hb | exact bundrew hb | exact bun hb | exact bundrew (bun hb) | exact bun (bundrew hb)); have x_16 := Lib.hid (x_15.out.below hB); have y_16 := Lib.hid (y_15.out.below hB); have z_16 := Lib.hid (z_15.out.below hB); have one_16 := Lib.hid (one_15.out.below hB); have inv_16 := Lib.hid (inv_15.out.below hB); have Ka_16 := Lib.hid (Ka_15.out.below hB); have Kb_16 := Lib.hid (Kb_15.out.below hB); have Kc_16 := Lib.hid (Kc_15.out.below hB); have Ko_16 := Lib.hid (Ko_15.out.below hB); have Ki_16 := Lib.hid (Ki_15.out.below hB); have v_16 := Lib.hid (hk); have HB_16 := Lib.hid (below_trans HB_15.out hB); have hs_16 : w.heap.size ≤ w16.heap.size := HB_16.out.size; have hz_16 : w15.heap.size + 0 ≤ w16.heap.size := (by have h := hb.size; (try simp at h); omega); clear hB hb x_15 y_15 z_15 one_15 inv_15 u_15 Ka_15 Kb_15 Kc_15 Ko_15 Ki_15 HB_15 p260 p261 p262 p263 l26 p270 p271 p272 p273 l27 p280 p281 p282 p283 l28; obtain ⟨p290, p291, p292, p293, l29⟩ := Ka_16.out.use4; obtain ⟨p300, p301, p302, p303, l30⟩ := Kb_16.out.use4; obtain ⟨p310, p311, p312, p313, l31⟩ := Kc_16.out.use4)
      | (go_at_call 23; have _t := tok8; clear _t tok8; ((with_reducible refine Calls.mono (qadd_is Eu.out (lq HP.out (by first | exact y_16.out | exact y_16.out.drew_ | exact y_16.out.alloc_ _ | exact (y_16.out.alloc_ _).drew_)) (lq HR.out (by first | exact z_16.out | exact z_16.out.drew_ | exact z_16.out.alloc_ _ | exact (z_16.out.alloc_ _).drew_)) (by omega) (by omega) (by omega) (by omega)) ?_)); rintro e w17 ⟨v, rfl, h, hb⟩; have hk := h; obtain ⟨b17, A17, n17, c17, d17, B17, m17, k17, rfl, -, -, -, -, -⟩ := h.form; clear h; have hB := (show Below w16.heap.size w16 w17 from by first | exact hb | exact bundrew hb | exact bun hb | exact bundrew (bun hb) | exact bun (bundrew hb)); have x_17 := Lib.hid (x_16.out.below hB); have y_17 := Lib.hid (y_16.out.below hB); have z_17 := Lib.hid (z_16.out.below hB); have one_17 := Lib.hid (one_16.out.below hB); have inv_17 := Lib.hid (inv_16.out.below hB); have v_17 := Lib.hid (v_16.out.below hB); have Ka_17 := Lib.hid (Ka_16.out.below hB); have Kb_17 := Lib.hid (Kb_16.out.below hB); have Kc_17 := Lib.hid (Kc_16.out.below hB); have Ko_17 := Lib.hid (Ko_16.out.below hB); have Ki_17 := Lib.hid (Ki_16.out.below hB); have u2_17 := Lib.hid (hk); have HB_17 := Lib.hid (below_trans HB_16.out hB); have hs_17 : w.heap.size ≤ w17.heap.size := HB_17.out.size; have hz_17 : w16.heap.size + 0 ≤ w17.heap.size := (by have h := hb.size; (try simp at h); omega); clear hB hb x_16 y_16 z_16 one_16 inv_16 v_16 Ka_16 Kb_16 Kc_16 Ko_16 Ki_16 HB_16 p290 p291 p292 p293 l29 p300 p301 p302 p303 l30 p310 p311 p312 p313 l31; obtain ⟨p320, p321, p322, p323, l32⟩ := Ka_17.out.use4; obtain ⟨p330, p331, p332, p333, l33⟩ := Kb_17.out.use4; obtain ⟨p340, p341, p342, p343, l34⟩ := Kc_17.out.use4)
      | (go_at_call 23; have _t := tok9; clear _t tok9; ((with_reducible refine Calls.mono (qadd_is Et'.out (lq HQ.out (by first | exact x_17.out | exact x_17.out.drew_ | exact x_17.out.alloc_ _ | exact (x_17.out.alloc_ _).drew_)) (irq Bu.out (by first | exact u2_17.out | exact u2_17.out.drew_ | exact u2_17.out.alloc_ _ | exact (u2_17.out.alloc_ _).drew_)) (by omega) (by omega) (by omega) (by omega)) ?_)); rintro e w18 ⟨v, rfl, h, hb⟩; have hk := h; obtain ⟨b18, A18, n18, c18, d18, B18, m18, k18, rfl, -, -, -, -, -⟩ := h.form; clear h; have hB := (show Below w17.heap.size w17 w18 from by first | exact hb | exact bundrew hb | exact bun hb | exact bundrew (bun hb) | exact bun (bundrew hb)); have x_18 := Lib.hid (x_17.out.below hB); have y_18 := Lib.hid (y_17.out.below hB); have z_18 := Lib.hid (z_17.out.below hB); have one_18 := Lib.hid (one_17.out.below hB); have inv_18 := Lib.hid (inv_17.out.below hB); have v_18 := Lib.hid (v_17.out.below hB); have Ka_18 := Lib.hid (Ka_17.out.below hB); have Kb_18 := Lib.hid (Kb_17.out.below hB); have Kc_18 := Lib.hid (Kc_17.out.below hB); have Ko_18 := Lib.hid (Ko_17.out.below hB); have Ki_18 := Lib.hid (Ki_17.out.below hB); have v2_18 := Lib.hid (hk); have HB_18 := Lib.hid (below_trans HB_17.out hB); have hs_18 : w.heap.size ≤ w18.heap.size := HB_18.out.size; have hz_18 : w17.heap.size + 0 ≤ w18.heap.size := (by have h := hb.size; (try simp at h); omega); clear hB hb x_17 y_17 z_17 one_17 inv_17 v_17 u2_17 Ka_17 Kb_17 Kc_17 Ko_17 Ki_17 HB_17 p320 p321 p322 p323 l32 p330 p331 p332 p333 l33 p340 p341 p342 p343 l34; obtain ⟨p350, p351, p352, p353, l35⟩ := Ka_18.out.use4; obtain ⟨p360, p361, p362, p363, l36⟩ := Kb_18.out.use4; obtain ⟨p370, p371, p372, p373, l37⟩ := Kc_18.out.use4)
      | (go_at_call 18; have _t := tok10; clear _t tok10; ((with_reducible refine Calls.mono (rat_same (by first | exact v_18.out | exact v_18.out.drew_ | exact v_18.out.alloc_ _ | exact (v_18.out.alloc_ _).drew_) (by first | exact v2_18.out | exact v2_18.out.drew_ | exact v2_18.out.alloc_ _ | exact (v2_18.out.alloc_ _).drew_) Bt.out (by omega)) ?_)); rintro e w19 ⟨rfl, hb⟩; have hB := (show Below w18.heap.size w18 w19 from by first | exact hb | exact bundrew hb | exact bun hb | exact bundrew (bun hb) | exact bun (bundrew hb)); have x_19 := Lib.hid (x_18.out.below hB); have y_19 := Lib.hid (y_18.out.below hB); have z_19 := Lib.hid (z_18.out.below hB); have one_19 := Lib.hid (one_18.out.below hB); have inv_19 := Lib.hid (inv_18.out.below hB); have Ka_19 := Lib.hid (Ka_18.out.below hB); have Kb_19 := Lib.hid (Kb_18.out.below hB); have Kc_19 := Lib.hid (Kc_18.out.below hB); have Ko_19 := Lib.hid (Ko_18.out.below hB); have Ki_19 := Lib.hid (Ki_18.out.below hB); have HB_19 := Lib.hid (below_trans HB_18.out hB); have hs_19 : w.heap.size ≤ w19.heap.size := HB_19.out.size; have hz_19 : w18.heap.size + 0 ≤ w19.heap.size := (by have h := hb.size; (try simp at h); omega); clear hB hb x_18 y_18 z_18 one_18 inv_18 v_18 v2_18 Ka_18 Kb_18 Kc_18 Ko_18 Ki_18 HB_18 p350 p351 p352 p353 l35 p360 p361 p362 p363 l36 p370 p371 p372 p373 l37; obtain ⟨p380, p381, p382, p383, l38⟩ := Ka_19.out.use4; obtain ⟨p390, p391, p392, p393, l39⟩ := Kb_19.out.use4; obtain ⟨p400, p401, p402, p403, l40⟩ := Kc_19.out.use4)
      | (go_at_call 27; have _t := tok11; clear _t tok11; ((with_reducible refine Calls.mono (qmul_is Em.out (lq HQ.out (by first | exact x_19.out | exact x_19.out.drew_ | exact x_19.out.alloc_ _ | exact (x_19.out.alloc_ _).drew_)) (lq HP.out (by first | exact y_19.out | exact y_19.out.drew_ | exact y_19.out.alloc_ _ | exact (y_19.out.alloc_ _).drew_)) (by omega) (by omega) (by omega) (by omega)) ?_)); rintro e w20 ⟨v, rfl, h, hb⟩; have hk := h; obtain ⟨b20, A20, n20, c20, d20, B20, m20, k20, rfl, -, -, -, -, -⟩ := h.form; clear h; have hB := (show Below w19.heap.size w19 w20 from by first | exact hb | exact bundrew hb | exact bun hb | exact bundrew (bun hb) | exact bun (bundrew hb)); have x_20 := Lib.hid (x_19.out.below hB); have y_20 := Lib.hid (y_19.out.below hB); have z_20 := Lib.hid (z_19.out.below hB); have one_20 := Lib.hid (one_19.out.below hB); have inv_20 := Lib.hid (inv_19.out.below hB); have Ka_20 := Lib.hid (Ka_19.out.below hB); have Kb_20 := Lib.hid (Kb_19.out.below hB); have Kc_20 := Lib.hid (Kc_19.out.below hB); have Ko_20 := Lib.hid (Ko_19.out.below hB); have Ki_20 := Lib.hid (Ki_19.out.below hB); have u_20 := Lib.hid (hk); have HB_20 := Lib.hid (below_trans HB_19.out hB); have hs_20 : w.heap.size ≤ w20.heap.size := HB_20.out.size; have hz_20 : w19.heap.size + 0 ≤ w20.heap.size := (by have h := hb.size; (try simp at h); omega); clear hB hb x_19 y_19 z_19 one_19 inv_19 Ka_19 Kb_19 Kc_19 Ko_19 Ki_19 HB_19 p380 p381 p382 p383 l38 p390 p391 p392 p393 l39 p400 p401 p402 p403 l40; obtain ⟨p410, p411, p412, p413, l41⟩ := Ka_20.out.use4; obtain ⟨p420, p421, p422, p423, l42⟩ := Kb_20.out.use4; obtain ⟨p430, p431, p432, p433, l43⟩ := Kc_20.out.use4)
      | (go_at_call 27; have _t := tok12; clear _t tok12; ((with_reducible refine Calls.mono (qmul_is Ep.out (irq Bm.out (by first | exact u_20.out | exact u_20.out.drew_ | exact u_20.out.alloc_ _ | exact (u_20.out.alloc_ _).drew_)) (lq HR.out (by first | exact z_20.out | exact z_20.out.drew_ | exact z_20.out.alloc_ _ | exact (z_20.out.alloc_ _).drew_)) (by omega) (by omega) (by omega) (by omega)) ?_)); rintro e w21 ⟨v, rfl, h, hb⟩; have hk := h; obtain ⟨b21, A21, n21, c21, d21, B21, m21, k21, rfl, -, -, -, -, -⟩ := h.form; clear h; have hB := (show Below w20.heap.size w20 w21 from by first | exact hb | exact bundrew hb | exact bun hb | exact bundrew (bun hb) | exact bun (bundrew hb)); have x_21 := Lib.hid (x_20.out.below hB); have y_21 := Lib.hid (y_20.out.below hB); have z_21 := Lib.hid (z_20.out.below hB); have one_21 := Lib.hid (one_20.out.below hB); have inv_21 := Lib.hid (inv_20.out.below hB); have Ka_21 := Lib.hid (Ka_20.out.below hB); have Kb_21 := Lib.hid (Kb_20.out.below hB); have Kc_21 := Lib.hid (Kc_20.out.below hB); have Ko_21 := Lib.hid (Ko_20.out.below hB); have Ki_21 := Lib.hid (Ki_20.out.below hB); have v_21 := Lib.hid (hk); have HB_21 := Lib.hid (below_trans HB_20.out hB); have hs_21 : w.heap.size ≤ w21.heap.size := HB_21.out.size; have hz_21 : w20.heap.size + 0 ≤ w21.heap.size := (by have h := hb.size; (try simp at h); omega); clear hB hb x_20 y_20 z_20 one_20 inv_20 u_20 Ka_20 Kb_20 Kc_20 Ko_20 Ki_20 HB_20 p410 p411 p412 p413 l41 p420 p421 p422 p423 l42 p430 p431 p432 p433 l43; obtain ⟨p440, p441, p442, p443, l44⟩ := Ka_21.out.use4; obtain ⟨p450, p451, p452, p453, l45⟩ := Kb_21.out.use4; obtain ⟨p460, p461, p462, p463, l46⟩ := Kc_21.out.use4)
      | (go_at_call 27; have _t := tok13; clear _t tok13; ((with_reducible refine Calls.mono (qmul_is En.out (lq HP.out (by first | exact y_21.out | exact y_21.out.drew_ | exact y_21.out.alloc_ _ | exact (y_21.out.alloc_ _).drew_)) (lq HR.out (by first | exact z_21.out | exact z_21.out.drew_ | exact z_21.out.alloc_ _ | exact (z_21.out.alloc_ _).drew_)) (by omega) (by omega) (by omega) (by omega)) ?_)); rintro e w22 ⟨v, rfl, h, hb⟩; have hk := h; obtain ⟨b22, A22, n22, c22, d22, B22, m22, k22, rfl, -, -, -, -, -⟩ := h.form; clear h; have hB := (show Below w21.heap.size w21 w22 from by first | exact hb | exact bundrew hb | exact bun hb | exact bundrew (bun hb) | exact bun (bundrew hb)); have x_22 := Lib.hid (x_21.out.below hB); have y_22 := Lib.hid (y_21.out.below hB); have z_22 := Lib.hid (z_21.out.below hB); have one_22 := Lib.hid (one_21.out.below hB); have inv_22 := Lib.hid (inv_21.out.below hB); have v_22 := Lib.hid (v_21.out.below hB); have Ka_22 := Lib.hid (Ka_21.out.below hB); have Kb_22 := Lib.hid (Kb_21.out.below hB); have Kc_22 := Lib.hid (Kc_21.out.below hB); have Ko_22 := Lib.hid (Ko_21.out.below hB); have Ki_22 := Lib.hid (Ki_21.out.below hB); have u2_22 := Lib.hid (hk); have HB_22 := Lib.hid (below_trans HB_21.out hB); have hs_22 : w.heap.size ≤ w22.heap.size := HB_22.out.size; have hz_22 : w21.heap.size + 0 ≤ w22.heap.size := (by have h := hb.size; (try simp at h); omega); clear hB hb x_21 y_21 z_21 one_21 inv_21 v_21 Ka_21 Kb_21 Kc_21 Ko_21 Ki_21 HB_21 p440 p441 p442 p443 l44 p450 p451 p452 p453 l45 p460 p461 p462 p463 l46; obtain ⟨p470, p471, p472, p473, l47⟩ := Ka_22.out.use4; obtain ⟨p480, p481, p482, p483, l48⟩ := Kb_22.out.use4; obtain ⟨p490, p491, p492, p493, l49⟩ := Kc_22.out.use4)
      | (go_at_call 27; have _t := tok14; clear _t tok14; ((with_reducible refine Calls.mono (qmul_is Ep'.out (lq HQ.out (by first | exact x_22.out | exact x_22.out.drew_ | exact x_22.out.alloc_ _ | exact (x_22.out.alloc_ _).drew_)) (irq Bn.out (by first | exact u2_22.out | exact u2_22.out.drew_ | exact u2_22.out.alloc_ _ | exact (u2_22.out.alloc_ _).drew_)) (by omega) (by omega) (by omega) (by omega)) ?_)); rintro e w23 ⟨v, rfl, h, hb⟩; have hk := h; obtain ⟨b23, A23, n23, c23, d23, B23, m23, k23, rfl, -, -, -, -, -⟩ := h.form; clear h; have hB := (show Below w22.heap.size w22 w23 from by first | exact hb | exact bundrew hb | exact bun hb | exact bundrew (bun hb) | exact bun (bundrew hb)); have x_23 := Lib.hid (x_22.out.below hB); have y_23 := Lib.hid (y_22.out.below hB); have z_23 := Lib.hid (z_22.out.below hB); have one_23 := Lib.hid (one_22.out.below hB); have inv_23 := Lib.hid (inv_22.out.below hB); have v_23 := Lib.hid (v_22.out.below hB); have Ka_23 := Lib.hid (Ka_22.out.below hB); have Kb_23 := Lib.hid (Kb_22.out.below hB); have Kc_23 := Lib.hid (Kc_22.out.below hB); have Ko_23 := Lib.hid (Ko_22.out.below hB); have Ki_23 := Lib.hid (Ki_22.out.below hB); have v2_23 := Lib.hid (hk); have HB_23 := Lib.hid (below_trans HB_22.out hB); have hs_23 : w.heap.size ≤ w23.heap.size := HB_23.out.size; have hz_23 : w22.heap.size + 0 ≤ w23.heap.size := (by have h := hb.size; (try simp at h); omega); clear hB hb x_22 y_22 z_22 one_22 inv_22 v_22 u2_22 Ka_22 Kb_22 Kc_22 Ko_22 Ki_22 HB_22 p470 p471 p472 p473 l47 p480 p481 p482 p483 l48 p490 p491 p492 p493 l49; obtain ⟨p500, p501, p502, p503, l50⟩ := Ka_23.out.use4; obtain ⟨p510, p511, p512, p513, l51⟩ := Kb_23.out.use4; obtain ⟨p520, p521, p522, p523, l52⟩ := Kc_23.out.use4)
      | (go_at_call 18; have _t := tok15; clear _t tok15; ((with_reducible refine Calls.mono (rat_same (by first | exact v_23.out | exact v_23.out.drew_ | exact v_23.out.alloc_ _ | exact (v_23.out.alloc_ _).drew_) (by first | exact v2_23.out | exact v2_23.out.drew_ | exact v2_23.out.alloc_ _ | exact (v2_23.out.alloc_ _).drew_) Bp.out (by omega)) ?_)); rintro e w24 ⟨rfl, hb⟩; have hB := (show Below w23.heap.size w23 w24 from by first | exact hb | exact bundrew hb | exact bun hb | exact bundrew (bun hb) | exact bun (bundrew hb)); have x_24 := Lib.hid (x_23.out.below hB); have y_24 := Lib.hid (y_23.out.below hB); have z_24 := Lib.hid (z_23.out.below hB); have one_24 := Lib.hid (one_23.out.below hB); have inv_24 := Lib.hid (inv_23.out.below hB); have Ka_24 := Lib.hid (Ka_23.out.below hB); have Kb_24 := Lib.hid (Kb_23.out.below hB); have Kc_24 := Lib.hid (Kc_23.out.below hB); have Ko_24 := Lib.hid (Ko_23.out.below hB); have Ki_24 := Lib.hid (Ki_23.out.below hB); have HB_24 := Lib.hid (below_trans HB_23.out hB); have hs_24 : w.heap.size ≤ w24.heap.size := HB_24.out.size; have hz_24 : w23.heap.size + 0 ≤ w24.heap.size := (by have h := hb.size; (try simp at h); omega); clear hB hb x_23 y_23 z_23 one_23 inv_23 v_23 v2_23 Ka_23 Kb_23 Kc_23 Ko_23 Ki_23 HB_23 p500 p501 p502 p503 l50 p510 p511 p512 p513 l51 p520 p521 p522 p523 l52; obtain ⟨p530, p531, p532, p533, l53⟩ := Ka_24.out.use4; obtain ⟨p540, p541, p542, p543, l54⟩ := Kb_24.out.use4; obtain ⟨p550, p551, p552, p553, l55⟩ := Kc_24.out.use4)
      | (go_at_call 23; have _t := tok16; clear _t tok16; ((with_reducible refine Calls.mono (qadd_is Eu.out (lq HP.out (by first | exact y_24.out | exact y_24.out.drew_ | exact y_24.out.alloc_ _ | exact (y_24.out.alloc_ _).drew_)) (lq HR.out (by first | exact z_24.out | exact z_24.out.drew_ | exact z_24.out.alloc_ _ | exact (z_24.out.alloc_ _).drew_)) (by omega) (by omega) (by omega) (by omega)) ?_)); rintro e w25 ⟨v, rfl, h, hb⟩; have hk := h; obtain ⟨b25, A25, n25, c25, d25, B25, m25, k25, rfl, -, -, -, -, -⟩ := h.form; clear h; have hB := (show Below w24.heap.size w24 w25 from by first | exact hb | exact bundrew hb | exact bun hb | exact bundrew (bun hb) | exact bun (bundrew hb)); have x_25 := Lib.hid (x_24.out.below hB); have y_25 := Lib.hid (y_24.out.below hB); have z_25 := Lib.hid (z_24.out.below hB); have one_25 := Lib.hid (one_24.out.below hB); have inv_25 := Lib.hid (inv_24.out.below hB); have Ka_25 := Lib.hid (Ka_24.out.below hB); have Kb_25 := Lib.hid (Kb_24.out.below hB); have Kc_25 := Lib.hid (Kc_24.out.below hB); have Ko_25 := Lib.hid (Ko_24.out.below hB); have Ki_25 := Lib.hid (Ki_24.out.below hB); have u_25 := Lib.hid (hk); have HB_25 := Lib.hid (below_trans HB_24.out hB); have hs_25 : w.heap.size ≤ w25.heap.size := HB_25.out.size; have hz_25 : w24.heap.size + 0 ≤ w25.heap.size := (by have h := hb.size; (try simp at h); omega); clear hB hb x_24 y_24 z_24 one_24 inv_24 Ka_24 Kb_24 Kc_24 Ko_24 Ki_24 HB_24 p530 p531 p532 p533 l53 p540 p541 p542 p543 l54 p550 p551 p552 p553 l55; obtain ⟨p560, p561, p562, p563, l56⟩ := Ka_25.out.use4; obtain ⟨p570, p571, p572, p573, l57⟩ := Kb_25.out.use4; obtain ⟨p580, p581, p582, p583, l58⟩ := Kc_25.out.use4)
      | (go_at_call 27; have _t := tok17; clear _t tok17; ((with_reducible refine Calls.mono (qmul_is Ed.out (lq HQ.out (by first | exact x_25.out | exact x_25.out.drew_ | exact x_25.out.alloc_ _ | exact (x_25.out.alloc_ _).drew_)) (irq Bu.out (by first | exact u_25.out | exact u_25.out.drew_ | exact u_25.out.alloc_ _ | exact (u_25.out.alloc_ _).drew_)) (by omega) (by omega) (by omega) (by omega)) ?_)); rintro e w26 ⟨v, rfl, h, hb⟩; have hk := h; obtain ⟨b26, A26, n26, c26, d26, B26, m26, k26, rfl, -, -, -, -, -⟩ := h.form; clear h; have hB := (show Below w25.heap.size w25 w26 from by first | exact hb | exact bundrew hb | exact bun hb | exact bundrew (bun hb) | exact bun (bundrew hb)); have x_26 := Lib.hid (x_25.out.below hB); have y_26 := Lib.hid (y_25.out.below hB); have z_26 := Lib.hid (z_25.out.below hB); have one_26 := Lib.hid (one_25.out.below hB); have inv_26 := Lib.hid (inv_25.out.below hB); have Ka_26 := Lib.hid (Ka_25.out.below hB); have Kb_26 := Lib.hid (Kb_25.out.below hB); have Kc_26 := Lib.hid (Kc_25.out.below hB); have Ko_26 := Lib.hid (Ko_25.out.below hB); have Ki_26 := Lib.hid (Ki_25.out.below hB); have v_26 := Lib.hid (hk); have HB_26 := Lib.hid (below_trans HB_25.out hB); have hs_26 : w.heap.size ≤ w26.heap.size := HB_26.out.size; have hz_26 : w25.heap.size + 0 ≤ w26.heap.size := (by have h := hb.size; (try simp at h); omega); clear hB hb x_25 y_25 z_25 one_25 inv_25 u_25 Ka_25 Kb_25 Kc_25 Ko_25 Ki_25 HB_25 p560 p561 p562 p563 l56 p570 p571 p572 p573 l57 p580 p581 p582 p583 l58; obtain ⟨p590, p591, p592, p593, l59⟩ := Ka_26.out.use4; obtain ⟨p600, p601, p602, p603, l60⟩ := Kb_26.out.use4; obtain ⟨p610, p611, p612, p613, l61⟩ := Kc_26.out.use4)
      | (go_at_call 27; have _t := tok18; clear _t tok18; ((with_reducible refine Calls.mono (qmul_is Em.out (lq HQ.out (by first | exact x_26.out | exact x_26.out.drew_ | exact x_26.out.alloc_ _ | exact (x_26.out.alloc_ _).drew_)) (lq HP.out (by first | exact y_26.out | exact y_26.out.drew_ | exact y_26.out.alloc_ _ | exact (y_26.out.alloc_ _).drew_)) (by omega) (by omega) (by omega) (by omega)) ?_)); rintro e w27 ⟨v, rfl, h, hb⟩; have hk := h; obtain ⟨b27, A27, n27, c27, d27, B27, m27, k27, rfl, -, -, -, -, -⟩ := h.form; clear h; have hB := (show Below w26.heap.size w26 w27 from by first | exact hb | exact bundrew hb | exact bun hb | exact bundrew (bun hb) | exact bun (bundrew hb)); have x_27 := Lib.hid (x_26.out.below hB); have y_27 := Lib.hid (y_26.out.below hB); have z_27 := Lib.hid (z_26.out.below hB); have one_27 := Lib.hid (one_26.out.below hB); have inv_27 := Lib.hid (inv_26.out.below hB); have v_27 := Lib.hid (v_26.out.below hB); have Ka_27 := Lib.hid (Ka_26.out.below hB); have Kb_27 := Lib.hid (Kb_26.out.below hB); have Kc_27 := Lib.hid (Kc_26.out.below hB); have Ko_27 := Lib.hid (Ko_26.out.below hB); have Ki_27 := Lib.hid (Ki_26.out.below hB); have u2_27 := Lib.hid (hk); have HB_27 := Lib.hid (below_trans HB_26.out hB); have hs_27 : w.heap.size ≤ w27.heap.size := HB_27.out.size; have hz_27 : w26.heap.size + 0 ≤ w27.heap.size := (by have h := hb.size; (try simp at h); omega); clear hB hb x_26 y_26 z_26 one_26 inv_26 v_26 Ka_26 Kb_26 Kc_26 Ko_26 Ki_26 HB_26 p590 p591 p592 p593 l59 p600 p601 p602 p603 l60 p610 p611 p612 p613 l61; obtain ⟨p620, p621, p622, p623, l62⟩ := Ka_27.out.use4; obtain ⟨p630, p631, p632, p633, l63⟩ := Kb_27.out.use4; obtain ⟨p640, p641, p642, p643, l64⟩ := Kc_27.out.use4)
      | (go_at_call 27; have _t := tok19; clear _t tok19; ((with_reducible refine Calls.mono (qmul_is Eo.out (lq HQ.out (by first | exact x_27.out | exact x_27.out.drew_ | exact x_27.out.alloc_ _ | exact (x_27.out.alloc_ _).drew_)) (lq HR.out (by first | exact z_27.out | exact z_27.out.drew_ | exact z_27.out.alloc_ _ | exact (z_27.out.alloc_ _).drew_)) (by omega) (by omega) (by omega) (by omega)) ?_)); rintro e w28 ⟨v, rfl, h, hb⟩; have hk := h; obtain ⟨b28, A28, n28, c28, d28, B28, m28, k28, rfl, -, -, -, -, -⟩ := h.form; clear h; have hB := (show Below w27.heap.size w27 w28 from by first | exact hb | exact bundrew hb | exact bun hb | exact bundrew (bun hb) | exact bun (bundrew hb)); have x_28 := Lib.hid (x_27.out.below hB); have y_28 := Lib.hid (y_27.out.below hB); have z_28 := Lib.hid (z_27.out.below hB); have one_28 := Lib.hid (one_27.out.below hB); have inv_28 := Lib.hid (inv_27.out.below hB); have v_28 := Lib.hid (v_27.out.below hB); have u2_28 := Lib.hid (u2_27.out.below hB); have Ka_28 := Lib.hid (Ka_27.out.below hB); have Kb_28 := Lib.hid (Kb_27.out.below hB); have Kc_28 := Lib.hid (Kc_27.out.below hB); have Ko_28 := Lib.hid (Ko_27.out.below hB); have Ki_28 := Lib.hid (Ki_27.out.below hB); have u3_28 := Lib.hid (hk); have HB_28 := Lib.hid (below_trans HB_27.out hB); have hs_28 : w.heap.size ≤ w28.heap.size := HB_28.out.size; have hz_28 : w27.heap.size + 0 ≤ w28.heap.size := (by have h := hb.size; (try simp at h); omega); clear hB hb x_27 y_27 z_27 one_27 inv_27 v_27 u2_27 Ka_27 Kb_27 Kc_27 Ko_27 Ki_27 HB_27 p620 p621 p622 p623 l62 p630 p631 p632 p633 l63 p640 p641 p642 p643 l64; obtain ⟨p650, p651, p652, p653, l65⟩ := Ka_28.out.use4; obtain ⟨p660, p661, p662, p663, l66⟩ := Kb_28.out.use4; obtain ⟨p670, p671, p672, p673, l67⟩ := Kc_28.out.use4)
      | (go_at_call 23; have _t := tok20; clear _t tok20; ((with_reducible refine Calls.mono (qadd_is Ed'.out (irq Bm.out (by first | exact u2_28.out | exact u2_28.out.drew_ | exact u2_28.out.alloc_ _ | exact (u2_28.out.alloc_ _).drew_)) (irq Bo.out (by first | exact u3_28.out | exact u3_28.out.drew_ | exact u3_28.out.alloc_ _ | exact (u3_28.out.alloc_ _).drew_)) (by omega) (by omega) (by omega) (by omega)) ?_)); rintro e w29 ⟨v, rfl, h, hb⟩; have hk := h; obtain ⟨b29, A29, n29, c29, d29, B29, m29, k29, rfl, -, -, -, -, -⟩ := h.form; clear h; have hB := (show Below w28.heap.size w28 w29 from by first | exact hb | exact bundrew hb | exact bun hb | exact bundrew (bun hb) | exact bun (bundrew hb)); have x_29 := Lib.hid (x_28.out.below hB); have y_29 := Lib.hid (y_28.out.below hB); have z_29 := Lib.hid (z_28.out.below hB); have one_29 := Lib.hid (one_28.out.below hB); have inv_29 := Lib.hid (inv_28.out.below hB); have v_29 := Lib.hid (v_28.out.below hB); have Ka_29 := Lib.hid (Ka_28.out.below hB); have Kb_29 := Lib.hid (Kb_28.out.below hB); have Kc_29 := Lib.hid (Kc_28.out.below hB); have Ko_29 := Lib.hid (Ko_28.out.below hB); have Ki_29 := Lib.hid (Ki_28.out.below hB); have v2_29 := Lib.hid (hk); have HB_29 := Lib.hid (below_trans HB_28.out hB); have hs_29 : w.heap.size ≤ w29.heap.size := HB_29.out.size; have hz_29 : w28.heap.size + 0 ≤ w29.heap.size := (by have h := hb.size; (try simp at h); omega); clear hB hb x_28 y_28 z_28 one_28 inv_28 v_28 u2_28 u3_28 Ka_28 Kb_28 Kc_28 Ko_28 Ki_28 HB_28 p650 p651 p652 p653 l65 p660 p661 p662 p663 l66 p670 p671 p672 p673 l67; obtain ⟨p680, p681, p682, p683, l68⟩ := Ka_29.out.use4; obtain ⟨p690, p691, p692, p693, l69⟩ := Kb_29.out.use4; obtain ⟨p700, p701, p702, p703, l70⟩ := Kc_29.out.use4)
      | (go_at_call 18; have _t := tok21; clear _t tok21; ((with_reducible refine Calls.mono (rat_same (by first | exact v_29.out | exact v_29.out.drew_ | exact v_29.out.alloc_ _ | exact (v_29.out.alloc_ _).drew_) (by first | exact v2_29.out | exact v2_29.out.drew_ | exact v2_29.out.alloc_ _ | exact (v2_29.out.alloc_ _).drew_) Bd.out (by omega)) ?_)); rintro e w30 ⟨rfl, hb⟩; have hB := (show Below w29.heap.size w29 w30 from by first | exact hb | exact bundrew hb | exact bun hb | exact bundrew (bun hb) | exact bun (bundrew hb)); have x_30 := Lib.hid (x_29.out.below hB); have y_30 := Lib.hid (y_29.out.below hB); have z_30 := Lib.hid (z_29.out.below hB); have one_30 := Lib.hid (one_29.out.below hB); have inv_30 := Lib.hid (inv_29.out.below hB); have Ka_30 := Lib.hid (Ka_29.out.below hB); have Kb_30 := Lib.hid (Kb_29.out.below hB); have Kc_30 := Lib.hid (Kc_29.out.below hB); have Ko_30 := Lib.hid (Ko_29.out.below hB); have Ki_30 := Lib.hid (Ki_29.out.below hB); have HB_30 := Lib.hid (below_trans HB_29.out hB); have hs_30 : w.heap.size ≤ w30.heap.size := HB_30.out.size; have hz_30 : w29.heap.size + 0 ≤ w30.heap.size := (by have h := hb.size; (try simp at h); omega); clear hB hb x_29 y_29 z_29 one_29 inv_29 v_29 v2_29 Ka_29 Kb_29 Kc_29 Ko_29 Ki_29 HB_29 p680 p681 p682 p683 l68 p690 p691 p692 p693 l69 p700 p701 p702 p703 l70; obtain ⟨p710, p711, p712, p713, l71⟩ := Ka_30.out.use4; obtain ⟨p720, p721, p722, p723, l72⟩ := Kb_30.out.use4; obtain ⟨p730, p731, p732, p733, l73⟩ := Kc_30.out.use4))
  go_wp2
  go_ret
  exact ⟨by simp, HB_30.out⟩

theorem field_any (b00 : Bool) (a00 : Option Addr) (n00 c00 : Nat) (e00 : Bool) (g00 : Option Addr) (m00 k00 : Nat) (b01 : Bool) (a01 : Option Addr) (n01 c01 : Nat) (e01 : Bool) (g01 : Option Addr) (m01 k01 : Nat) (b02 : Bool) (a02 : Option Addr) (n02 c02 : Nat) (e02 : Bool) (g02 : Option Addr) (m02 k02 : Nat) (w : World) (w0 : n00 ≤ 4 → m00 ≤ 4 → ∃ q, LimQ 4 w ((.agg #[.bool b00, .slice a00 n00 c00, .bool e00, .slice g00 m00 k00])) q) (w1 : n01 ≤ 4 → m01 ≤ 4 → ∃ q, LimQ 4 w ((.agg #[.bool b01, .slice a01 n01 c01, .bool e01, .slice g01 m01 k01])) q) (w2 : n02 ≤ 4 → m02 ≤ 4 → ∃ q, LimQ 4 w ((.agg #[.bool b02, .slice a02 n02 c02, .bool e02, .slice g02 m02 k02])) q) :
    Calls Tryz.prog 6 #[(.agg #[.bool b00, .slice a00 n00 c00, .bool e00, .slice g00 m00 k00]), (.agg #[.bool b01, .slice a01 n01 c01, .bool e01, .slice g01 m01 k01]), (.agg #[.bool b02, .slice a02 n02 c02, .bool e02, .slice g02 m02 k02])] w fun e w' => e = .returned (.bool true) ∧ Below w.heap.size w w' := by
  cases h0 : (decide (n00 ≤ 4) && decide (m00 ≤ 4))
  · exact field_no0 b00 a00 n00 c00 e00 g00 m00 k00 b01 a01 n01 c01 e01 g01 m01 k01 b02 a02 n02 c02 e02 g02 m02 k02 w h0
  · cases h1 : (decide (n01 ≤ 4) && decide (m01 ≤ 4))
    · exact field_no1 b00 a00 n00 c00 e00 g00 m00 k00 b01 a01 n01 c01 e01 g01 m01 k01 b02 a02 n02 c02 e02 g02 m02 k02 w h0 h1
    · cases h2 : (decide (n02 ≤ 4) && decide (m02 ≤ 4))
      · exact field_no2 b00 a00 n00 c00 e00 g00 m00 k00 b01 a01 n01 c01 e01 g01 m01 k01 b02 a02 n02 c02 e02 g02 m02 k02 w h0 h1 h2
      · have e0 := h0
        have e1 := h1
        have e2 := h2
        rw [Bool.and_eq_true, decide_eq_true_eq, decide_eq_true_eq] at e0 e1 e2
        obtain ⟨q, X, Y, hx, -⟩ := w0 e0.1 e0.2
        obtain ⟨p, X', Y', hy, -⟩ := w1 e1.1 e1.2
        obtain ⟨r, X'', Y'', hz, -⟩ := w2 e2.1 e2.2
        cases hd : decide (ratOf X Y ≠ 0)
        · exact field_yes0 b00 a00 n00 c00 e00 g00 m00 k00 b01 a01 n01 c01 e01 g01 m01 k01 b02 a02 n02 c02 e02 g02 m02 k02 w X Y X' Y' X'' Y'' hx hy hz h0 h1 h2 hd
        · exact field_yes1 b00 a00 n00 c00 e00 g00 m00 k00 b01 a01 n01 c01 e01 g01 m01 k01 b02 a02 n02 c02 e02 g02 m02 k02 w X Y X' Y' X'' Y'' hx hy hz h0 h1 h2 hd
end Go.Proofs.YtmlijnobdddmnaaGreatDoor
