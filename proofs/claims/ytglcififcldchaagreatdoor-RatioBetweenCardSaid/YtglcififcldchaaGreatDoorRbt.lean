/- RatioBetween: the walk. -/
import Derived.Test.YtglcififcldchaaGreatDoorRrk
namespace Go.Proofs.YtglcififcldchaaGreatDoor
open Go.RowKit
attribute [local go_sem ↓] Go.wp_at_zero Go.wp_at_succ
set_option linter.unusedVariables false

theorem irqB {k : Nat} {w : World} {v : Value} {q : Rat} (hb : BQ k q) (h : IsRat w v q) : LimQ k w v q := h.limQ hb
theorem qmulB_is {k l : Nat} {w : World} {v v' : Value} {x y z : Rat} (hz : x * y = z) (hx : LimQ k w v x) (hy : LimQ l w v' y) (hk : k ≤ 40000) (hl : l ≤ 40000) (h1 : 1 ≤ k) (h1' : 1 ≤ l) : Calls Tryz.prog 27 #[v, v'] w fun e w' => RatPost w w' e z := by
  subst hz; exact q_mul hx hy hk hl h1 h1'
theorem qsubB_is {k l : Nat} {w : World} {v v' : Value} {x y z : Rat} (hz : x - y = z) (hx : LimQ k w v x) (hy : LimQ l w v' y) (hk : k ≤ 40000) (hl : l ≤ 40000) (h1 : 1 ≤ k) (h1' : 1 ≤ l) : Calls Tryz.prog 25 #[v, v'] w fun e w' => RatPost w w' e z := by
  subst hz; exact q_sub hx hy hk hl h1 h1'
theorem of_two (w : World) : Calls Tryz.prog 29 #[.int .i64 2, .int .i64 1] w fun e w' => RatOfPost w w' e 2 true := by
  have := of_q 2 1 w (by omega) (by omega) (by omega) (by omega)
  rw [show Rat.divInt 2 1 = 2 from by decide, show decide ((1 : Int) ≠ 0) = true from rfl] at this
  exact this
theorem mid_cmp (x y : Rat) : cmpQ x ((x + y) / 2) = cmpQ x y ∧ cmpQ ((x + y) / 2) y = cmpQ x y := by unfold cmpQ; constructor <;> grind
theorem Blk.own4' {w : World} {g : Nat} {t : TypeId} {x0 x1 x2 x3 a b c d : Value} (h : Blk w g t #[x0, x1, x2, x3]) : Blk ((((w.setCell ⟨g, 0, none⟩ a).setCell ⟨g, 1, none⟩ b).setCell ⟨g, 2, none⟩ c).setCell ⟨g, 3, none⟩ d) g t #[a, b, c, d] := (((h.set_ 0 a).set_ 1 b).set_ 2 c).set_ 3 d
theorem Blk.far4 {w : World} {g g' : Nat} {t : TypeId} {cs : Array Value} {a b c d : Value} (h : Blk w g t cs) (hg : g ≠ g') : Blk ((((w.setCell ⟨g', 0, none⟩ a).setCell ⟨g', 1, none⟩ b).setCell ⟨g', 2, none⟩ c).setCell ⟨g', 3, none⟩ d) g t cs := (((h.other hg 0 a).other hg 1 b).other hg 2 c).other hg 3 d

set_option maxRecDepth 100000 in
set_option maxHeartbeats 2000000 in
theorem between_no0 (b00 : Bool) (a00 : Option Addr) (n00 c00 : Nat) (e00 : Bool) (g00 : Option Addr) (m00 k00 : Nat) (b01 : Bool) (a01 : Option Addr) (n01 c01 : Nat) (e01 : Bool) (g01 : Option Addr) (m01 k01 : Nat) (w : World) (h0 : (decide (n00 ≤ 4) && decide (m00 ≤ 4)) = false) :
    Calls Tryz.prog 7 #[(.agg #[.bool b00, .slice a00 n00 c00, .bool e00, .slice g00 m00 k00]), (.agg #[.bool b01, .slice a01 n01 c01, .bool e01, .slice g01 m01 k01])] w fun e w' => e = .returned (.bool true) ∧ Below w.heap.size w w' := by
  have F0 := Lib.hid h0
  clear h0
  go_enter Tryz.func7, Tryz.ntmps7
  go_wp2_with fail
  refine Calls.mono (awake3 _) ?_
  rintro e w1 ⟨rfl, hb⟩
  have hB := bun (bun (hb))
  have Ka_1 := Lib.hid (show Blk w1 (w.heap.size) 26 #[.bool b00, .slice a00 n00 c00, .bool e00, .slice g00 m00 k00] from ((Blk.new _ _ (by simp) _ _).alloc_ _).below hb)
  have Kb_1 := Lib.hid (show Blk w1 (w.heap.size + 1) 26 #[.bool b01, .slice a01 n01 c01, .bool e01, .slice g01 m01 k01] from (Blk.new _ _ (by simp) _ _).below hb)
  have HB_1 := Lib.hid (hB)
  have hs_1 : w.heap.size ≤ w1.heap.size := HB_1.out.size
  have hz_1 : w.heap.size + 2 ≤ w1.heap.size := (by have h := hb.size; (try simp at h); omega)
  clear hB hb 
  obtain ⟨p10, p11, p12, p13, l1⟩ := Ka_1.out.use4
  go_wp2_with fail
  refine Calls.mono (few_is _ _ _ _ _ _ _ _ _ false F0.out) ?_
  rintro e w2 ⟨rfl, hb⟩
  have hB := hb
  have Ka_2 := Lib.hid (Ka_1.out.below hB)
  have Kb_2 := Lib.hid (Kb_1.out.below hB)
  have HB_2 := Lib.hid (below_trans HB_1.out hB)
  have hs_2 : w.heap.size ≤ w2.heap.size := HB_2.out.size
  have hz_2 : w1.heap.size + 0 ≤ w2.heap.size := (by have h := hb.size; (try simp at h); omega)
  clear hB hb Ka_1 Kb_1 HB_1 p10 p11 p12 p13 l1
  go_wp2
  go_ret
  exact ⟨rfl, HB_2.out⟩

set_option maxRecDepth 100000 in
set_option maxHeartbeats 2000000 in
theorem between_no1 (b00 : Bool) (a00 : Option Addr) (n00 c00 : Nat) (e00 : Bool) (g00 : Option Addr) (m00 k00 : Nat) (b01 : Bool) (a01 : Option Addr) (n01 c01 : Nat) (e01 : Bool) (g01 : Option Addr) (m01 k01 : Nat) (w : World) (h0 : (decide (n00 ≤ 4) && decide (m00 ≤ 4)) = true) (h1 : (decide (n01 ≤ 4) && decide (m01 ≤ 4)) = false) :
    Calls Tryz.prog 7 #[(.agg #[.bool b00, .slice a00 n00 c00, .bool e00, .slice g00 m00 k00]), (.agg #[.bool b01, .slice a01 n01 c01, .bool e01, .slice g01 m01 k01])] w fun e w' => e = .returned (.bool true) ∧ Below w.heap.size w w' := by
  have F0 := Lib.hid h0
  clear h0
  have F1 := Lib.hid h1
  clear h1
  go_enter Tryz.func7, Tryz.ntmps7
  go_wp2_with fail
  refine Calls.mono (awake3 _) ?_
  rintro e w1 ⟨rfl, hb⟩
  have hB := bun (bun (hb))
  have Ka_1 := Lib.hid (show Blk w1 (w.heap.size) 26 #[.bool b00, .slice a00 n00 c00, .bool e00, .slice g00 m00 k00] from ((Blk.new _ _ (by simp) _ _).alloc_ _).below hb)
  have Kb_1 := Lib.hid (show Blk w1 (w.heap.size + 1) 26 #[.bool b01, .slice a01 n01 c01, .bool e01, .slice g01 m01 k01] from (Blk.new _ _ (by simp) _ _).below hb)
  have HB_1 := Lib.hid (hB)
  have hs_1 : w.heap.size ≤ w1.heap.size := HB_1.out.size
  have hz_1 : w.heap.size + 2 ≤ w1.heap.size := (by have h := hb.size; (try simp at h); omega)
  clear hB hb 
  obtain ⟨p10, p11, p12, p13, l1⟩ := Ka_1.out.use4
  go_wp2_with fail
  refine Calls.mono (few_is _ _ _ _ _ _ _ _ _ true F0.out) ?_
  rintro e w2 ⟨rfl, hb⟩
  have hB := hb
  have Ka_2 := Lib.hid (Ka_1.out.below hB)
  have Kb_2 := Lib.hid (Kb_1.out.below hB)
  have HB_2 := Lib.hid (below_trans HB_1.out hB)
  have hs_2 : w.heap.size ≤ w2.heap.size := HB_2.out.size
  have hz_2 : w1.heap.size + 0 ≤ w2.heap.size := (by have h := hb.size; (try simp at h); omega)
  clear hB hb Ka_1 Kb_1 HB_1 p10 p11 p12 p13 l1
  obtain ⟨p20, p21, p22, p23, l2⟩ := Kb_2.out.use4
  go_wp2_with fail
  refine Calls.mono (few_is _ _ _ _ _ _ _ _ _ false F1.out) ?_
  rintro e w3 ⟨rfl, hb⟩
  have hB := hb
  have Ka_3 := Lib.hid (Ka_2.out.below hB)
  have Kb_3 := Lib.hid (Kb_2.out.below hB)
  have HB_3 := Lib.hid (below_trans HB_2.out hB)
  have hs_3 : w.heap.size ≤ w3.heap.size := HB_3.out.size
  have hz_3 : w2.heap.size + 0 ≤ w3.heap.size := (by have h := hb.size; (try simp at h); omega)
  clear hB hb Ka_2 Kb_2 HB_2 p20 p21 p22 p23 l2
  go_wp2
  go_ret
  exact ⟨rfl, HB_3.out⟩

def MCut (w : World) (b00 : Bool) (a00 : Option Addr) (n00 c00 : Nat) (e00 : Bool) (g00 : Option Addr) (m00 k00 : Nat) (b01 : Bool) (a01 : Option Addr) (n01 c01 : Nat) (e01 : Bool) (g01 : Option Addr) (m01 k01 : Nat) (X Y X' Y' : Int) (m : Rat) (s7 s8 : Value) (wx : World) : Prop :=
  ∃ g5 b5 A5 n5 c5 d5 B5 m5 k5, s7 = .pointer (some ⟨g5, 0, none⟩) ∧ s8 = .bool true ∧ w.heap.size + 1 < g5 ∧ LimR 4 wx (.agg #[.bool b00, .slice a00 n00 c00, .bool e00, .slice g00 m00 k00]) X Y ∧ LimR 4 wx (.agg #[.bool b01, .slice a01 n01 c01, .bool e01, .slice g01 m01 k01]) X' Y' ∧ IsRat wx (.agg #[.bool b5, .slice A5 n5 c5, .bool d5, .slice B5 m5 k5]) m ∧ Blk wx g5 26 #[.bool b5, .slice A5 n5 c5, .bool d5, .slice B5 m5 k5] ∧ Blk wx w.heap.size 26 #[.bool b00, .slice a00 n00 c00, .bool e00, .slice g00 m00 k00] ∧ Blk wx (w.heap.size + 1) 26 #[.bool b01, .slice a01 n01 c01, .bool e01, .slice g01 m01 k01] ∧ Below w.heap.size w wx

set_option maxRecDepth 100000 in
set_option maxHeartbeats 4000000 in
theorem between_yes1 (b00 : Bool) (a00 : Option Addr) (n00 c00 : Nat) (e00 : Bool) (g00 : Option Addr) (m00 k00 : Nat) (b01 : Bool) (a01 : Option Addr) (n01 c01 : Nat) (e01 : Bool) (g01 : Option Addr) (m01 k01 : Nat) (w : World) (X Y X' Y' : Int) (hx : LimR 4 w (.agg #[.bool b00, .slice a00 n00 c00, .bool e00, .slice g00 m00 k00]) X Y) (hy : LimR 4 w (.agg #[.bool b01, .slice a01 n01 c01, .bool e01, .slice g01 m01 k01]) X' Y') (h0 : (decide (n00 ≤ 4) && decide (m00 ≤ 4)) = true) (h1 : (decide (n01 ≤ 4) && decide (m01 ≤ 4)) = true) (hd : decide (ratOf X' Y' ≠ 0) = true) :
    Calls Tryz.prog 7 #[(.agg #[.bool b00, .slice a00 n00 c00, .bool e00, .slice g00 m00 k00]), (.agg #[.bool b01, .slice a01 n01 c01, .bool e01, .slice g01 m01 k01])] w fun e w' => e = .returned (.bool true) ∧ Below w.heap.size w w' := by
  have F0 := Lib.hid h0
  have F1 := Lib.hid h1
  obtain ⟨x, hq⟩ : ∃ q, q = ratOf X Y := ⟨_, rfl⟩
  obtain ⟨y, hp⟩ : ∃ q, q = ratOf X' Y' := ⟨_, rfl⟩
  rw [← hp] at hd
  have BX := Lib.hid ((lq hq hx).bq (by omega))
  have BY := Lib.hid ((lq hp hy).bq (by omega))
  have B2 : Hid (BQ 1 (2 : Rat)) := bq_chk (by decide)
  have HD2 : Hid (decide ((2 : Rat) ≠ 0) = true) := by show _ = _; decide
  have hmc := mid_cmp x y
  obtain ⟨s, es⟩ : ∃ s, x + y = s := ⟨_, rfl⟩
  rw [es] at hmc
  obtain ⟨m, em⟩ : ∃ m, s / 2 = m := ⟨_, rfl⟩
  rw [em] at hmc
  obtain ⟨c, hc⟩ : ∃ c, cmpQ x y = c := ⟨_, rfl⟩
  rw [hc] at hmc
  obtain ⟨u, eu⟩ : ∃ u, x - y = u := ⟨_, rfl⟩
  obtain ⟨q, eq⟩ : ∃ q, x / y = q := ⟨_, rfl⟩
  have Es := Lib.hid es
  have HM := Lib.hid em
  have HC := Lib.hid hc
  have HC1 := Lib.hid hmc.1
  have HC2 := Lib.hid hmc.2
  have Eu := Lib.hid eu
  have Eu' : Hid (u + y = x) := by show _ = _; rw [← eu]; grind
  have Eq := Lib.hid eq
  have Eq' : Hid (q * y = x) := by
    show _ = _
    have hy0 : y ≠ 0 := of_decide_eq_true hd
    rw [← eq, Rat.div_def, Rat.mul_assoc, Rat.inv_mul_cancel _ hy0, Rat.mul_one]
  have Bs := Lib.hid (es ▸ bq_add BX.out BY.out)
  have Bm := Lib.hid (em ▸ bq_div (by omega) Bs.out B2.out)
  have Bu := Lib.hid (eu ▸ bq_sub BX.out BY.out)
  have Bq := Lib.hid (eq ▸ bq_div (by omega) BX.out BY.out)
  have HQ := Lib.hid hq
  have HP := Lib.hid hp
  have HD := Lib.hid hd
  have x_0 := Lib.hid hx
  have y_0 := Lib.hid hy
  clear h0 h1 hq hp hd hx hy es em hc hmc eu eq
  go_enter Tryz.func7, Tryz.ntmps7
  go_wp2_with fail
  refine Calls.mono (awake3 _) ?_
  rintro e w1 ⟨rfl, hb⟩
  have hB := bun (bun (hb))
  have x_1 := Lib.hid (x_0.out.below hB)
  have y_1 := Lib.hid (y_0.out.below hB)
  have Ka_1 := Lib.hid (show Blk w1 (w.heap.size) 26 #[.bool b00, .slice a00 n00 c00, .bool e00, .slice g00 m00 k00] from ((Blk.new _ _ (by simp) _ _).alloc_ _).below hb)
  have Kb_1 := Lib.hid (show Blk w1 (w.heap.size + 1) 26 #[.bool b01, .slice a01 n01 c01, .bool e01, .slice g01 m01 k01] from (Blk.new _ _ (by simp) _ _).below hb)
  have HB_1 := Lib.hid (hB)
  have hs_1 : w.heap.size ≤ w1.heap.size := HB_1.out.size
  have hz_1 : w.heap.size + 2 ≤ w1.heap.size := (by have h := hb.size; (try simp at h); omega)
  clear hB hb x_0 y_0
  obtain ⟨p10, p11, p12, p13, l1⟩ := Ka_1.out.use4
  go_wp2_with fail
  refine Calls.mono (few_is _ _ _ _ _ _ _ _ _ true F0.out) ?_
  rintro e w2 ⟨rfl, hb⟩
  have hB := hb
  have x_2 := Lib.hid (x_1.out.below hB)
  have y_2 := Lib.hid (y_1.out.below hB)
  have Ka_2 := Lib.hid (Ka_1.out.below hB)
  have Kb_2 := Lib.hid (Kb_1.out.below hB)
  have HB_2 := Lib.hid (below_trans HB_1.out hB)
  have hs_2 : w.heap.size ≤ w2.heap.size := HB_2.out.size
  have hz_2 : w1.heap.size + 0 ≤ w2.heap.size := (by have h := hb.size; (try simp at h); omega)
  clear hB hb x_1 y_1 Ka_1 Kb_1 HB_1 p10 p11 p12 p13 l1
  obtain ⟨p20, p21, p22, p23, l2⟩ := Kb_2.out.use4
  go_wp2_with fail
  refine Calls.mono (few_is _ _ _ _ _ _ _ _ _ true F1.out) ?_
  rintro e w3 ⟨rfl, hb⟩
  have hB := hb
  have x_3 := Lib.hid (x_2.out.below hB)
  have y_3 := Lib.hid (y_2.out.below hB)
  have Ka_3 := Lib.hid (Ka_2.out.below hB)
  have Kb_3 := Lib.hid (Kb_2.out.below hB)
  have HB_3 := Lib.hid (below_trans HB_2.out hB)
  have hs_3 : w.heap.size ≤ w3.heap.size := HB_3.out.size
  have hz_3 : w2.heap.size + 0 ≤ w3.heap.size := (by have h := hb.size; (try simp at h); omega)
  clear hB hb x_2 y_2 Ka_2 Kb_2 HB_2 p20 p21 p22 p23 l2
  go_wp2_with fail
  refine Calls.mono (of_two _) ?_
  rintro e w4 ⟨v, rfl, h, hb⟩
  have hk := h
  obtain ⟨b4, A4, n4, c4, d4, B4, m4, k4, rfl, -, -, -, -, -⟩ := h.form
  clear h
  have hB := hb
  have x_4 := Lib.hid (x_3.out.below hB)
  have y_4 := Lib.hid (y_3.out.below hB)
  have Ka_4 := Lib.hid (Ka_3.out.below hB)
  have Kb_4 := Lib.hid (Kb_3.out.below hB)
  have two_4 := Lib.hid (hk)
  have HB_4 := Lib.hid (below_trans HB_3.out hB)
  have hs_4 : w.heap.size ≤ w4.heap.size := HB_4.out.size
  have hz_4 : w3.heap.size + 0 ≤ w4.heap.size := (by have h := hb.size; (try simp at h); omega)
  clear hB hb x_3 y_3 Ka_3 Kb_3 HB_3
  go_upto_region 6 with fail
  generalize hW : (w4.alloc (.cells #[.bool b4, .slice A4 n4 c4, .bool d4, .slice B4 m4 k4] 26)) = w5
  have x_5 := Lib.hid (hW ▸ (x_4.out.alloc_ _))
  have y_5 := Lib.hid (hW ▸ (y_4.out.alloc_ _))
  have two_5 := Lib.hid (hW ▸ (two_4.out.alloc_ _))
  have Ka_5 := Lib.hid (show Blk w5 (w.heap.size) 26 #[.bool b00, .slice a00 n00 c00, .bool e00, .slice g00 m00 k00] from by rw [← hW]; exact (Ka_4.out.alloc_ _))
  have Kb_5 := Lib.hid (show Blk w5 (w.heap.size + 1) 26 #[.bool b01, .slice a01 n01 c01, .bool e01, .slice g01 m01 k01] from by rw [← hW]; exact (Kb_4.out.alloc_ _))
  have Kt_5 := Lib.hid (show Blk w5 (w4.heap.size) 26 #[.bool b4, .slice A4 n4 c4, .bool d4, .slice B4 m4 k4] from by rw [← hW]; exact Blk.new _ _ (by simp) _ _)
  have HB_5 := Lib.hid (show Below w.heap.size w w5 from by rw [← hW]; exact halloc (HB_4.out))
  have hs_5 : w.heap.size ≤ w5.heap.size := HB_5.out.size
  have hz_5 : w4.heap.size + 1 ≤ w5.heap.size := by rw [← hW]; simp
  clear hW x_4 y_4 two_4 Ka_4 Kb_4 HB_4
  go_cut [7, 8] (fun s7 s8 wx => MCut w b00 a00 n00 c00 e00 g00 m00 k00 b01 a01 n01 c01 e01 g01 m01 k01 X Y X' Y' m s7 s8 wx)
  case first =>
    obtain ⟨p30, p31, p32, p33, l3⟩ := Ka_5.out.use4
    obtain ⟨p40, p41, p42, p43, l4⟩ := Kb_5.out.use4
    obtain ⟨p50, p51, p52, p53, l5⟩ := Kt_5.out.use4
    have tok0 : True := trivial
    have tok1 : True := trivial
    go_region_held3 (fun w' => w'.cell? ⟨w.heap.size, 0, none⟩ = some (.bool b00) ∧ w'.cell? ⟨w.heap.size, 1, none⟩ = some (.slice a00 n00 c00) ∧ w'.cell? ⟨w.heap.size, 2, none⟩ = some (.bool e00) ∧ w'.cell? ⟨w.heap.size, 3, none⟩ = some (.slice g00 m00 k00) ∧ w'.cell? ⟨w.heap.size + 1, 0, none⟩ = some (.bool b01) ∧ w'.cell? ⟨w.heap.size + 1, 1, none⟩ = some (.slice a01 n01 c01) ∧ w'.cell? ⟨w.heap.size + 1, 2, none⟩ = some (.bool e01) ∧ w'.cell? ⟨w.heap.size + 1, 3, none⟩ = some (.slice g01 m01 k01) ∧ w'.cell? ⟨w4.heap.size, 0, none⟩ = some (.bool b4) ∧ w'.cell? ⟨w4.heap.size, 1, none⟩ = some (.slice A4 n4 c4) ∧ w'.cell? ⟨w4.heap.size, 2, none⟩ = some (.bool d4) ∧ w'.cell? ⟨w4.heap.size, 3, none⟩ = some (.slice B4 m4 k4)) (first | (refine ⟨?_, ?_, ?_, ?_, ?_, ?_, ?_, ?_, ?_, ?_, ?_, ?_⟩ <;> (first | with_reducible assumption | ((with_reducible refine Eq.trans (cell_drew _ _) ?_); with_reducible assumption) | ((rw [cell_far4 _ _ _ _ _ _ _ _ (by omega)]); with_reducible assumption) | ((repeat rw [cell_far2 _ _ _ _ _ _ (by omega)]); with_reducible assumption) | go_keep)) | trivial | go_keep)
      (first
        | (go_at_call 23; have _t := tok0; clear _t tok0; ((with_reducible refine Calls.mono (qadd_is Es.out (lq HQ.out (by first | exact x_5.out | exact x_5.out.drew_ | exact x_5.out.alloc_ _ | exact (x_5.out.alloc_ _).drew_)) (lq HP.out (by first | exact y_5.out | exact y_5.out.drew_ | exact y_5.out.alloc_ _ | exact (y_5.out.alloc_ _).drew_)) (by omega) (by omega) (by omega) (by omega)) ?_)); rintro e w6 ⟨v, rfl, h, hb⟩; have hk := h; obtain ⟨b6, A6, n6, c6, d6, B6, m6, k6, rfl, -, -, -, -, -⟩ := h.form; clear h; have hB := (show Below w5.heap.size w5 w6 from by first | exact hb | exact bundrew hb | exact bun hb | exact bundrew (bun hb) | exact bun (bundrew hb)); have x_6 := Lib.hid (x_5.out.below hB); have y_6 := Lib.hid (y_5.out.below hB); have two_6 := Lib.hid (two_5.out.below hB); have Ka_6 := Lib.hid (Ka_5.out.below hB); have Kb_6 := Lib.hid (Kb_5.out.below hB); have Kt_6 := Lib.hid (Kt_5.out.below hB); have s_6 := Lib.hid (hk); have HB_6 := Lib.hid (below_trans HB_5.out hB); have hs_6 : w.heap.size ≤ w6.heap.size := HB_6.out.size; have hz_6 : w5.heap.size + 0 ≤ w6.heap.size := (by have h := hb.size; (try simp at h); omega); (first | (have K7 := Lib.hid (K7.out.below hB)) | (have K7 := Lib.hid (Blk.below (Blk.new _ _ rfl _ _) hb)) | (have K7 := Lib.hid (Blk.below (Blk.new _ _ rfl _ _).drew_ hb)) | skip); (try (have hg7 := K7.out.lt)); clear hB hb x_5 y_5 two_5 Ka_5 Kb_5 Kt_5 HB_5 p30 p31 p32 p33 l3 p40 p41 p42 p43 l4 p50 p51 p52 p53 l5; obtain ⟨p60, p61, p62, p63, l6⟩ := Ka_6.out.use4; obtain ⟨p70, p71, p72, p73, l7⟩ := Kb_6.out.use4; obtain ⟨p80, p81, p82, p83, l8⟩ := Kt_6.out.use4)
        | (go_at_call 14; have _t := tok1; clear _t tok1; ((with_reducible refine Calls.mono (qdiv_is HD2.out (irqB Bs.out (by first | exact s_6.out | exact s_6.out.drew_ | exact s_6.out.alloc_ _ | exact (s_6.out.alloc_ _).drew_)) (irqB B2.out (by first | exact two_6.out | exact two_6.out.drew_ | exact two_6.out.alloc_ _ | exact (two_6.out.alloc_ _).drew_)) (by omega) (by omega) (by omega) (by omega)) ?_)); rintro e w7 ⟨v, rfl, h, hb⟩; rw [HM.out] at h; have hk := h; obtain ⟨b7, A7, n7, c7, d7, B7, m7, k7, rfl, -, -, -, -, -⟩ := h.form; clear h; have hB := (show Below w6.heap.size w6 w7 from by first | exact hb | exact bundrew hb | exact bun hb | exact bundrew (bun hb) | exact bun (bundrew hb)); have x_7 := Lib.hid (x_6.out.below hB); have y_7 := Lib.hid (y_6.out.below hB); have Ka_7 := Lib.hid (Ka_6.out.below hB); have Kb_7 := Lib.hid (Kb_6.out.below hB); have Kt_7 := Lib.hid (Kt_6.out.below hB); have mid_7 := Lib.hid (hk); have HB_7 := Lib.hid (below_trans HB_6.out hB); have hs_7 : w.heap.size ≤ w7.heap.size := HB_7.out.size; have hz_7 : w6.heap.size + 0 ≤ w7.heap.size := (by have h := hb.size; (try simp at h); omega); (first | (have K7 := Lib.hid (K7.out.below hB)) | (have K7 := Lib.hid (Blk.below (Blk.new _ _ rfl _ _) hb)) | (have K7 := Lib.hid (Blk.below (Blk.new _ _ rfl _ _).drew_ hb)) | skip); (try (have hg7 := K7.out.lt)); clear hB hb x_6 y_6 two_6 s_6 Ka_6 Kb_6 Kt_6 HB_6 p60 p61 p62 p63 l6 p70 p71 p72 p73 l7 p80 p81 p82 p83 l8; obtain ⟨p90, p91, p92, p93, l9⟩ := Ka_7.out.use4; obtain ⟨p100, p101, p102, p103, l10⟩ := Kb_7.out.use4; obtain ⟨p110, p111, p112, p113, l11⟩ := Kt_7.out.use4; (try (obtain ⟨q0, q1, q2, q3, q4⟩ := K7.out.use4; obtain ⟨q5, q6, q7, q8⟩ := K7.out.into4))))
    all_goals
      go_wp2_with fail
      go_meet
      unfold MCut
      first
      | (have hk7 := K7.out
         refine ⟨_, _, _, _, _, _, _, _, _, rfl, rfl, ?_, ?_, ?_, ?_, K7.out.own4', ?_, ?_, ?_⟩
         · omega
         · exact x_7.out.other4 hk7 nu nu nu nu
         · exact y_7.out.other4 hk7 nu nu nu nu
         · exact mid_7.out.other4 hk7 nu nu nu nu
         · exact Ka_7.out.far4 (by omega)
         · exact Kb_7.out.far4 (by omega)
         · exact bset (bset (bset (bset HB_7.out (by omega)) (by omega)) (by omega)) (by omega))
      | exact ⟨_, _, _, _, _, _, _, _, _, rfl, rfl, by omega, x_7.out.alloc_ _, y_7.out.alloc_ _, mid_7.out.alloc_ _, Blk.new _ _ rfl _ _, Ka_7.out.alloc_ _, Kb_7.out.alloc_ _, halloc HB_7.out⟩
  case rest =>
    obtain ⟨g5, b5, A5, n5, c5, d5, B5, m5, k5, rfl, rfl, hlt5, q1, q2, q3, q4, q5, q6, q7⟩ := hcut
    have x_7 := Lib.hid q1
    have y_7 := Lib.hid q2
    have mid_7 := Lib.hid q3
    have Kn_7 := Lib.hid q4
    have Ka_7 := Lib.hid q5
    have Kb_7 := Lib.hid q6
    have HB_7 := Lib.hid q7
    have hs_7 : w.heap.size ≤ wc.heap.size := q7.size
    clear q1 q2 q3 q4 q5 q6 q7
    try clear x_5 y_5 two_5 Ka_5 Kb_5 Kt_5 HB_5 hs_5 hz_5
    obtain ⟨p10, p11, p12, p13, l1⟩ := Ka_7.out.use4
    obtain ⟨p20, p21, p22, p23, l2⟩ := Kb_7.out.use4
    go_wp2_with fail
    refine Calls.mono (qcmp_is HC.out (lq HQ.out x_7.out) (lq HP.out y_7.out) (by omega) (by omega) (by omega) (by omega)) ?_
    rintro e w8 ⟨rfl, hb⟩
    have hB := hb
    have x_8 := Lib.hid (x_7.out.below hB)
    have y_8 := Lib.hid (y_7.out.below hB)
    have mid_8 := Lib.hid (mid_7.out.below hB)
    have Kn_8 := Lib.hid (Kn_7.out.below hB)
    have Ka_8 := Lib.hid (Ka_7.out.below hB)
    have Kb_8 := Lib.hid (Kb_7.out.below hB)
    have HB_8 := Lib.hid (below_trans HB_7.out hB)
    have hs_8 : w.heap.size ≤ w8.heap.size := HB_8.out.size
    have hz_8 : wc.heap.size + 0 ≤ w8.heap.size := (by have h := hb.size; (try simp at h); omega)
    clear hB hb x_7 y_7 mid_7 Kn_7 Ka_7 Kb_7 HB_7 p10 p11 p12 p13 l1 p20 p21 p22 p23 l2
    obtain ⟨p30, p31, p32, p33, l3⟩ := Ka_8.out.use4
    obtain ⟨p40, p41, p42, p43, l4⟩ := Kb_8.out.use4
    go_wp2_with fail
    refine Calls.mono (qdiv_is HD.out (lq HQ.out x_8.out) (lq HP.out y_8.out) (by omega) (by omega) (by omega) (by omega)) ?_
    rintro e w9 ⟨v, rfl, h, hb⟩
    rw [Eq.out] at h
    have hk := h
    obtain ⟨b9, A9, n9, c9, d9, B9, m9, k9, rfl, -, -, -, -, -⟩ := h.form
    clear h
    have hB := hb
    have x_9 := Lib.hid (x_8.out.below hB)
    have y_9 := Lib.hid (y_8.out.below hB)
    have mid_9 := Lib.hid (mid_8.out.below hB)
    have Kn_9 := Lib.hid (Kn_8.out.below hB)
    have Ka_9 := Lib.hid (Ka_8.out.below hB)
    have Kb_9 := Lib.hid (Kb_8.out.below hB)
    have q_9 := Lib.hid (hk)
    have HB_9 := Lib.hid (below_trans HB_8.out hB)
    have hs_9 : w.heap.size ≤ w9.heap.size := HB_9.out.size
    have hz_9 : w8.heap.size + 0 ≤ w9.heap.size := (by have h := hb.size; (try simp at h); omega)
    clear hB hb x_8 y_8 mid_8 Kn_8 Ka_8 Kb_8 HB_8 p30 p31 p32 p33 l3 p40 p41 p42 p43 l4
    go_wp2
    generalize hW : (w9.alloc (.cells #[.bool b9, .slice A9 n9 c9, .bool d9, .slice B9 m9 k9] 26)) = w10
    have x_10 := Lib.hid (hW ▸ (x_9.out.alloc_ _))
    have y_10 := Lib.hid (hW ▸ (y_9.out.alloc_ _))
    have mid_10 := Lib.hid (hW ▸ (mid_9.out.alloc_ _))
    have q_10 := Lib.hid (hW ▸ (q_9.out.alloc_ _))
    have Kn_10 := Lib.hid (show Blk w10 (g5) 26 #[.bool b5, .slice A5 n5 c5, .bool d5, .slice B5 m5 k5] from by rw [← hW]; exact (Kn_9.out.alloc_ _))
    have Ka_10 := Lib.hid (show Blk w10 (w.heap.size) 26 #[.bool b00, .slice a00 n00 c00, .bool e00, .slice g00 m00 k00] from by rw [← hW]; exact (Ka_9.out.alloc_ _))
    have Kb_10 := Lib.hid (show Blk w10 (w.heap.size + 1) 26 #[.bool b01, .slice a01 n01 c01, .bool e01, .slice g01 m01 k01] from by rw [← hW]; exact (Kb_9.out.alloc_ _))
    have Kq_10 := Lib.hid (show Blk w10 (w9.heap.size) 26 #[.bool b9, .slice A9 n9 c9, .bool d9, .slice B9 m9 k9] from by rw [← hW]; exact Blk.new _ _ (by simp) _ _)
    have HB_10 := Lib.hid (show Below w.heap.size w w10 from by rw [← hW]; exact halloc (HB_9.out))
    have hs_10 : w.heap.size ≤ w10.heap.size := HB_10.out.size
    have hz_10 : w9.heap.size + 1 ≤ w10.heap.size := by rw [← hW]; simp
    clear hW x_9 y_9 mid_9 q_9 Kn_9 Ka_9 Kb_9 HB_9
    obtain ⟨p50, p51, p52, p53, l5⟩ := Ka_10.out.use4
    obtain ⟨p60, p61, p62, p63, l6⟩ := Kb_10.out.use4
    obtain ⟨p70, p71, p72, p73, l7⟩ := Kn_10.out.use4
    have tok0 : True := trivial
    have tok1 : True := trivial
    have tok2 : True := trivial
    have tok3 : True := trivial
    have tok4 : True := trivial
    have tok5 : True := trivial
    go_region_held3 (fun w' => w'.cell? ⟨w.heap.size, 0, none⟩ = some (.bool b00) ∧ w'.cell? ⟨w.heap.size, 1, none⟩ = some (.slice a00 n00 c00) ∧ w'.cell? ⟨w.heap.size, 2, none⟩ = some (.bool e00) ∧ w'.cell? ⟨w.heap.size, 3, none⟩ = some (.slice g00 m00 k00) ∧ w'.cell? ⟨w.heap.size + 1, 0, none⟩ = some (.bool b01) ∧ w'.cell? ⟨w.heap.size + 1, 1, none⟩ = some (.slice a01 n01 c01) ∧ w'.cell? ⟨w.heap.size + 1, 2, none⟩ = some (.bool e01) ∧ w'.cell? ⟨w.heap.size + 1, 3, none⟩ = some (.slice g01 m01 k01) ∧ w'.cell? ⟨g5, 0, none⟩ = some (.bool b5) ∧ w'.cell? ⟨g5, 1, none⟩ = some (.slice A5 n5 c5) ∧ w'.cell? ⟨g5, 2, none⟩ = some (.bool d5) ∧ w'.cell? ⟨g5, 3, none⟩ = some (.slice B5 m5 k5)) (first | (refine ⟨?_, ?_, ?_, ?_, ?_, ?_, ?_, ?_, ?_, ?_, ?_, ?_⟩ <;> (first | with_reducible assumption | ((with_reducible refine Eq.trans (cell_drew _ _) ?_); with_reducible assumption) | ((rw [cell_far4 _ _ _ _ _ _ _ _ (by omega)]); with_reducible assumption) | ((repeat rw [cell_far2 _ _ _ _ _ _ (by omega)]); with_reducible assumption) | go_keep)) | trivial | go_keep)
      (first
        | (go_at_call 21; have _t := tok0; clear _t tok0; ((with_reducible refine Calls.mono (qcmp_is HC1.out (lq HQ.out (by first | exact x_10.out | exact x_10.out.drew_ | exact x_10.out.alloc_ _ | exact (x_10.out.alloc_ _).drew_)) (irqB Bm.out (by first | exact mid_10.out | exact mid_10.out.drew_ | exact mid_10.out.alloc_ _ | exact (mid_10.out.alloc_ _).drew_)) (by omega) (by omega) (by omega) (by omega)) ?_)); rintro e w11 ⟨rfl, hb⟩; have hB := (show Below w10.heap.size w10 w11 from by first | exact hb | exact bundrew hb | exact bun hb | exact bundrew (bun hb) | exact bun (bundrew hb)); have x_11 := Lib.hid (x_10.out.below hB); have y_11 := Lib.hid (y_10.out.below hB); have mid_11 := Lib.hid (mid_10.out.below hB); have q_11 := Lib.hid (q_10.out.below hB); have Kn_11 := Lib.hid (Kn_10.out.below hB); have Ka_11 := Lib.hid (Ka_10.out.below hB); have Kb_11 := Lib.hid (Kb_10.out.below hB); have Kq_11 := Lib.hid (Kq_10.out.below hB); have HB_11 := Lib.hid (below_trans HB_10.out hB); have hs_11 : w.heap.size ≤ w11.heap.size := HB_11.out.size; have hz_11 : w10.heap.size + 0 ≤ w11.heap.size := (by have h := hb.size; (try simp at h); omega); clear hB hb x_10 y_10 mid_10 q_10 Kn_10 Ka_10 Kb_10 Kq_10 HB_10 p50 p51 p52 p53 l5 p60 p61 p62 p63 l6 p70 p71 p72 p73 l7; obtain ⟨p80, p81, p82, p83, l8⟩ := Ka_11.out.use4; obtain ⟨p90, p91, p92, p93, l9⟩ := Kb_11.out.use4; obtain ⟨p100, p101, p102, p103, l10⟩ := Kn_11.out.use4)
        | (go_at_call 21; have _t := tok1; clear _t tok1; ((with_reducible refine Calls.mono (qcmp_is HC2.out (irqB Bm.out (by first | exact mid_11.out | exact mid_11.out.drew_ | exact mid_11.out.alloc_ _ | exact (mid_11.out.alloc_ _).drew_)) (lq HP.out (by first | exact y_11.out | exact y_11.out.drew_ | exact y_11.out.alloc_ _ | exact (y_11.out.alloc_ _).drew_)) (by omega) (by omega) (by omega) (by omega)) ?_)); rintro e w12 ⟨rfl, hb⟩; have hB := (show Below w11.heap.size w11 w12 from by first | exact hb | exact bundrew hb | exact bun hb | exact bundrew (bun hb) | exact bun (bundrew hb)); have x_12 := Lib.hid (x_11.out.below hB); have y_12 := Lib.hid (y_11.out.below hB); have q_12 := Lib.hid (q_11.out.below hB); have Kn_12 := Lib.hid (Kn_11.out.below hB); have Ka_12 := Lib.hid (Ka_11.out.below hB); have Kb_12 := Lib.hid (Kb_11.out.below hB); have Kq_12 := Lib.hid (Kq_11.out.below hB); have HB_12 := Lib.hid (below_trans HB_11.out hB); have hs_12 : w.heap.size ≤ w12.heap.size := HB_12.out.size; have hz_12 : w11.heap.size + 0 ≤ w12.heap.size := (by have h := hb.size; (try simp at h); omega); clear hB hb x_11 y_11 mid_11 q_11 Kn_11 Ka_11 Kb_11 Kq_11 HB_11 p80 p81 p82 p83 l8 p90 p91 p92 p93 l9 p100 p101 p102 p103 l10; obtain ⟨p110, p111, p112, p113, l11⟩ := Ka_12.out.use4; obtain ⟨p120, p121, p122, p123, l12⟩ := Kb_12.out.use4; obtain ⟨p130, p131, p132, p133, l13⟩ := Kn_12.out.use4)
        | (go_at_call 25; have _t := tok2; clear _t tok2; ((with_reducible refine Calls.mono (qsubB_is Eu.out (lq HQ.out (by first | exact x_12.out | exact x_12.out.drew_ | exact x_12.out.alloc_ _ | exact (x_12.out.alloc_ _).drew_)) (lq HP.out (by first | exact y_12.out | exact y_12.out.drew_ | exact y_12.out.alloc_ _ | exact (y_12.out.alloc_ _).drew_)) (by omega) (by omega) (by omega) (by omega)) ?_)); rintro e w13 ⟨v, rfl, h, hb⟩; have hk := h; obtain ⟨b13, A13, n13, c13, d13, B13, m13, k13, rfl, -, -, -, -, -⟩ := h.form; clear h; have hB := (show Below w12.heap.size w12 w13 from by first | exact hb | exact bundrew hb | exact bun hb | exact bundrew (bun hb) | exact bun (bundrew hb)); have x_13 := Lib.hid (x_12.out.below hB); have y_13 := Lib.hid (y_12.out.below hB); have q_13 := Lib.hid (q_12.out.below hB); have Kn_13 := Lib.hid (Kn_12.out.below hB); have Ka_13 := Lib.hid (Ka_12.out.below hB); have Kb_13 := Lib.hid (Kb_12.out.below hB); have Kq_13 := Lib.hid (Kq_12.out.below hB); have u_13 := Lib.hid (hk); have HB_13 := Lib.hid (below_trans HB_12.out hB); have hs_13 : w.heap.size ≤ w13.heap.size := HB_13.out.size; have hz_13 : w12.heap.size + 0 ≤ w13.heap.size := (by have h := hb.size; (try simp at h); omega); clear hB hb x_12 y_12 q_12 Kn_12 Ka_12 Kb_12 Kq_12 HB_12 p110 p111 p112 p113 l11 p120 p121 p122 p123 l12 p130 p131 p132 p133 l13; obtain ⟨p140, p141, p142, p143, l14⟩ := Ka_13.out.use4; obtain ⟨p150, p151, p152, p153, l15⟩ := Kb_13.out.use4; obtain ⟨p160, p161, p162, p163, l16⟩ := Kn_13.out.use4)
        | (go_at_call 23; have _t := tok3; clear _t tok3; ((with_reducible refine Calls.mono (qadd_is Eu'.out (irqB Bu.out (by first | exact u_13.out | exact u_13.out.drew_ | exact u_13.out.alloc_ _ | exact (u_13.out.alloc_ _).drew_)) (lq HP.out (by first | exact y_13.out | exact y_13.out.drew_ | exact y_13.out.alloc_ _ | exact (y_13.out.alloc_ _).drew_)) (by omega) (by omega) (by omega) (by omega)) ?_)); rintro e w14 ⟨v, rfl, h, hb⟩; have hk := h; obtain ⟨b14, A14, n14, c14, d14, B14, m14, k14, rfl, -, -, -, -, -⟩ := h.form; clear h; have hB := (show Below w13.heap.size w13 w14 from by first | exact hb | exact bundrew hb | exact bun hb | exact bundrew (bun hb) | exact bun (bundrew hb)); have x_14 := Lib.hid (x_13.out.below hB); have y_14 := Lib.hid (y_13.out.below hB); have q_14 := Lib.hid (q_13.out.below hB); have Kn_14 := Lib.hid (Kn_13.out.below hB); have Ka_14 := Lib.hid (Ka_13.out.below hB); have Kb_14 := Lib.hid (Kb_13.out.below hB); have Kq_14 := Lib.hid (Kq_13.out.below hB); have v_14 := Lib.hid (hk); have HB_14 := Lib.hid (below_trans HB_13.out hB); have hs_14 : w.heap.size ≤ w14.heap.size := HB_14.out.size; have hz_14 : w13.heap.size + 0 ≤ w14.heap.size := (by have h := hb.size; (try simp at h); omega); clear hB hb x_13 y_13 q_13 u_13 Kn_13 Ka_13 Kb_13 Kq_13 HB_13 p140 p141 p142 p143 l14 p150 p151 p152 p153 l15 p160 p161 p162 p163 l16; obtain ⟨p170, p171, p172, p173, l17⟩ := Ka_14.out.use4; obtain ⟨p180, p181, p182, p183, l18⟩ := Kb_14.out.use4; obtain ⟨p190, p191, p192, p193, l19⟩ := Kn_14.out.use4)
        | (go_at_call 20; have _t := tok4; clear _t tok4; ((with_reducible refine Calls.mono (r_plain (lq HQ.out (by first | exact x_14.out | exact x_14.out.drew_ | exact x_14.out.alloc_ _ | exact (x_14.out.alloc_ _).drew_)) (by omega)) ?_)); rintro e w15 ⟨v, rfl, h, hb⟩; have hk := h; obtain ⟨b15, A15, n15, c15, d15, B15, m15, k15, rfl, -, -, -, -, -⟩ := h.form; clear h; have hB := (show Below w14.heap.size w14 w15 from by first | exact hb | exact bundrew hb | exact bun hb | exact bundrew (bun hb) | exact bun (bundrew hb)); have x_15 := Lib.hid (x_14.out.below hB); have y_15 := Lib.hid (y_14.out.below hB); have q_15 := Lib.hid (q_14.out.below hB); have v_15 := Lib.hid (v_14.out.below hB); have Kn_15 := Lib.hid (Kn_14.out.below hB); have Ka_15 := Lib.hid (Ka_14.out.below hB); have Kb_15 := Lib.hid (Kb_14.out.below hB); have Kq_15 := Lib.hid (Kq_14.out.below hB); have v2_15 := Lib.hid (hk); have HB_15 := Lib.hid (below_trans HB_14.out hB); have hs_15 : w.heap.size ≤ w15.heap.size := HB_15.out.size; have hz_15 : w14.heap.size + 0 ≤ w15.heap.size := (by have h := hb.size; (try simp at h); omega); clear hB hb x_14 y_14 q_14 v_14 Kn_14 Ka_14 Kb_14 Kq_14 HB_14 p170 p171 p172 p173 l17 p180 p181 p182 p183 l18 p190 p191 p192 p193 l19; obtain ⟨p200, p201, p202, p203, l20⟩ := Ka_15.out.use4; obtain ⟨p210, p211, p212, p213, l21⟩ := Kb_15.out.use4; obtain ⟨p220, p221, p222, p223, l22⟩ := Kn_15.out.use4)
        | (go_at_call 18; have _t := tok5; clear _t tok5; ((with_reducible refine Calls.mono (rat_same (by first | exact v_15.out | exact v_15.out.drew_ | exact v_15.out.alloc_ _ | exact (v_15.out.alloc_ _).drew_) (by first | exact v2_15.out | exact v2_15.out.drew_ | exact v2_15.out.alloc_ _ | exact (v2_15.out.alloc_ _).drew_) BX.out (by omega)) ?_)); rintro e w16 ⟨rfl, hb⟩; have hB := (show Below w15.heap.size w15 w16 from by first | exact hb | exact bundrew hb | exact bun hb | exact bundrew (bun hb) | exact bun (bundrew hb)); have x_16 := Lib.hid (x_15.out.below hB); have y_16 := Lib.hid (y_15.out.below hB); have q_16 := Lib.hid (q_15.out.below hB); have Kn_16 := Lib.hid (Kn_15.out.below hB); have Ka_16 := Lib.hid (Ka_15.out.below hB); have Kb_16 := Lib.hid (Kb_15.out.below hB); have Kq_16 := Lib.hid (Kq_15.out.below hB); have HB_16 := Lib.hid (below_trans HB_15.out hB); have hs_16 : w.heap.size ≤ w16.heap.size := HB_16.out.size; have hz_16 : w15.heap.size + 0 ≤ w16.heap.size := (by have h := hb.size; (try simp at h); omega); clear hB hb x_15 y_15 q_15 v_15 v2_15 Kn_15 Ka_15 Kb_15 Kq_15 HB_15 p200 p201 p202 p203 l20 p210 p211 p212 p213 l21 p220 p221 p222 p223 l22; obtain ⟨p230, p231, p232, p233, l23⟩ := Ka_16.out.use4; obtain ⟨p240, p241, p242, p243, l24⟩ := Kb_16.out.use4; obtain ⟨p250, p251, p252, p253, l25⟩ := Kn_16.out.use4))
    go_wp2
    obtain ⟨p260, p261, p262, p263, l26⟩ := Ka_16.out.use4
    obtain ⟨p270, p271, p272, p273, l27⟩ := Kb_16.out.use4
    obtain ⟨p280, p281, p282, p283, l28⟩ := Kq_16.out.use4
    have tok0 : True := trivial
    have tok1 : True := trivial
    have tok2 : True := trivial
    go_region_held3 (fun w' => w'.cell? ⟨w.heap.size, 0, none⟩ = some (.bool b00) ∧ w'.cell? ⟨w.heap.size, 1, none⟩ = some (.slice a00 n00 c00) ∧ w'.cell? ⟨w.heap.size, 2, none⟩ = some (.bool e00) ∧ w'.cell? ⟨w.heap.size, 3, none⟩ = some (.slice g00 m00 k00) ∧ w'.cell? ⟨w.heap.size + 1, 0, none⟩ = some (.bool b01) ∧ w'.cell? ⟨w.heap.size + 1, 1, none⟩ = some (.slice a01 n01 c01) ∧ w'.cell? ⟨w.heap.size + 1, 2, none⟩ = some (.bool e01) ∧ w'.cell? ⟨w.heap.size + 1, 3, none⟩ = some (.slice g01 m01 k01) ∧ w'.cell? ⟨w9.heap.size, 0, none⟩ = some (.bool b9) ∧ w'.cell? ⟨w9.heap.size, 1, none⟩ = some (.slice A9 n9 c9) ∧ w'.cell? ⟨w9.heap.size, 2, none⟩ = some (.bool d9) ∧ w'.cell? ⟨w9.heap.size, 3, none⟩ = some (.slice B9 m9 k9)) (first | (refine ⟨?_, ?_, ?_, ?_, ?_, ?_, ?_, ?_, ?_, ?_, ?_, ?_⟩ <;> (first | with_reducible assumption | ((with_reducible refine Eq.trans (cell_drew _ _) ?_); with_reducible assumption) | ((rw [cell_far4 _ _ _ _ _ _ _ _ (by omega)]); with_reducible assumption) | ((repeat rw [cell_far2 _ _ _ _ _ _ (by omega)]); with_reducible assumption) | go_keep)) | trivial | go_keep)
      (first
        | (go_at_call 27; have _t := tok0; clear _t tok0; ((with_reducible refine Calls.mono (qmulB_is Eq'.out (irqB Bq.out (by first | exact q_16.out | exact q_16.out.drew_ | exact q_16.out.alloc_ _ | exact (q_16.out.alloc_ _).drew_)) (lq HP.out (by first | exact y_16.out | exact y_16.out.drew_ | exact y_16.out.alloc_ _ | exact (y_16.out.alloc_ _).drew_)) (by omega) (by omega) (by omega) (by omega)) ?_)); rintro e w17 ⟨v, rfl, h, hb⟩; have hk := h; obtain ⟨b17, A17, n17, c17, d17, B17, m17, k17, rfl, -, -, -, -, -⟩ := h.form; clear h; have hB := (show Below w16.heap.size w16 w17 from by first | exact hb | exact bundrew hb | exact bun hb | exact bundrew (bun hb) | exact bun (bundrew hb)); have x_17 := Lib.hid (x_16.out.below hB); have y_17 := Lib.hid (y_16.out.below hB); have Kn_17 := Lib.hid (Kn_16.out.below hB); have Ka_17 := Lib.hid (Ka_16.out.below hB); have Kb_17 := Lib.hid (Kb_16.out.below hB); have Kq_17 := Lib.hid (Kq_16.out.below hB); have v_17 := Lib.hid (hk); have HB_17 := Lib.hid (below_trans HB_16.out hB); have hs_17 : w.heap.size ≤ w17.heap.size := HB_17.out.size; have hz_17 : w16.heap.size + 0 ≤ w17.heap.size := (by have h := hb.size; (try simp at h); omega); clear hB hb x_16 y_16 q_16 Kn_16 Ka_16 Kb_16 Kq_16 HB_16 p230 p231 p232 p233 l23 p240 p241 p242 p243 l24 p250 p251 p252 p253 l25 p260 p261 p262 p263 l26 p270 p271 p272 p273 l27 p280 p281 p282 p283 l28; obtain ⟨p290, p291, p292, p293, l29⟩ := Ka_17.out.use4; obtain ⟨p300, p301, p302, p303, l30⟩ := Kb_17.out.use4; obtain ⟨p310, p311, p312, p313, l31⟩ := Kq_17.out.use4)
        | (go_at_call 20; have _t := tok1; clear _t tok1; ((with_reducible refine Calls.mono (r_plain (lq HQ.out (by first | exact x_17.out | exact x_17.out.drew_ | exact x_17.out.alloc_ _ | exact (x_17.out.alloc_ _).drew_)) (by omega)) ?_)); rintro e w18 ⟨v, rfl, h, hb⟩; have hk := h; obtain ⟨b18, A18, n18, c18, d18, B18, m18, k18, rfl, -, -, -, -, -⟩ := h.form; clear h; have hB := (show Below w17.heap.size w17 w18 from by first | exact hb | exact bundrew hb | exact bun hb | exact bundrew (bun hb) | exact bun (bundrew hb)); have x_18 := Lib.hid (x_17.out.below hB); have y_18 := Lib.hid (y_17.out.below hB); have v_18 := Lib.hid (v_17.out.below hB); have Kn_18 := Lib.hid (Kn_17.out.below hB); have Ka_18 := Lib.hid (Ka_17.out.below hB); have Kb_18 := Lib.hid (Kb_17.out.below hB); have Kq_18 := Lib.hid (Kq_17.out.below hB); have v2_18 := Lib.hid (hk); have HB_18 := Lib.hid (below_trans HB_17.out hB); have hs_18 : w.heap.size ≤ w18.heap.size := HB_18.out.size; have hz_18 : w17.heap.size + 0 ≤ w18.heap.size := (by have h := hb.size; (try simp at h); omega); clear hB hb x_17 y_17 v_17 Kn_17 Ka_17 Kb_17 Kq_17 HB_17 p290 p291 p292 p293 l29 p300 p301 p302 p303 l30 p310 p311 p312 p313 l31; obtain ⟨p320, p321, p322, p323, l32⟩ := Ka_18.out.use4; obtain ⟨p330, p331, p332, p333, l33⟩ := Kb_18.out.use4; obtain ⟨p340, p341, p342, p343, l34⟩ := Kq_18.out.use4)
        | (go_at_call 18; have _t := tok2; clear _t tok2; ((with_reducible refine Calls.mono (rat_same (by first | exact v_18.out | exact v_18.out.drew_ | exact v_18.out.alloc_ _ | exact (v_18.out.alloc_ _).drew_) (by first | exact v2_18.out | exact v2_18.out.drew_ | exact v2_18.out.alloc_ _ | exact (v2_18.out.alloc_ _).drew_) BX.out (by omega)) ?_)); rintro e w19 ⟨rfl, hb⟩; have hB := (show Below w18.heap.size w18 w19 from by first | exact hb | exact bundrew hb | exact bun hb | exact bundrew (bun hb) | exact bun (bundrew hb)); have x_19 := Lib.hid (x_18.out.below hB); have y_19 := Lib.hid (y_18.out.below hB); have Kn_19 := Lib.hid (Kn_18.out.below hB); have Ka_19 := Lib.hid (Ka_18.out.below hB); have Kb_19 := Lib.hid (Kb_18.out.below hB); have Kq_19 := Lib.hid (Kq_18.out.below hB); have HB_19 := Lib.hid (below_trans HB_18.out hB); have hs_19 : w.heap.size ≤ w19.heap.size := HB_19.out.size; have hz_19 : w18.heap.size + 0 ≤ w19.heap.size := (by have h := hb.size; (try simp at h); omega); clear hB hb x_18 y_18 v_18 v2_18 Kn_18 Ka_18 Kb_18 Kq_18 HB_18 p320 p321 p322 p323 l32 p330 p331 p332 p333 l33 p340 p341 p342 p343 l34; obtain ⟨p350, p351, p352, p353, l35⟩ := Ka_19.out.use4; obtain ⟨p360, p361, p362, p363, l36⟩ := Kb_19.out.use4; obtain ⟨p370, p371, p372, p373, l37⟩ := Kq_19.out.use4))
    go_wp2
    go_ret
    exact ⟨by simp, HB_19.out⟩

set_option maxRecDepth 100000 in
set_option maxHeartbeats 4000000 in
theorem between_yes0 (b00 : Bool) (a00 : Option Addr) (n00 c00 : Nat) (e00 : Bool) (g00 : Option Addr) (m00 k00 : Nat) (b01 : Bool) (a01 : Option Addr) (n01 c01 : Nat) (e01 : Bool) (g01 : Option Addr) (m01 k01 : Nat) (w : World) (X Y X' Y' : Int) (hx : LimR 4 w (.agg #[.bool b00, .slice a00 n00 c00, .bool e00, .slice g00 m00 k00]) X Y) (hy : LimR 4 w (.agg #[.bool b01, .slice a01 n01 c01, .bool e01, .slice g01 m01 k01]) X' Y') (h0 : (decide (n00 ≤ 4) && decide (m00 ≤ 4)) = true) (h1 : (decide (n01 ≤ 4) && decide (m01 ≤ 4)) = true) (hd : decide (ratOf X' Y' ≠ 0) = false) :
    Calls Tryz.prog 7 #[(.agg #[.bool b00, .slice a00 n00 c00, .bool e00, .slice g00 m00 k00]), (.agg #[.bool b01, .slice a01 n01 c01, .bool e01, .slice g01 m01 k01])] w fun e w' => e = .returned (.bool true) ∧ Below w.heap.size w w' := by
  have F0 := Lib.hid h0
  have F1 := Lib.hid h1
  obtain ⟨x, hq⟩ : ∃ q, q = ratOf X Y := ⟨_, rfl⟩
  obtain ⟨y, hp⟩ : ∃ q, q = ratOf X' Y' := ⟨_, rfl⟩
  rw [← hp] at hd
  have BX := Lib.hid ((lq hq hx).bq (by omega))
  have BY := Lib.hid ((lq hp hy).bq (by omega))
  have B2 : Hid (BQ 1 (2 : Rat)) := bq_chk (by decide)
  have HD2 : Hid (decide ((2 : Rat) ≠ 0) = true) := by show _ = _; decide
  have hmc := mid_cmp x y
  obtain ⟨s, es⟩ : ∃ s, x + y = s := ⟨_, rfl⟩
  rw [es] at hmc
  obtain ⟨m, em⟩ : ∃ m, s / 2 = m := ⟨_, rfl⟩
  rw [em] at hmc
  obtain ⟨c, hc⟩ : ∃ c, cmpQ x y = c := ⟨_, rfl⟩
  rw [hc] at hmc
  obtain ⟨u, eu⟩ : ∃ u, x - y = u := ⟨_, rfl⟩
  obtain ⟨q, eq⟩ : ∃ q, x / y = q := ⟨_, rfl⟩
  have Es := Lib.hid es
  have HM := Lib.hid em
  have HC := Lib.hid hc
  have HC1 := Lib.hid hmc.1
  have HC2 := Lib.hid hmc.2
  have Eu := Lib.hid eu
  have Eu' : Hid (u + y = x) := by show _ = _; rw [← eu]; grind
  have Eq := Lib.hid eq
  have Bs := Lib.hid (es ▸ bq_add BX.out BY.out)
  have Bm := Lib.hid (em ▸ bq_div (by omega) Bs.out B2.out)
  have Bu := Lib.hid (eu ▸ bq_sub BX.out BY.out)
  have Bq := Lib.hid (eq ▸ bq_div (by omega) BX.out BY.out)
  have HQ := Lib.hid hq
  have HP := Lib.hid hp
  have HD := Lib.hid hd
  have x_0 := Lib.hid hx
  have y_0 := Lib.hid hy
  clear h0 h1 hq hp hd hx hy es em hc hmc eu eq
  go_enter Tryz.func7, Tryz.ntmps7
  go_wp2_with fail
  refine Calls.mono (awake3 _) ?_
  rintro e w1 ⟨rfl, hb⟩
  have hB := bun (bun (hb))
  have x_1 := Lib.hid (x_0.out.below hB)
  have y_1 := Lib.hid (y_0.out.below hB)
  have Ka_1 := Lib.hid (show Blk w1 (w.heap.size) 26 #[.bool b00, .slice a00 n00 c00, .bool e00, .slice g00 m00 k00] from ((Blk.new _ _ (by simp) _ _).alloc_ _).below hb)
  have Kb_1 := Lib.hid (show Blk w1 (w.heap.size + 1) 26 #[.bool b01, .slice a01 n01 c01, .bool e01, .slice g01 m01 k01] from (Blk.new _ _ (by simp) _ _).below hb)
  have HB_1 := Lib.hid (hB)
  have hs_1 : w.heap.size ≤ w1.heap.size := HB_1.out.size
  have hz_1 : w.heap.size + 2 ≤ w1.heap.size := (by have h := hb.size; (try simp at h); omega)
  clear hB hb x_0 y_0
  obtain ⟨p10, p11, p12, p13, l1⟩ := Ka_1.out.use4
  go_wp2_with fail
  refine Calls.mono (few_is _ _ _ _ _ _ _ _ _ true F0.out) ?_
  rintro e w2 ⟨rfl, hb⟩
  have hB := hb
  have x_2 := Lib.hid (x_1.out.below hB)
  have y_2 := Lib.hid (y_1.out.below hB)
  have Ka_2 := Lib.hid (Ka_1.out.below hB)
  have Kb_2 := Lib.hid (Kb_1.out.below hB)
  have HB_2 := Lib.hid (below_trans HB_1.out hB)
  have hs_2 : w.heap.size ≤ w2.heap.size := HB_2.out.size
  have hz_2 : w1.heap.size + 0 ≤ w2.heap.size := (by have h := hb.size; (try simp at h); omega)
  clear hB hb x_1 y_1 Ka_1 Kb_1 HB_1 p10 p11 p12 p13 l1
  obtain ⟨p20, p21, p22, p23, l2⟩ := Kb_2.out.use4
  go_wp2_with fail
  refine Calls.mono (few_is _ _ _ _ _ _ _ _ _ true F1.out) ?_
  rintro e w3 ⟨rfl, hb⟩
  have hB := hb
  have x_3 := Lib.hid (x_2.out.below hB)
  have y_3 := Lib.hid (y_2.out.below hB)
  have Ka_3 := Lib.hid (Ka_2.out.below hB)
  have Kb_3 := Lib.hid (Kb_2.out.below hB)
  have HB_3 := Lib.hid (below_trans HB_2.out hB)
  have hs_3 : w.heap.size ≤ w3.heap.size := HB_3.out.size
  have hz_3 : w2.heap.size + 0 ≤ w3.heap.size := (by have h := hb.size; (try simp at h); omega)
  clear hB hb x_2 y_2 Ka_2 Kb_2 HB_2 p20 p21 p22 p23 l2
  go_wp2_with fail
  refine Calls.mono (of_two _) ?_
  rintro e w4 ⟨v, rfl, h, hb⟩
  have hk := h
  obtain ⟨b4, A4, n4, c4, d4, B4, m4, k4, rfl, -, -, -, -, -⟩ := h.form
  clear h
  have hB := hb
  have x_4 := Lib.hid (x_3.out.below hB)
  have y_4 := Lib.hid (y_3.out.below hB)
  have Ka_4 := Lib.hid (Ka_3.out.below hB)
  have Kb_4 := Lib.hid (Kb_3.out.below hB)
  have two_4 := Lib.hid (hk)
  have HB_4 := Lib.hid (below_trans HB_3.out hB)
  have hs_4 : w.heap.size ≤ w4.heap.size := HB_4.out.size
  have hz_4 : w3.heap.size + 0 ≤ w4.heap.size := (by have h := hb.size; (try simp at h); omega)
  clear hB hb x_3 y_3 Ka_3 Kb_3 HB_3
  go_upto_region 6 with fail
  generalize hW : (w4.alloc (.cells #[.bool b4, .slice A4 n4 c4, .bool d4, .slice B4 m4 k4] 26)) = w5
  have x_5 := Lib.hid (hW ▸ (x_4.out.alloc_ _))
  have y_5 := Lib.hid (hW ▸ (y_4.out.alloc_ _))
  have two_5 := Lib.hid (hW ▸ (two_4.out.alloc_ _))
  have Ka_5 := Lib.hid (show Blk w5 (w.heap.size) 26 #[.bool b00, .slice a00 n00 c00, .bool e00, .slice g00 m00 k00] from by rw [← hW]; exact (Ka_4.out.alloc_ _))
  have Kb_5 := Lib.hid (show Blk w5 (w.heap.size + 1) 26 #[.bool b01, .slice a01 n01 c01, .bool e01, .slice g01 m01 k01] from by rw [← hW]; exact (Kb_4.out.alloc_ _))
  have Kt_5 := Lib.hid (show Blk w5 (w4.heap.size) 26 #[.bool b4, .slice A4 n4 c4, .bool d4, .slice B4 m4 k4] from by rw [← hW]; exact Blk.new _ _ (by simp) _ _)
  have HB_5 := Lib.hid (show Below w.heap.size w w5 from by rw [← hW]; exact halloc (HB_4.out))
  have hs_5 : w.heap.size ≤ w5.heap.size := HB_5.out.size
  have hz_5 : w4.heap.size + 1 ≤ w5.heap.size := by rw [← hW]; simp
  clear hW x_4 y_4 two_4 Ka_4 Kb_4 HB_4
  go_cut [7, 8] (fun s7 s8 wx => MCut w b00 a00 n00 c00 e00 g00 m00 k00 b01 a01 n01 c01 e01 g01 m01 k01 X Y X' Y' m s7 s8 wx)
  case first =>
    obtain ⟨p30, p31, p32, p33, l3⟩ := Ka_5.out.use4
    obtain ⟨p40, p41, p42, p43, l4⟩ := Kb_5.out.use4
    obtain ⟨p50, p51, p52, p53, l5⟩ := Kt_5.out.use4
    have tok0 : True := trivial
    have tok1 : True := trivial
    go_region_held3 (fun w' => w'.cell? ⟨w.heap.size, 0, none⟩ = some (.bool b00) ∧ w'.cell? ⟨w.heap.size, 1, none⟩ = some (.slice a00 n00 c00) ∧ w'.cell? ⟨w.heap.size, 2, none⟩ = some (.bool e00) ∧ w'.cell? ⟨w.heap.size, 3, none⟩ = some (.slice g00 m00 k00) ∧ w'.cell? ⟨w.heap.size + 1, 0, none⟩ = some (.bool b01) ∧ w'.cell? ⟨w.heap.size + 1, 1, none⟩ = some (.slice a01 n01 c01) ∧ w'.cell? ⟨w.heap.size + 1, 2, none⟩ = some (.bool e01) ∧ w'.cell? ⟨w.heap.size + 1, 3, none⟩ = some (.slice g01 m01 k01) ∧ w'.cell? ⟨w4.heap.size, 0, none⟩ = some (.bool b4) ∧ w'.cell? ⟨w4.heap.size, 1, none⟩ = some (.slice A4 n4 c4) ∧ w'.cell? ⟨w4.heap.size, 2, none⟩ = some (.bool d4) ∧ w'.cell? ⟨w4.heap.size, 3, none⟩ = some (.slice B4 m4 k4)) (first | (refine ⟨?_, ?_, ?_, ?_, ?_, ?_, ?_, ?_, ?_, ?_, ?_, ?_⟩ <;> (first | with_reducible assumption | ((with_reducible refine Eq.trans (cell_drew _ _) ?_); with_reducible assumption) | ((rw [cell_far4 _ _ _ _ _ _ _ _ (by omega)]); with_reducible assumption) | ((repeat rw [cell_far2 _ _ _ _ _ _ (by omega)]); with_reducible assumption) | go_keep)) | trivial | go_keep)
      (first
        | (go_at_call 23; have _t := tok0; clear _t tok0; ((with_reducible refine Calls.mono (qadd_is Es.out (lq HQ.out (by first | exact x_5.out | exact x_5.out.drew_ | exact x_5.out.alloc_ _ | exact (x_5.out.alloc_ _).drew_)) (lq HP.out (by first | exact y_5.out | exact y_5.out.drew_ | exact y_5.out.alloc_ _ | exact (y_5.out.alloc_ _).drew_)) (by omega) (by omega) (by omega) (by omega)) ?_)); rintro e w6 ⟨v, rfl, h, hb⟩; have hk := h; obtain ⟨b6, A6, n6, c6, d6, B6, m6, k6, rfl, -, -, -, -, -⟩ := h.form; clear h; have hB := (show Below w5.heap.size w5 w6 from by first | exact hb | exact bundrew hb | exact bun hb | exact bundrew (bun hb) | exact bun (bundrew hb)); have x_6 := Lib.hid (x_5.out.below hB); have y_6 := Lib.hid (y_5.out.below hB); have two_6 := Lib.hid (two_5.out.below hB); have Ka_6 := Lib.hid (Ka_5.out.below hB); have Kb_6 := Lib.hid (Kb_5.out.below hB); have Kt_6 := Lib.hid (Kt_5.out.below hB); have s_6 := Lib.hid (hk); have HB_6 := Lib.hid (below_trans HB_5.out hB); have hs_6 : w.heap.size ≤ w6.heap.size := HB_6.out.size; have hz_6 : w5.heap.size + 0 ≤ w6.heap.size := (by have h := hb.size; (try simp at h); omega); (first | (have K7 := Lib.hid (K7.out.below hB)) | (have K7 := Lib.hid (Blk.below (Blk.new _ _ rfl _ _) hb)) | (have K7 := Lib.hid (Blk.below (Blk.new _ _ rfl _ _).drew_ hb)) | skip); (try (have hg7 := K7.out.lt)); clear hB hb x_5 y_5 two_5 Ka_5 Kb_5 Kt_5 HB_5 p30 p31 p32 p33 l3 p40 p41 p42 p43 l4 p50 p51 p52 p53 l5; obtain ⟨p60, p61, p62, p63, l6⟩ := Ka_6.out.use4; obtain ⟨p70, p71, p72, p73, l7⟩ := Kb_6.out.use4; obtain ⟨p80, p81, p82, p83, l8⟩ := Kt_6.out.use4)
        | (go_at_call 14; have _t := tok1; clear _t tok1; ((with_reducible refine Calls.mono (qdiv_is HD2.out (irqB Bs.out (by first | exact s_6.out | exact s_6.out.drew_ | exact s_6.out.alloc_ _ | exact (s_6.out.alloc_ _).drew_)) (irqB B2.out (by first | exact two_6.out | exact two_6.out.drew_ | exact two_6.out.alloc_ _ | exact (two_6.out.alloc_ _).drew_)) (by omega) (by omega) (by omega) (by omega)) ?_)); rintro e w7 ⟨v, rfl, h, hb⟩; rw [HM.out] at h; have hk := h; obtain ⟨b7, A7, n7, c7, d7, B7, m7, k7, rfl, -, -, -, -, -⟩ := h.form; clear h; have hB := (show Below w6.heap.size w6 w7 from by first | exact hb | exact bundrew hb | exact bun hb | exact bundrew (bun hb) | exact bun (bundrew hb)); have x_7 := Lib.hid (x_6.out.below hB); have y_7 := Lib.hid (y_6.out.below hB); have Ka_7 := Lib.hid (Ka_6.out.below hB); have Kb_7 := Lib.hid (Kb_6.out.below hB); have Kt_7 := Lib.hid (Kt_6.out.below hB); have mid_7 := Lib.hid (hk); have HB_7 := Lib.hid (below_trans HB_6.out hB); have hs_7 : w.heap.size ≤ w7.heap.size := HB_7.out.size; have hz_7 : w6.heap.size + 0 ≤ w7.heap.size := (by have h := hb.size; (try simp at h); omega); (first | (have K7 := Lib.hid (K7.out.below hB)) | (have K7 := Lib.hid (Blk.below (Blk.new _ _ rfl _ _) hb)) | (have K7 := Lib.hid (Blk.below (Blk.new _ _ rfl _ _).drew_ hb)) | skip); (try (have hg7 := K7.out.lt)); clear hB hb x_6 y_6 two_6 s_6 Ka_6 Kb_6 Kt_6 HB_6 p60 p61 p62 p63 l6 p70 p71 p72 p73 l7 p80 p81 p82 p83 l8; obtain ⟨p90, p91, p92, p93, l9⟩ := Ka_7.out.use4; obtain ⟨p100, p101, p102, p103, l10⟩ := Kb_7.out.use4; obtain ⟨p110, p111, p112, p113, l11⟩ := Kt_7.out.use4; (try (obtain ⟨q0, q1, q2, q3, q4⟩ := K7.out.use4; obtain ⟨q5, q6, q7, q8⟩ := K7.out.into4))))
    all_goals
      go_wp2_with fail
      go_meet
      unfold MCut
      first
      | (have hk7 := K7.out
         refine ⟨_, _, _, _, _, _, _, _, _, rfl, rfl, ?_, ?_, ?_, ?_, K7.out.own4', ?_, ?_, ?_⟩
         · omega
         · exact x_7.out.other4 hk7 nu nu nu nu
         · exact y_7.out.other4 hk7 nu nu nu nu
         · exact mid_7.out.other4 hk7 nu nu nu nu
         · exact Ka_7.out.far4 (by omega)
         · exact Kb_7.out.far4 (by omega)
         · exact bset (bset (bset (bset HB_7.out (by omega)) (by omega)) (by omega)) (by omega))
      | exact ⟨_, _, _, _, _, _, _, _, _, rfl, rfl, by omega, x_7.out.alloc_ _, y_7.out.alloc_ _, mid_7.out.alloc_ _, Blk.new _ _ rfl _ _, Ka_7.out.alloc_ _, Kb_7.out.alloc_ _, halloc HB_7.out⟩
  case rest =>
    obtain ⟨g5, b5, A5, n5, c5, d5, B5, m5, k5, rfl, rfl, hlt5, q1, q2, q3, q4, q5, q6, q7⟩ := hcut
    have x_7 := Lib.hid q1
    have y_7 := Lib.hid q2
    have mid_7 := Lib.hid q3
    have Kn_7 := Lib.hid q4
    have Ka_7 := Lib.hid q5
    have Kb_7 := Lib.hid q6
    have HB_7 := Lib.hid q7
    have hs_7 : w.heap.size ≤ wc.heap.size := q7.size
    clear q1 q2 q3 q4 q5 q6 q7
    try clear x_5 y_5 two_5 Ka_5 Kb_5 Kt_5 HB_5 hs_5 hz_5
    obtain ⟨p10, p11, p12, p13, l1⟩ := Ka_7.out.use4
    obtain ⟨p20, p21, p22, p23, l2⟩ := Kb_7.out.use4
    go_wp2_with fail
    refine Calls.mono (qcmp_is HC.out (lq HQ.out x_7.out) (lq HP.out y_7.out) (by omega) (by omega) (by omega) (by omega)) ?_
    rintro e w8 ⟨rfl, hb⟩
    have hB := hb
    have x_8 := Lib.hid (x_7.out.below hB)
    have y_8 := Lib.hid (y_7.out.below hB)
    have mid_8 := Lib.hid (mid_7.out.below hB)
    have Kn_8 := Lib.hid (Kn_7.out.below hB)
    have Ka_8 := Lib.hid (Ka_7.out.below hB)
    have Kb_8 := Lib.hid (Kb_7.out.below hB)
    have HB_8 := Lib.hid (below_trans HB_7.out hB)
    have hs_8 : w.heap.size ≤ w8.heap.size := HB_8.out.size
    have hz_8 : wc.heap.size + 0 ≤ w8.heap.size := (by have h := hb.size; (try simp at h); omega)
    clear hB hb x_7 y_7 mid_7 Kn_7 Ka_7 Kb_7 HB_7 p10 p11 p12 p13 l1 p20 p21 p22 p23 l2
    obtain ⟨p30, p31, p32, p33, l3⟩ := Ka_8.out.use4
    obtain ⟨p40, p41, p42, p43, l4⟩ := Kb_8.out.use4
    go_wp2_with fail
    refine Calls.mono (qdiv_is HD.out (lq HQ.out x_8.out) (lq HP.out y_8.out) (by omega) (by omega) (by omega) (by omega)) ?_
    rintro e w9 ⟨v, rfl, h, hb⟩
    rw [Eq.out] at h
    have hk := h
    obtain ⟨b9, A9, n9, c9, d9, B9, m9, k9, rfl, -, -, -, -, -⟩ := h.form
    clear h
    have hB := hb
    have x_9 := Lib.hid (x_8.out.below hB)
    have y_9 := Lib.hid (y_8.out.below hB)
    have mid_9 := Lib.hid (mid_8.out.below hB)
    have Kn_9 := Lib.hid (Kn_8.out.below hB)
    have Ka_9 := Lib.hid (Ka_8.out.below hB)
    have Kb_9 := Lib.hid (Kb_8.out.below hB)
    have q_9 := Lib.hid (hk)
    have HB_9 := Lib.hid (below_trans HB_8.out hB)
    have hs_9 : w.heap.size ≤ w9.heap.size := HB_9.out.size
    have hz_9 : w8.heap.size + 0 ≤ w9.heap.size := (by have h := hb.size; (try simp at h); omega)
    clear hB hb x_8 y_8 mid_8 Kn_8 Ka_8 Kb_8 HB_8 p30 p31 p32 p33 l3 p40 p41 p42 p43 l4
    go_wp2
    generalize hW : (w9.alloc (.cells #[.bool b9, .slice A9 n9 c9, .bool d9, .slice B9 m9 k9] 26)) = w10
    have x_10 := Lib.hid (hW ▸ (x_9.out.alloc_ _))
    have y_10 := Lib.hid (hW ▸ (y_9.out.alloc_ _))
    have mid_10 := Lib.hid (hW ▸ (mid_9.out.alloc_ _))
    have q_10 := Lib.hid (hW ▸ (q_9.out.alloc_ _))
    have Kn_10 := Lib.hid (show Blk w10 (g5) 26 #[.bool b5, .slice A5 n5 c5, .bool d5, .slice B5 m5 k5] from by rw [← hW]; exact (Kn_9.out.alloc_ _))
    have Ka_10 := Lib.hid (show Blk w10 (w.heap.size) 26 #[.bool b00, .slice a00 n00 c00, .bool e00, .slice g00 m00 k00] from by rw [← hW]; exact (Ka_9.out.alloc_ _))
    have Kb_10 := Lib.hid (show Blk w10 (w.heap.size + 1) 26 #[.bool b01, .slice a01 n01 c01, .bool e01, .slice g01 m01 k01] from by rw [← hW]; exact (Kb_9.out.alloc_ _))
    have Kq_10 := Lib.hid (show Blk w10 (w9.heap.size) 26 #[.bool b9, .slice A9 n9 c9, .bool d9, .slice B9 m9 k9] from by rw [← hW]; exact Blk.new _ _ (by simp) _ _)
    have HB_10 := Lib.hid (show Below w.heap.size w w10 from by rw [← hW]; exact halloc (HB_9.out))
    have hs_10 : w.heap.size ≤ w10.heap.size := HB_10.out.size
    have hz_10 : w9.heap.size + 1 ≤ w10.heap.size := by rw [← hW]; simp
    clear hW x_9 y_9 mid_9 q_9 Kn_9 Ka_9 Kb_9 HB_9
    obtain ⟨p50, p51, p52, p53, l5⟩ := Ka_10.out.use4
    obtain ⟨p60, p61, p62, p63, l6⟩ := Kb_10.out.use4
    obtain ⟨p70, p71, p72, p73, l7⟩ := Kn_10.out.use4
    have tok0 : True := trivial
    have tok1 : True := trivial
    have tok2 : True := trivial
    have tok3 : True := trivial
    have tok4 : True := trivial
    have tok5 : True := trivial
    go_region_held3 (fun w' => w'.cell? ⟨w.heap.size, 0, none⟩ = some (.bool b00) ∧ w'.cell? ⟨w.heap.size, 1, none⟩ = some (.slice a00 n00 c00) ∧ w'.cell? ⟨w.heap.size, 2, none⟩ = some (.bool e00) ∧ w'.cell? ⟨w.heap.size, 3, none⟩ = some (.slice g00 m00 k00) ∧ w'.cell? ⟨w.heap.size + 1, 0, none⟩ = some (.bool b01) ∧ w'.cell? ⟨w.heap.size + 1, 1, none⟩ = some (.slice a01 n01 c01) ∧ w'.cell? ⟨w.heap.size + 1, 2, none⟩ = some (.bool e01) ∧ w'.cell? ⟨w.heap.size + 1, 3, none⟩ = some (.slice g01 m01 k01) ∧ w'.cell? ⟨g5, 0, none⟩ = some (.bool b5) ∧ w'.cell? ⟨g5, 1, none⟩ = some (.slice A5 n5 c5) ∧ w'.cell? ⟨g5, 2, none⟩ = some (.bool d5) ∧ w'.cell? ⟨g5, 3, none⟩ = some (.slice B5 m5 k5)) (first | (refine ⟨?_, ?_, ?_, ?_, ?_, ?_, ?_, ?_, ?_, ?_, ?_, ?_⟩ <;> (first | with_reducible assumption | ((with_reducible refine Eq.trans (cell_drew _ _) ?_); with_reducible assumption) | ((rw [cell_far4 _ _ _ _ _ _ _ _ (by omega)]); with_reducible assumption) | ((repeat rw [cell_far2 _ _ _ _ _ _ (by omega)]); with_reducible assumption) | go_keep)) | trivial | go_keep)
      (first
        | (go_at_call 21; have _t := tok0; clear _t tok0; ((with_reducible refine Calls.mono (qcmp_is HC1.out (lq HQ.out (by first | exact x_10.out | exact x_10.out.drew_ | exact x_10.out.alloc_ _ | exact (x_10.out.alloc_ _).drew_)) (irqB Bm.out (by first | exact mid_10.out | exact mid_10.out.drew_ | exact mid_10.out.alloc_ _ | exact (mid_10.out.alloc_ _).drew_)) (by omega) (by omega) (by omega) (by omega)) ?_)); rintro e w11 ⟨rfl, hb⟩; have hB := (show Below w10.heap.size w10 w11 from by first | exact hb | exact bundrew hb | exact bun hb | exact bundrew (bun hb) | exact bun (bundrew hb)); have x_11 := Lib.hid (x_10.out.below hB); have y_11 := Lib.hid (y_10.out.below hB); have mid_11 := Lib.hid (mid_10.out.below hB); have q_11 := Lib.hid (q_10.out.below hB); have Kn_11 := Lib.hid (Kn_10.out.below hB); have Ka_11 := Lib.hid (Ka_10.out.below hB); have Kb_11 := Lib.hid (Kb_10.out.below hB); have Kq_11 := Lib.hid (Kq_10.out.below hB); have HB_11 := Lib.hid (below_trans HB_10.out hB); have hs_11 : w.heap.size ≤ w11.heap.size := HB_11.out.size; have hz_11 : w10.heap.size + 0 ≤ w11.heap.size := (by have h := hb.size; (try simp at h); omega); clear hB hb x_10 y_10 mid_10 q_10 Kn_10 Ka_10 Kb_10 Kq_10 HB_10 p50 p51 p52 p53 l5 p60 p61 p62 p63 l6 p70 p71 p72 p73 l7; obtain ⟨p80, p81, p82, p83, l8⟩ := Ka_11.out.use4; obtain ⟨p90, p91, p92, p93, l9⟩ := Kb_11.out.use4; obtain ⟨p100, p101, p102, p103, l10⟩ := Kn_11.out.use4)
        | (go_at_call 21; have _t := tok1; clear _t tok1; ((with_reducible refine Calls.mono (qcmp_is HC2.out (irqB Bm.out (by first | exact mid_11.out | exact mid_11.out.drew_ | exact mid_11.out.alloc_ _ | exact (mid_11.out.alloc_ _).drew_)) (lq HP.out (by first | exact y_11.out | exact y_11.out.drew_ | exact y_11.out.alloc_ _ | exact (y_11.out.alloc_ _).drew_)) (by omega) (by omega) (by omega) (by omega)) ?_)); rintro e w12 ⟨rfl, hb⟩; have hB := (show Below w11.heap.size w11 w12 from by first | exact hb | exact bundrew hb | exact bun hb | exact bundrew (bun hb) | exact bun (bundrew hb)); have x_12 := Lib.hid (x_11.out.below hB); have y_12 := Lib.hid (y_11.out.below hB); have q_12 := Lib.hid (q_11.out.below hB); have Kn_12 := Lib.hid (Kn_11.out.below hB); have Ka_12 := Lib.hid (Ka_11.out.below hB); have Kb_12 := Lib.hid (Kb_11.out.below hB); have Kq_12 := Lib.hid (Kq_11.out.below hB); have HB_12 := Lib.hid (below_trans HB_11.out hB); have hs_12 : w.heap.size ≤ w12.heap.size := HB_12.out.size; have hz_12 : w11.heap.size + 0 ≤ w12.heap.size := (by have h := hb.size; (try simp at h); omega); clear hB hb x_11 y_11 mid_11 q_11 Kn_11 Ka_11 Kb_11 Kq_11 HB_11 p80 p81 p82 p83 l8 p90 p91 p92 p93 l9 p100 p101 p102 p103 l10; obtain ⟨p110, p111, p112, p113, l11⟩ := Ka_12.out.use4; obtain ⟨p120, p121, p122, p123, l12⟩ := Kb_12.out.use4; obtain ⟨p130, p131, p132, p133, l13⟩ := Kn_12.out.use4)
        | (go_at_call 25; have _t := tok2; clear _t tok2; ((with_reducible refine Calls.mono (qsubB_is Eu.out (lq HQ.out (by first | exact x_12.out | exact x_12.out.drew_ | exact x_12.out.alloc_ _ | exact (x_12.out.alloc_ _).drew_)) (lq HP.out (by first | exact y_12.out | exact y_12.out.drew_ | exact y_12.out.alloc_ _ | exact (y_12.out.alloc_ _).drew_)) (by omega) (by omega) (by omega) (by omega)) ?_)); rintro e w13 ⟨v, rfl, h, hb⟩; have hk := h; obtain ⟨b13, A13, n13, c13, d13, B13, m13, k13, rfl, -, -, -, -, -⟩ := h.form; clear h; have hB := (show Below w12.heap.size w12 w13 from by first | exact hb | exact bundrew hb | exact bun hb | exact bundrew (bun hb) | exact bun (bundrew hb)); have x_13 := Lib.hid (x_12.out.below hB); have y_13 := Lib.hid (y_12.out.below hB); have q_13 := Lib.hid (q_12.out.below hB); have Kn_13 := Lib.hid (Kn_12.out.below hB); have Ka_13 := Lib.hid (Ka_12.out.below hB); have Kb_13 := Lib.hid (Kb_12.out.below hB); have Kq_13 := Lib.hid (Kq_12.out.below hB); have u_13 := Lib.hid (hk); have HB_13 := Lib.hid (below_trans HB_12.out hB); have hs_13 : w.heap.size ≤ w13.heap.size := HB_13.out.size; have hz_13 : w12.heap.size + 0 ≤ w13.heap.size := (by have h := hb.size; (try simp at h); omega); clear hB hb x_12 y_12 q_12 Kn_12 Ka_12 Kb_12 Kq_12 HB_12 p110 p111 p112 p113 l11 p120 p121 p122 p123 l12 p130 p131 p132 p133 l13; obtain ⟨p140, p141, p142, p143, l14⟩ := Ka_13.out.use4; obtain ⟨p150, p151, p152, p153, l15⟩ := Kb_13.out.use4; obtain ⟨p160, p161, p162, p163, l16⟩ := Kn_13.out.use4)
        | (go_at_call 23; have _t := tok3; clear _t tok3; ((with_reducible refine Calls.mono (qadd_is Eu'.out (irqB Bu.out (by first | exact u_13.out | exact u_13.out.drew_ | exact u_13.out.alloc_ _ | exact (u_13.out.alloc_ _).drew_)) (lq HP.out (by first | exact y_13.out | exact y_13.out.drew_ | exact y_13.out.alloc_ _ | exact (y_13.out.alloc_ _).drew_)) (by omega) (by omega) (by omega) (by omega)) ?_)); rintro e w14 ⟨v, rfl, h, hb⟩; have hk := h; obtain ⟨b14, A14, n14, c14, d14, B14, m14, k14, rfl, -, -, -, -, -⟩ := h.form; clear h; have hB := (show Below w13.heap.size w13 w14 from by first | exact hb | exact bundrew hb | exact bun hb | exact bundrew (bun hb) | exact bun (bundrew hb)); have x_14 := Lib.hid (x_13.out.below hB); have y_14 := Lib.hid (y_13.out.below hB); have q_14 := Lib.hid (q_13.out.below hB); have Kn_14 := Lib.hid (Kn_13.out.below hB); have Ka_14 := Lib.hid (Ka_13.out.below hB); have Kb_14 := Lib.hid (Kb_13.out.below hB); have Kq_14 := Lib.hid (Kq_13.out.below hB); have v_14 := Lib.hid (hk); have HB_14 := Lib.hid (below_trans HB_13.out hB); have hs_14 : w.heap.size ≤ w14.heap.size := HB_14.out.size; have hz_14 : w13.heap.size + 0 ≤ w14.heap.size := (by have h := hb.size; (try simp at h); omega); clear hB hb x_13 y_13 q_13 u_13 Kn_13 Ka_13 Kb_13 Kq_13 HB_13 p140 p141 p142 p143 l14 p150 p151 p152 p153 l15 p160 p161 p162 p163 l16; obtain ⟨p170, p171, p172, p173, l17⟩ := Ka_14.out.use4; obtain ⟨p180, p181, p182, p183, l18⟩ := Kb_14.out.use4; obtain ⟨p190, p191, p192, p193, l19⟩ := Kn_14.out.use4)
        | (go_at_call 20; have _t := tok4; clear _t tok4; ((with_reducible refine Calls.mono (r_plain (lq HQ.out (by first | exact x_14.out | exact x_14.out.drew_ | exact x_14.out.alloc_ _ | exact (x_14.out.alloc_ _).drew_)) (by omega)) ?_)); rintro e w15 ⟨v, rfl, h, hb⟩; have hk := h; obtain ⟨b15, A15, n15, c15, d15, B15, m15, k15, rfl, -, -, -, -, -⟩ := h.form; clear h; have hB := (show Below w14.heap.size w14 w15 from by first | exact hb | exact bundrew hb | exact bun hb | exact bundrew (bun hb) | exact bun (bundrew hb)); have x_15 := Lib.hid (x_14.out.below hB); have y_15 := Lib.hid (y_14.out.below hB); have q_15 := Lib.hid (q_14.out.below hB); have v_15 := Lib.hid (v_14.out.below hB); have Kn_15 := Lib.hid (Kn_14.out.below hB); have Ka_15 := Lib.hid (Ka_14.out.below hB); have Kb_15 := Lib.hid (Kb_14.out.below hB); have Kq_15 := Lib.hid (Kq_14.out.below hB); have v2_15 := Lib.hid (hk); have HB_15 := Lib.hid (below_trans HB_14.out hB); have hs_15 : w.heap.size ≤ w15.heap.size := HB_15.out.size; have hz_15 : w14.heap.size + 0 ≤ w15.heap.size := (by have h := hb.size; (try simp at h); omega); clear hB hb x_14 y_14 q_14 v_14 Kn_14 Ka_14 Kb_14 Kq_14 HB_14 p170 p171 p172 p173 l17 p180 p181 p182 p183 l18 p190 p191 p192 p193 l19; obtain ⟨p200, p201, p202, p203, l20⟩ := Ka_15.out.use4; obtain ⟨p210, p211, p212, p213, l21⟩ := Kb_15.out.use4; obtain ⟨p220, p221, p222, p223, l22⟩ := Kn_15.out.use4)
        | (go_at_call 18; have _t := tok5; clear _t tok5; ((with_reducible refine Calls.mono (rat_same (by first | exact v_15.out | exact v_15.out.drew_ | exact v_15.out.alloc_ _ | exact (v_15.out.alloc_ _).drew_) (by first | exact v2_15.out | exact v2_15.out.drew_ | exact v2_15.out.alloc_ _ | exact (v2_15.out.alloc_ _).drew_) BX.out (by omega)) ?_)); rintro e w16 ⟨rfl, hb⟩; have hB := (show Below w15.heap.size w15 w16 from by first | exact hb | exact bundrew hb | exact bun hb | exact bundrew (bun hb) | exact bun (bundrew hb)); have x_16 := Lib.hid (x_15.out.below hB); have y_16 := Lib.hid (y_15.out.below hB); have q_16 := Lib.hid (q_15.out.below hB); have Kn_16 := Lib.hid (Kn_15.out.below hB); have Ka_16 := Lib.hid (Ka_15.out.below hB); have Kb_16 := Lib.hid (Kb_15.out.below hB); have Kq_16 := Lib.hid (Kq_15.out.below hB); have HB_16 := Lib.hid (below_trans HB_15.out hB); have hs_16 : w.heap.size ≤ w16.heap.size := HB_16.out.size; have hz_16 : w15.heap.size + 0 ≤ w16.heap.size := (by have h := hb.size; (try simp at h); omega); clear hB hb x_15 y_15 q_15 v_15 v2_15 Kn_15 Ka_15 Kb_15 Kq_15 HB_15 p200 p201 p202 p203 l20 p210 p211 p212 p213 l21 p220 p221 p222 p223 l22; obtain ⟨p230, p231, p232, p233, l23⟩ := Ka_16.out.use4; obtain ⟨p240, p241, p242, p243, l24⟩ := Kb_16.out.use4; obtain ⟨p250, p251, p252, p253, l25⟩ := Kn_16.out.use4))
    go_wp2
    go_region
    go_wp2
    go_ret
    exact ⟨by simp, HB_16.out.drew⟩

theorem between_any (b00 : Bool) (a00 : Option Addr) (n00 c00 : Nat) (e00 : Bool) (g00 : Option Addr) (m00 k00 : Nat) (b01 : Bool) (a01 : Option Addr) (n01 c01 : Nat) (e01 : Bool) (g01 : Option Addr) (m01 k01 : Nat) (w : World) (w0 : n00 ≤ 4 → m00 ≤ 4 → ∃ q, LimQ 4 w ((.agg #[.bool b00, .slice a00 n00 c00, .bool e00, .slice g00 m00 k00])) q) (w1 : n01 ≤ 4 → m01 ≤ 4 → ∃ q, LimQ 4 w ((.agg #[.bool b01, .slice a01 n01 c01, .bool e01, .slice g01 m01 k01])) q) :
    Calls Tryz.prog 7 #[(.agg #[.bool b00, .slice a00 n00 c00, .bool e00, .slice g00 m00 k00]), (.agg #[.bool b01, .slice a01 n01 c01, .bool e01, .slice g01 m01 k01])] w fun e w' => e = .returned (.bool true) ∧ Below w.heap.size w w' := by
  cases h0 : (decide (n00 ≤ 4) && decide (m00 ≤ 4))
  · exact between_no0 b00 a00 n00 c00 e00 g00 m00 k00 b01 a01 n01 c01 e01 g01 m01 k01 w h0
  · cases h1 : (decide (n01 ≤ 4) && decide (m01 ≤ 4))
    · exact between_no1 b00 a00 n00 c00 e00 g00 m00 k00 b01 a01 n01 c01 e01 g01 m01 k01 w h0 h1
    · have e0 := h0
      have e1 := h1
      rw [Bool.and_eq_true, decide_eq_true_eq, decide_eq_true_eq] at e0 e1
      obtain ⟨q, X, Y, hx, -⟩ := w0 e0.1 e0.2
      obtain ⟨p, X', Y', hy, -⟩ := w1 e1.1 e1.2
      cases hd : decide (ratOf X' Y' ≠ 0)
      · exact between_yes0 b00 a00 n00 c00 e00 g00 m00 k00 b01 a01 n01 c01 e01 g01 m01 k01 w X Y X' Y' hx hy h0 h1 hd
      · exact between_yes1 b00 a00 n00 c00 e00 g00 m00 k00 b01 a01 n01 c01 e01 g01 m01 k01 w X Y X' Y' hx hy h0 h1 hd
end Go.Proofs.YtglcififcldchaaGreatDoor
